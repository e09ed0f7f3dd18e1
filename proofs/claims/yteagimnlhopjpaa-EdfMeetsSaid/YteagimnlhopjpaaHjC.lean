/- A heap of jobs in memory: contracts of put, take and change. (HpC of jobs.) -/
import Derived.Test.YteagimnlhopjpaaHjB
import Derived.Lib.AppendZeros
import Derived.Test.YteagimnlhopjpaaGnH
namespace Go.Proofs.Yteagimnlhopjpaa.Hj
open Go.ChangeShapes Go.WideShapes Go.ChangeAt Go.RowKit Go.Joins
open Hp (Wk An Srt le ins sort Down settleR liftR Anc upR Ups anc_le anc_par ups_start ups_zero ups_done ups_step lift_step lift_done settle_len settle_take hp_take hp_nil)
open Ed (Jo wk Own own_an)
set_option maxRecDepth 100000
set_option maxRecDepth 100000
set_option linter.unusedVariables false
set_option linter.unusedSimpArgs false
/-- a heap in block b, whose jobs are v -/
structure Ht (LB : Nat) (w : World) (b : Nat) (v : Value) (l : List Jo) : Prop where
  head : w.heap[b]? = some (.cells #[.func (.func 42) #[] #[], v] 77 (0, 0))
  row : NRow LB w v l
  lb : LB ≤ b
section
variable {LB b : Nat} {v : Value} {l : List Jo} {w w' : World}
theorem Ht.lt (h : Ht LB w b v l) : b < w.heap.size := lt_of_heap h.head
theorem Ht.c0 (h : Ht LB w b v l) : w.cell? ⟨b, 0, none⟩ = some (.func (.func 42) #[] #[]) := by rw [Lib.cell_of_heap h.head]; rfl
theorem Ht.c1 (h : Ht LB w b v l) : w.cell? ⟨b, 1, none⟩ = some v := by rw [Lib.cell_of_heap h.head]; rfl
theorem Ht.f1 (h : Ht LB w b v l) : w.frozen? ⟨b, 1, none⟩ = false := Lib.frozen_of_heap h.head 1
theorem Ht.apart (h : Ht LB w b v l) : v.ownBlock ≠ some b := h.row.apart h.head (by decide)
theorem Ht.of_blocks (h : Ht LB w b v l) (hb : w'.heap[b]? = w.heap[b]?) (hr : ∀ k, v.ownBlock = some k → w'.heap[k]? = w.heap[k]?) : Ht LB w' b v l := ⟨hb.trans h.head, h.row.of_blocks hr, h.lb⟩
theorem Ht.call (h : Ht LB w b v l) (hb : Below w.heap.size w w') : Ht LB w' b v l := h.of_blocks (hb.block b h.lt) (fun k hk => hb.block k (h.row.lt k hk).2)
theorem Ht.qt (h : Ht LB w b v l) (q : Qt w w') : Ht LB w' b v l := h.call (q.below _)
/-- another row in its place -/
theorem head_set {u v' : Value} {b : Nat} {w : World} (h : w.heap[b]? = some (.cells #[u, v] 77 (0, 0))) : (w.setCell ⟨b, 1, none⟩ v').heap[b]? = some (.cells #[u, v'] 77 (0, 0)) := by
  simp [World.setCell, Array.getElem?_modify, h]
/-- the row was turned, then laid there -/
theorem Ht.laid {m : List Jo} {v' : Value} (hd : w.heap[b]? = some (.cells #[.func (.func 42) #[] #[], v] 77 (0, 0))) (hr : NRow LB w v' m) (hl : LB ≤ b) : Ht LB (w.setCell ⟨b, 1, none⟩ v') b v' m := by
  have ha := hr.apart hd (by decide)
  exact ⟨head_set hd, hr.of_blocks fun k hk => Below.heap_setCell _ _ _ _ (show k ≠ b by rintro rfl; exact ha hk), hl⟩
end
/-- only the row's block has turned, which was there, or is new -/
theorem Mv.row1 {b g : Nat} {r : Option Nat} {u v w : World} (h : Mv b r u v) (k : Mv g none v w) (hg : r = some g ∨ u.heap.size ≤ g) : Mv b r u w :=
  ⟨k.os.trans h.os, k.tape.trans h.tape, k.output.trans h.output, Nat.le_trans h.size k.size, fun i hi hb hn => (k.block i (Nat.lt_of_lt_of_le hi h.size) (by rintro rfl; rcases hg with e | e; exact hn e; omega) (by simp)).trans (h.block i hi hb hn)⟩
theorem Mv.cellB {b g o : Nat} {w w' : World} {v : Value} (m : Mv g none w w') (hg : b ≠ g) (h : w.cell? ⟨b, o, none⟩ = some v) : w'.cell? ⟨b, o, none⟩ = some v :=
  (World.cell?_of_block (w := w) (a := ⟨b, o, none⟩) (m.block b (World.block_lt_of_cell? _ _ h) hg (by simp))).trans h
theorem Bx.mv {g X : Nat} {w w' : World} {x : Jo} (h : Bx w X x) (m : Mv g none w w') (hg : X ≠ g) : Bx w' X x := h.of_block (m.block X (lt_of_heap h) hg (by simp))
/-- x on its way up; W: x was laid -/
def UpRel (l : List Jo) (x : Jo) (W : World) (m : Nat) (s5 : Value) (wx : World) : Prop := s5 = .int .i64 (m : Int) ∧ Ups Ed.ahead l x m ∧ Below W.heap.size W wx
/-- those above one place down each -/
def LiRel (B g cap : Nat) (M : List Jo) (k n : Nat) (w : World) (m : Nat) (s6 : Value) (wx : World) : Prop :=
  ∃ cur : List Jo, s6 = .int .i64 (m : Int) ∧ liftR cur m k = M ∧ Anc k m ∧ cur.length = n ∧ m < n ∧ NRow B wx (.slice (some ⟨g, 0, none⟩) n cap) cur ∧ Mv g none w wx
/-- what put leaves -/
def PutTo (LB b : Nat) (v : Value) (l : List Jo) (x : Jo) (w w' : World) : Prop :=
  ∃ v' m, Ht LB w' b v' m ∧ Hp.Hp Ed.ahead m ∧ m.Perm (l ++ [x]) ∧ Mv b v.ownBlock w w' ∧ (v'.ownBlock = v.ownBlock ∨ ∃ k, v'.ownBlock = some k ∧ w.heap.size ≤ k)
set_option maxHeartbeats 8000000 in
theorem put_in (LB b : Nat) (v : Value) (l : List Jo) (x : Jo) (w : World) (h : Ht LB w b v l) (hp : Hp.Hp Ed.ahead l) (hl : l.length ≤ 900000) (hB : LB ≤ w.heap.size) :
    Calls Try.prog 44 #[.pointer (some ⟨b, 0, none⟩), .agg #[.int .i64 x.id, .int .i64 x.rel, .int .i64 x.dl, .int .i64 x.le]] w fun e w' => e = .returned (.tuple #[]) ∧ PutTo LB b v l x w w' := by
  have b0 : Below w.heap.size w (w.alloc (.cells #[.int .i64 x.id, .int .i64 x.rel, .int .i64 x.dl, .int .i64 x.le] 31)) := (Below.refl _ w).alloc (Nat.le_refl _) _
  have H := Lib.hid (h.call b0)
  have X0 := Lib.hid (bx_new w x)
  have M0 := Lib.hid (Mv.of_below (b := b) (r := v.ownBlock) b0)
  have hXw : w.heap.size < (w.alloc (.cells #[.int .i64 x.id, .int .i64 x.rel, .int .i64 x.dl, .int .i64 x.le] 31)).heap.size := by simp
  have OB := Lib.hid (fun k hk => (h.row.lt k hk).2)
  have HP := Lib.hid hp
  have LS := Lib.hid less_any
  have PA := Lib.hid parent_any
  have c1 := H.out.c1
  obtain ⟨ao, cap, rfl, -, hns⟩ := H.out.row.form
  have NS := Lib.hid hns
  have BB := Lib.hid hB
  have hbw := h.lt
  clear hns hp h hB b0
  go_enter Try.func44, Try.ntmps44
  go_wp2_with fail
  generalize w.alloc (.cells #[.int .i64 x.id, .int .i64 x.rel, .int .i64 x.dl, .int .i64 x.le] 31) = W0 at *
  generalize hX : w.heap.size = X at *
  have HX := Lib.hid hX
  clear hX
  go_loopg [5] l.length (UpRel l x W0)
  case atStart => exact ⟨rfl, ups_start x HP.out, Below.refl _ _⟩
  case round =>
    obtain ⟨rfl, hu, hq⟩ := hrel
    have hle := anc_le hu.anc
    obtain ⟨bv, hbt, hbf⟩ : ∃ bv : Bool, (bv = true → 0 < gk ∧ ∃ y, l[(gk - 1) / 2]? = some y ∧ Ed.ahead x y = true) ∧ (bv = false → Hp.Hp Ed.ahead (upR l x gk) ∧ (gk = 0 ∨ ∃ y, l[(gk - 1) / 2]? = some y ∧ Ed.ahead x y = false)) := by
      rcases Nat.eq_zero_or_pos gk with h0 | h0
      · subst h0; exact ⟨false, fun h => (by cases h), fun _ => ⟨ups_zero hu, .inl rfl⟩⟩
      · have hy := List.getElem?_eq_getElem (show (gk - 1) / 2 < l.length by omega)
        cases hb : Ed.ahead x l[(gk - 1) / 2] with
        | true => exact ⟨true, fun _ => ⟨h0, _, hy, hb⟩, fun h => (by cases h)⟩
        | false => exact ⟨false, fun h => (by cases h), fun _ => ⟨ups_done hu h0 hy hb, .inr ⟨_, hy, hb⟩⟩⟩
    have HTT := Lib.hid hbt
    have HF := Lib.hid hbf
    have HU := Lib.hid hu
    have Q := Lib.hid hq
    have hkw : IntKind.i64.wrap (gk : Int) = (gk : Int) := IntWalk.i64_in _ (by omega)
    clear hbt hbf hu hq
    go_upto_region 3 with (fail)
    go_cut [27] (fun s wx => s = .bool bv ∧ Below W0.heap.size W0 wx)
    case first =>
      rcases Nat.eq_zero_or_pos gk with h0 | h0
      · have hb : bv = false := by
          cases hbb : bv with
          | false => rfl
          | true => have := (HTT.out hbb).1; omega
        subst hb
        subst h0
        clear HTT HF HU NS HP H
        have hg : decide ((0 : Int) < ((0 : Nat) : Int)) = false := rfl
        go_quiet (fail)
        go_wp2
        go_meet
        exact ⟨rfl, Below.drewN' Q.out _⟩
      · have hpl : (gk - 1) / 2 < l.length := by omega
        have hy := List.getElem?_eq_getElem hpl
        obtain ⟨k, off, rfl, -, hat⟩ := NS.out.at (by omega)
        have cy := hat _ _ hy
        have hb : Ed.ahead x l[(gk - 1) / 2] = bv := by
          cases hbb : bv with
          | false =>
            rcases (HF.out hbb).2 with h | ⟨y, h1, h2⟩
            · omega
            · rw [hy] at h1; cases h1; exact h2
          | true =>
            obtain ⟨-, y, h1, h2⟩ := HTT.out hbb
            rw [hy] at h1; cases h1; exact h2
        have P1 := Lib.hid (PA.out gk h0 (by omega))
        have LC := Lib.hid (LS.out x l[(gk - 1) / 2])
        rw [hb] at LC
        have hg : decide ((0 : Int) < (gk : Int)) = true := decide_eq_true (by omega)
        have hgn : decide (0 < gk) = true := decide_eq_true h0
        have hpi : (((gk - 1) / 2 : Nat) : Int) < (l.length : Int) := by omega
        have hpw : IntKind.i64.wrap (((gk - 1) / 2 : Nat) : Int) = (((gk - 1) / 2 : Nat) : Int) := IntWalk.i64_in _ (by omega)
        have QD := Lib.hid (Below.drew' Q.out)
        generalize l[(gk - 1) / 2] = y at *
        generalize (gk - 1) / 2 = pk at *
        obtain ⟨p0, p1, p2, p3⟩ := cy.of_block (QD.out.block _ cy.lt)
        obtain ⟨q0, q1, q2, q3⟩ := X0.out.at.of_block (QD.out.block _ X0.out.at.lt)
        have cS : wr.drew.cell? ⟨b, 0, none⟩ = some (.func (.func 42) #[] #[]) ∧ wr.drew.cell? ⟨X, 0, none⟩ = some (.int .i64 x.id) ∧ wr.drew.cell? ⟨X, 1, none⟩ = some (.int .i64 x.rel) ∧ wr.drew.cell? ⟨X, 2, none⟩ = some (.int .i64 x.dl) ∧ wr.drew.cell? ⟨X, 3, none⟩ = some (.int .i64 x.le) ∧ wr.drew.cell? ⟨k, off + pk * 4, none⟩ = some (.int .i64 y.id) ∧ wr.drew.cell? ⟨k, off + pk * 4 + 1, none⟩ = some (.int .i64 y.rel) ∧ wr.drew.cell? ⟨k, off + pk * 4 + 2, none⟩ = some (.int .i64 y.dl) ∧ wr.drew.cell? ⟨k, off + pk * 4 + 3, none⟩ = some (.int .i64 y.le) := ⟨(QD.out.cell (World.block_lt_of_cell? _ _ H.out.c0)).trans H.out.c0, q0, q1, q2, q3, p0, p1, p2, p3⟩
        clear HTT HF HU NS HP H hat hy hb hpl p0 p1 p2 p3 q0 q1 q2 q3 cy c1
        have h0i : (0 : Int) < (gk : Int) := by omega
        refine wp_region_held_drew (S := (fun W' => W'.cell? ⟨b, 0, none⟩ = some (.func (.func 42) #[] #[]) ∧ W'.cell? ⟨X, 0, none⟩ = some (.int .i64 x.id) ∧ W'.cell? ⟨X, 1, none⟩ = some (.int .i64 x.rel) ∧ W'.cell? ⟨X, 2, none⟩ = some (.int .i64 x.dl) ∧ W'.cell? ⟨X, 3, none⟩ = some (.int .i64 x.le) ∧ W'.cell? ⟨k, off + pk * 4, none⟩ = some (.int .i64 y.id) ∧ W'.cell? ⟨k, off + pk * 4 + 1, none⟩ = some (.int .i64 y.rel) ∧ W'.cell? ⟨k, off + pk * 4 + 2, none⟩ = some (.int .i64 y.dl) ∧ W'.cell? ⟨k, off + pk * 4 + 3, none⟩ = some (.int .i64 y.le))) (by kernel_rfl) (cS) (fun hHeld => ?_)
        refine Gh.tk 0 ?_
        refine Gh.tk 1 ?_
        refine Gh.tk 2 ?_
        refine Gh.tk 3 ?_
        refine Gh.tk 4 ?_
        refine Gh.tk 5 ?_
        refine Gh.tk 6 ?_
        refine Gh.tk 7 ?_
        refine Gh.tk 8 ?_
        refine Gh.tk 9 ?_
        refine Gh.rd 10 (fun K hK => ?_)
        go_simp
        (with_reducible refine (P1.out _).mono ?_)
        rintro e _ ⟨rfl, rfl⟩
        go_simp
        refine hK.out _ _ (cS) (fun hHeld => ?_)
        clear hK K
        refine Gh.pt ?_
        refine Gh.tk 11 ?_
        refine Gh.tk 12 ?_
        refine Gh.rd 13 (fun K hK => ?_)
        go_simp
        (with_reducible refine (LC.out _).mono ?_)
        rintro e w5 ⟨rfl, b5⟩
        have Q6 := Lib.hid (QD.out.trans (b5.mono QD.out.size))
        have cS5 := And.intro (carry b5 cS.1) (And.intro (carry b5 cS.2.1) (And.intro (carry b5 cS.2.2.1) (And.intro (carry b5 cS.2.2.2.1) (And.intro (carry b5 cS.2.2.2.2.1) (And.intro (carry b5 cS.2.2.2.2.2.1) (And.intro (carry b5 cS.2.2.2.2.2.2.1) (And.intro (carry b5 cS.2.2.2.2.2.2.2.1) (carry b5 cS.2.2.2.2.2.2.2.2))))))))
        clear b5 QD cS LC
        go_simp
        refine hK.out _ _ (cS5) (fun hHeld => ?_)
        clear hK K
        refine Gh.pt ?_
        refine Gh.tk 14 ?_
        refine wpAnyH_done (by kernel_rfl) ?_ _
        clear hHeld
        clear hHeld
        clear hHeld
        go_wp2
        go_meet
        exact ⟨rfl, Q6.out⟩
    case rest =>
      obtain ⟨rfl, hq⟩ := hcut
      have Q2 := Lib.hid hq
      clear hq
      cases bv with
      | true =>
        obtain ⟨h0, y, hy, hlt⟩ := HTT.out rfl
        have UP := Lib.hid (ups_step wk HU.out h0 hy hlt)
        have P1 := Lib.hid (PA.out gk h0 (by omega))
        clear HTT HF HU hy hlt LS PA
        have hk : (gk - 1) / 2 < gk := by omega
        generalize (gk - 1) / 2 = pk at *
        go_wp2_with fail
        (with_reducible refine (P1.out _).mono ?_)
        rintro e w1 ⟨rfl, rfl⟩
        go_wp2
        go_roundg pk
        case measure => omega
        case rel => exact ⟨rfl, UP.out, Q2.out⟩
      | false =>
        have hpf := (HF.out rfl).1
        have W1 := Lib.hid (H.out.call Q2.out)
        have hBw : LB ≤ wc.heap.size := by have := Q2.out.size; have := BB.out; omega
        have BX := Lib.hid (X0.out.call Q2.out)
        obtain ⟨x0, x1, x2, x3⟩ := BX.out.at
        obtain ⟨g, cp, w2, hap, hrow, hb2, hk2, hs2, hnew⟩ := nrow_append LB wc _ l x W1.out.row hBw (by omega)
        have hgb : g ≠ b := by
          rintro rfl
          rcases hnew with e | e
          · exact W1.out.apart e
          · have := W1.out.lt; omega
        have hXo : (Value.slice ao l.length cap).ownBlock ≠ some X := fun e => by have := OB.out X e; omega
        have hXg : X ≠ g := by
          rintro rfl
          rcases hnew with e | e
          · exact hXo e
          · have := lt_of_heap BX.out; omega
        have BX2 := Lib.hid (BX.out.of_block (hk2 X (lt_of_heap BX.out) hXo))
        have MV : Hid (Mv b (Value.slice ao l.length cap).ownBlock w w2) := Lib.hid ((M0.out.trans (Mv.of_below (b := b) (r := none) Q2.out) (fun j e => by cases e)).trans ⟨hb2.os, hb2.tape, hb2.output, hs2, fun k hk hb hn => hk2 k hk hn⟩ (fun j e => .inl e))
        have HD : Hid (w2.heap[b]? = some (.cells #[.func (.func 42) #[] #[], .slice ao l.length cap] 77 (0, 0))) := Lib.hid ((hk2 b W1.out.lt W1.out.apart).trans W1.out.head)
        have NEW : Hid ((Value.slice ao l.length cap).ownBlock = some g ∨ w.heap.size ≤ g) := Lib.hid (by
          have := Q2.out.size
          have := HX.out
          rcases hnew with e | e
          · exact .inl e
          · exact .inr (by omega))
        have PF := Lib.hid hpf
        have LB' := Lib.hid W1.out.lb
        have AN := Lib.hid HU.out.anc
        have PM := Lib.hid HU.out.perm
        have HR := Lib.hid hrow
        have c1c := W1.out.c1
        obtain ⟨R, hR⟩ : ∃ R, R = l.length + 1 := ⟨_, rfl⟩
        have hR1 : IntKind.i64.wrap ((R : Int) - 1) = (l.length : Int) := by rw [IntWalk.i64_in _ (by omega)]; omega
        have LL : Hid ((l ++ [x]).length = R) := Lib.hid (by rw [List.length_append, hR]; rfl)
        have hRl : R ≤ 900001 := by omega
        have HRR := Lib.hid hR
        rw [← hR] at hap hrow HR
        clear HTT HF HU HP H W1 hb2 hk2 hs2 hnew hpf hR hrow NS Q2 Q hBw BB c1 BX X0 M0 OB HX hXw hbw
        generalize gk = k0 at *
        go_wp2_with (at_builtin; refine Lib.wpList_append_run _ rfl _ _ _ _ rfl _ _ rfl rfl _ _ hap ?_)
        clear x0 x1 x2 x3 c1c
        go_loopg [6] l.length (LiRel LB g cp (liftR (l ++ [x]) l.length k0) k0 R w2)
        case atStart => exact ⟨l ++ [x], rfl, rfl, AN.out, LL.out, by have := HRR.out; omega, HR.out, Mv.refl _ _ _⟩
        case round =>
          obtain ⟨cur, rfl, hM, ha, hcl, hmn, hr, hmv⟩ := hrel
          have hka := anc_le ha
          by_cases hlt : k0 < gk
          · have hpl : (gk - 1) / 2 < cur.length := by omega
            have hy := List.getElem?_eq_getElem hpl
            have hgc : gk < cur.length := by omega
            have NX : Hid (liftR (cur.set gk cur[(gk - 1) / 2]) ((gk - 1) / 2) k0 = liftR (l ++ [x]) l.length k0) := Lib.hid ((lift_step hlt hy).symm.trans hM)
            have AN2 : Hid (Anc k0 ((gk - 1) / 2)) := Lib.hid (by rcases anc_par ha with e | ⟨-, h⟩; omega; exact h)
            obtain ⟨y0, y1, y2, y3⟩ := hr.at hy
            have f0 := hr.free (gk * 4)
            have f1 := hr.free (gk * 4 + 1)
            have f2 := hr.free (gk * 4 + 2)
            have f3 := hr.free (gk * 4 + 3)
            have N := Lib.hid (hr.set gk hgc cur[(gk - 1) / 2])
            have M := Lib.hid (hmv.set4 (g := g) (o := gk * 4) cur[(gk - 1) / 2] (.inl rfl))
            have CL : Hid ((cur.set gk cur[(gk - 1) / 2]).length = R) := Lib.hid (by rw [List.length_set]; exact hcl)
            obtain ⟨z0, z1, z2, z3⟩ := hr.at (List.getElem?_eq_getElem hgc)
            have hgl := World.block_lt_of_cell? _ _ z0
            generalize cur[gk] = zg at *
            have P1 := Lib.hid (PA.out gk (by omega) (by omega))
            generalize cur[(gk - 1) / 2] = y at *
            have hp2 : (gk - 1) / 2 < gk := by omega
            have hmi : (gk : Int) < (R : Int) := by omega
            have hki : (k0 : Int) < (gk : Int) := by omega
            have hmw : IntKind.i64.wrap (gk : Int) = (gk : Int) := IntWalk.i64_in _ (by omega)
            have hpi : (((gk - 1) / 2 : Nat) : Int) < (R : Int) := by omega
            have hpw : IntKind.i64.wrap (((gk - 1) / 2 : Nat) : Int) = (((gk - 1) / 2 : Nat) : Int) := IntWalk.i64_in _ (by omega)
            clear hM ha hr hmv hy hpl hcl hgc PF AN PM HR LS PA
            generalize (gk - 1) / 2 = pk at *
            go_wp2_with fail
            (with_reducible refine (P1.out _).mono ?_)
            rintro e w3 ⟨rfl, rfl⟩
            go_wp2_with fail
            (with_reducible refine (P1.out _).mono ?_)
            rintro e w4 ⟨rfl, rfl⟩
            go_wp2
            go_roundg pk
            case measure => omega
            case rel => exact ⟨_, rfl, NX.out, AN2.out, CL.out, by omega, N.out, M.out⟩
          · have e0 : gk = k0 := by omega
            subst e0
            have hgc : gk < cur.length := by omega
            have eM : cur = liftR (l ++ [x]) l.length gk := by rw [← hM, lift_done (Nat.le_refl _)]
            obtain ⟨c0, c1, c2, c3⟩ := hr.at (List.getElem?_eq_getElem hgc)
            have f0 := hr.free (gk * 4)
            have f1 := hr.free (gk * 4 + 1)
            have f2 := hr.free (gk * 4 + 2)
            have f3 := hr.free (gk * 4 + 3)
            obtain ⟨x0, x1, x2, x3⟩ := (BX2.out.mv hmv hXg).at
            have N := hr.set gk hgc x
            have M := hmv.set4 (g := g) (o := gk * 4) x (.inl rfl)
            have hd2 : (put4 wr g (gk * 4) x).heap[b]? = some (.cells #[.func (.func 42) #[] #[], .slice ao l.length cap] 77 (0, 0)) := (M.block b (lt_of_heap HD.out) (Ne.symm hgb) (by simp)).trans HD.out
            have d1 := (Lib.cell_of_heap hd2 1).trans rfl
            have e1 := Lib.frozen_of_heap hd2 1
            have hgl := World.block_lt_of_cell? _ _ c0
            have F : Hid (PutTo LB b (.slice ao l.length cap) l x w ((put4 wr g (gk * 4) x).setCell ⟨b, 1, none⟩ (.slice (some ⟨g, 0, none⟩) R cp))) := Lib.hid (by
              have eU : cur.set gk x = upR l x gk := by unfold upR; rw [← eM]
              refine ⟨.slice (some ⟨g, 0, none⟩) R cp, upR l x gk, Ht.laid hd2 (by rw [← eU]; exact N) LB'.out, PF.out, PM.out, (MV.out.row1 M NEW.out).set _ (.inl rfl), ?_⟩
              rcases NEW.out with e | e
              · exact .inl e.symm
              · exact .inr ⟨g, rfl, e⟩)
            have hmi : (gk : Int) < (R : Int) := by omega
            have hmw : IntKind.i64.wrap (gk : Int) = (gk : Int) := IntWalk.i64_in _ (by omega)
            unfold put4 at d1 e1 F
            generalize cur[gk] = z at *
            clear hM ha hr hmv hcl PF AN PM HR LS PA MV HD NEW N M hd2 eM hgc
            go_wp2
            go_end0
            exact ⟨rfl, F.out⟩
/-- what take leaves -/
def TakeTo (LB b : Nat) (v : Value) (l : List Jo) (w w' : World) : Prop :=
  ∃ v' a m, Ht LB w' b v' m ∧ Hp.Hp Ed.ahead m ∧ l[0]? = some a ∧ l.Perm (a :: m) ∧ Mv b v.ownBlock w w' ∧ v'.ownBlock = v.ownBlock
theorem take_math {l : List Jo} {K i : Nat} {x a : Jo} (hl : l.length = K + 1) (hx : l[K]? = some x) (ha : l[0]? = some a) (ht : BeTold (l.take K) x i) : i < l.length ∧ Hp.Hp Ed.ahead ((settleR l i x).take K) ∧ l.Perm (a :: (settleR l i x).take K) := by
  have hlt : (l.take K).length = K := by rw [List.length_take]; omega
  have e : l.take K ++ [x] = l := by
    have h1 := List.take_append_getElem (l := l) (i := K) (by omega)
    have h2 : l[K] = x := (List.getElem?_eq_some_iff.1 hx).2
    rw [h2] at h1
    rw [h1, List.take_of_length_le (by omega)]
  rcases ht with ⟨hd, hp⟩ | ⟨h0, rfl⟩
  · have hi := hd.inn
    rw [hlt] at hi
    rw [settle_take _ _ _ _ hi]
    refine ⟨by omega, hp, ?_⟩
    refine List.Perm.trans ?_ (hd.perm.symm.cons a)
    cases hm : l.take K with
    | nil => rw [hm] at hlt; simp at hlt; omega
    | cons b t =>
      rw [hm] at e
      have : b = a := by rw [← e] at ha; simpa using ha
      subst this
      rw [← e, List.set_cons_zero]
      exact (List.perm_append_singleton x t).cons b
  · have hK : K = 0 := by omega
    subst hK
    refine ⟨by omega, by rw [List.take_zero]; exact hp_nil, ?_⟩
    match l, hl, ha with
    | [y], _, ha => simp at ha; subst ha; simp
theorem slice_lo (g n cap k : Nat) (h1 : k ≤ n) (h2 : n ≤ cap) (w : World) : (Instr.sliceAt 27 (.slice (some ⟨g, 0, none⟩) n cap) none (some (.int .i64 (k : Int))) none).run Try.prog w = .ok (.slice (some ⟨g, 0, none⟩) k cap) w := by
  rw [run_sliceAt_slice w _ _ _ _ _ (by kernel_rfl), run_slice_h w _ _ _ _ (by kernel_rfl) _ _ (by omega) (by omega)]
  have e : (sizeOf (Try.prog.elem 27)).run Try.prog w = .ok 4 w := by kernel_rfl
  rw [e]
  simp [Result.andThen, sliced, Addr.add]
theorem slice_hi (g n cap k : Nat) (h1 : k < n) (h2 : n ≤ cap) (w : World) : (Instr.sliceAt 27 (.slice (some ⟨g, 0, none⟩) n cap) (some (.int .i64 (k : Int))) none none).run Try.prog w = .ok (.slice (some ⟨g, k * 4, none⟩) (n - k) (cap - k)) w := by
  have e : (sizeOf (Try.prog.elem 27)).run Try.prog w = .ok 4 w := by kernel_rfl
  have hc' : ¬ cap = k := by omega
  rw [run_sliceAt_slice w _ _ _ _ _ (by kernel_rfl), run_slice_l w _ _ _ _ (by kernel_rfl) _ _ (by omega) (by omega), e]
  by_cases h0 : k = 0
  · subst h0; simp [Result.andThen, sliced, Addr.add, hc']
  · have h4 : ¬ k * 4 = 0 := by omega
    simp [Result.andThen, sliced, Addr.add, h0, h4, hc']
theorem zeroI (w : World) : (zeroValue 31).run Try.prog w = .ok (.agg #[.int .i64 0, .int .i64 0, .int .i64 0, .int .i64 0]) w := by kernel_rfl
theorem clear_one (g k c : Nat) (w : World) (hc : ∀ j, j < 4 → (w.cell? ⟨g, k + j, none⟩).isSome = true) (hf : ∀ j, j < 4 → w.frozen? ⟨g, k + j, none⟩ = false) (ty : TypeId) :
    (Builtin.clear_ #[27] ty #[.slice (some ⟨g, k, none⟩) 1 c]).run Try.prog w = .ok (.tuple #[]) (put4 w g k ⟨0, 0, 0, 0⟩) := by
  have hzc : (Builtin.zeroCells (Value.agg #[.int .i64 0, .int .i64 0, .int .i64 0, .int .i64 0]).cells 1).toList = [.int .i64 0, .int .i64 0, .int .i64 0, .int .i64 0] := by first | kernel_rfl | (simp [Builtin.zeroCells, Value.cells, Array.ofFn, List.ofFn, Fin.foldr, Fin.foldr.loop])
  have hst := run_storeCells_cells (P := Try.prog) g k [.int .i64 0, .int .i64 0, .int .i64 0, .int .i64 0] 0 w (by simpa using hc) (by simpa using hf) (by intro v hv'; simp at hv'; subst hv'; rfl)
  simp only [Nat.add_zero] at hst
  have e : w.setCells g k [.int .i64 0, .int .i64 0, .int .i64 0, .int .i64 0] = put4 w g k ⟨0, 0, 0, 0⟩ := rfl
  rw [e] at hst
  simp [Builtin.clear_, run_underlying Try.underlying27, zeroI, hzc, hst]
set_option maxHeartbeats 8000000 in
theorem take_in (LB b : Nat) (v : Value) (l : List Jo) (w : World) (h : Ht LB w b v l) (hp : Hp.Hp Ed.ahead l) (hl : l.length ≤ 900000) (h0 : 0 < l.length) :
    Calls Try.prog 40 #[.pointer (some ⟨b, 0, none⟩)] w fun e w' => e = .returned (.tuple #[]) ∧ TakeTo LB b v l w w' := by
  obtain ⟨K, hK⟩ : ∃ K, l.length = K + 1 := ⟨l.length - 1, by omega⟩
  obtain ⟨g, cap, rfl, hcap, hg1, hg2⟩ := h.row.inBlock h0
  have hgb : g ≠ b := fun e => h.apart (by rw [e]; rfl)
  have c1 := h.c1
  obtain ⟨x, hx⟩ : ∃ x, l[K]? = some x := ⟨_, List.getElem?_eq_getElem (show K < l.length by omega)⟩
  obtain ⟨a, ha⟩ : ∃ a, l[0]? = some a := ⟨_, List.getElem?_eq_getElem h0⟩
  obtain ⟨k0, k1, k2, k3⟩ := h.row.at hx
  have b0 : Below w.heap.size w (w.alloc (.cells #[.int .i64 x.id, .int .i64 x.rel, .int .i64 x.dl, .int .i64 x.le] 31)) := (Below.refl _ w).alloc (Nat.le_refl _) _
  have H := Lib.hid (h.call b0)
  have X0 := Lib.hid (bx_new w x)
  have M0 := Lib.hid (Mv.of_below (b := b) (r := (Value.slice (some ⟨g, 0, none⟩) l.length cap).ownBlock) b0)
  have hXg : w.heap.size ≠ g := by omega
  have BE := Lib.hid (fun w' (q : Below (w.alloc (.cells #[.int .i64 x.id, .int .i64 x.rel, .int .i64 x.dl, .int .i64 x.le] 31)).heap.size (w.alloc (.cells #[.int .i64 x.id, .int .i64 x.rel, .int .i64 x.dl, .int .i64 x.le] 31)) w') => below_any b (some ⟨g, 0, none⟩) cap (l.take K) x w' ((q.cell (World.block_lt_of_cell? _ _ H.out.c0)).trans H.out.c0) ((H.out.row.take (k := K) (by omega)).call q).ns (hp_take hp K) (by rw [List.length_take]; omega))
  have hlt : (l.take K).length = K := by rw [List.length_take]; omega
  rw [hlt] at BE
  have MA := Lib.hid (fun i => take_math (i := i) hK hx ha)
  have SE := Lib.hid (fun w' i h1 hi => settle_any LB g cap l i x w' h1 hi (by omega))
  have HA := Lib.hid ha
  have HK := Lib.hid hK
  obtain ⟨R, hR⟩ : ∃ R, R = l.length := ⟨_, rfl⟩
  rw [← hR] at c1 SE hcap
  have SL := slice_lo g R cap K (by omega) hcap
  have SH := slice_hi g R cap K (by omega) hcap
  rw [show R - K = 1 by omega] at SH
  have hR1 : IntKind.i64.wrap ((R : Int) - 1) = (K : Int) := by rw [IntWalk.i64_in _ (by omega)]; omega
  have hKR : (K : Int) < (R : Int) := by omega
  have hKw : IntKind.i64.wrap (K : Int) = (K : Int) := IntWalk.i64_in _ (by omega)
  have HR := Lib.hid hR
  have hcK : K < cap := by omega
  clear h hp hl h0 hK hx ha hlt hR b0
  go_enter Try.func40, Try.ntmps40
  go_wp2_with fail
  generalize w.alloc (.cells #[.int .i64 x.id, .int .i64 x.rel, .int .i64 x.dl, .int .i64 x.le] 31) = W0 at *
  generalize hX : w.heap.size = X at *
  clear hX
  have QD := Lib.hid (show Below W0.heap.size W0 W0.drew from (Below.refl _ _).drew)
  have XD := Lib.hid (X0.out.call QD.out)
  have cS : W0.drew.cell? ⟨X, 0, none⟩ = some (.int .i64 x.id) ∧ W0.drew.cell? ⟨X, 1, none⟩ = some (.int .i64 x.rel) ∧ W0.drew.cell? ⟨X, 2, none⟩ = some (.int .i64 x.dl) ∧ W0.drew.cell? ⟨X, 3, none⟩ = some (.int .i64 x.le) := XD.out.at
  clear X0 c1 k0 k1 k2 k3
  refine wp_region_held_drew (S := (fun W' => W'.cell? ⟨X, 0, none⟩ = some (.int .i64 x.id) ∧ W'.cell? ⟨X, 1, none⟩ = some (.int .i64 x.rel) ∧ W'.cell? ⟨X, 2, none⟩ = some (.int .i64 x.dl) ∧ W'.cell? ⟨X, 3, none⟩ = some (.int .i64 x.le))) (by kernel_rfl) (cS) (fun hHeld => ?_)
  refine Gh.tk 0 ?_
  refine Gh.tk 1 ?_
  refine Gh.tk 2 ?_
  refine Gh.tk 3 ?_
  refine Gh.tk 4 ?_
  refine Gh.tk 5 ?_
  refine Gh.tk 7 ?_
  refine Gh.rd 6 (fun K hK => ?_)
  go_simp
  (with_reducible refine (BE.out _ QD.out).mono ?_)
  rintro e w1 ⟨i, rfl, ht, q1⟩
  obtain ⟨hi, hpm, hpp⟩ := MA.out i ht
  have Q1 := Lib.hid (QD.out.trans (q1.mono QD.out.size))
  have H1 := Lib.hid (H.out.call Q1.out)
  have X1 := Lib.hid (XD.out.call q1)
  have cS1 : w1.cell? ⟨X, 0, none⟩ = some (.int .i64 x.id) ∧ w1.cell? ⟨X, 1, none⟩ = some (.int .i64 x.rel) ∧ w1.cell? ⟨X, 2, none⟩ = some (.int .i64 x.dl) ∧ w1.cell? ⟨X, 3, none⟩ = some (.int .i64 x.le) := X1.out.at
  have PM := Lib.hid hpm
  have PP := Lib.hid hpp
  have SE1 := Lib.hid (SE.out w1 i (by rw [HR.out]; exact H1.out.row) (by have := HR.out; omega))
  clear q1 hpm hpp ht BE MA SE cS QD XD
  go_simp
  refine hK.out _ _ (cS1) (fun hHeld => ?_)
  clear hK K
  refine Gh.pt ?_
  refine Gh.rd 8 (fun K hK => ?_)
  go_simp
  (with_reducible refine SE1.out.mono ?_)
  rintro e w2 ⟨rfl, r2, m2⟩
  have X2 := Lib.hid (X1.out.mv m2 hXg)
  have cS2 : w2.cell? ⟨X, 0, none⟩ = some (.int .i64 x.id) ∧ w2.cell? ⟨X, 1, none⟩ = some (.int .i64 x.rel) ∧ w2.cell? ⟨X, 2, none⟩ = some (.int .i64 x.dl) ∧ w2.cell? ⟨X, 3, none⟩ = some (.int .i64 x.le) := X2.out.at
  have R2 := Lib.hid r2
  have M2 := Lib.hid m2
  clear r2 m2 SE1 X1 cS1
  go_simp
  refine hK.out _ _ (cS2) (fun hHeld => ?_)
  clear hK K
  refine Gh.pt ?_
  refine wpAnyH_done (by kernel_rfl) ?_ _
  clear hHeld
  clear hHeld
  clear hHeld
  have hd2 : w2.heap[b]? = some (.cells #[.func (.func 42) #[] #[], .slice (some ⟨g, 0, none⟩) R cap] 77 (0, 0)) := by
    rw [HR.out]; exact (M2.out.block b H1.out.lt (Ne.symm hgb) (by simp)).trans H1.out.head
  obtain ⟨z, hz⟩ : ∃ z, (settleR l i x)[K]? = some z := ⟨_, List.getElem?_eq_getElem (by rw [settle_len]; have := HK.out; omega)⟩
  have cz := R2.out.at hz
  have CL := clear_one g (K * 4) (cap - K) w2 (fun j hj => by obtain ⟨z0, z1, z2, z3⟩ := cz; match j, hj with | 0, _ => rw [Nat.add_zero, z0]; rfl | 1, _ => rw [z1]; rfl | 2, _ => rw [z2]; rfl | 3, _ => rw [z3]; rfl) (fun j hj => R2.out.free _)
  have r3 : NRow LB (put4 w2 g (K * 4) ⟨0, 0, 0, 0⟩) (.slice (some ⟨g, 0, none⟩) K cap) ((settleR l i x).take K) := (R2.out.take (by rw [settle_len]; have := HK.out; omega)).past (by rw [List.length_take]; omega)
  have m3 := M2.out.set4 (g := g) (o := K * 4) ⟨0, 0, 0, 0⟩ (.inl rfl)
  have hd3 : (put4 w2 g (K * 4) ⟨0, 0, 0, 0⟩).heap[b]? = _ := (put4_other _ _ _ _ _ (Ne.symm hgb)).trans hd2
  have d1 := (Lib.cell_of_heap hd2 1).trans rfl
  have c1 := (Lib.cell_of_heap hd3 1).trans rfl
  have f1 := Lib.frozen_of_heap hd3 1
  have F : Hid (TakeTo LB b (.slice (some ⟨g, 0, none⟩) l.length cap) l w ((put4 w2 g (K * 4) ⟨0, 0, 0, 0⟩).setCell ⟨b, 1, none⟩ (.slice (some ⟨g, 0, none⟩) K cap))) := Lib.hid
    ⟨.slice (some ⟨g, 0, none⟩) K cap, a, (settleR l i x).take K, Ht.laid hd3 r3 H1.out.lb, PM.out, HA.out, PP.out, ((M0.out.trans (Mv.of_below (b := b) (r := none) Q1.out) (fun j e => by cases e)).row1 m3 (.inl rfl)).set _ (.inl rfl), rfl⟩
  generalize put4 w2 g (K * 4) ⟨0, 0, 0, 0⟩ = w3 at *
  clear hd2 hz cz r3 m3 hd3 H1 H PM PP R2 M2
  go_wp2
  go_end0
  exact ⟨rfl, F.out⟩
/-- what change leaves -/
def ChangeTo (LB b : Nat) (v : Value) (l : List Jo) (x : Jo) (w w' : World) : Prop :=
  ∃ m, Ht LB w' b v m ∧ Hp.Hp Ed.ahead m ∧ m.Perm (l.set 0 x) ∧ Mv b v.ownBlock w w'
set_option maxHeartbeats 4000000 in
theorem change_in (LB b : Nat) (v : Value) (l : List Jo) (x : Jo) (w : World) (h : Ht LB w b v l) (hp : Hp.Hp Ed.ahead l) (hl : l.length ≤ 900000) (h0 : 0 < l.length) :
    Calls Try.prog 39 #[.pointer (some ⟨b, 0, none⟩), .agg #[.int .i64 x.id, .int .i64 x.rel, .int .i64 x.dl, .int .i64 x.le]] w fun e w' => e = .returned (.tuple #[]) ∧ ChangeTo LB b v l x w w' := by
  obtain ⟨g, cap, rfl, hcap, hg1, hg2⟩ := h.row.inBlock h0
  have hgb : g ≠ b := fun e => h.apart (by rw [e]; rfl)
  have hXg : w.heap.size ≠ g := by omega
  have b0 : Below w.heap.size w (w.alloc (.cells #[.int .i64 x.id, .int .i64 x.rel, .int .i64 x.dl, .int .i64 x.le] 31)) := (Below.refl _ w).alloc (Nat.le_refl _) _
  have H := Lib.hid (h.call b0)
  have X0 := Lib.hid (bx_new w x)
  have M0 := Lib.hid (Mv.of_below (b := b) (r := (Value.slice (some ⟨g, 0, none⟩) l.length cap).ownBlock) b0)
  have BE := Lib.hid (fun w' (q : Below (w.alloc (.cells #[.int .i64 x.id, .int .i64 x.rel, .int .i64 x.dl, .int .i64 x.le] 31)).heap.size (w.alloc (.cells #[.int .i64 x.id, .int .i64 x.rel, .int .i64 x.dl, .int .i64 x.le] 31)) w') => below_any b (some ⟨g, 0, none⟩) cap l x w' ((q.cell (World.block_lt_of_cell? _ _ H.out.c0)).trans H.out.c0) (H.out.row.call q).ns hp (by omega))
  have SE := Lib.hid (fun w' i h1 hi => settle_any LB g cap l i x w' h1 hi (by omega))
  have FIN : Hid (∀ w1 w2 i, Below (w.alloc (.cells #[.int .i64 x.id, .int .i64 x.rel, .int .i64 x.dl, .int .i64 x.le] 31)).heap.size (w.alloc (.cells #[.int .i64 x.id, .int .i64 x.rel, .int .i64 x.dl, .int .i64 x.le] 31)) w1 → BeTold l x i → NRow LB w2 (.slice (some ⟨g, 0, none⟩) l.length cap) (settleR l i x) → Mv g none w1 w2 → ChangeTo LB b (.slice (some ⟨g, 0, none⟩) l.length cap) l x w w2) := Lib.hid (fun w1 w2 i q ht hr hm => by
    have H1 := H.out.call q
    rcases ht with ⟨hd, hpp⟩ | ⟨h1, -⟩
    · exact ⟨settleR l i x, ⟨(hm.block b H1.lt (Ne.symm hgb) (by simp)).trans H1.head, hr, h.lb⟩, hpp, hd.perm, (M0.out.trans (Mv.of_below (b := b) (r := none) q) (fun j e => by cases e)).row1 hm (.inl rfl)⟩
    · omega)
  have INN : Hid (∀ i, BeTold l x i → i < l.length) := Lib.hid (fun i ht => by rcases ht with ⟨hd, -⟩ | ⟨h1, -⟩; exact hd.inn; omega)
  have HRW := Lib.hid H.out.row
  have c1 := H.out.c1
  have hbl := H.out.lt
  clear h hp h0 b0 H M0
  generalize hR : l.length = R at *
  clear hR
  go_enter Try.func39, Try.ntmps39
  go_wp2_with fail
  generalize w.alloc (.cells #[.int .i64 x.id, .int .i64 x.rel, .int .i64 x.dl, .int .i64 x.le] 31) = W0 at *
  generalize w.heap.size = X at *
  have QD := Lib.hid (show Below W0.heap.size W0 W0.drew from (Below.refl _ _).drew)
  have XD := Lib.hid (X0.out.call QD.out)
  have cS : W0.drew.cell? ⟨b, 1, none⟩ = some (.slice (some ⟨g, 0, none⟩) R cap) ∧ W0.drew.cell? ⟨X, 0, none⟩ = some (.int .i64 x.id) ∧ W0.drew.cell? ⟨X, 1, none⟩ = some (.int .i64 x.rel) ∧ W0.drew.cell? ⟨X, 2, none⟩ = some (.int .i64 x.dl) ∧ W0.drew.cell? ⟨X, 3, none⟩ = some (.int .i64 x.le) := ⟨c1, XD.out.at⟩
  clear c1 X0
  refine wp_region_held_drew (S := (fun W' => W'.cell? ⟨b, 1, none⟩ = some (.slice (some ⟨g, 0, none⟩) R cap) ∧ W'.cell? ⟨X, 0, none⟩ = some (.int .i64 x.id) ∧ W'.cell? ⟨X, 1, none⟩ = some (.int .i64 x.rel) ∧ W'.cell? ⟨X, 2, none⟩ = some (.int .i64 x.dl) ∧ W'.cell? ⟨X, 3, none⟩ = some (.int .i64 x.le))) (by kernel_rfl) (cS) (fun hHeld => ?_)
  refine Gh.tk 0 ?_
  refine Gh.tk 1 ?_
  refine Gh.tk 2 ?_
  refine Gh.tk 3 ?_
  refine Gh.tk 4 ?_
  refine Gh.tk 5 ?_
  refine Gh.tk 6 ?_
  refine Gh.tk 7 ?_
  refine Gh.tk 8 ?_
  refine Gh.tk 9 ?_
  refine Gh.tk 11 ?_
  refine Gh.rd 10 (fun K hK => ?_)
  go_simp
  (with_reducible refine (BE.out _ QD.out).mono ?_)
  rintro e w1 ⟨i, rfl, ht, q1⟩
  have Q1 := Lib.hid (QD.out.trans (q1.mono QD.out.size))
  have X1 := Lib.hid (XD.out.call q1)
  have d1 := carry q1 cS.1
  have cS1 : w1.cell? ⟨b, 1, none⟩ = some (.slice (some ⟨g, 0, none⟩) R cap) ∧ w1.cell? ⟨X, 0, none⟩ = some (.int .i64 x.id) ∧ w1.cell? ⟨X, 1, none⟩ = some (.int .i64 x.rel) ∧ w1.cell? ⟨X, 2, none⟩ = some (.int .i64 x.dl) ∧ w1.cell? ⟨X, 3, none⟩ = some (.int .i64 x.le) := ⟨d1, X1.out.at⟩
  have SE1 := Lib.hid (SE.out w1 i (HRW.out.call Q1.out) (INN.out i ht))
  have FN := Lib.hid (fun w2 hr hm => FIN.out w1 w2 i Q1.out ht hr hm)
  clear q1 ht BE SE cS QD XD FIN INN HRW Q1
  go_simp
  refine hK.out _ _ (cS1) (fun hHeld => ?_)
  clear hK K
  refine Gh.pt ?_
  refine Gh.rd 12 (fun K hK => ?_)
  go_simp
  (with_reducible refine SE1.out.mono ?_)
  rintro e w2 ⟨rfl, r2, m2⟩
  have X2 := Lib.hid (X1.out.mv m2 hXg)
  have cS2 : w2.cell? ⟨b, 1, none⟩ = some (.slice (some ⟨g, 0, none⟩) R cap) ∧ w2.cell? ⟨X, 0, none⟩ = some (.int .i64 x.id) ∧ w2.cell? ⟨X, 1, none⟩ = some (.int .i64 x.rel) ∧ w2.cell? ⟨X, 2, none⟩ = some (.int .i64 x.dl) ∧ w2.cell? ⟨X, 3, none⟩ = some (.int .i64 x.le) := ⟨m2.cellB (Ne.symm hgb) d1, X2.out.at⟩
  have F := Lib.hid (FN.out w2 r2 m2)
  clear r2 m2 SE1 X1 cS1 FN
  go_simp
  refine hK.out _ _ (cS2) (fun hHeld => ?_)
  clear hK K
  refine Gh.pt ?_
  refine wpAnyH_done (by kernel_rfl) ?_ _
  clear hHeld
  clear hHeld
  clear hHeld
  go_end0
  exact ⟨rfl, F.out⟩
end Go.Proofs.Yteagimnlhopjpaa.Hj
