/- A heap of package heap in memory: contracts of put, take and change. -/
import Derived.Test.YtphnabnpapdpeaaHpB
import Derived.Lib.AppendZeros
import Derived.Test.YtphnabnpapdpeaaGnH
namespace Go.Proofs.Ytphnabnpapdpeaa.Hp
open Go.ChangeShapes Go.WideShapes Go.ChangeAt Go.RowKit Go.Joins
set_option maxRecDepth 100000
set_option maxRecDepth 100000
set_option linter.unusedVariables false
set_option linter.unusedSimpArgs false
/-- a heap in block b, whose things are v -/
structure Ht (LB : Nat) (w : World) (b : Nat) (v : Value) (l : List Int) : Prop where
  head : w.heap[b]? = some (.cells #[.func (.func 10) #[] #[], v] 40 (0, 0))
  row : NRow LB w v l
  lb : LB ≤ b
section
variable {LB b : Nat} {v : Value} {l : List Int} {w w' : World}
theorem Ht.lt (h : Ht LB w b v l) : b < w.heap.size := lt_of_heap h.head
theorem Ht.c0 (h : Ht LB w b v l) : w.cell? ⟨b, 0, none⟩ = some (.func (.func 10) #[] #[]) := by rw [Lib.cell_of_heap h.head]; rfl
theorem Ht.c1 (h : Ht LB w b v l) : w.cell? ⟨b, 1, none⟩ = some v := by rw [Lib.cell_of_heap h.head]; rfl
theorem Ht.f1 (h : Ht LB w b v l) : w.frozen? ⟨b, 1, none⟩ = false := Lib.frozen_of_heap h.head 1
theorem Ht.apart (h : Ht LB w b v l) : v.ownBlock ≠ some b := h.row.apart h.head (by decide)
theorem Ht.of_blocks (h : Ht LB w b v l) (hb : w'.heap[b]? = w.heap[b]?) (hr : ∀ k, v.ownBlock = some k → w'.heap[k]? = w.heap[k]?) : Ht LB w' b v l := ⟨hb.trans h.head, h.row.of_blocks hr, h.lb⟩
theorem Ht.call (h : Ht LB w b v l) (hb : Below w.heap.size w w') : Ht LB w' b v l := h.of_blocks (hb.block b h.lt) (fun k hk => hb.block k (h.row.lt k hk).2)
theorem Ht.qt (h : Ht LB w b v l) (q : Qt w w') : Ht LB w' b v l := h.call (q.below _)
/-- another row in its place -/
theorem head_set {u v' : Value} {b : Nat} {w : World} (h : w.heap[b]? = some (.cells #[u, v] 40 (0, 0))) : (w.setCell ⟨b, 1, none⟩ v').heap[b]? = some (.cells #[u, v'] 40 (0, 0)) := by
  simp [World.setCell, Array.getElem?_modify, h]
/-- the row was turned, then laid there -/
theorem Ht.laid {m : List Int} {v' : Value} (hd : w.heap[b]? = some (.cells #[.func (.func 10) #[] #[], v] 40 (0, 0))) (hr : NRow LB w v' m) (hl : LB ≤ b) : Ht LB (w.setCell ⟨b, 1, none⟩ v') b v' m := by
  have ha := hr.apart hd (by decide)
  exact ⟨head_set hd, hr.of_blocks fun k hk => Below.heap_setCell _ _ _ _ (show k ≠ b by rintro rfl; exact ha hk), hl⟩
end
/-- only the row's block has turned, which was there, or is new -/
theorem Mv.row1 {b g : Nat} {r : Option Nat} {u v w : World} (h : Mv b r u v) (k : Mv g none v w) (hg : r = some g ∨ u.heap.size ≤ g) : Mv b r u w :=
  ⟨k.os.trans h.os, k.tape.trans h.tape, k.output.trans h.output, Nat.le_trans h.size k.size, fun i hi hb hn => (k.block i (Nat.lt_of_lt_of_le hi h.size) (by rintro rfl; rcases hg with e | e; exact hn e; omega) (by simp)).trans (h.block i hi hb hn)⟩
theorem Mv.of_qt {b : Nat} {r : Option Nat} {w w' : World} (q : Qt w w') : Mv b r w w' := .of_below (q.below _)
theorem Mv.cellB {b g o : Nat} {w w' : World} {v : Value} (m : Mv g none w w') (hg : b ≠ g) (h : w.cell? ⟨b, o, none⟩ = some v) : w'.cell? ⟨b, o, none⟩ = some v :=
  (World.cell?_of_block (w := w) (a := ⟨b, o, none⟩) (m.block b (World.block_lt_of_cell? _ _ h) hg (by simp))).trans h
/-- x on its way up -/
def UpRel (l : List Int) (x : Int) (w : World) (m : Nat) (s5 : Value) (wx : World) : Prop := s5 = .int .i64 (m : Int) ∧ Ups ltI l x m ∧ Qt w wx
/-- those above one place down each -/
def LiRel (B g cap : Nat) (M : List Int) (k n : Nat) (w : World) (m : Nat) (s6 : Value) (wx : World) : Prop :=
  ∃ cur : List Int, s6 = .int .i64 (m : Int) ∧ liftR cur m k = M ∧ Anc k m ∧ cur.length = n ∧ m < n ∧ NRow B wx (.slice (some ⟨g, 0, none⟩) n cap) cur ∧ Mv g none w wx
/-- what put leaves -/
def PutTo (LB b : Nat) (v : Value) (l : List Int) (x : Int) (w w' : World) : Prop :=
  ∃ v' m, Ht LB w' b v' m ∧ Hp ltI m ∧ m.Perm (l ++ [x]) ∧ Mv b v.ownBlock w w' ∧ (v'.ownBlock = v.ownBlock ∨ ∃ k, v'.ownBlock = some k ∧ w.heap.size ≤ k)
set_option maxHeartbeats 4000000 in
theorem put_in (LB b : Nat) (v : Value) (l : List Int) (x : Int) (w : World) (h : Ht LB w b v l) (hp : Hp ltI l) (hl : l.length ≤ 900000) (hB : LB ≤ w.heap.size) :
    Calls Try.prog 30 #[.pointer (some ⟨b, 0, none⟩), .int .i64 x] w fun e w' => e = .returned (.tuple #[]) ∧ PutTo LB b v l x w w' := by
  have H := Lib.hid h
  have HP := Lib.hid hp
  have LS := Lib.hid less_any
  have PA := Lib.hid parent_any
  have c1 := h.c1
  obtain ⟨ao, cap, rfl, -, hns⟩ := h.row.form
  have NS := Lib.hid hns
  have BB := Lib.hid hB
  clear hns hp h hB
  go_enter Try.func30, Try.ntmps30
  go_wp2_with fail
  go_loopg [5] l.length (UpRel l x w)
  case atStart => exact ⟨rfl, ups_start x HP.out, Qt.refl _⟩
  case round =>
    obtain ⟨rfl, hu, hq⟩ := hrel
    have hle := anc_le hu.anc
    obtain ⟨bv, hbt, hbf⟩ : ∃ bv : Bool, (bv = true → 0 < gk ∧ ∃ y, l[(gk - 1) / 2]? = some y ∧ ltI x y = true) ∧ (bv = false → Hp ltI (upR l x gk) ∧ (gk = 0 ∨ ∃ y, l[(gk - 1) / 2]? = some y ∧ ltI x y = false)) := by
      rcases Nat.eq_zero_or_pos gk with h0 | h0
      · subst h0; exact ⟨false, fun h => (by cases h), fun _ => ⟨ups_zero hu, .inl rfl⟩⟩
      · have hy := List.getElem?_eq_getElem (show (gk - 1) / 2 < l.length by omega)
        cases hb : ltI x l[(gk - 1) / 2] with
        | true => exact ⟨true, fun _ => ⟨h0, _, hy, hb⟩, fun h => (by cases h)⟩
        | false => exact ⟨false, fun h => (by cases h), fun _ => ⟨ups_done hu h0 hy hb, .inr ⟨_, hy, hb⟩⟩⟩
    have HT := Lib.hid hbt
    have HF := Lib.hid hbf
    have HU := Lib.hid hu
    have Q := Lib.hid hq
    have W0 := Lib.hid (H.out.qt hq)
    have c0 := W0.out.c0
    have hkw : IntKind.i64.wrap (gk : Int) = (gk : Int) := IntWalk.i64_in _ (by omega)
    clear hbt hbf hu hq
    go_upto_region 2 with (fail)
    go_cut [27] (fun s wx => s = .bool bv ∧ Qt w wx)
    case first =>
      rcases Nat.eq_zero_or_pos gk with h0 | h0
      · have hb : bv = false := by
          cases hbb : bv with
          | false => rfl
          | true => have := (HT.out hbb).1; omega
        subst hb
        subst h0
        clear HT HF HU NS W0 HP H
        have hg : decide ((0 : Int) < ((0 : Nat) : Int)) = false := rfl
        go_quiet (fail)
        go_wp2
        go_meet
        exact ⟨rfl, qt_drewN Q.out _⟩
      · have hpl : (gk - 1) / 2 < l.length := by omega
        have hy := List.getElem?_eq_getElem hpl
        obtain ⟨k, off, rfl, -, hat⟩ := NS.out (by omega)
        have cy : wr.cell? ⟨k, off + (gk - 1) / 2, none⟩ = some (.int .i64 l[(gk - 1) / 2]) := (Q.out.cell _).trans (hat _ _ hy)
        have hb : ltI x l[(gk - 1) / 2] = bv := by
          cases hbb : bv with
          | false =>
            rcases (HF.out hbb).2 with h | ⟨y, h1, h2⟩
            · omega
            · rw [hy] at h1; cases h1; exact h2
          | true =>
            obtain ⟨-, y, h1, h2⟩ := HT.out hbb
            rw [hy] at h1; cases h1; exact h2
        have P1 := Lib.hid (PA.out gk h0 (by omega))
        have LC := Lib.hid (LS.out x l[(gk - 1) / 2])
        rw [hb] at LC
        have hg : decide ((0 : Int) < (gk : Int)) = true := decide_eq_true (by omega)
        have hgn : decide (0 < gk) = true := decide_eq_true h0
        have hpi : (((gk - 1) / 2 : Nat) : Int) < (l.length : Int) := by omega
        have hpw : IntKind.i64.wrap (((gk - 1) / 2 : Nat) : Int) = (((gk - 1) / 2 : Nat) : Int) := IntWalk.i64_in _ (by omega)
        generalize l[(gk - 1) / 2] = y at *
        clear HT HF HU NS W0 HP H hat hy hb hpl
        generalize (gk - 1) / 2 = pk at *
        have h0i : (0 : Int) < (gk : Int) := by omega
        go_quiet ((first | (go_at_call 10; exact Calls.quiet_of_same (LC.out _)) | (go_at_call 37; exact Calls.quiet_of_same (P1.out _)) | fail))
        go_wp2
        go_meet
        exact ⟨rfl, qt_drewN Q.out _⟩
    case rest =>
      obtain ⟨rfl, hq⟩ := hcut
      have Q2 := Lib.hid hq
      clear hq c0
      cases bv with
      | true =>
        obtain ⟨h0, y, hy, hlt⟩ := HT.out rfl
        have UP := Lib.hid (ups_step ordI.wk HU.out h0 hy hlt)
        have P1 := Lib.hid (PA.out gk h0 (by omega))
        clear HT HF HU hy hlt LS PA
        have hk : (gk - 1) / 2 < gk := by omega
        generalize (gk - 1) / 2 = pk at *
        go_wp2_with fail
        (with_reducible refine (P1.out _).mono ?_)
        rintro e w1 ⟨rfl, rfl⟩
        go_wp2
        go_roundg pk
        case measure => omega
        case rel => exact ⟨rfl, UP.out, Q2.out⟩
      | false =>
        have hpf := (HF.out rfl).1
        have W1 := Lib.hid (H.out.qt Q2.out)
        have hBw : LB ≤ wc.heap.size := by rw [Q2.out.heap]; exact BB.out
        obtain ⟨g, cp, w2, hap, hrow, hb2, hk2, hs2, hnew⟩ := nrow_append LB wc _ l x W1.out.row hBw (by omega)
        have hgb : g ≠ b := by
          rintro rfl
          rcases hnew with e | e
          · exact W1.out.apart e
          · have := W1.out.lt; omega
        have MV : Hid (Mv b (Value.slice ao l.length cap).ownBlock w w2) := Lib.hid ((Mv.of_qt Q2.out).trans ⟨hb2.os, hb2.tape, hb2.output, hs2, fun k hk hb hn => hk2 k hk hn⟩ (fun j e => .inl e))
        have HD : Hid (w2.heap[b]? = some (.cells #[.func (.func 10) #[] #[], .slice ao l.length cap] 40 (0, 0))) := Lib.hid ((hk2 b W1.out.lt W1.out.apart).trans W1.out.head)
        have NEW : Hid ((Value.slice ao l.length cap).ownBlock = some g ∨ w.heap.size ≤ g) := Lib.hid (by rw [Q2.out.heap] at hnew; exact hnew)
        have PF := Lib.hid hpf
        have LB' := Lib.hid W1.out.lb
        have AN := Lib.hid HU.out.anc
        have PM := Lib.hid HU.out.perm
        have HR := Lib.hid hrow
        obtain ⟨R, hR⟩ : ∃ R, R = l.length + 1 := ⟨_, rfl⟩
        have hR1 : IntKind.i64.wrap ((R : Int) - 1) = (l.length : Int) := by rw [IntWalk.i64_in _ (by omega)]; omega
        have LL : Hid ((l ++ [x]).length = R) := Lib.hid (by rw [List.length_append, hR]; rfl)
        have hRl : R ≤ 900001 := by omega
        have HRR := Lib.hid hR
        rw [← hR] at hap hrow HR
        clear HT HF HU W0 HP H W1 hb2 hk2 hs2 hnew hpf hR hrow NS Q2 Q hBw BB c1
        generalize gk = k0 at *
        go_wp2_with (at_builtin; refine Lib.wpList_append_run _ rfl _ _ _ _ rfl _ _ rfl rfl _ _ hap ?_)
        go_loopg [6] l.length (LiRel LB g cp (liftR (l ++ [x]) l.length k0) k0 R w2)
        case atStart => exact ⟨l ++ [x], rfl, rfl, AN.out, LL.out, by have := HRR.out; omega, HR.out, Mv.refl _ _ _⟩
        case round =>
          obtain ⟨cur, rfl, hM, ha, hcl, hmn, hr, hmv⟩ := hrel
          have hka := anc_le ha
          by_cases hlt : k0 < gk
          · have hpl : (gk - 1) / 2 < cur.length := by omega
            have hy := List.getElem?_eq_getElem hpl
            have NX : Hid (liftR (cur.set gk cur[(gk - 1) / 2]) ((gk - 1) / 2) k0 = liftR (l ++ [x]) l.length k0) := Lib.hid ((lift_step hlt hy).symm.trans hM)
            have AN2 : Hid (Anc k0 ((gk - 1) / 2)) := Lib.hid (by rcases anc_par ha with e | ⟨-, h⟩; omega; exact h)
            have cy := hr.at hy
            have fg := hr.free gk
            have N := Lib.hid (hr.set gk cur[(gk - 1) / 2])
            have M := Lib.hid (hmv.set (g := g) (o := gk) (.int .i64 cur[(gk - 1) / 2]) (.inl rfl))
            have CL : Hid ((cur.set gk cur[(gk - 1) / 2]).length = R) := Lib.hid (by rw [List.length_set]; exact hcl)
            have cg : wr.cell? ⟨g, gk, none⟩ = some (.int .i64 cur[gk]) := hr.at (List.getElem?_eq_getElem (show gk < cur.length by omega))
            have hgl := World.block_lt_of_cell? _ _ cg
            generalize cur[gk] = zg at *
            have P1 := Lib.hid (PA.out gk (by omega) (by omega))
            generalize cur[(gk - 1) / 2] = y at *
            have hp2 : (gk - 1) / 2 < gk := by omega
            have hmi : (gk : Int) < (R : Int) := by omega
            have hki : (k0 : Int) < (gk : Int) := by omega
            have hmw : IntKind.i64.wrap (gk : Int) = (gk : Int) := IntWalk.i64_in _ (by omega)
            have hpi : (((gk - 1) / 2 : Nat) : Int) < (R : Int) := by omega
            have hpw : IntKind.i64.wrap (((gk - 1) / 2 : Nat) : Int) = (((gk - 1) / 2 : Nat) : Int) := IntWalk.i64_in _ (by omega)
            clear hM ha hr hmv hy hpl hcl PF AN PM HR LS PA
            generalize (gk - 1) / 2 = pk at *
            go_wp2_with fail
            (with_reducible refine (P1.out _).mono ?_)
            rintro e w3 ⟨rfl, rfl⟩
            go_wp2_with fail
            (with_reducible refine (P1.out _).mono ?_)
            rintro e w4 ⟨rfl, rfl⟩
            go_wp2
            go_roundg pk
            case measure => omega
            case rel => exact ⟨_, rfl, NX.out, AN2.out, CL.out, by omega, N.out, M.out⟩
          · have e0 : gk = k0 := by omega
            subst e0
            have eM : cur = liftR (l ++ [x]) l.length gk := by rw [← hM, lift_done (Nat.le_refl _)]
            have c0 : wr.cell? ⟨g, gk, none⟩ = some (.int .i64 cur[gk]) := hr.at (List.getElem?_eq_getElem (show gk < cur.length by omega))
            have f0 := hr.free gk
            have N := hr.set gk x
            have M := hmv.set (g := g) (o := gk) (.int .i64 x) (.inl rfl)
            have hd2 : (wr.setCell ⟨g, gk, none⟩ (.int .i64 x)).heap[b]? = some (.cells #[.func (.func 10) #[] #[], .slice ao l.length cap] 40 (0, 0)) := (M.block b (lt_of_heap HD.out) (Ne.symm hgb) (by simp)).trans HD.out
            have c1 := (Lib.cell_of_heap hd2 1).trans rfl
            have f1 := Lib.frozen_of_heap hd2 1
            have hgl := World.block_lt_of_cell? _ _ c0
            have F : Hid (PutTo LB b (.slice ao l.length cap) l x w ((wr.setCell ⟨g, gk, none⟩ (.int .i64 x)).setCell ⟨b, 1, none⟩ (.slice (some ⟨g, 0, none⟩) R cp))) := Lib.hid (by
              have eU : cur.set gk x = upR l x gk := by unfold upR; rw [← eM]
              refine ⟨.slice (some ⟨g, 0, none⟩) R cp, upR l x gk, Ht.laid hd2 (by rw [← eU]; exact N) LB'.out, PF.out, PM.out, (MV.out.row1 M NEW.out).set _ (.inl rfl), ?_⟩
              rcases NEW.out with e | e
              · exact .inl e.symm
              · exact .inr ⟨g, rfl, e⟩)
            generalize cur[gk] = z at *
            have hmi : (gk : Int) < (R : Int) := by omega
            have hmw : IntKind.i64.wrap (gk : Int) = (gk : Int) := IntWalk.i64_in _ (by omega)
            clear hM ha hr hmv hcl PF AN PM HR LS PA MV HD NEW N M hd2 eM
            go_wp2
            go_end0
            exact ⟨rfl, F.out⟩
/-- what take leaves -/
def TakeTo (LB b : Nat) (v : Value) (l : List Int) (w w' : World) : Prop :=
  ∃ v' a m, Ht LB w' b v' m ∧ Hp ltI m ∧ l[0]? = some a ∧ l.Perm (a :: m) ∧ Mv b v.ownBlock w w' ∧ v'.ownBlock = v.ownBlock
theorem take_math {l : List Int} {K i : Nat} {x a : Int} (hl : l.length = K + 1) (hx : l[K]? = some x) (ha : l[0]? = some a) (ht : BeTold (l.take K) x i) : i < l.length ∧ Hp ltI ((settleR l i x).take K) ∧ l.Perm (a :: (settleR l i x).take K) := by
  have hlt : (l.take K).length = K := by rw [List.length_take]; omega
  have e : l.take K ++ [x] = l := by
    have h1 := List.take_append_getElem (l := l) (i := K) (by omega)
    have h2 : l[K] = x := (List.getElem?_eq_some_iff.1 hx).2
    rw [h2] at h1
    rw [h1, List.take_of_length_le (by omega)]
  rcases ht with ⟨hd, hp⟩ | ⟨h0, rfl⟩
  · have hi := hd.inn
    rw [hlt] at hi
    rw [settle_take _ _ _ _ hi]
    refine ⟨by omega, hp, ?_⟩
    refine List.Perm.trans ?_ (hd.perm.symm.cons a)
    cases hm : l.take K with
    | nil => rw [hm] at hlt; simp at hlt; omega
    | cons b t =>
      rw [hm] at e
      have : b = a := by rw [← e] at ha; simpa using ha
      subst this
      rw [← e, List.set_cons_zero]
      exact (List.perm_append_singleton x t).cons b
  · have hK : K = 0 := by omega
    subst hK
    refine ⟨by omega, by rw [List.take_zero]; exact hp_nil, ?_⟩
    match l, hl, ha with
    | [y], _, ha => simp at ha; subst ha; simp
theorem slice_lo (g n cap k : Nat) (h1 : k ≤ n) (h2 : n ≤ cap) (w : World) : (Instr.sliceAt 22 (.slice (some ⟨g, 0, none⟩) n cap) none (some (.int .i64 (k : Int))) none).run Try.prog w = .ok (.slice (some ⟨g, 0, none⟩) k cap) w := by
  rw [run_sliceAt_slice w _ _ _ _ _ (by kernel_rfl), run_slice_h w _ _ _ _ (by kernel_rfl) _ _ (by omega) (by omega)]
  have e : (sizeOf (Try.prog.elem 22)).run Try.prog w = .ok 1 w := by kernel_rfl
  rw [e]
  simp [Result.andThen, sliced, Addr.add]
theorem slice_hi (g n cap k : Nat) (h1 : k < n) (h2 : n ≤ cap) (w : World) : (Instr.sliceAt 22 (.slice (some ⟨g, 0, none⟩) n cap) (some (.int .i64 (k : Int))) none none).run Try.prog w = .ok (.slice (some ⟨g, k, none⟩) (n - k) (cap - k)) w := by
  have e : (sizeOf (Try.prog.elem 22)).run Try.prog w = .ok 1 w := by kernel_rfl
  have hc' : ¬ cap = k := by omega
  rw [run_sliceAt_slice w _ _ _ _ _ (by kernel_rfl), run_slice_l w _ _ _ _ (by kernel_rfl) _ _ (by omega) (by omega), e]
  by_cases h0 : k = 0
  · subst h0; simp [Result.andThen, sliced, Addr.add, hc']
  · simp [Result.andThen, sliced, Addr.add, h0, hc']
theorem zeroI (w : World) : (zeroValue 3).run Try.prog w = .ok (.int .i64 0) w := by kernel_rfl
theorem clear_one (g k c : Nat) (w : World) (hc : (w.cell? ⟨g, k, none⟩).isSome = true) (hf : w.frozen? ⟨g, k, none⟩ = false) (ty : TypeId) :
    (Builtin.clear_ #[22] ty #[.slice (some ⟨g, k, none⟩) 1 c]).run Try.prog w = .ok (.tuple #[]) (w.setCell ⟨g, k, none⟩ (.int .i64 0)) := by
  have := Lib.run_clear_slice (P := Try.prog) w 22 3 ty (.int .i64 0) Try.underlying22 zeroI rfl rfl g k 1 c (by omega) (fun j hj => (by have e : j = 0 := (by omega); rw [e]; exact hc)) (fun j hj => (by have e : j = 0 := (by omega); rw [e]; exact hf))
  exact this
set_option maxHeartbeats 4000000 in
theorem take_in (LB b : Nat) (v : Value) (l : List Int) (w : World) (h : Ht LB w b v l) (hp : Hp ltI l) (hl : l.length ≤ 900000) (h0 : 0 < l.length) :
    Calls Try.prog 24 #[.pointer (some ⟨b, 0, none⟩)] w fun e w' => e = .returned (.tuple #[]) ∧ TakeTo LB b v l w w' := by
  obtain ⟨K, hK⟩ : ∃ K, l.length = K + 1 := ⟨l.length - 1, by omega⟩
  obtain ⟨g, cap, rfl, hcap, hg1, hg2⟩ := h.row.inBlock h0
  have hgb : g ≠ b := fun e => h.apart (by rw [e]; rfl)
  have c1 := h.c1
  obtain ⟨x, hx⟩ : ∃ x, l[K]? = some x := ⟨_, List.getElem?_eq_getElem (show K < l.length by omega)⟩
  obtain ⟨a, ha⟩ : ∃ a, l[0]? = some a := ⟨_, List.getElem?_eq_getElem h0⟩
  have cK : w.cell? ⟨g, K, none⟩ = some (.int .i64 x) := h.row.at hx
  have BE := Lib.hid (fun w' (q : Qt w w') => below_any b (some ⟨g, 0, none⟩) cap (l.take K) x w' ((q.cell _).trans h.c0) ((h.row.take (k := K) (by omega)).qt q).ns (hp_take hp K) (by rw [List.length_take]; omega))
  have hlt : (l.take K).length = K := by rw [List.length_take]; omega
  rw [hlt] at BE
  have MA := Lib.hid (fun i => take_math (i := i) hK hx ha)
  have SE := Lib.hid (fun w' i h1 hi => settle_any LB g cap l i x w' h1 hi (by omega))
  have HA := Lib.hid ha
  have H := Lib.hid h
  have HK := Lib.hid hK
  obtain ⟨R, hR⟩ : ∃ R, R = l.length := ⟨_, rfl⟩
  rw [← hR] at c1 SE hcap
  have SL := slice_lo g R cap K (by omega) hcap
  have SH := slice_hi g R cap K (by omega) hcap
  rw [show R - K = 1 by omega] at SH
  have hR1 : IntKind.i64.wrap ((R : Int) - 1) = (K : Int) := by rw [IntWalk.i64_in _ (by omega)]; omega
  have hKR : (K : Int) < (R : Int) := by omega
  have hKw : IntKind.i64.wrap (K : Int) = (K : Int) := IntWalk.i64_in _ (by omega)
  have HR := Lib.hid hR
  have hcK : K < cap := by omega
  clear h hp hl h0 hK hx ha hlt hR
  go_enter Try.func24, Try.ntmps24
  go_wp2_with fail
  (with_reducible refine (BE.out _ (Qt.refl _)).mono ?_)
  rintro e w1 ⟨i, rfl, ht, q1⟩
  obtain ⟨hi, hpm, hpp⟩ := MA.out i ht
  have H1 := Lib.hid (H.out.qt q1)
  have Q1 := Lib.hid q1
  have PM := Lib.hid hpm
  have PP := Lib.hid hpp
  have SE1 := Lib.hid (SE.out w1 i (by rw [HR.out]; exact H1.out.row) (by have := HR.out; omega))
  clear q1 hpm hpp ht BE MA SE cK c1
  go_wp2_with fail
  (with_reducible refine SE1.out.mono ?_)
  rintro e w2 ⟨rfl, r2, m2⟩
  have hd2 : w2.heap[b]? = some (.cells #[.func (.func 10) #[] #[], .slice (some ⟨g, 0, none⟩) R cap] 40 (0, 0)) := by
    rw [HR.out]; exact (m2.block b H1.out.lt (Ne.symm hgb) (by simp)).trans H1.out.head
  obtain ⟨z, hz⟩ : ∃ z, (settleR l i x)[K]? = some z := ⟨_, List.getElem?_eq_getElem (by rw [settle_len]; have := HK.out; omega)⟩
  have cz := r2.at hz
  have CL := clear_one g K (cap - K) w2 (by rw [cz]; rfl) (r2.free K)
  have r3 : NRow LB (w2.setCell ⟨g, K, none⟩ (.int .i64 0)) (.slice (some ⟨g, 0, none⟩) K cap) ((settleR l i x).take K) := (r2.take (by rw [settle_len]; have := HK.out; omega)).past (by rw [List.length_take]; omega)
  have m3 := m2.set (g := g) (o := K) (.int .i64 0) (.inl rfl)
  have hd3 : (w2.setCell ⟨g, K, none⟩ (.int .i64 0)).heap[b]? = _ := (Below.heap_setCell _ _ _ _ (Ne.symm hgb)).trans hd2
  have c1 := (Lib.cell_of_heap hd3 1).trans rfl
  have f1 := Lib.frozen_of_heap hd3 1
  have F : Hid (TakeTo LB b (.slice (some ⟨g, 0, none⟩) l.length cap) l w ((w2.setCell ⟨g, K, none⟩ (.int .i64 0)).setCell ⟨b, 1, none⟩ (.slice (some ⟨g, 0, none⟩) K cap))) := Lib.hid
    ⟨.slice (some ⟨g, 0, none⟩) K cap, a, (settleR l i x).take K, Ht.laid hd3 r3 H.out.lb, PM.out, HA.out, PP.out, ((Mv.of_qt Q1.out).row1 m3 (.inl rfl)).set _ (.inl rfl), rfl⟩
  clear r2 m2 hd2 hz cz r3 m3 hd3 SE1 H1 H PM PP
  go_wp2
  go_end0
  exact ⟨rfl, F.out⟩
/-- what change leaves -/
def ChangeTo (LB b : Nat) (v : Value) (l : List Int) (x : Int) (w w' : World) : Prop :=
  ∃ m, Ht LB w' b v m ∧ Hp ltI m ∧ m.Perm (l.set 0 x) ∧ Mv b v.ownBlock w w'
set_option maxHeartbeats 4000000 in
theorem change_in (LB b : Nat) (v : Value) (l : List Int) (x : Int) (w : World) (h : Ht LB w b v l) (hp : Hp ltI l) (hl : l.length ≤ 900000) (h0 : 0 < l.length) :
    Calls Try.prog 26 #[.pointer (some ⟨b, 0, none⟩), .int .i64 x] w fun e w' => e = .returned (.tuple #[]) ∧ ChangeTo LB b v l x w w' := by
  obtain ⟨g, cap, rfl, hcap, hg1, hg2⟩ := h.row.inBlock h0
  have hgb : g ≠ b := fun e => h.apart (by rw [e]; rfl)
  have c1 := h.c1
  have BE := Lib.hid (fun w' (q : Qt w w') => below_any b (some ⟨g, 0, none⟩) cap l x w' ((q.cell _).trans h.c0) (h.row.qt q).ns hp (by omega))
  have SE := Lib.hid (fun w' i h1 hi => settle_any LB g cap l i x w' h1 hi (by omega))
  have FIN : Hid (∀ w1 w2 i, Qt w w1 → BeTold l x i → NRow LB w2 (.slice (some ⟨g, 0, none⟩) l.length cap) (settleR l i x) → Mv g none w1 w2 → ChangeTo LB b (.slice (some ⟨g, 0, none⟩) l.length cap) l x w w2) := Lib.hid (fun w1 w2 i q ht hr hm => by
    rcases ht with ⟨hd, hpp⟩ | ⟨h1, -⟩
    · refine ⟨settleR l i x, ⟨(hm.block b (by rw [q.heap]; exact h.lt) (Ne.symm hgb) (by simp)).trans (by rw [q.heap]; exact h.head), hr, h.lb⟩, hpp, hd.perm, (Mv.of_qt q).row1 hm (.inl rfl)⟩
    · omega)
  have INN : Hid (∀ i, BeTold l x i → i < l.length) := Lib.hid (fun i ht => by rcases ht with ⟨hd, -⟩ | ⟨h1, -⟩; exact hd.inn; omega)
  have HRW := Lib.hid h.row
  clear h hp h0
  generalize hR : l.length = R at *
  clear hR
  have Q0 := Lib.hid (Qt.drew w)
  have hSx : w.drew.cell? ⟨b, 1, none⟩ = some (.slice (some ⟨g, 0, none⟩) R cap) := c1
  clear c1
  go_enter Try.func26, Try.ntmps26
  go_wp2_with fail
  refine wp_region_held_drew (S := (fun W' => W'.cell? ⟨b, 1, none⟩ = some (.slice (some ⟨g, 0, none⟩) R cap))) (by kernel_rfl) (hSx) (fun hHeld => ?_)
  refine Gh.tk 0 ?_
  refine Gh.tk 1 ?_
  refine Gh.tk 2 ?_
  refine Gh.tk 3 ?_
  refine Gh.tk 4 ?_
  refine Gh.tk 5 ?_
  refine Gh.tk 6 ?_
  refine Gh.tk 7 ?_
  refine Gh.tk 8 ?_
  refine Gh.tk 9 ?_
  refine Gh.tk 11 ?_
  refine Gh.rd 10 (fun K hK => ?_)
  go_simp
  (with_reducible refine (BE.out _ Q0.out).mono ?_)
  rintro e w1 ⟨i, rfl, ht, q1⟩
  have c2 := (q1.cell _).trans hSx
  have SE1 := Lib.hid (SE.out w1 i (HRW.out.qt (Q0.out.trans q1)) (INN.out i ht))
  have FN := Lib.hid (fun w2 hr hm => FIN.out w1 w2 i (Q0.out.trans q1) ht hr hm)
  clear q1 ht BE SE FIN INN HRW Q0
  go_simp
  refine hK.out _ _ (c2) (fun hHeld => ?_)
  clear hK K
  refine Gh.pt ?_
  refine Gh.rd 12 (fun K hK => ?_)
  go_simp
  (with_reducible refine SE1.out.mono ?_)
  rintro e w2 ⟨rfl, r2, m2⟩
  have c3 := (m2.cellB (Ne.symm hgb) c2)
  have F := Lib.hid (FN.out w2 r2 m2)
  clear r2 m2 FN SE1
  go_simp
  refine hK.out _ _ (c3) (fun hHeld => ?_)
  clear hK K
  refine Gh.pt ?_
  refine wpAnyH_done (by kernel_rfl) ?_ _
  go_end0
  exact ⟨rfl, F.out⟩
end Go.Proofs.Ytphnabnpapdpeaa.Hp
