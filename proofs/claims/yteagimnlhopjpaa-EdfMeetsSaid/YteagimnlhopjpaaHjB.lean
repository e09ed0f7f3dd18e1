/- How package heap's jobs settle, and where they belong: contracts of settle and below. (HpB of jobs: a job that is handed is laid in a block of its own.) -/
import Derived.Test.YteagimnlhopjpaaHjA
import Derived.Test.YteagimnlhopjpaaGnH
import Derived.RegionTactic
import Derived.BigQuiet
import Derived.BigRegion
import Derived.Deep.DeepCutAuto
import Derived.Deep.LoopGhost
namespace Go.Proofs.Yteagimnlhopjpaa.Hj
open Go.ChangeShapes Go.WideShapes Go.ChangeAt Go.RowKit Go.Joins
open Hp (Wk An Srt le ins sort Down settleR liftR Anc upR Ups settle_zero settle_up)
open Ed (Jo wk Own own_an)
set_option maxRecDepth 100000
set_option maxRecDepth 100000
set_option linter.unusedVariables false
set_option linter.unusedSimpArgs false
/-- a job in a block of its own -/
def Bx (w : World) (X : Nat) (y : Jo) : Prop := w.heap[X]? = some (.cells #[.int .i64 y.id, .int .i64 y.rel, .int .i64 y.dl, .int .i64 y.le] 31 (0, 0))
theorem Bx.at {w : World} {X : Nat} {y : Jo} (h : Bx w X y) : At4 w X 0 y := ⟨by rw [Lib.cell_of_heap h]; rfl, by rw [Lib.cell_of_heap h]; rfl, by rw [Lib.cell_of_heap h]; rfl, by rw [Lib.cell_of_heap h]; rfl⟩
theorem Bx.free {w : World} {X : Nat} {y : Jo} (h : Bx w X y) (o : Nat) : w.frozen? ⟨X, o, none⟩ = false := Lib.frozen_of_heap h o
theorem bx_new (w : World) (y : Jo) : Bx (w.alloc (.cells #[.int .i64 y.id, .int .i64 y.rel, .int .i64 y.dl, .int .i64 y.le] 31)) w.heap.size y := heap_alloc_new w _
theorem Bx.set {w : World} {X : Nat} {y : Jo} (h : Bx w X y) (z : Jo) : Bx (put4 w X 0 z) X z := by
  unfold Bx at h ⊢
  simp [put4, World.setCell, Array.getElem?_modify, h]
theorem Bx.of_block {w w' : World} {X : Nat} {y : Jo} (h : Bx w X y) (e : w'.heap[X]? = w.heap[X]?) : Bx w' X y := e.trans h
theorem Bx.call {w w' : World} {X : Nat} {y : Jo} (h : Bx w X y) (hb : Below w.heap.size w w') : Bx w' X y := h.of_block (hb.block X (lt_of_heap h))
/-- x on its way up from m -/
def SeRel (B g X cap : Nat) (l : List Jo) (i : Nat) (x : Jo) (w : World) (m : Nat) (s1 : Value) (wx : World) : Prop :=
  ∃ (cur : List Jo) (y : Jo), s1 = .int .i64 (m : Int) ∧ Bx wx X y ∧ settleR cur m y = settleR l i x ∧ cur.length = l.length ∧ m < l.length ∧ NRow B wx (.slice (some ⟨g, 0, none⟩) l.length cap) cur ∧ Mv g none w wx
set_option maxHeartbeats 2000000 in
theorem settle_any (B g cap : Nat) (l : List Jo) (i : Nat) (x : Jo) (w : World) (h : NRow B w (.slice (some ⟨g, 0, none⟩) l.length cap) l) (hi : i < l.length) (hl : l.length ≤ 1000000) :
    Calls Try.prog 51 #[.slice (some ⟨g, 0, none⟩) l.length cap, .int .i64 (i : Int), .agg #[.int .i64 x.id, .int .i64 x.rel, .int .i64 x.dl, .int .i64 x.le]] w fun e w' => e = .returned (.tuple #[]) ∧ NRow B w' (.slice (some ⟨g, 0, none⟩) l.length cap) (settleR l i x) ∧ Mv g none w w' := by
  have hg0 : g < w.heap.size := (h.lt g rfl).2
  have b0 : Below w.heap.size w (w.alloc (.cells #[.int .i64 x.id, .int .i64 x.rel, .int .i64 x.dl, .int .i64 x.le] 31)) := (Below.refl _ w).alloc (Nat.le_refl _) _
  have H := Lib.hid (h.call b0)
  have X0 := Lib.hid (bx_new w x)
  have M0 := Lib.hid (Mv.of_below (b := g) (r := none) b0)
  clear h b0
  go_enter Try.func51, Try.ntmps51
  go_wp2_with fail
  obtain ⟨X, hX⟩ : ∃ X, X = w.heap.size := ⟨_, rfl⟩
  rw [← hX] at X0
  have hXg : X ≠ g := by omega
  have hXw : w.heap.size ≤ X := by omega
  generalize w.alloc (.cells #[.int .i64 x.id, .int .i64 x.rel, .int .i64 x.dl, .int .i64 x.le] 31) = W0 at *
  rw [← hX]
  clear hX
  go_loopg [1] i (SeRel B g X cap l i x w)
  case atStart => exact ⟨l, x, rfl, X0.out, rfl, rfl, hi, H.out, M0.out⟩
  case round =>
    obtain ⟨cur, y, rfl, hbx, hs, hcl, hm, hr, hmv⟩ := hrel
    clear X0 H M0
    obtain ⟨x0, x1, x2, x3⟩ := hbx.at
    rcases Nat.eq_zero_or_pos gk with h0 | h0
    · subst h0
      have h00 : 0 < cur.length := by omega
      have hx := List.getElem?_eq_getElem h00
      obtain ⟨c0, c1, c2, c3⟩ := hr.at hx
      have f0 := hr.free 0
      have f1 := hr.free 1
      have f2 := hr.free 2
      have f3 := hr.free 3
      have N := Lib.hid (hr.set 0 h00 y)
      have M := Lib.hid (hmv.set4 (g := g) (o := 0) y (.inl rfl))
      have E := Lib.hid ((settle_zero cur y).symm.trans hs)
      generalize cur[0] = z at *
      have hm' : (0 : Int) < (l.length : Int) := by omega
      clear hr hmv hs hx h00 hbx
      simp only [Nat.zero_mul, Nat.zero_add] at c0 c1 c2 c3
      go_wp2
      go_end0
      exact ⟨rfl, by rw [← E.out]; exact N.out, M.out⟩
    · have hmc : gk < cur.length := by omega
      have hx := List.getElem?_eq_getElem hmc
      obtain ⟨z, hz⟩ : ∃ z, z = cur[gk] := ⟨_, rfl⟩
      rw [← hz] at hx
      obtain ⟨c0, c1, c2, c3⟩ := hr.at hx
      have f0 := hr.free (gk * 4)
      have f1 := hr.free (gk * 4 + 1)
      have f2 := hr.free (gk * 4 + 2)
      have f3 := hr.free (gk * 4 + 3)
      have g0 := hbx.free 0
      have g1 := hbx.free 1
      have g2 := hbx.free 2
      have g3 := hbx.free 3
      have ds := fun (u : World) => (Below.refl u.heap.size u).drew
      have N1 := hr.set gk hmc y
      have D1 := Lib.hid (((hbx.of_block (put4_other wr g (gk * 4) y X hXg)).set z).call (ds _))
      have N := Lib.hid ((N1.of_blocks (w' := put4 (put4 wr g (gk * 4) y) X 0 z) fun k hk => put4_other _ _ _ _ _ (by cases hk; exact Ne.symm hXg)).call (ds _))
      have M := Lib.hid ((((hmv.set4 (g := g) (o := gk * 4) y (.inl rfl)).set4 (g := X) (o := 0) z (.inr (.inr hXw)))).trans (Mv.of_below (b := g) (r := none) (ds _)) (fun j e => .inl e))
      have E := Lib.hid ((settle_up h0 hx).symm.trans hs)
      have CL : Hid ((cur.set gk y).length = l.length) := Lib.hid (by rw [List.length_set]; exact hcl)
      have PA := Lib.hid (fun w => parent_any gk h0 (by omega) w)
      have hm' : (gk : Int) < (l.length : Int) := by omega
      have h0' : (0 : Int) < (gk : Int) := by omega
      have hw : IntKind.i64.wrap (gk : Int) = (gk : Int) := IntWalk.i64_in _ (by omega)
      have hk : (gk - 1) / 2 < gk := by omega
      clear hr hmv hs hx hmc hcl N1 ds hz hbx
      generalize (gk - 1) / 2 = pk at *
      go_wp2_with fail
      go_region
      generalize hWW : (((((((((wr.setCell ⟨g, gk * 4, none⟩ (.int .i64 y.id)).setCell ⟨g, gk * 4 + 1, none⟩ (.int .i64 y.rel)).setCell ⟨g, gk * 4 + 2, none⟩ (.int .i64 y.dl)).setCell ⟨g, gk * 4 + 3, none⟩ (.int .i64 y.le)).setCell ⟨X, 0, none⟩ (.int .i64 z.id)).setCell ⟨X, 1, none⟩ (.int .i64 z.rel)).setCell ⟨X, 2, none⟩ (.int .i64 z.dl)).setCell ⟨X, 3, none⟩ (.int .i64 z.le)).drew) = WW
      have NN : Hid (NRow B WW (.slice (some ⟨g, 0, none⟩) l.length cap) (cur.set gk y)) := Lib.hid (by rw [← hWW]; exact N.out)
      have DD : Hid (Bx WW X z) := Lib.hid (by rw [← hWW]; exact D1.out)
      have MM : Hid (Mv g none w WW) := Lib.hid (by rw [← hWW]; exact M.out)
      clear hWW N D1 M
      go_wp2_with fail
      (with_reducible refine (PA.out _).mono ?_)
      rintro e w1 ⟨rfl, rfl⟩
      go_wp2
      go_roundg pk
      case measure => omega
      case rel => exact ⟨_, z, rfl, DD.out, E.out, CL.out, by omega, NN.out, MM.out⟩
/-- x on its way down: where it stands, and what comes next; W: x was laid -/
def BeRel (l : List Jo) (x : Jo) (W : World) (m : Nat) (s7 s8 : Value) (wx : World) : Prop :=
  ∃ i c1 : Nat, i + m = l.length ∧ Hid (c1 = 2 * i + 1) ∧ s7 = .int .i64 (i : Int) ∧ s8 = .int .i64 (c1 : Int) ∧ (Down Ed.ahead l x i ∨ (l.length = 0 ∧ i = 0)) ∧ Below W.heap.size W wx
/-- what below tells -/
def BeTold (l : List Jo) (x : Jo) (i : Nat) : Prop := (Down Ed.ahead l x i ∧ Hp.Hp Ed.ahead (settleR l i x)) ∨ (l.length = 0 ∧ i = 0)
/-- the lesser of the two below i -/
theorem lesser (l : List Jo) (i c1 c2 : Nat) (e1 : c1 = 2 * i + 1) (e2 : c2 = c1 + 1) (hc : c1 < l.length) : ∃ (bv : Bool) (c : Nat) (y : Jo), (c = 2 * i + 1 ∨ c = 2 * i + 2) ∧ l[c]? = some y ∧ (∀ j d, j = 2 * i + 1 ∨ j = 2 * i + 2 → l[j]? = some d → le Ed.ahead y d) ∧ (bv = true → c = c2) ∧ (bv = false → c = c1) ∧ (∀ y z, l[c1]? = some y → l[c2]? = some z → bv = Ed.ahead z y) ∧ (l.length ≤ c2 → bv = false) := by
  obtain rfl : c2 = 2 * i + 2 := by omega
  subst e1
  have h1 := List.getElem?_eq_getElem hc
  by_cases h2 : 2 * i + 2 < l.length
  · have h3 := List.getElem?_eq_getElem h2
    cases hb : Ed.ahead l[2 * i + 2] l[2 * i + 1] with
    | true =>
      refine ⟨true, 2 * i + 2, _, .inr rfl, h3, fun j d hj hd => ?_, fun _ => rfl, fun h => (by cases h), fun y z hy hz => by rw [h1] at hy; rw [h3] at hz; cases hz; cases hy; exact hb.symm, fun h => by omega⟩
      rcases hj with rfl | rfl
      · rw [h1] at hd; cases hd; exact wk.le_of_lt hb
      · rw [h3] at hd; cases hd; exact wk.le_refl _
    | false =>
      refine ⟨false, 2 * i + 1, _, .inl rfl, h1, fun j d hj hd => ?_, fun h => (by cases h), fun _ => rfl, fun y z hy hz => by rw [h1] at hy; rw [h3] at hz; cases hz; cases hy; exact hb.symm, fun h => by omega⟩
      rcases hj with rfl | rfl
      · rw [h1] at hd; cases hd; exact wk.le_refl _
      · rw [h3] at hd; cases hd; exact hb
  · refine ⟨false, 2 * i + 1, _, .inl rfl, h1, fun j d hj hd => ?_, fun h => (by cases h), fun _ => rfl, fun y z hy hz => by have := (List.getElem?_eq_some_iff.1 hz).1; omega, fun _ => rfl⟩
    rcases hj with rfl | rfl
    · rw [h1] at hd; cases hd; exact wk.le_refl _
    · have := (List.getElem?_eq_some_iff.1 hd).1; omega
theorem below_drewN (W : World) (n : Nat) : Below W.heap.size W (W.drewN n) := ⟨by simp [World.drewN], by simp [World.drewN], by simp [World.drewN], by simp [World.drewN], fun k _ => by simp [World.drewN]⟩
theorem Below.drewN' {W w : World} (h : Below W.heap.size W w) (n : Nat) : Below W.heap.size W (w.drewN n) := h.trans ((below_drewN w n).mono h.size)
theorem Below.drew' {W w : World} (h : Below W.heap.size W w) : Below W.heap.size W w.drew := h.trans ((Below.refl _ w).drew)
set_option maxHeartbeats 4000000 in
theorem below_any (b : Nat) (ao : Option Addr) (cap : Nat) (l : List Jo) (x : Jo) (w : World) (hh : w.cell? ⟨b, 0, none⟩ = some (.func (.func 42) #[] #[])) (hn : Ns ao l w) (hp : Hp.Hp Ed.ahead l) (hl : l.length ≤ 1000000) :
    Calls Try.prog 52 #[.pointer (some ⟨b, 0, none⟩), .slice ao l.length cap, .agg #[.int .i64 x.id, .int .i64 x.rel, .int .i64 x.dl, .int .i64 x.le]] w fun e w' => ∃ i : Nat, e = .returned (.int .i64 (i : Int)) ∧ BeTold l x i ∧ Below w.heap.size w w' := by
  have b0 : Below w.heap.size w (w.alloc (.cells #[.int .i64 x.id, .int .i64 x.rel, .int .i64 x.dl, .int .i64 x.le] 31)) := (Below.refl _ w).alloc (Nat.le_refl _) _
  have H := Lib.hid (hn.call b0)
  have HH := Lib.hid (carry b0 hh)
  have X0 := Lib.hid (bx_new w x)
  have B0 := Lib.hid b0
  have HP := Lib.hid hp
  have LS := Lib.hid less_any
  clear hn hp hh b0
  go_enter Try.func52, Try.ntmps52
  go_wp2_with fail
  obtain ⟨X, hX⟩ : ∃ X, X = w.heap.size := ⟨_, rfl⟩
  rw [← hX] at X0
  rw [← hX]
  generalize w.alloc (.cells #[.int .i64 x.id, .int .i64 x.rel, .int .i64 x.dl, .int .i64 x.le] 31) = W0 at *
  clear hX
  go_loopg [7, 8] l.length (BeRel l x W0)
  case atStart =>
    refine ⟨0, 1, by omega, rfl, rfl, rfl, ?_, Below.refl _ _⟩
    by_cases h0 : 0 < l.length
    · exact .inl (Hp.down_start HP.out h0)
    · exact .inr ⟨by omega, rfl⟩
  case round =>
    obtain ⟨i, c1, hi, hc1, rfl, rfl, hd, hq⟩ := hrel
    by_cases hc : c1 < l.length
    · obtain ⟨c2, hc2⟩ : ∃ c2, c2 = c1 + 1 := ⟨_, rfl⟩
      obtain ⟨bv, c, y, hcc, hy, hm, ht, hf, hbv, hbn⟩ := lesser l i c1 c2 hc1.out hc2 hc
      have dn : Down Ed.ahead l x i := by rcases hd with h | h; exact h; omega
      have QW := Lib.hid hq
      obtain ⟨k, off, rfl, -, hat⟩ := H.out.at (by omega)
      have hx1 := List.getElem?_eq_getElem hc
      have C1 := Lib.hid (hat c1 _ hx1)
      have HAT := Lib.hid hat
      have BT := Lib.hid (fun z => hbv _ z hx1)
      have BN := Lib.hid hbn
      have DC := Lib.hid (show Ed.ahead y x = true → Down Ed.ahead l x c from fun h => Hp.down_step wk dn hcc hy h hm)
      have DF := Lib.hid (show Ed.ahead y x = false → Hp.Hp Ed.ahead (settleR l i x) from fun h => by
        have h1 : c1 = 2 * i + 1 := hc1.out
        refine Hp.down_done dn (fun z hz => ?_) (fun z hz => ?_)
        · exact wk.le_trans h (hm _ _ (.inl rfl) hz)
        · exact wk.le_trans h (hm _ _ (.inr rfl) hz))
      have DN := Lib.hid dn
      have HY := Lib.hid hy
      have hcl : c < l.length := (List.getElem?_eq_some_iff.1 hy).1
      have HT := Lib.hid ht
      have HF := Lib.hid hf
      have hic : i < c := by omega
      have hc1i : (c1 : Int) < (l.length : Int) := by omega
      have hc1w : IntKind.i64.wrap (c1 : Int) = (c1 : Int) := IntWalk.i64_in _ (by omega)
      have hc2w : IntKind.i64.wrap ((c1 : Int) + 1) = (c2 : Int) := by rw [IntWalk.i64_in _ (by omega)]; omega
      have hc2w2 : IntKind.i64.wrap (c2 : Int) = (c2 : Int) := IntWalk.i64_in _ (by omega)
      have EC := Lib.hid hc2
      generalize l[c1] = z1 at *
      clear hd hq hc2 hbv hbn hx1 hat hm hy hcc dn ht hf
      go_upto_region 6 with (fail)
      go_cut [37] (fun s wx => s = .bool bv ∧ Below W0.heap.size W0 wx)
      case first =>
        by_cases h2 : c2 < l.length
        · have hx2 := List.getElem?_eq_getElem h2
          have C2 := HAT.out c2 _ hx2
          have hb := BT.out _ hx2
          generalize l[c2] = z2 at *
          have LC := Lib.hid (LS.out z2 z1)
          rw [← hb] at LC
          have h2i : (c2 : Int) < (l.length : Int) := by omega
          have hg : decide ((c2 : Int) < (l.length : Int)) = true := decide_eq_true h2i
          have QD := Lib.hid (Below.drew' QW.out)
          obtain ⟨p0, p1, p2, p3⟩ := C2.of_block (QD.out.block _ C2.lt)
          obtain ⟨q0, q1, q2, q3⟩ := C1.out.of_block (QD.out.block _ C1.out.lt)
          have cS : wr.drew.cell? ⟨b, 0, none⟩ = some (.func (.func 42) #[] #[]) ∧ wr.drew.cell? ⟨k, off + c2 * 4, none⟩ = some (.int .i64 z2.id) ∧ wr.drew.cell? ⟨k, off + c2 * 4 + 1, none⟩ = some (.int .i64 z2.rel) ∧ wr.drew.cell? ⟨k, off + c2 * 4 + 2, none⟩ = some (.int .i64 z2.dl) ∧ wr.drew.cell? ⟨k, off + c2 * 4 + 3, none⟩ = some (.int .i64 z2.le) ∧ wr.drew.cell? ⟨k, off + c1 * 4, none⟩ = some (.int .i64 z1.id) ∧ wr.drew.cell? ⟨k, off + c1 * 4 + 1, none⟩ = some (.int .i64 z1.rel) ∧ wr.drew.cell? ⟨k, off + c1 * 4 + 2, none⟩ = some (.int .i64 z1.dl) ∧ wr.drew.cell? ⟨k, off + c1 * 4 + 3, none⟩ = some (.int .i64 z1.le) := ⟨(QD.out.cell (World.block_lt_of_cell? _ _ HH.out)).trans HH.out, p0, p1, p2, p3, q0, q1, q2, q3⟩
          clear HAT hb BT BN H hx2 DC DF DN HY C1 C2 p0 p1 p2 p3 q0 q1 q2 q3
          refine wp_region_held_drew (S := (fun W' => W'.cell? ⟨b, 0, none⟩ = some (.func (.func 42) #[] #[]) ∧ W'.cell? ⟨k, off + c2 * 4, none⟩ = some (.int .i64 z2.id) ∧ W'.cell? ⟨k, off + c2 * 4 + 1, none⟩ = some (.int .i64 z2.rel) ∧ W'.cell? ⟨k, off + c2 * 4 + 2, none⟩ = some (.int .i64 z2.dl) ∧ W'.cell? ⟨k, off + c2 * 4 + 3, none⟩ = some (.int .i64 z2.le) ∧ W'.cell? ⟨k, off + c1 * 4, none⟩ = some (.int .i64 z1.id) ∧ W'.cell? ⟨k, off + c1 * 4 + 1, none⟩ = some (.int .i64 z1.rel) ∧ W'.cell? ⟨k, off + c1 * 4 + 2, none⟩ = some (.int .i64 z1.dl) ∧ W'.cell? ⟨k, off + c1 * 4 + 3, none⟩ = some (.int .i64 z1.le))) (by kernel_rfl) (cS) (fun hHeld => ?_)
          refine Gh.tk 0 ?_
          refine Gh.tk 1 ?_
          refine Gh.tk 2 ?_
          refine Gh.tk 3 ?_
          refine Gh.tk 4 ?_
          refine Gh.tk 5 ?_
          refine Gh.tk 6 ?_
          refine Gh.tk 7 ?_
          refine Gh.tk 8 ?_
          refine Gh.tk 9 ?_
          refine Gh.tk 10 ?_
          refine Gh.tk 11 ?_
          refine Gh.tk 12 ?_
          refine Gh.tk 13 ?_
          refine Gh.tk 14 ?_
          refine Gh.tk 15 ?_
          refine Gh.tk 16 ?_
          refine Gh.rd 17 (fun K hK => ?_)
          go_simp
          (with_reducible refine (LC.out _).mono ?_)
          rintro e w5 ⟨rfl, b5⟩
          have Q6 := Lib.hid (QD.out.trans (b5.mono QD.out.size))
          have cS5 := And.intro (carry b5 cS.1) (And.intro (carry b5 cS.2.1) (And.intro (carry b5 cS.2.2.1) (And.intro (carry b5 cS.2.2.2.1) (And.intro (carry b5 cS.2.2.2.2.1) (And.intro (carry b5 cS.2.2.2.2.2.1) (And.intro (carry b5 cS.2.2.2.2.2.2.1) (And.intro (carry b5 cS.2.2.2.2.2.2.2.1) (carry b5 cS.2.2.2.2.2.2.2.2))))))))
          clear b5 QD cS LC
          go_simp
          refine hK.out _ _ (cS5) (fun hHeld => ?_)
          clear hK K
          refine Gh.pt ?_
          refine Gh.tk 18 ?_
          refine wpAnyH_done (by kernel_rfl) ?_ _
          clear hHeld
          clear hHeld
          go_wp2
          go_meet
          exact ⟨rfl, Q6.out⟩
        · have hb := BN.out (by omega)
          have hg : decide ((c2 : Int) < (l.length : Int)) = false := decide_eq_false (by omega)
          have hg2 : decide (c2 < l.length) = false := decide_eq_false h2
          subst hb
          clear HAT BT BN H h2 C1 DC DF DN HY HT HF
          go_quiet (fail)
          go_wp2
          go_meet
          exact ⟨rfl, Below.drewN' QW.out _⟩
      case rest =>
        obtain ⟨rfl, hq⟩ := hcut
        have Q := Lib.hid hq
        have CY := Lib.hid (HAT.out c _ HY.out)
        clear hq QW HAT BT BN C1
        go_upto_if 37 with (fail)
        go_cut [8] (fun s wx => s = .int .i64 (c : Int) ∧ wx = wc)
        case first =>
          cases bv with
          | true =>
            have e := HT.out rfl
            subst e
            go_wp2
            go_meet
            exact ⟨rfl, rfl⟩
          | false =>
            have e := HF.out rfl
            subst e
            go_wp2
            go_meet
            exact ⟨rfl, rfl⟩
        case rest =>
          obtain ⟨rfl, rfl⟩ := hcut
          have hci : (c : Int) < (l.length : Int) := by omega
          have hcw : IntKind.i64.wrap (c : Int) = (c : Int) := IntWalk.i64_in _ (by omega)
          have QD := Lib.hid (Below.drew' Q.out)
          obtain ⟨p0, p1, p2, p3⟩ := CY.out.of_block (QD.out.block _ CY.out.lt)
          obtain ⟨q0, q1, q2, q3⟩ := X0.out.at.of_block (QD.out.block _ X0.out.at.lt)
          have cS : wc.drew.cell? ⟨b, 0, none⟩ = some (.func (.func 42) #[] #[]) ∧ wc.drew.cell? ⟨k, off + c * 4, none⟩ = some (.int .i64 y.id) ∧ wc.drew.cell? ⟨k, off + c * 4 + 1, none⟩ = some (.int .i64 y.rel) ∧ wc.drew.cell? ⟨k, off + c * 4 + 2, none⟩ = some (.int .i64 y.dl) ∧ wc.drew.cell? ⟨k, off + c * 4 + 3, none⟩ = some (.int .i64 y.le) ∧ wc.drew.cell? ⟨X, 0, none⟩ = some (.int .i64 x.id) ∧ wc.drew.cell? ⟨X, 1, none⟩ = some (.int .i64 x.rel) ∧ wc.drew.cell? ⟨X, 2, none⟩ = some (.int .i64 x.dl) ∧ wc.drew.cell? ⟨X, 3, none⟩ = some (.int .i64 x.le) := ⟨(QD.out.cell (World.block_lt_of_cell? _ _ HH.out)).trans HH.out, p0, p1, p2, p3, q0, q1, q2, q3⟩
          clear p0 p1 p2 p3 q0 q1 q2 q3
          cases hb : Ed.ahead y x with
          | true =>
            have LC := Lib.hid (LS.out y x)
            rw [hb] at LC
            have D := Lib.hid (DC.out hb)
            obtain ⟨d, hd⟩ : ∃ d, d = 2 * c := ⟨_, rfl⟩
            have hd1 : IntKind.i64.wrap (2 * (c : Int)) = (d : Int) := by rw [IntWalk.i64_in _ (by omega)]; omega
            obtain ⟨d1, hd2⟩ : ∃ d1, d1 = d + 1 := ⟨_, rfl⟩
            have hd3 : IntKind.i64.wrap ((d : Int) + 1) = (d1 : Int) := by rw [IntWalk.i64_in _ (by omega)]; omega
            have E : Hid (d1 = 2 * c + 1) := Lib.hid (by omega)
            clear hb HY DC DF DN HT HF CY EC hd hd2
            go_wp2_with fail
            refine wp_region_held_drew (S := (fun W' => W'.cell? ⟨b, 0, none⟩ = some (.func (.func 42) #[] #[]) ∧ W'.cell? ⟨k, off + c * 4, none⟩ = some (.int .i64 y.id) ∧ W'.cell? ⟨k, off + c * 4 + 1, none⟩ = some (.int .i64 y.rel) ∧ W'.cell? ⟨k, off + c * 4 + 2, none⟩ = some (.int .i64 y.dl) ∧ W'.cell? ⟨k, off + c * 4 + 3, none⟩ = some (.int .i64 y.le) ∧ W'.cell? ⟨X, 0, none⟩ = some (.int .i64 x.id) ∧ W'.cell? ⟨X, 1, none⟩ = some (.int .i64 x.rel) ∧ W'.cell? ⟨X, 2, none⟩ = some (.int .i64 x.dl) ∧ W'.cell? ⟨X, 3, none⟩ = some (.int .i64 x.le))) (by kernel_rfl) (cS) (fun hHeld => ?_)
            refine Gh.tk 0 ?_
            refine Gh.tk 1 ?_
            refine Gh.tk 2 ?_
            refine Gh.tk 3 ?_
            refine Gh.tk 4 ?_
            refine Gh.tk 5 ?_
            refine Gh.tk 6 ?_
            refine Gh.tk 7 ?_
            refine Gh.tk 8 ?_
            refine Gh.rd 9 (fun K hK => ?_)
            go_simp
            (with_reducible refine (LC.out _).mono ?_)
            rintro e w5 ⟨rfl, b5⟩
            have Q6 := Lib.hid (QD.out.trans (b5.mono QD.out.size))
            have cS5 := And.intro (carry b5 cS.1) (And.intro (carry b5 cS.2.1) (And.intro (carry b5 cS.2.2.1) (And.intro (carry b5 cS.2.2.2.1) (And.intro (carry b5 cS.2.2.2.2.1) (And.intro (carry b5 cS.2.2.2.2.2.1) (And.intro (carry b5 cS.2.2.2.2.2.2.1) (And.intro (carry b5 cS.2.2.2.2.2.2.2.1) (carry b5 cS.2.2.2.2.2.2.2.2))))))))
            clear b5 QD cS LC
            go_simp
            refine hK.out _ _ (cS5) (fun hHeld => ?_)
            clear hK K
            refine Gh.pt ?_
            refine Gh.tk 10 ?_
            refine wpAnyH_done (by kernel_rfl) ?_ _
            clear hHeld
            clear hHeld
            go_wp2
            go_roundg (l.length - c)
            case measure => omega
            case rel => exact ⟨c, d1, by omega, E.out, rfl, rfl, .inl D.out, Q6.out⟩
          | false =>
            have LC := Lib.hid (LS.out y x)
            rw [hb] at LC
            have F : Hid (BeTold l x i) := Lib.hid (.inl ⟨DN.out, DF.out hb⟩)
            clear hb HY DC DF DN HT HF CY EC
            go_wp2_with fail
            refine wp_region_held_drew (S := (fun W' => W'.cell? ⟨b, 0, none⟩ = some (.func (.func 42) #[] #[]) ∧ W'.cell? ⟨k, off + c * 4, none⟩ = some (.int .i64 y.id) ∧ W'.cell? ⟨k, off + c * 4 + 1, none⟩ = some (.int .i64 y.rel) ∧ W'.cell? ⟨k, off + c * 4 + 2, none⟩ = some (.int .i64 y.dl) ∧ W'.cell? ⟨k, off + c * 4 + 3, none⟩ = some (.int .i64 y.le) ∧ W'.cell? ⟨X, 0, none⟩ = some (.int .i64 x.id) ∧ W'.cell? ⟨X, 1, none⟩ = some (.int .i64 x.rel) ∧ W'.cell? ⟨X, 2, none⟩ = some (.int .i64 x.dl) ∧ W'.cell? ⟨X, 3, none⟩ = some (.int .i64 x.le))) (by kernel_rfl) (cS) (fun hHeld => ?_)
            refine Gh.tk 0 ?_
            refine Gh.tk 1 ?_
            refine Gh.tk 2 ?_
            refine Gh.tk 3 ?_
            refine Gh.tk 4 ?_
            refine Gh.tk 5 ?_
            refine Gh.tk 6 ?_
            refine Gh.tk 7 ?_
            refine Gh.tk 8 ?_
            refine Gh.rd 9 (fun K hK => ?_)
            go_simp
            (with_reducible refine (LC.out _).mono ?_)
            rintro e w5 ⟨rfl, b5⟩
            have Q6 := Lib.hid (QD.out.trans (b5.mono QD.out.size))
            have cS5 := And.intro (carry b5 cS.1) (And.intro (carry b5 cS.2.1) (And.intro (carry b5 cS.2.2.1) (And.intro (carry b5 cS.2.2.2.1) (And.intro (carry b5 cS.2.2.2.2.1) (And.intro (carry b5 cS.2.2.2.2.2.1) (And.intro (carry b5 cS.2.2.2.2.2.2.1) (And.intro (carry b5 cS.2.2.2.2.2.2.2.1) (carry b5 cS.2.2.2.2.2.2.2.2))))))))
            clear b5 QD cS LC
            go_simp
            refine hK.out _ _ (cS5) (fun hHeld => ?_)
            clear hK K
            refine Gh.pt ?_
            refine Gh.tk 10 ?_
            refine wpAnyH_done (by kernel_rfl) ?_ _
            clear hHeld
            clear hHeld
            go_wp2
            go_ret
            exact ⟨i, rfl, F.out, B0.out.trans (Q6.out.mono B0.out.size)⟩
    · have hge : (l.length : Int) ≤ (c1 : Int) := by omega
      have F : Hid (BeTold l x i) := Lib.hid (by
        have := hc1.out
        rcases hd with h | h
        · exact .inl ⟨h, Hp.down_none h (by omega)⟩
        · exact .inr h)
      have Q := Lib.hid hq
      clear H HP hd hq hc
      go_wp2
      go_ret
      exact ⟨i, rfl, F.out, B0.out.trans (Q.out.mono B0.out.size)⟩
end Go.Proofs.Yteagimnlhopjpaa.Hj
