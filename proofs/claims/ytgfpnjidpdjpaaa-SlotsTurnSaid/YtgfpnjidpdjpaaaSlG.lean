/- Contract of package slots' Read. -/
import Derived.Test.YtgfpnjidpdjpaaaSlF
import Derived.Deep.RegionWith
namespace Go.Proofs.Ytgfpnjidpdjpaaa.Sl
open Go.ChangeShapes Go.WideShapes Go.ChangeAt Go.RowKit Go.Joins
open Dk (Dk DS Moved ptr)
set_option maxRecDepth 100000
set_option linter.unusedVariables false
set_option linter.unusedSimpArgs false
/-- one slot more, of that number -/
noncomputable def stepT (i : Nat) (L : List (List UInt8)) (T : (Nat × List UInt8) × Nat) : (Nat × List UInt8) × Nat := open Classical in if (snapL L).2 = true ∧ T.1.1 ≤ (snapL L).1.1 then ((snapL L).1, 1 - i) else T
noncomputable def readTo (L0 L1 : List (List UInt8)) : Nat → (Nat × List UInt8) × Nat
  | 0 => ((0, []), 0)
  | 1 => stepT 0 L0 ((0, []), 0)
  | _ => stepT 1 L1 (stepT 0 L0 ((0, []), 0))
def nwTo (L0 L1 : List (List UInt8)) : Nat → Nat
  | 0 => 0
  | 1 => newestL L0
  | _ => max (newestL L0) (newestL L1)
theorem stepT_lt {i : Nat} {L : List (List UInt8)} {T : (Nat × List UInt8) × Nat} (h : T.1.1 < 18446744073709551616) : (stepT i L T).1.1 < 18446744073709551616 := by
  unfold stepT; split; exact snapL_lt L; exact h
theorem readTo_lt (L0 L1 : List (List UInt8)) (i : Nat) : (readTo L0 L1 i).1.1 < 18446744073709551616 := by
  unfold readTo; split
  · show (0 : Nat) < _; omega
  · exact stepT_lt (by show (0 : Nat) < _; omega)
  · exact stepT_lt (stepT_lt (by show (0 : Nat) < _; omega))
theorem nwTo_lt (L0 L1 : List (List UInt8)) (i : Nat) : nwTo L0 L1 i < 18446744073709551616 := by
  have := newestL_lt L0
  have := newestL_lt L1
  unfold nwTo; split <;> omega
theorem Sl.reset {q b : Nat} {t : SS} {w : World} (h : Sl q b t w) : Sl q b ⟨t.at_, t.k, false, 0, 0⟩ ((((((w.setCell ⟨q, 0, none⟩ (ptr b)).setCell ⟨q, 1, none⟩ (.int .i64 (t.at_ : Int))).setCell ⟨q, 2, none⟩ (.int .i64 (t.k : Int))).setCell ⟨q, 3, none⟩ (.bool false)).setCell ⟨q, 4, none⟩ (.int .u64 0)).setCell ⟨q, 5, none⟩ (.int .i64 0)) := by
  unfold Sl at *; simp [World.setCell, Array.getElem?_modify, h, cellsOf]
/-- what stands in memory while Read goes on: the result's block, the slots, their disk -/
structure Rd (B b q p : Nat) (t : SS) (d : DS) (w W : World) : Prop where
  dk : Dk B b d W
  sl : Sl q b t W
  res : SnAt W p 0 []
  mv : Mv b q w W
  pq : p ≠ q
  pl : w.heap.size ≤ p
  bl : b < w.heap.size
section
variable {B b q p : Nat} {t t' : SS} {d d' : DS} {w W W' : World}
theorem Rd.call (h : Rd B b q p t d w W) (hb : Below W.heap.size W W') : Rd B b q p t d w W' := ⟨h.dk.call hb, h.sl.call hb, h.res.call hb, h.mv.call hb h.dk.lt, h.pq, h.pl, h.bl⟩
theorem Rd.disk (h : Rd B b q p t d w W) (k : Dk B b d' W') (m : Moved b W W') : Rd B b q p t d' w W' := ⟨k, h.sl.disk h.dk m, h.dk.keep m h.res (by decide) (by decide) (by decide), h.mv.moved m, h.pq, h.pl, h.bl⟩
theorem Rd.set (h : Rd B b q p t d w W) {o : Nat} {x : Value} (s : Sl q b t' (W.setCell ⟨q, o, none⟩ x)) : Rd B b q p t' d w (W.setCell ⟨q, o, none⟩ x) :=
  ⟨Dk_setOther h.dk (h.sl.notOwn h.dk), s, h.res.of_block (Below.heap_setCell W ⟨q, o, none⟩ x p h.pq), h.mv.set (h.sl.ne h.dk) o x, h.pq, h.pl, h.bl⟩
theorem Rd.drew (h : Rd B b q p t d w W) : Rd B b q p t d w W.drew := h.call ((Below.refl _ _).drew)
/-- a store into a snapshot's block that is new -/
theorem Rd.setNew (h : Rd B b q p t d w W) {n e o : Nat} {l : List UInt8} (hn : SnAt W n e l) (np : n ≠ p) (nl : w.heap.size ≤ n) (ql : q < w.heap.size) (x : Value) : Rd B b q p t d w (W.setCell ⟨n, o, none⟩ x) := by
  have nq : n ≠ q := by omega
  have nD : ¬ Dk.Own W b n := by
    obtain ⟨g, v, dk⟩ := h.dk
    exact dk.keepT hn (by decide) (by decide) (by decide)
  exact ⟨Dk_setOther h.dk nD, h.sl.of_block (Below.heap_setCell W ⟨n, o, none⟩ x q (Ne.symm nq)), h.res.of_block (Below.heap_setCell W ⟨n, o, none⟩ x p (Ne.symm np)), h.mv.setNew h.bl nl o x, h.pq, h.pl, h.bl⟩
end
theorem rd_start {B b q : Nat} {t : SS} {d : DS} {w : World} (dk : Dk B b d w) (sl : Sl q b t w) : Rd B b q w.heap.size t d w (w.alloc (.cells #[.int .u64 0, .string ⟨#[]⟩] 33)) := by
  have b1 := (Below.refl w.heap.size w).alloc (Nat.le_refl _) (.cells #[.int .u64 0, .string ⟨#[]⟩] 33)
  exact ⟨dk.call b1, sl.call b1, snAt_new w, (Mv.refl b q w).call b1 dk.lt, by have := sl.lt; omega, Nat.le_refl _, dk.lt⟩
theorem Rd.reset {B b q p : Nat} {t : SS} {d : DS} {w W : World} (h : Rd B b q p t d w W) : Rd B b q p ⟨t.at_, t.k, false, 0, 0⟩ d w ((((((W.setCell ⟨q, 0, none⟩ (ptr b)).setCell ⟨q, 1, none⟩ (.int .i64 (t.at_ : Int))).setCell ⟨q, 2, none⟩ (.int .i64 (t.k : Int))).setCell ⟨q, 3, none⟩ (.bool false)).setCell ⟨q, 4, none⟩ (.int .u64 0)).setCell ⟨q, 5, none⟩ (.int .i64 0)) := by
  have hs := h.sl.reset
  have e : ∀ j : Nat, j ≠ q → ((((((W.setCell ⟨q, 0, none⟩ (ptr b)).setCell ⟨q, 1, none⟩ (.int .i64 (t.at_ : Int))).setCell ⟨q, 2, none⟩ (.int .i64 (t.k : Int))).setCell ⟨q, 3, none⟩ (.bool false)).setCell ⟨q, 4, none⟩ (.int .u64 0)).setCell ⟨q, 5, none⟩ (.int .i64 0)).heap[j]? = W.heap[j]? := fun j hj => by
    rw [Below.heap_setCell _ _ _ _ hj, Below.heap_setCell _ _ _ _ hj, Below.heap_setCell _ _ _ _ hj, Below.heap_setCell _ _ _ _ hj, Below.heap_setCell _ _ _ _ hj, Below.heap_setCell _ _ _ _ hj]
  have hne := h.sl.ne h.dk
  have nO := h.sl.notOwn h.dk
  obtain ⟨g, v, dk⟩ := h.dk
  refine ⟨⟨g, v, dk.of_blocks fun k hk => e k (fun ek => nO (ek ▸ hk))⟩, hs, h.res.of_block (e _ h.pq), ?_, h.pq, h.pl, h.bl⟩
  exact (((((h.mv.set hne 0 _).set hne 1 _).set hne 2 _).set hne 3 _).set hne 4 _).set hne 5 _
/-- the answer is laid -/
theorem Rd.retNew {B b q p : Nat} {t : SS} {d : DS} {w W : World} (h : Rd B b q p t d w W) (ql : q < w.heap.size) {m : Nat} (hm : m = p) (x y : Value) : Dk B b d ((W.setCell ⟨m, 0, none⟩ x).setCell ⟨m, 1, none⟩ y) ∧ Sl q b t ((W.setCell ⟨m, 0, none⟩ x).setCell ⟨m, 1, none⟩ y) ∧ Mv b q w ((W.setCell ⟨m, 0, none⟩ x).setCell ⟨m, 1, none⟩ y) := by
  subst hm
  have nq : m ≠ q := h.pq
  have e : ∀ j : Nat, j ≠ m → ((W.setCell ⟨m, 0, none⟩ x).setCell ⟨m, 1, none⟩ y).heap[j]? = W.heap[j]? := fun j hj => by
    rw [Below.heap_setCell _ _ _ _ hj, Below.heap_setCell _ _ _ _ hj]
  obtain ⟨g, v, dk⟩ := h.dk
  have nD : ¬ Dk.Own W b m := dk.keepT h.res (by decide) (by decide) (by decide)
  exact ⟨⟨g, v, dk.of_blocks fun k hk => e k (fun ek => nD (ek ▸ hk))⟩, h.sl.of_block (e q (Ne.symm nq)), (h.mv.setNew h.bl h.pl 0 x).setNew h.bl h.pl 1 y⟩
/-- the loop over both -/
def RdIn (B b q p n7 : Nat) (t : SS) (d : DS) (v0 v1 : Value) (L0 L1 : List (List UInt8)) (w : World) (i : Nat) (wx : World) : Prop :=
  Rd B b q p ⟨t.at_, t.k, true, nwTo L0 L1 i, (readTo L0 L1 i).2⟩ d w wx ∧ SnAt wx n7 (readTo L0 L1 i).1.1 (readTo L0 L1 i).1.2 ∧ Row v0 L0 wx ∧ Row v1 L1 wx
def RdRel (B b q p n7 : Nat) (t : SS) (d : DS) (v0 v1 : Value) (L0 L1 : List (List UInt8)) (w : World) (g : Nat) (s43 : Value) (wx : World) : Prop :=
  ∃ i, i + g = 2 ∧ s43 = .int .i64 (i : Int) ∧ RdIn B b q p n7 t d v0 v1 L0 L1 w i wx
set_option maxHeartbeats 2000000 in
theorem read_io (B b q : Nat) (t : SS) (s : DS) (w : World) (dk : Dk B b s w) (sl : Sl q b t w) (hk : 1 ≤ t.k) (hk2 : t.k ≤ 64) (ha : t.at_ + 2 * t.k ≤ s.sec.length) (hr : s.reads ≤ 900000000) (hn : s.opn.length ≤ 900000) (hf1 : 1 ≤ s.fail) (hf2 : s.fail ≤ 2 * t.k) :
    Calls Try.prog 10 #[ptr q] w fun e w' => e = .returned (.tuple #[.agg #[.int .u64 0, .string ⟨#[]⟩], .bool false, .int .i64 18]) ∧ Dk B b ⟨s.sec, s.opn, 0, s.reads + s.fail⟩ w' ∧ Sl q b ⟨t.at_, t.k, false, 0, 0⟩ w' ∧ Mv b q w w' := by
  have R0 := Lib.hid (rd_start dk sl)
  have ql := sl.lt
  have RM := Lib.hid (room_any _ R0.out.sl hk2)
  have c0 := R0.out.sl.c0
  have c1 := R0.out.sl.c1
  have c2 := R0.out.sl.c2
  have c3 := R0.out.sl.c3
  have c4 := R0.out.sl.c4
  have c5 := R0.out.sl.c5
  have g0 := R0.out.sl.fz 0
  have g1 := R0.out.sl.fz 1
  have g2 := R0.out.sl.fz 2
  have g3 := R0.out.sl.fz 3
  have g4 := R0.out.sl.fz 4
  have g5 := R0.out.sl.fz 5
  have rmk : ((43 * (t.k : Int)) == 0) = false := by simp; omega
  have rmn : ¬ (43 * (t.k : Int)) = 0 := by omega
  have R1 := Lib.hid R0.out.reset
  generalize hW : w.alloc (.cells #[.int .u64 0, .string ⟨#[]⟩] 33) = W0 at *
  generalize hRM : 43 * (t.k : Int) = RM0 at *
  clear hRM dk sl
  go_enter Try.func10, Try.ntmps10
  go_wp2_with fail
  (with_reducible refine RM.out.mono ?_)
  rintro e w1 ⟨rfl, rfl⟩
  clear RM
  go_wp2_with fail
  go_region
  have R2 := Lib.hid R1.out.drew
  clear R1 R0 c0 c1 c2 c3 c4 c5 g0 g1 g2 g3 g4 g5
  generalize ((((((w1.setCell ⟨q, 0, none⟩ (ptr b)).setCell ⟨q, 1, none⟩ (.int .i64 (t.at_ : Int))).setCell ⟨q, 2, none⟩ (.int .i64 (t.k : Int))).setCell ⟨q, 3, none⟩ (.bool false)).setCell ⟨q, 4, none⟩ (.int .u64 0)).setCell ⟨q, 5, none⟩ (.int .i64 0)).drew = W2 at *
  have SEC := Lib.hid (sectors_any B b q _ s W2 R2.out.dk R2.out.sl hk hk2 ha hr hn (by omega))
  go_wp2_with fail
  (with_reducible refine SEC.out.mono ?_)
  rintro e w3 ⟨⟨p0, n0, cap0, p1, n1, cap1, okb, d, rfl, k3, hcase⟩, m3⟩
  clear SEC
  have R3 := Lib.hid (R2.out.disk k3 m3)
  clear k3 m3 R2
  rcases hcase with ⟨_, hbad, _⟩ | ⟨rfl, _, _, rfl⟩
  · exfalso
    have hbad' : s.fail = 0 ∨ 2 * t.k < s.fail := hbad
    omega
  have R4 := Lib.hid (R3.out.call ((Below.refl _ _).alloc (Nat.le_refl _) (.cells #[.slice p0 n0 cap0, .slice p1 n1 cap1] 61)))
  have c0 := R4.out.res.c0
  have c1 := R4.out.res.c1
  have f0 := R4.out.res.fz 0
  have f1 := R4.out.res.fz 1
  have FIN := Lib.hid (show Dk B b ⟨s.sec, s.opn, 0, s.reads + s.fail⟩ (((w3.alloc (.cells #[.slice p0 n0 cap0, .slice p1 n1 cap1] 61)).setCell ⟨w.heap.size, 0, none⟩ (.int .u64 0)).setCell ⟨w.heap.size, 1, none⟩ (.string ⟨#[]⟩)) ∧ Sl q b ⟨t.at_, t.k, false, 0, 0⟩ (((w3.alloc (.cells #[.slice p0 n0 cap0, .slice p1 n1 cap1] 61)).setCell ⟨w.heap.size, 0, none⟩ (.int .u64 0)).setCell ⟨w.heap.size, 1, none⟩ (.string ⟨#[]⟩)) ∧ Mv b q w (((w3.alloc (.cells #[.slice p0 n0 cap0, .slice p1 n1 cap1] 61)).setCell ⟨w.heap.size, 0, none⟩ (.int .u64 0)).setCell ⟨w.heap.size, 1, none⟩ (.string ⟨#[]⟩)) from R4.out.retNew ql rfl _ _)
  clear R3 R4
  go_wp2
  refine bodyPost_ret (v := .tuple #[.agg #[.int .u64 0, .string ⟨#[]⟩], .bool false, .int .i64 18]) (by simp [results, Try.results10, go_sem, c0, c1]) rfl ⟨rfl, FIN.out⟩
end Go.Proofs.Ytgfpnjidpdjpaaa.Sl
