/- The document's Check of an op. -/
import Derived.Test.YtnaanahgflbihaaOpD
import Derived.Deep.RegionHeld3
import Derived.Deep.RegionWith
namespace Go.Proofs.Ytnaanahgflbihaa.Ox
open Go.ChangeShapes Go.WideShapes Go.ChangeAt Go.RowKit Go.Joins
open Pm (Tk chk chk_iff below_drewN)
set_option maxRecDepth 100000
set_option maxRecDepth 100000
set_option linter.unusedVariables false
set_option linter.unusedSimpArgs false
theorem box_call (w : World) (o : Od) : ∀ w1, Below (w.alloc (.cells o.cs 29)).heap.size (w.alloc (.cells o.cs 29)) w1 → (w1.cell? ⟨w.heap.size, 0, none⟩ = some (.int .i64 o.kind) ∧ w1.cell? ⟨w.heap.size, 1, none⟩ = some (.int .i64 o.task.id) ∧ w1.cell? ⟨w.heap.size, 2, none⟩ = some (.int .i64 o.task.c) ∧ w1.cell? ⟨w.heap.size, 3, none⟩ = some (.int .i64 o.task.d) ∧ w1.cell? ⟨w.heap.size, 4, none⟩ = some (.int .i64 o.task.t) ∧ w1.cell? ⟨w.heap.size, 5, none⟩ = some (.int .i64 o.task.m) ∧ w1.cell? ⟨w.heap.size, 6, none⟩ = some (.bool o.server) ∧ w1.cell? ⟨w.heap.size, 7, none⟩ = some (.int .i64 o.id) ∧ w1.cell? ⟨w.heap.size, 8, none⟩ = some (.int .i64 o.c) ∧ w1.cell? ⟨w.heap.size, 9, none⟩ = some (.int .i64 o.mode)) ∧ Below w.heap.size w w1 := fun w1 h1 => by
  have hb : Below w.heap.size w (w.alloc (.cells o.cs 29)) := (Below.refl w.heap.size w).alloc (Nat.le_refl _) _
  exact ⟨((at_new w o).call h1).cells, hb.trans (h1.mono hb.size)⟩
theorem box_cells (w : World) (o : Od) : (w.alloc (.cells o.cs 29)).cell? ⟨w.heap.size, 0, none⟩ = some (.int .i64 o.kind) ∧ (w.alloc (.cells o.cs 29)).cell? ⟨w.heap.size, 1, none⟩ = some (.int .i64 o.task.id) ∧ (w.alloc (.cells o.cs 29)).cell? ⟨w.heap.size, 2, none⟩ = some (.int .i64 o.task.c) ∧ (w.alloc (.cells o.cs 29)).cell? ⟨w.heap.size, 3, none⟩ = some (.int .i64 o.task.d) ∧ (w.alloc (.cells o.cs 29)).cell? ⟨w.heap.size, 4, none⟩ = some (.int .i64 o.task.t) ∧ (w.alloc (.cells o.cs 29)).cell? ⟨w.heap.size, 5, none⟩ = some (.int .i64 o.task.m) ∧ (w.alloc (.cells o.cs 29)).cell? ⟨w.heap.size, 6, none⟩ = some (.bool o.server) ∧ (w.alloc (.cells o.cs 29)).cell? ⟨w.heap.size, 7, none⟩ = some (.int .i64 o.id) ∧ (w.alloc (.cells o.cs 29)).cell? ⟨w.heap.size, 8, none⟩ = some (.int .i64 o.c) ∧ (w.alloc (.cells o.cs 29)).cell? ⟨w.heap.size, 9, none⟩ = some (.int .i64 o.mode) := (at_new w o).cells
set_option maxHeartbeats 1000000 in
theorem rcheck_not (o : Od) (w : World) (h : o ≠ bareR o) :
    Calls Try.prog 52 #[o.v] w fun e w' => e = .returned (.bool false) ∧ Below w.heap.size w w' := by
  have BA := Lib.hid (rbare_any o)
  have EQ := neq_op o (bareR o)
  rw [decide_eq_false h] at EQ
  have HZ := Lib.hid (box_call w o)
  have K0 := Lib.hid (box_cells w o)
  clear h
  generalize bareR o = b at *
  obtain ⟨k, ⟨i, c, d, t, m⟩, s, id, cc, mo⟩ := o
  obtain ⟨bk, ⟨bi, bc, bd, bt, bm⟩, bs, bid, bcc, bmo⟩ := b
  unfold Od.v Od.cs at *
  simp only [Bool.not_false] at *
  go_enter Try.func52, Try.ntmps52
  go_wp2_with fail
  first | go_region_with (go_at_call 33; (with_reducible refine (BA.out _).mono ?_); rintro e w1 ⟨rfl, b1⟩; (obtain ⟨kn, bn⟩ := HZ.out w1 (by first | exact b1 | exact (Below.refl _ _).drew.trans b1)); (obtain ⟨c0, c1, c2, c3, c4, c5, c6, c7, c8, c9⟩ := kn); clear b1) | fail
  all_goals go_wp2
  all_goals go_ret
  all_goals exact ⟨rfl, bn⟩
set_option maxHeartbeats 4000000 in
theorem rcheck_admit (t : Tk) (s : Bool) (w : World) :
    Calls Try.prog 52 #[(Od.mk 1 t s 0 0 0).v] w fun e w' => e = .returned (.bool (chk t && (!s || t.d == t.t))) ∧ Below w.heap.size w w' := by
  have BA := Lib.hid (rbare_any ⟨1, t, s, 0, 0, 0⟩)
  have E : bareR ⟨1, t, s, 0, 0, 0⟩ = ⟨1, t, s, 0, 0, 0⟩ := rfl
  have EQ := neq_op ⟨1, t, s, 0, 0, 0⟩ ⟨1, t, s, 0, 0, 0⟩
  rw [decide_eq_true rfl] at EQ
  have HZ := Lib.hid (box_call w ⟨1, t, s, 0, 0, 0⟩)
  have K0 := Lib.hid (box_cells w ⟨1, t, s, 0, 0, 0⟩)
  have CK := Lib.hid (Pm.rchk_any t)
  rw [E] at BA
  clear E
  obtain ⟨i, c, d, t, m⟩ := t
  unfold Od.v Od.cs at *
  unfold Tk.v at CK
  simp only [Bool.not_true] at *
  generalize chk ⟨i, c, d, t, m⟩ = q at *
  go_enter Try.func52, Try.ntmps52
  go_wp2_with fail
  first | go_region_held3 (fun w' => w'.cell? ⟨w.heap.size, 0, none⟩ = some (.int .i64 1) ∧ w'.cell? ⟨w.heap.size, 1, none⟩ = some (.int .i64 i) ∧ w'.cell? ⟨w.heap.size, 2, none⟩ = some (.int .i64 c) ∧ w'.cell? ⟨w.heap.size, 3, none⟩ = some (.int .i64 d) ∧ w'.cell? ⟨w.heap.size, 4, none⟩ = some (.int .i64 t) ∧ w'.cell? ⟨w.heap.size, 5, none⟩ = some (.int .i64 m) ∧ w'.cell? ⟨w.heap.size, 6, none⟩ = some (.bool s) ∧ w'.cell? ⟨w.heap.size, 7, none⟩ = some (.int .i64 0) ∧ w'.cell? ⟨w.heap.size, 8, none⟩ = some (.int .i64 0) ∧ w'.cell? ⟨w.heap.size, 9, none⟩ = some (.int .i64 0)) (first | exact K0.out | assumption | fail) (first | (go_at_call 33; (with_reducible refine (BA.out _).mono ?_); rintro e w1 ⟨rfl, b1⟩; (obtain ⟨kn, bn⟩ := HZ.out w1 (by first | exact b1 | exact (Below.refl _ _).drew.trans b1)); clear b1) | fail) | fail
  have c6 := kn.2.2.2.2.2.2.1
  obtain ⟨c0, c1, c2, c3, c4, c5, -, -, -, -⟩ := kn
  have CB : Hid (∀ w2, Below w1.heap.size w1 w2 → (w2.cell? ⟨w.heap.size, 3, none⟩ = some (.int .i64 d) ∧ w2.cell? ⟨w.heap.size, 4, none⟩ = some (.int .i64 t) ∧ w2.cell? ⟨w.heap.size, 6, none⟩ = some (.bool s)) ∧ Below w.heap.size w w2) := Lib.hid (fun w2 h2 => by
    refine ⟨⟨?_, ?_, ?_⟩, bn.trans (h2.mono bn.size)⟩
    · rw [h2.cell (p := ⟨w.heap.size, 3, none⟩) (World.block_lt_of_cell? _ _ c3)]; exact c3
    · rw [h2.cell (p := ⟨w.heap.size, 4, none⟩) (World.block_lt_of_cell? _ _ c4)]; exact c4
    · rw [h2.cell (p := ⟨w.heap.size, 6, none⟩) (World.block_lt_of_cell? _ _ c6)]; exact c6)
  clear bn HZ K0 BA EQ
  go_wp2_with fail
  (with_reducible refine (CK.out _).mono ?_)
  rintro e w2 ⟨rfl, b2⟩
  obtain ⟨⟨d3, d4, d6⟩, f2⟩ := CB.out w2 b2
  have F2 := Lib.hid f2
  clear b2 f2 CB c0 c1 c2 c3 c4 c5 c6 CK
  cases q <;> cases s <;> cases hdt : (d == t) <;>
  · go_wp2
    go_ret
    exact ⟨by first | rfl | (simp [hdt]; done), F2.out⟩
set_option maxHeartbeats 4000000 in
/-- the others have no call behind -/
theorem rcheck_other (o : Od) (w : World) (hb : o = bareR o) (q : Bool) (hq : chkR o = q) (hk : o.kind ≠ 1) :
    Calls Try.prog 52 #[o.v] w fun e w' => e = .returned (.bool q) ∧ Below w.heap.size w w' := by
  have BA := Lib.hid (rbare_any o)
  rw [← hb] at BA
  have EQ := neq_op o o
  rw [decide_eq_true rfl] at EQ
  have HZ := Lib.hid (box_call w o)
  have K0 := Lib.hid (box_cells w o)
  unfold chkR at hq
  rw [decide_eq_true hb, Bool.true_and] at hq
  unfold mayR at hq
  unfold bareR at hb
  rw [if_neg hk] at hb hq
  obtain ⟨k, ⟨i, c, d, t, m⟩, s, id, cc, mo⟩ := o
  unfold Od.v Od.cs at *
  simp only [Bool.not_true] at *
  have k1 : (k == 1) = false := by simpa using hk
  by_cases h2 : k = 2
  · rw [if_pos h2] at hb hq
    unfold tk0 at hb
    cases hb
    clear hk
    by_cases i0 : id < 0
    · obtain rfl : q = false := by rw [← hq]; simp; omega
      have e1 : decide (id < 0) = true := decide_eq_true i0
      clear hq i0
      go_enter Try.func52, Try.ntmps52
      go_wp2_with fail
      first | go_region_with (go_at_call 33; (with_reducible refine (BA.out _).mono ?_); rintro e w1 ⟨rfl, b1⟩; (obtain ⟨kn, bn⟩ := HZ.out w1 (by first | exact b1 | exact (Below.refl _ _).drew.trans b1)); (obtain ⟨c0, c1, c2, c3, c4, c5, c6, c7, c8, c9⟩ := kn); clear b1) | fail
      all_goals go_wp2
      all_goals go_ret
      all_goals exact ⟨rfl, bn⟩
    have e1 : decide (id < 0) = false := decide_eq_false i0
    by_cases i2 : 1023 < id
    · obtain rfl : q = false := by rw [← hq]; simp; omega
      have e2 : decide (1023 < id) = true := decide_eq_true i2
      clear hq i0 i2
      go_enter Try.func52, Try.ntmps52
      go_wp2_with fail
      first | go_region_held3 (fun w' => w'.cell? ⟨w.heap.size, 0, none⟩ = some (.int .i64 2) ∧ w'.cell? ⟨w.heap.size, 1, none⟩ = some (.int .i64 0) ∧ w'.cell? ⟨w.heap.size, 2, none⟩ = some (.int .i64 0) ∧ w'.cell? ⟨w.heap.size, 3, none⟩ = some (.int .i64 0) ∧ w'.cell? ⟨w.heap.size, 4, none⟩ = some (.int .i64 0) ∧ w'.cell? ⟨w.heap.size, 5, none⟩ = some (.int .i64 0) ∧ w'.cell? ⟨w.heap.size, 6, none⟩ = some (.bool false) ∧ w'.cell? ⟨w.heap.size, 7, none⟩ = some (.int .i64 id) ∧ w'.cell? ⟨w.heap.size, 8, none⟩ = some (.int .i64 0) ∧ w'.cell? ⟨w.heap.size, 9, none⟩ = some (.int .i64 0)) (first | exact K0.out | assumption | fail) (first | (go_at_call 33; (with_reducible refine (BA.out _).mono ?_); rintro e w1 ⟨rfl, b1⟩; (obtain ⟨kn, bn⟩ := HZ.out w1 (by first | exact b1 | exact (Below.refl _ _).drew.trans b1)); clear b1) | fail) | fail
      go_wp2
      go_ret
      exact ⟨rfl, bn⟩
    have e2 : decide (1023 < id) = false := decide_eq_false i2
    obtain rfl : q = true := by rw [← hq]; simp; omega
    clear hq i0 i2
    go_enter Try.func52, Try.ntmps52
    go_wp2_with fail
    first | go_region_held3 (fun w' => w'.cell? ⟨w.heap.size, 0, none⟩ = some (.int .i64 2) ∧ w'.cell? ⟨w.heap.size, 1, none⟩ = some (.int .i64 0) ∧ w'.cell? ⟨w.heap.size, 2, none⟩ = some (.int .i64 0) ∧ w'.cell? ⟨w.heap.size, 3, none⟩ = some (.int .i64 0) ∧ w'.cell? ⟨w.heap.size, 4, none⟩ = some (.int .i64 0) ∧ w'.cell? ⟨w.heap.size, 5, none⟩ = some (.int .i64 0) ∧ w'.cell? ⟨w.heap.size, 6, none⟩ = some (.bool false) ∧ w'.cell? ⟨w.heap.size, 7, none⟩ = some (.int .i64 id) ∧ w'.cell? ⟨w.heap.size, 8, none⟩ = some (.int .i64 0) ∧ w'.cell? ⟨w.heap.size, 9, none⟩ = some (.int .i64 0)) (first | exact K0.out | assumption | fail) (first | (go_at_call 33; (with_reducible refine (BA.out _).mono ?_); rintro e w1 ⟨rfl, b1⟩; (obtain ⟨kn, bn⟩ := HZ.out w1 (by first | exact b1 | exact (Below.refl _ _).drew.trans b1)); clear b1) | fail) | fail
    go_wp2
    go_ret
    exact ⟨rfl, bn⟩
  rw [if_neg h2] at hb hq
  have k2 : (k == 2) = false := by simpa using h2
  by_cases h3 : k = 3
  · rw [if_pos h3] at hb hq
    unfold tk0 at hb
    cases hb
    clear hk h2
    by_cases i0 : id < 0
    · obtain rfl : q = false := by rw [← hq]; simp; omega
      have e1 : decide (id < 0) = true := decide_eq_true i0
      clear hq i0
      go_enter Try.func52, Try.ntmps52
      go_wp2_with fail
      first | go_region_with (go_at_call 33; (with_reducible refine (BA.out _).mono ?_); rintro e w1 ⟨rfl, b1⟩; (obtain ⟨kn, bn⟩ := HZ.out w1 (by first | exact b1 | exact (Below.refl _ _).drew.trans b1)); (obtain ⟨c0, c1, c2, c3, c4, c5, c6, c7, c8, c9⟩ := kn); clear b1) | fail
      all_goals go_wp2
      all_goals go_ret
      all_goals exact ⟨rfl, bn⟩
    have e1 : decide (id < 0) = false := decide_eq_false i0
    by_cases i2 : 1023 < id
    · obtain rfl : q = false := by rw [← hq]; simp; omega
      have e2 : decide (1023 < id) = true := decide_eq_true i2
      clear hq i0 i2
      go_enter Try.func52, Try.ntmps52
      go_wp2_with fail
      first | go_region_held3 (fun w' => w'.cell? ⟨w.heap.size, 0, none⟩ = some (.int .i64 3) ∧ w'.cell? ⟨w.heap.size, 1, none⟩ = some (.int .i64 0) ∧ w'.cell? ⟨w.heap.size, 2, none⟩ = some (.int .i64 0) ∧ w'.cell? ⟨w.heap.size, 3, none⟩ = some (.int .i64 0) ∧ w'.cell? ⟨w.heap.size, 4, none⟩ = some (.int .i64 0) ∧ w'.cell? ⟨w.heap.size, 5, none⟩ = some (.int .i64 0) ∧ w'.cell? ⟨w.heap.size, 6, none⟩ = some (.bool false) ∧ w'.cell? ⟨w.heap.size, 7, none⟩ = some (.int .i64 id) ∧ w'.cell? ⟨w.heap.size, 8, none⟩ = some (.int .i64 cc) ∧ w'.cell? ⟨w.heap.size, 9, none⟩ = some (.int .i64 0)) (first | exact K0.out | assumption | fail) (first | (go_at_call 33; (with_reducible refine (BA.out _).mono ?_); rintro e w1 ⟨rfl, b1⟩; (obtain ⟨kn, bn⟩ := HZ.out w1 (by first | exact b1 | exact (Below.refl _ _).drew.trans b1)); clear b1) | fail) | fail
      go_wp2
      go_ret
      exact ⟨rfl, bn⟩
    have e2 : decide (1023 < id) = false := decide_eq_false i2
    obtain rfl : q = (decide (1 ≤ cc) && decide (cc ≤ 2147483648)) := by rw [← hq, Bool.eq_iff_iff]; simp; omega
    clear hq i0 i2
    cases g1 : decide (1 ≤ cc) <;> cases g2 : decide (cc ≤ 2147483648) <;>
    · go_enter Try.func52, Try.ntmps52
      go_wp2_with fail
      first | go_region_held3 (fun w' => w'.cell? ⟨w.heap.size, 0, none⟩ = some (.int .i64 3) ∧ w'.cell? ⟨w.heap.size, 1, none⟩ = some (.int .i64 0) ∧ w'.cell? ⟨w.heap.size, 2, none⟩ = some (.int .i64 0) ∧ w'.cell? ⟨w.heap.size, 3, none⟩ = some (.int .i64 0) ∧ w'.cell? ⟨w.heap.size, 4, none⟩ = some (.int .i64 0) ∧ w'.cell? ⟨w.heap.size, 5, none⟩ = some (.int .i64 0) ∧ w'.cell? ⟨w.heap.size, 6, none⟩ = some (.bool false) ∧ w'.cell? ⟨w.heap.size, 7, none⟩ = some (.int .i64 id) ∧ w'.cell? ⟨w.heap.size, 8, none⟩ = some (.int .i64 cc) ∧ w'.cell? ⟨w.heap.size, 9, none⟩ = some (.int .i64 0)) (first | exact K0.out | assumption | fail) (first | (go_at_call 33; (with_reducible refine (BA.out _).mono ?_); rintro e w1 ⟨rfl, b1⟩; (obtain ⟨kn, bn⟩ := HZ.out w1 (by first | exact b1 | exact (Below.refl _ _).drew.trans b1)); clear b1) | fail) | fail
      go_wp2
      go_ret
      exact ⟨rfl, bn⟩
  rw [if_neg h3] at hb hq
  have k3 : (k == 3) = false := by simpa using h3
  by_cases h4 : k = 4
  · rw [if_pos h4] at hb hq
    unfold tk0 at hb
    cases hb
    clear hk h2 h3
    obtain rfl : q = (decide (0 ≤ mo) && decide (mo ≤ 3)) := by rw [← hq, Bool.eq_iff_iff]; simp
    clear hq
    cases g1 : decide (0 ≤ mo) <;> cases g2 : decide (mo ≤ 3) <;>
    · go_enter Try.func52, Try.ntmps52
      go_wp2_with fail
      first | go_region_held3 (fun w' => w'.cell? ⟨w.heap.size, 0, none⟩ = some (.int .i64 4) ∧ w'.cell? ⟨w.heap.size, 1, none⟩ = some (.int .i64 0) ∧ w'.cell? ⟨w.heap.size, 2, none⟩ = some (.int .i64 0) ∧ w'.cell? ⟨w.heap.size, 3, none⟩ = some (.int .i64 0) ∧ w'.cell? ⟨w.heap.size, 4, none⟩ = some (.int .i64 0) ∧ w'.cell? ⟨w.heap.size, 5, none⟩ = some (.int .i64 0) ∧ w'.cell? ⟨w.heap.size, 6, none⟩ = some (.bool false) ∧ w'.cell? ⟨w.heap.size, 7, none⟩ = some (.int .i64 0) ∧ w'.cell? ⟨w.heap.size, 8, none⟩ = some (.int .i64 0) ∧ w'.cell? ⟨w.heap.size, 9, none⟩ = some (.int .i64 mo)) (first | exact K0.out | assumption | fail) (first | (go_at_call 33; (with_reducible refine (BA.out _).mono ?_); rintro e w1 ⟨rfl, b1⟩; (obtain ⟨kn, bn⟩ := HZ.out w1 (by first | exact b1 | exact (Below.refl _ _).drew.trans b1)); clear b1) | fail) | fail
      go_wp2
      go_ret
      exact ⟨rfl, bn⟩
  rw [if_neg h4] at hb hq
  have k4 : (k == 4) = false := by simpa using h4
  unfold tk0 at hb
  cases hb
  obtain rfl : q = false := hq.symm
  clear hk h2 h3 h4 hq
  go_enter Try.func52, Try.ntmps52
  go_wp2_with fail
  first | go_region_held3 (fun w' => w'.cell? ⟨w.heap.size, 0, none⟩ = some (.int .i64 k) ∧ w'.cell? ⟨w.heap.size, 1, none⟩ = some (.int .i64 0) ∧ w'.cell? ⟨w.heap.size, 2, none⟩ = some (.int .i64 0) ∧ w'.cell? ⟨w.heap.size, 3, none⟩ = some (.int .i64 0) ∧ w'.cell? ⟨w.heap.size, 4, none⟩ = some (.int .i64 0) ∧ w'.cell? ⟨w.heap.size, 5, none⟩ = some (.int .i64 0) ∧ w'.cell? ⟨w.heap.size, 6, none⟩ = some (.bool false) ∧ w'.cell? ⟨w.heap.size, 7, none⟩ = some (.int .i64 0) ∧ w'.cell? ⟨w.heap.size, 8, none⟩ = some (.int .i64 0) ∧ w'.cell? ⟨w.heap.size, 9, none⟩ = some (.int .i64 0)) (first | exact K0.out | assumption | fail) (first | (go_at_call 33; (with_reducible refine (BA.out _).mono ?_); rintro e w1 ⟨rfl, b1⟩; (obtain ⟨kn, bn⟩ := HZ.out w1 (by first | exact b1 | exact (Below.refl _ _).drew.trans b1)); clear b1) | fail) | fail
  go_wp2
  go_ret
  exact ⟨rfl, bn⟩
theorem rcheck_any (o : Od) (w : World) :
    Calls Try.prog 52 #[o.v] w fun e w' => e = .returned (.bool (chkR o)) ∧ Below w.heap.size w w' := by
  by_cases h : o = bareR o
  · by_cases hk : o.kind = 1
    · have e : bareR o = ⟨1, o.task, o.server, 0, 0, 0⟩ := by unfold bareR; rw [if_pos hk]
      have e2 : chkR o = (chk o.task && (!o.server || o.task.d == o.task.t)) := by
        unfold chkR mayR
        rw [decide_eq_true h, Bool.true_and, if_pos hk]
      rw [e2]
      have := rcheck_admit o.task o.server w
      rw [← e, ← h] at this
      exact this
    · exact rcheck_other o w h _ rfl hk
  · have e : chkR o = false := by unfold chkR; rw [decide_eq_false h, Bool.false_and]
    rw [e]
    exact rcheck_not o w h
end Go.Proofs.Ytnaanahgflbihaa.Ox
