/- Contracts of package demand's isTime, due, deadline, One; the document's time, next, One. -/
import Derived.Test.YtbhafcaekpccoaaPmM
import Derived.Test.YtbhafcaekpccoaaDmMath
import Derived.Deep.RegionHeld3
namespace Go.Proofs.Ytbhafcaekpccoaa.Dm
open Go.ChangeShapes Go.WideShapes Go.ChangeAt Go.RowKit Go.Joins
open Pm (Tk chk chk_iff rowB TkAt Ts TRow chk_any rchk_any wrap_in)
set_option maxRecDepth 100000
set_option maxRecDepth 100000
set_option linter.unusedVariables false
set_option linter.unusedSimpArgs false
theorem isTime_iff {x : Int} : isTime x = true ↔ 0 ≤ x ∧ x ≤ 1099511627776 := by simp [isTime]
theorem isTime_any (x : Int) (w : World) :
    Calls Try.prog 56 #[.int .i64 x] w fun e w' => e = .returned (.bool (isTime x)) ∧ w' = w := by
  by_cases h : 0 ≤ x
  · have E : Hid (isTime x = decide (x ≤ 1099511627776)) := Lib.hid (by unfold isTime; apply decide_eq_decide.2; omega)
    go_enter Try.func56, Try.ntmps56
    go_wp2
    go_ret
    exact ⟨by rw [E.out]; rfl, rfl⟩
  · have E : Hid (isTime x = false) := Lib.hid (by unfold isTime; exact decide_eq_false (by omega))
    have h' : x < 0 := by omega
    clear h
    go_enter Try.func56, Try.ntmps56
    go_wp2
    go_ret
    exact ⟨by rw [E.out]; rfl, rfl⟩
theorem time_any (x : Int) (w : World) :
    Calls Try.prog 48 #[.int .i64 x] w fun e w' => e = .returned (.bool (isTime x)) ∧ w' = w := by
  by_cases h : 0 ≤ x
  · have E : Hid (isTime x = decide (x ≤ 1099511627776)) := Lib.hid (by unfold isTime; apply decide_eq_decide.2; omega)
    go_enter Try.func48, Try.ntmps48
    go_wp2
    go_ret
    exact ⟨by rw [E.out]; rfl, rfl⟩
  · have E : Hid (isTime x = false) := Lib.hid (by unfold isTime; exact decide_eq_false (by omega))
    have h' : x < 0 := by omega
    clear h
    go_enter Try.func48, Try.ntmps48
    go_wp2
    go_ret
    exact ⟨by rw [E.out]; rfl, rfl⟩
/-- a quotient's arithmetic -/
structure Quo (a t q : Int) : Prop where
  z : ¬ t = 0
  zb : (t == 0) = false
  d : a / t = q
  d' : a.tdiv t = q
  q0 : 0 ≤ q
  q1 : q ≤ a
  w : IntKind.i64.wrap q = q
theorem quo_of {a t : Int} (h0 : 0 ≤ a) (h1 : a ≤ 9223372036854775807) (ht : 1 ≤ t) : Quo a t (a / t) := by
  have q0 := Int.ediv_nonneg h0 (show 0 ≤ t by omega)
  have q1 := Int.ediv_le_self t h0
  exact ⟨by omega, by simp; omega, rfl, Int.tdiv_eq_ediv_of_nonneg h0, q0, q1, wrap_in (by omega) (by omega)⟩
set_option maxHeartbeats 1000000 in
theorem due_any (t : Tk) (x : Int) (w : World) (ht : chk t = true) (h0 : -1 ≤ x) (h1 : x ≤ 1099511627776) :
    Calls Try.prog 57 #[t.v, .int .i64 x] w fun e w' => e = .returned (.int .i64 (cnt t x)) ∧ Below w.heap.size w w' := by
  obtain ⟨-, -, c1, c2, c3, c4, -⟩ := chk_iff.1 ht
  clear ht
  by_cases h : x < t.d
  · have E := Lib.hid (cnt_lt h)
    generalize cnt t x = r at *
    obtain ⟨ti, tc, td, tt, tm⟩ := t
    unfold Tk.v
    simp only at *
    go_enter Try.func57, Try.ntmps57
    go_wp2
    go_ret
    exact ⟨by rw [E.out]; rfl, (Below.refl _ _).alloc (Nat.le_refl _) _⟩
  · have E := Lib.hid (cnt_ge (show t.d ≤ x by omega))
    obtain ⟨z, zb, d, d', q0, q1, wq⟩ := quo_of (a := x - t.d) (t := t.t) (by omega) (by omega) (by omega)
    generalize (x - t.d) / t.t = q at *
    generalize cnt t x = r at *
    have h' : t.d ≤ x := by omega
    clear h
    obtain ⟨ti, tc, td, tt, tm⟩ := t
    unfold Tk.v
    simp only at *
    generalize hA : x - td = A at *
    have w1 : IntKind.i64.wrap A = A := wrap_in (by omega) (by omega)
    go_enter Try.func57, Try.ntmps57
    go_wp2
    go_ret
    exact ⟨by rw [E.out]; rfl, (Below.refl _ _).alloc (Nat.le_refl _) _⟩
set_option maxHeartbeats 1000000 in
theorem deadline_any (t : Tk) (n : Int) (w : World) (h1 : 0 ≤ n * t.t) (h2 : n * t.t ≤ 4611686018427387904) (h3 : 0 ≤ t.d) (h4 : t.d ≤ 2147483648) :
    Calls Try.prog 58 #[t.v, .int .i64 n] w fun e w' => e = .returned (.int .i64 (t.d + t.t * n)) ∧ Below w.heap.size w w' := by
  have e : t.t * n = n * t.t := Int.mul_comm _ _
  rw [e]
  clear e
  obtain ⟨ti, tc, td, tt, tm⟩ := t
  unfold Tk.v
  simp only at *
  generalize hM : n * tt = M at *
  go_enter Try.func58, Try.ntmps58
  go_wp2
  go_ret
  exact ⟨rfl, (Below.refl _ _).alloc (Nat.le_refl _) _⟩
end Go.Proofs.Ytbhafcaekpccoaa.Dm
