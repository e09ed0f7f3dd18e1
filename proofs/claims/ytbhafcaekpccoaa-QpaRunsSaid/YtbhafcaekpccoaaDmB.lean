/- Contracts of package demand's One; the document's One, next. -/
import Derived.Test.YtbhafcaekpccoaaDmA
namespace Go.Proofs.Ytbhafcaekpccoaa.Dm
open Go.ChangeShapes Go.WideShapes Go.ChangeAt Go.RowKit Go.Joins
open Pm (Tk chk chk_iff rowB TkAt Ts TRow chk_any rchk_any wrap_in)
set_option maxRecDepth 100000
set_option maxRecDepth 100000
set_option linter.unusedVariables false
set_option linter.unusedSimpArgs false
/-- a task in a box of its own, behind what was there -/
structure Bx (b : Nat) (w : World) (t : Tk) (w' : World) : Prop where
  c0 : w'.cell? ⟨b, 0, none⟩ = some (.int .i64 t.id)
  c1 : w'.cell? ⟨b, 1, none⟩ = some (.int .i64 t.c)
  c2 : w'.cell? ⟨b, 2, none⟩ = some (.int .i64 t.d)
  c3 : w'.cell? ⟨b, 3, none⟩ = some (.int .i64 t.t)
  c4 : w'.cell? ⟨b, 4, none⟩ = some (.int .i64 t.m)
  bel : Below w.heap.size w w'
theorem bx_new (w : World) (t : Tk) (T : TypeId) : Bx w.heap.size w t (w.alloc (.cells #[.int .i64 t.id, .int .i64 t.c, .int .i64 t.d, .int .i64 t.t, .int .i64 t.m] T)) :=
  ⟨by simp [go_sem], by simp [go_sem], by simp [go_sem], by simp [go_sem], by simp [go_sem], (Below.refl _ _).alloc (Nat.le_refl _) _⟩
theorem Bx.call {b : Nat} {w w1 w2 : World} {t : Tk} (h : Bx b w t w1) (hb : Below w1.heap.size w1 w2) : Bx b w t w2 :=
  ⟨carry hb h.c0, carry hb h.c1, carry hb h.c2, carry hb h.c3, carry hb h.c4, h.bel.trans (hb.mono h.bel.size)⟩
theorem Bx.drew {b : Nat} {w w1 : World} {t : Tk} (h : Bx b w t w1) : Bx b w t w1.drew :=
  ⟨h.c0, h.c1, h.c2, h.c3, h.c4, h.bel.drew⟩
theorem one_yes {t : Tk} {x : Int} (h : chk t = true) (hx : isTime x = true) : oneR t x = t.c * cnt t x := by unfold oneR; rw [if_pos ⟨h, hx⟩]; rfl
theorem one_no {t : Tk} {x : Int} (h : chk t = false) : oneR t x = 0 := by unfold oneR; rw [if_neg (by rw [h]; simp)]
theorem one_no2 {t : Tk} {x : Int} (h : isTime x = false) : oneR t x = 0 := by unfold oneR; rw [if_neg (by rw [h]; simp)]
theorem cnt_le_time {t : Tk} {x : Int} (h : chk t = true) (hx : isTime x = true) : 0 ≤ cnt t x ∧ cnt t x ≤ 1099511627777 := by
  obtain ⟨h0, h1⟩ := isTime_iff.1 hx
  obtain ⟨-, -, c1, c2, c3, c4, -⟩ := chk_iff.1 h
  refine ⟨cnt_nonneg (by omega), ?_⟩
  by_cases hd : x < t.d
  · rw [cnt_lt hd]; omega
  · rw [cnt_ge (by omega)]
    have := Int.ediv_le_self (a := x - t.d) t.t (by omega)
    omega
set_option maxHeartbeats 2000000 in
theorem one_any (t : Tk) (x : Int) (w : World) :
    Calls Try.prog 59 #[t.v, .int .i64 x] w fun e w' => e = .returned (.int .i64 (oneR t x)) ∧ Below w.heap.size w w' := by
  have CK := Lib.hid (chk_any t)
  have TM := Lib.hid (isTime_any x)
  have B0 := Lib.hid (bx_new w t 42)
  cases hc : chk t with
  | false =>
    have E := Lib.hid (one_no (x := x) hc)
    rw [hc] at CK
    clear hc
    generalize oneR t x = r at *
    have TC := fun w' => Lib.hid (fun h : Bx w.heap.size w t w' => h)
    obtain ⟨ti, tc, td, tt, tm⟩ := t
    unfold Tk.v at *
    simp only at *
    go_enter Try.func59, Try.ntmps59
    go_wp2_with fail
    (with_reducible refine (CK.out _).mono ?_)
    rintro e w1 ⟨rfl, b1⟩
    have B1 := Lib.hid (B0.out.call b1)
    clear b1
    go_wp2
    go_ret
    exact ⟨by rw [E.out]; rfl, B1.out.bel⟩
  | true =>
    rw [hc] at CK
    cases hx : isTime x with
    | false =>
      have E := Lib.hid (one_no2 (t := t) hx)
      rw [hx] at TM
      clear hx hc
      generalize oneR t x = r at *
      obtain ⟨ti, tc, td, tt, tm⟩ := t
      unfold Tk.v at *
      simp only at *
      go_enter Try.func59, Try.ntmps59
      go_wp2_with fail
      (with_reducible refine (CK.out _).mono ?_)
      rintro e w1 ⟨rfl, b1⟩
      have B1 := Lib.hid (B0.out.call b1)
      clear b1
      go_wp2_with fail
      (with_reducible refine (TM.out _).mono ?_)
      rintro e w2 ⟨rfl, rfl⟩
      go_wp2
      go_ret
      exact ⟨by rw [E.out]; rfl, B1.out.bel⟩
    | true =>
      have E := Lib.hid (one_yes hc hx)
      rw [hx] at TM
      obtain ⟨h0, h1⟩ := isTime_iff.1 hx
      have DU := Lib.hid (fun w => due_any t x w hc (by omega) h1)
      have n0 := one_le hc h0
      unfold one at n0
      obtain ⟨n1, n2⟩ := n0
      generalize oneR t x = r at *
      generalize cnt t x = n at *
      have wm : IntKind.i64.wrap (t.c * n) = t.c * n := wrap_in (by omega) (by omega)
      generalize hM : t.c * n = M at *
      clear hx hc
      obtain ⟨ti, tc, td, tt, tm⟩ := t
      unfold Tk.v at *
      simp only at *
      go_enter Try.func59, Try.ntmps59
      go_wp2_with fail
      (with_reducible refine (CK.out _).mono ?_)
      rintro e w1 ⟨rfl, b1⟩
      have B1 := Lib.hid (B0.out.call b1)
      clear b1
      go_wp2_with fail
      (with_reducible refine (TM.out _).mono ?_)
      rintro e w2 ⟨rfl, rfl⟩
      obtain ⟨c0, c1, c2, c3, c4, bel⟩ := B1.out
      have BEL := Lib.hid bel
      clear bel CK TM B0
      go_wp2_with fail
      have BD := Lib.hid B1.out.drew
      go_region_held3 (fun w' => Bx w.heap.size w ⟨ti, tc, td, tt, tm⟩ w' ∧ w'.cell? ⟨w.heap.size, 0, none⟩ = some (.int .i64 ti) ∧ w'.cell? ⟨w.heap.size, 1, none⟩ = some (.int .i64 tc) ∧ w'.cell? ⟨w.heap.size, 2, none⟩ = some (.int .i64 td) ∧ w'.cell? ⟨w.heap.size, 3, none⟩ = some (.int .i64 tt) ∧ w'.cell? ⟨w.heap.size, 4, none⟩ = some (.int .i64 tm)) (first | exact ⟨BD.out, BD.out.c0, BD.out.c1, BD.out.c2, BD.out.c3, BD.out.c4⟩ | assumption | fail) (first | (go_at_call 57; (with_reducible refine (DU.out _).mono ?_); rintro e w3 ⟨rfl, b3⟩; (have B3 := BD.out.call b3); (have S3 := And.intro B3 (And.intro B3.c0 (And.intro B3.c1 (And.intro B3.c2 (And.intro B3.c3 B3.c4)))))) | fail)
      all_goals
        have FIN := Lib.hid B3.bel
        clear B3 S3 BD
        go_wp2
        go_ret
        exact ⟨by rw [E.out]; rfl, FIN.out⟩
end Go.Proofs.Ytbhafcaekpccoaa.Dm
