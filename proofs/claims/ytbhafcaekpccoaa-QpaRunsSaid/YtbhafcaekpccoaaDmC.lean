/- Contracts of the document's One, next of layer 10. -/
import Derived.Test.YtbhafcaekpccoaaDmB
import Derived.BigQuiet
namespace Go.Proofs.Ytbhafcaekpccoaa.Dm
open Go.ChangeShapes Go.WideShapes Go.ChangeAt Go.RowKit Go.Joins
open Pm (Tk chk chk_iff rowB TkAt Ts TRow chk_any rchk_any wrap_in below_drewN)
set_option maxRecDepth 100000
set_option maxRecDepth 100000
set_option linter.unusedVariables false
set_option linter.unusedSimpArgs false
theorem Bx.drewN {b : Nat} {w w1 : World} {t : Tk} (h : Bx b w t w1) (n : Nat) : Bx b w t (w1.drewN n) :=
  ⟨h.c0, h.c1, h.c2, h.c3, h.c4, h.bel.trans ((below_drewN w1 n).mono h.bel.size)⟩
set_option maxHeartbeats 2000000 in
theorem rone_any (t : Tk) (x : Int) (w : World) :
    Calls Try.prog 37 #[t.v, .int .i64 x] w fun e w' => e = .returned (.int .i64 (oneR t x)) ∧ Below w.heap.size w w' := by
  have CK := Lib.hid (rchk_any t)
  have TM := Lib.hid (time_any x)
  have B0 := Lib.hid (bx_new w t 42)
  cases hc : chk t with
  | false =>
    have E := Lib.hid (one_no (x := x) hc)
    rw [hc] at CK
    clear hc
    generalize oneR t x = r at *
    generalize isTime x = it at *
    obtain ⟨ti, tc, td, tt, tm⟩ := t
    unfold Tk.v at *
    simp only at *
    go_enter Try.func37, Try.ntmps37
    go_wp2_with fail
    (with_reducible refine (CK.out _).mono ?_)
    rintro e w1 ⟨rfl, b1⟩
    have B1 := Lib.hid (B0.out.call b1)
    clear b1
    go_wp2_with fail
    (with_reducible refine (TM.out _).mono ?_)
    rintro e w2 ⟨rfl, rfl⟩
    go_wp2
    go_ret
    exact ⟨by rw [E.out]; rfl, B1.out.bel⟩
  | true =>
    rw [hc] at CK
    cases hx : isTime x with
    | false =>
      have E := Lib.hid (one_no2 (t := t) hx)
      rw [hx] at TM
      clear hx hc
      generalize oneR t x = r at *
      obtain ⟨ti, tc, td, tt, tm⟩ := t
      unfold Tk.v at *
      simp only at *
      go_enter Try.func37, Try.ntmps37
      go_wp2_with fail
      (with_reducible refine (CK.out _).mono ?_)
      rintro e w1 ⟨rfl, b1⟩
      have B1 := Lib.hid (B0.out.call b1)
      clear b1
      go_wp2_with fail
      (with_reducible refine (TM.out _).mono ?_)
      rintro e w2 ⟨rfl, rfl⟩
      go_wp2
      go_ret
      exact ⟨by rw [E.out]; rfl, B1.out.bel⟩
    | true =>
      have E0 := one_yes hc hx
      rw [hx] at TM
      obtain ⟨h0, h1⟩ := isTime_iff.1 hx
      obtain ⟨-, -, k1, k2, k3, k4, -⟩ := chk_iff.1 hc
      have n0 := one_le hc h0
      unfold one at n0
      obtain ⟨n1, n2⟩ := n0
      by_cases h : x < t.d
      · rw [cnt_lt h] at E0
        have E := Lib.hid E0
        generalize oneR t x = r at *
        clear hx hc n1 n2 E0
        obtain ⟨ti, tc, td, tt, tm⟩ := t
        unfold Tk.v at *
        simp only at *
        go_enter Try.func37, Try.ntmps37
        go_wp2_with fail
        (with_reducible refine (CK.out _).mono ?_)
        rintro e w1 ⟨rfl, b1⟩
        have B1 := Lib.hid (B0.out.call b1)
        clear b1
        go_wp2_with fail
        (with_reducible refine (TM.out _).mono ?_)
        rintro e w2 ⟨rfl, rfl⟩
        obtain ⟨c0, c1, c2, c3, c4, bel⟩ := B1.out
        have BEL := Lib.hid bel
        clear bel
        go_wp2
        go_ret
        exact ⟨by rw [E.out, Int.mul_zero]; rfl, BEL.out⟩
      · rw [cnt_ge (show t.d ≤ x by omega)] at E0 n1 n2
        obtain ⟨z, zb, d, d', q0, q1, wq⟩ := quo_of (a := x - t.d) (t := t.t) (by omega) (by omega) (by omega)
        generalize (x - t.d) / t.t = q at *
        have E := Lib.hid E0
        generalize oneR t x = r at *
        have h' : t.d ≤ x := by omega
        have wm : IntKind.i64.wrap (t.c * (q + 1)) = t.c * (q + 1) := wrap_in (by omega) (by omega)
        generalize hM : t.c * (q + 1) = M at *
        have w2 : IntKind.i64.wrap (q + 1) = q + 1 := wrap_in (by omega) (by omega)
        clear hx hc E0 h
        obtain ⟨ti, tc, td, tt, tm⟩ := t
        unfold Tk.v at *
        simp only at *
        have w1 : IntKind.i64.wrap (x - td) = x - td := wrap_in (by omega) (by omega)
        go_enter Try.func37, Try.ntmps37
        go_wp2_with fail
        (with_reducible refine (CK.out _).mono ?_)
        rintro e w1 ⟨rfl, b1⟩
        have B1 := Lib.hid (B0.out.call b1)
        clear b1
        go_wp2_with fail
        (with_reducible refine (TM.out _).mono ?_)
        rintro e w2 ⟨rfl, rfl⟩
        obtain ⟨c0, c1, c2, c3, c4, bel⟩ := B1.out
        have BEL := Lib.hid bel
        clear bel CK TM B0
        go_wp2_with fail
        go_quiet (fail)
        have FIN := Lib.hid (B1.out.drewN nq)
        go_wp2
        go_ret
        exact ⟨by rw [E.out]; rfl, FIN.out.bel⟩
/-- the least deadline above x, another way -/
theorem nxt_cnt {t : Tk} {x : Int} : nxt t x = t.d + t.t * cnt t x := by
  unfold nxt cnt; split <;> simp
theorem nxt_in {t : Tk} {x : Int} (h : chk t = true) (h0 : 0 ≤ x) (h1 : x ≤ 1099511627776) : 0 ≤ t.t * cnt t x ∧ t.t * cnt t x ≤ 1101659111424 ∧ x < nxt t x ∧ nxt t x ≤ 1103806595072 := by
  obtain ⟨-, -, k1, k2, k3, k4, -⟩ := chk_iff.1 h
  have h2 := (nxt_gt (x := x) (t := t) (by omega)).1
  have h3 := cnt_nonneg (x := x) (t := t) (by omega)
  have h4 := Int.mul_nonneg (show 0 ≤ t.t by omega) h3
  have e := nxt_cnt (t := t) (x := x)
  have hb : t.t * cnt t x ≤ 1101659111424 := by
    by_cases hd : x < t.d
    · rw [cnt_lt hd]; omega
    · obtain ⟨q, r, hq1, r0, r1, q0, hq, hr⟩ := parts t x (by omega) (by omega)
      rw [cnt_ge (by omega), hq, Int.mul_add]
      omega
  exact ⟨h4, hb, h2, by omega⟩
end Go.Proofs.Ytbhafcaekpccoaa.Dm
