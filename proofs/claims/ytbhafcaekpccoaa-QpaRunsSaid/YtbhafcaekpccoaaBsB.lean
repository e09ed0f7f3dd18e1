/- The document's Work; Idle, Least, both. -/
import Derived.Test.YtbhafcaekpccoaaBsA
import Derived.Test.YtbhafcaekpccoaaDmO
import Derived.BigQuiet
namespace Go.Proofs.Ytbhafcaekpccoaa.Bs
open Go.ChangeShapes Go.WideShapes Go.ChangeAt Go.RowKit Go.Joins
open Pm (Tk chk chk_iff rowB rowB_all rowB_len TkAt Ts TRow wrap_in row_any rrow_any below_drewN)
open Dm (isTime isTime_iff Quo quo_of Bx bx_new)
set_option maxRecDepth 100000
set_option maxRecDepth 100000
set_option linter.unusedVariables false
set_option linter.unusedSimpArgs false
theorem workR_zero {l : List Tk} {x : Int} (h : x ≤ 0) : workR l x = 0 := by
  unfold workR
  split
  · exact wk_zero l h
  · rfl
theorem workR_late {l : List Tk} {x : Int} (h : 1099511627776 < x) : workR l x = 0 := workR_no2 (by unfold isTime; exact decide_eq_false (by omega))
/-- the document's round -/
structure Rnd2 (S x T Q R c M : Int) : Prop where
  d : (x - 1) / T = Q
  d' : (x - 1).tdiv T = Q
  r : Q + 1 = R
  z : ¬ T = 0
  zb : (T == 0) = false
  w0 : IntKind.i64.wrap (x - 1) = x - 1
  wq : IntKind.i64.wrap Q = Q
  wr : IntKind.i64.wrap R = R
  q0 : 0 ≤ Q
  q1 : Q ≤ x
theorem rnd2_of {t : Tk} {x R : Int} (h : chk t = true) (h0 : 1 ≤ x) (h1 : x ≤ 1099511627776) (e : rel t x = R) : ∃ Q, Rnd2 0 x t.t Q R 0 0 := by
  have hk := chk_iff.1 h
  obtain ⟨z, zb, d, d', q0, q1, wq⟩ := quo_of (a := x - 1) (t := t.t) (by omega) (by omega) (by omega)
  rw [rel_pos h0] at e
  exact ⟨_, d, d', e, z, zb, wrap_in (by omega) (by omega), wq, wrap_in (by omega) (by omega), q0, by omega⟩
set_option maxHeartbeats 4000000 in
theorem rwork_any (l : List Tk) (ao : Option Addr) (cap : Nat) (x : Int) (w : World) (hT : Ts ao l w) (hl : l.length ≤ 1000000) :
    Calls Try.prog 47 #[.slice ao l.length cap, .int .i64 x] w fun e w' => e = .returned (.int .i64 (workR l x)) ∧ Below w.heap.size w w' := by
  have RO := Lib.hid (fun w h => rrow_any l ao cap w h hl)
  have T := Lib.hid hT
  by_cases hrun : rowB l = true ∧ 1 ≤ x ∧ x ≤ 1099511627776
  · obtain ⟨hr, h0, h1⟩ := hrun
    have hx : isTime x = true := isTime_iff.2 ⟨by omega, h1⟩
    have E := Lib.hid (workR_yes hr hx)
    rw [hr] at RO
    have RD := Lib.hid (fun i (hlt : i < l.length) => rnd_of hr hx hlt)
    have RE := Lib.hid (fun i (hlt : i < l.length) R e => rnd2_of (R := R) (rowB_all hr _ (List.getElem_mem hlt)) h0 h1 e)
    generalize workR l x = r at *
    have h0' : x > 0 := by omega
    have h0'' : (0 : Int) < x := by omega
    clear hr hx
    go_enter Try.func47, Try.ntmps47
    go_wp2_with fail
    (with_reducible refine (RO.out _ hT).mono ?_)
    rintro e w1 ⟨rfl, b1⟩
    have K1 := Lib.hid b1
    clear b1 hT RO
    go_wp2_with fail
    go_loopg [6, 7] l.length (WkRel l x w.heap.size w)
    case atStart => exact ⟨0, by omega, by simp [wk], rfl, K1.out⟩
    case round =>
      obtain ⟨i, hi, rfl, rfl, hB⟩ := hrel
      have TQ := T.out.below hB (Nat.le_refl _)
      by_cases hlt : i < l.length
      · obtain ⟨b, off, rfl, hb, hat⟩ := TQ (by omega)
        have hx := hat i l[i] (List.getElem?_eq_getElem hlt)
        obtain ⟨S, R, M, e1, e2, e3, st⟩ := RD.out i hlt
        obtain ⟨Q, st2⟩ := RE.out i hlt R e2
        rw [e1]
        have HI := Lib.hid hi
        have KB := Lib.hid hB
        have NX := Lib.hid e3
        have hg0 : 0 < gk := by omega
        have hlt' : (i : Int) < (l.length : Int) := by omega
        clear hi hat TQ hB e1 e2 e3 RE RD
        generalize l[i] = t at *
        obtain ⟨c0, c1, c2, c3, c4⟩ := hx
        obtain ⟨ti, tc, td, tt, tm⟩ := t
        simp only at c0 c1 c2 c3 c4 st st2
        obtain ⟨sm, wm, ws, r0, m0, m1, s0, s1⟩ := st
        obtain ⟨d, d', sr, z, zb, w0, wq, wr', q0, q1⟩ := st2
        go_wp2_with fail
        go_quiet (fail)
        go_wp2
        go_roundg (gk - 1)
        case measure => omega
        case rel => exact ⟨i + 1, by have := HI.out; omega, by rw [NX.out], by go_num, KB.out.trans ((below_drewN _ _).mono KB.out.size)⟩
      · have hge : (l.length : Int) ≤ (i : Int) := by omega
        rw [List.take_of_length_le (by omega)]
        have K2 := Lib.hid hB
        have hdec : decide (i < l.length) = false := decide_eq_false hlt
        clear hB TQ hi hlt RD RE
        go_wp2
        go_ret
        exact ⟨by rw [E.out]; rfl, K2.out⟩
  · have E : Hid (workR l x = 0) := Lib.hid (by
      by_cases h0 : x ≤ 0
      · exact workR_zero h0
      · by_cases h1 : 1099511627776 < x
        · exact workR_late h1
        · exact workR_no (by cases h : rowB l; rfl; exact absurd ⟨h, by omega, by omega⟩ hrun))
    have hc : rowB l = false ∨ (rowB l = true ∧ x ≤ 0) ∨ (rowB l = true ∧ 0 < x ∧ 1099511627776 < x) := by
      cases h : rowB l
      · exact .inl rfl
      · by_cases h0 : x ≤ 0
        · exact .inr (.inl ⟨rfl, h0⟩)
        · exact .inr (.inr ⟨rfl, by omega, by
            rcases Int.lt_or_le 1099511627776 x with h1 | h1
            · exact h1
            · exact absurd ⟨h, by omega, h1⟩ hrun⟩)
    clear hrun
    generalize workR l x = r at *
    go_enter Try.func47, Try.ntmps47
    go_wp2_with fail
    (with_reducible refine (RO.out _ hT).mono ?_)
    rintro e w1 ⟨rfl, b1⟩
    have K1 := Lib.hid b1
    clear b1 hT RO T
    generalize rowB l = rb at *
    by_cases h0 : 0 < l.length
    · have h1 : (0 : Int) < (l.length : Int) := by omega
      clear h0
      rcases hc with rfl | ⟨rfl, hx⟩ | ⟨rfl, hx0, hx⟩
      · go_wp2_with fail
        go_loopg [6, 7] 0 (fun _ s t wx => s = .int .i64 0 ∧ t = .int .i64 0 ∧ wx = w1)
        case atStart => exact ⟨rfl, rfl, rfl⟩
        case round =>
          obtain ⟨rfl, rfl, rfl⟩ := hrel
          go_wp2
          go_ret
          exact ⟨by rw [E.out]; rfl, K1.out⟩
      · go_wp2_with fail
        go_loopg [6, 7] 0 (fun _ s t wx => s = .int .i64 0 ∧ t = .int .i64 0 ∧ wx = w1)
        case atStart => exact ⟨rfl, rfl, rfl⟩
        case round =>
          obtain ⟨rfl, rfl, rfl⟩ := hrel
          go_wp2
          go_ret
          exact ⟨by rw [E.out]; rfl, K1.out⟩
      · have hx2 : x > 0 := hx0
        go_wp2_with fail
        go_loopg [6, 7] 0 (fun _ s t wx => s = .int .i64 0 ∧ t = .int .i64 0 ∧ wx = w1)
        case atStart => exact ⟨rfl, rfl, rfl⟩
        case round =>
          obtain ⟨rfl, rfl, rfl⟩ := hrel
          go_wp2
          go_ret
          exact ⟨by rw [E.out]; rfl, K1.out⟩
    · have h1 : (l.length : Int) ≤ 0 := by omega
      have h2 : decide (0 < l.length) = false := decide_eq_false h0
      clear h0 hc
      go_wp2_with fail
      go_loopg [6, 7] 0 (fun _ s t wx => s = .int .i64 0 ∧ t = .int .i64 0 ∧ wx = w1)
      case atStart => exact ⟨rfl, rfl, rfl⟩
      case round =>
        obtain ⟨rfl, rfl, rfl⟩ := hrel
        go_wp2
        go_ret
        exact ⟨by rw [E.out]; rfl, K1.out⟩
theorem idle_row {l : List Tk} {x : Int} (h : rowB l = false) : idleR l x = false := by unfold idleR; rw [h]; rfl
theorem idle_time {l : List Tk} {x : Int} (h : rowB l = true) (hx : isTime x = false) : idleR l x = false := by unfold idleR; rw [h, hx]; rfl
theorem idle_yes {l : List Tk} {x : Int} (h : rowB l = true) (hx : isTime x = true) : idleR l x = decide (workR l x ≤ x) := by unfold idleR; rw [workR_yes h hx, h, hx]; simp
end Go.Proofs.Ytbhafcaekpccoaa.Bs
