/- Contracts of package busy's isTime, released, Work. -/
import Derived.Test.YtbhafcaekpccoaaDmC
import Derived.Test.YtbhafcaekpccoaaBsMath
import Derived.Test.YtbhafcaekpccoaaPmL
import Derived.Deep.RegionHeld3
namespace Go.Proofs.Ytbhafcaekpccoaa.Bs
open Go.ChangeShapes Go.WideShapes Go.ChangeAt Go.RowKit Go.Joins
open Pm (Tk chk chk_iff rowB rowB_all rowB_len TkAt Ts TRow wrap_in row_any rrow_any below_drewN)
open Dm (isTime isTime_iff Quo quo_of Bx bx_new)
set_option maxRecDepth 100000
set_option maxRecDepth 100000
set_option linter.unusedVariables false
set_option linter.unusedSimpArgs false
theorem isTime_any (x : Int) (w : World) :
    Calls Try.prog 66 #[.int .i64 x] w fun e w' => e = .returned (.bool (isTime x)) ∧ w' = w := by
  by_cases h : 0 ≤ x
  · have E : Hid (isTime x = decide (x ≤ 1099511627776)) := Lib.hid (by unfold isTime; apply decide_eq_decide.2; omega)
    go_enter Try.func66, Try.ntmps66
    go_wp2
    go_ret
    exact ⟨by rw [E.out]; rfl, rfl⟩
  · have E : Hid (isTime x = false) := Lib.hid (by unfold isTime; exact decide_eq_false (by omega))
    have h' : x < 0 := by omega
    clear h
    go_enter Try.func66, Try.ntmps66
    go_wp2
    go_ret
    exact ⟨by rw [E.out]; rfl, rfl⟩
theorem rel_code {t : Tk} {x : Int} (ht : 1 ≤ t.t) (hx : 0 ≤ x) : (x + t.t - 1) / t.t = rel t x := by
  by_cases h : x ≤ 0
  · obtain rfl : x = 0 := by omega
    rw [rel_zero (by omega), Int.ediv_eq_zero_of_lt (by omega) (by omega)]
  · rw [rel_pos (by omega), show x + t.t - 1 = (x - 1) + t.t by omega, Int.add_ediv_of_dvd_right (Int.dvd_refl _), Int.ediv_self (by omega)]
set_option maxHeartbeats 1000000 in
theorem released_any (t : Tk) (x : Int) (w : World) (ht : chk t = true) (h0 : 0 ≤ x) (h1 : x ≤ 1099511627776) :
    Calls Try.prog 67 #[t.v, .int .i64 x] w fun e w' => e = .returned (.int .i64 (rel t x)) ∧ Below w.heap.size w w' := by
  obtain ⟨-, -, c1, c2, c3, c4, -⟩ := chk_iff.1 ht
  clear ht
  have E := Lib.hid (rel_code (t := t) (x := x) (by omega) h0)
  obtain ⟨z, zb, d, d', q0, q1, wq⟩ := quo_of (a := x + t.t - 1) (t := t.t) (by omega) (by omega) (by omega)
  generalize rel t x = r at *
  obtain ⟨ti, tc, td, tt, tm⟩ := t
  unfold Tk.v
  simp only at *
  generalize hA : x + tt = A at *
  generalize hB : A - 1 = B at *
  generalize B / tt = q at *
  have w1 : IntKind.i64.wrap A = A := wrap_in (by omega) (by omega)
  have w2 : IntKind.i64.wrap B = B := wrap_in (by omega) (by omega)
  go_enter Try.func67, Try.ntmps67
  go_wp2
  go_ret
  exact ⟨by rw [E.out]; rfl, (Below.refl _ _).alloc (Nat.le_refl _) _⟩
theorem workR_yes {l : List Tk} {x : Int} (h : rowB l = true) (hx : isTime x = true) : workR l x = wk l x := by unfold workR; rw [if_pos ⟨h, hx⟩]
theorem workR_no {l : List Tk} {x : Int} (h : rowB l = false) : workR l x = 0 := by unfold workR; rw [if_neg (by rw [h]; simp)]
theorem workR_no2 {l : List Tk} {x : Int} (h : isTime x = false) : workR l x = 0 := by unfold workR; rw [if_neg (by rw [h]; simp)]
/-- i tasks were counted -/
def WkRel (l : List Tk) (x : Int) (B : Nat) (w : World) (g : Nat) (s t : Value) (wx : World) : Prop :=
  ∃ i : Nat, i + g = l.length ∧ s = .int .i64 (wk (l.take i) x) ∧ t = .int .i64 (i : Int) ∧ Below B w wx
/-- a round's numbers -/
structure Rnd (S R c M : Int) : Prop where
  m : c * R = M
  wm : IntKind.i64.wrap M = M
  ws : IntKind.i64.wrap (S + M) = S + M
  r0 : 0 ≤ R
  m0 : 0 ≤ M
  m1 : M ≤ 1101659111424
  s0 : 0 ≤ S
  s1 : S ≤ 17626545782784
theorem rnd_of {l : List Tk} {x : Int} {i : Nat} (hr : rowB l = true) (hx : isTime x = true) (hlt : i < l.length) :
    ∃ S R M, wk (l.take i) x = S ∧ rel l[i] x = R ∧ wk (l.take (i + 1)) x = S + M ∧ Rnd S R l[i].c M := by
  obtain ⟨h0, h1⟩ := isTime_iff.1 hx
  have hc := rowB_all hr _ (List.getElem_mem hlt)
  have h2 := term_le hc h0
  have h3 := wk_le (l := l.take i) (x := x) (fun t ht => rowB_all hr t (List.mem_of_mem_take ht)) h0
  have hl := rowB_len hr
  have h4 : ((l.take i).length : Int) * (x + 2147483648) ≤ 16 * (1099511627776 + 2147483648) := Int.mul_le_mul (by simp; omega) (by omega) (by omega) (by omega)
  have hk := chk_iff.1 hc
  refine ⟨_, _, _, rfl, rfl, wk_take hlt x, ⟨rfl, wrap_in (by omega) (by omega), wrap_in (by omega) (by omega), rel_nonneg (by omega), h2.1, by omega, h3.1, by omega⟩⟩
theorem bx_cells {b : Nat} {w w' : World} {t : Tk} (h : Bx b w t w') : Bx b w t w' ∧ w'.cell? ⟨b, 0, none⟩ = some (.int .i64 t.id) ∧ w'.cell? ⟨b, 1, none⟩ = some (.int .i64 t.c) ∧ w'.cell? ⟨b, 2, none⟩ = some (.int .i64 t.d) ∧ w'.cell? ⟨b, 3, none⟩ = some (.int .i64 t.t) ∧ w'.cell? ⟨b, 4, none⟩ = some (.int .i64 t.m) := ⟨h, h.c0, h.c1, h.c2, h.c3, h.c4⟩
set_option maxHeartbeats 4000000 in
theorem work_any (l : List Tk) (ao : Option Addr) (cap : Nat) (x : Int) (w : World) (hT : Ts ao l w) (hl : l.length ≤ 9223372036854775807) :
    Calls Try.prog 62 #[.slice ao l.length cap, .int .i64 x] w fun e w' => e = .returned (.int .i64 (workR l x)) ∧ Below w.heap.size w w' := by
  have RO := Lib.hid (fun w h => row_any l ao cap w h hl)
  have TM := Lib.hid (isTime_any x)
  have T := Lib.hid hT
  cases hr : rowB l with
  | false =>
    have E := Lib.hid (workR_no (x := x) hr)
    rw [hr] at RO
    generalize workR l x = r at *
    clear hr
    go_enter Try.func62, Try.ntmps62
    go_wp2_with fail
    (with_reducible refine (RO.out _ hT).mono ?_)
    rintro e w1 ⟨rfl, b1⟩
    have K1 := Lib.hid b1
    clear b1 hT
    go_wp2
    go_ret
    exact ⟨by rw [E.out]; rfl, K1.out⟩
  | true =>
    rw [hr] at RO
    cases hx : isTime x with
    | false =>
      have E := Lib.hid (workR_no2 (l := l) hx)
      rw [hx] at TM
      generalize workR l x = r at *
      clear hr hx
      go_enter Try.func62, Try.ntmps62
      go_wp2_with fail
      (with_reducible refine (RO.out _ hT).mono ?_)
      rintro e w1 ⟨rfl, b1⟩
      have K1 := Lib.hid b1
      clear b1 hT
      go_wp2_with fail
      (with_reducible refine (TM.out _).mono ?_)
      rintro e w2 ⟨rfl, rfl⟩
      go_wp2
      go_ret
      exact ⟨by rw [E.out]; rfl, K1.out⟩
    | true =>
      have E := Lib.hid (workR_yes hr hx)
      rw [hx] at TM
      obtain ⟨h0, h1⟩ := isTime_iff.1 hx
      have RD := Lib.hid (fun i (hlt : i < l.length) => rnd_of hr hx hlt)
      have RL := Lib.hid (fun i (hlt : i < l.length) w => released_any l[i] x w (rowB_all hr _ (List.getElem_mem hlt)) h0 h1)
      generalize workR l x = r at *
      clear hr hx
      go_enter Try.func62, Try.ntmps62
      go_wp2_with fail
      (with_reducible refine (RO.out _ hT).mono ?_)
      rintro e w1 ⟨rfl, b1⟩
      have K1 := Lib.hid b1
      clear b1 hT RO
      go_wp2_with fail
      (with_reducible refine (TM.out _).mono ?_)
      rintro e w2 ⟨rfl, rfl⟩
      clear TM
      go_wp2_with fail
      go_loopg [5, 18] l.length (WkRel l x w.heap.size w)
      case atStart => exact ⟨0, by omega, by simp [wk], rfl, K1.out⟩
      case round =>
        obtain ⟨i, hi, rfl, rfl, hB⟩ := hrel
        have TQ := T.out.below hB (Nat.le_refl _)
        by_cases hlt : i < l.length
        · obtain ⟨b, off, rfl, hb, hat⟩ := TQ (by omega)
          have hx := hat i l[i] (List.getElem?_eq_getElem hlt)
          obtain ⟨S, R, M, e1, e2, e3, st⟩ := RD.out i hlt
          have ON := Lib.hid (fun w => RL.out i hlt w)
          rw [e2] at ON
          rw [e1]
          have HI := Lib.hid hi
          have KB := Lib.hid hB
          have NX := Lib.hid e3
          have hg0 : 0 < gk := by omega
          clear hi hat TQ hB e1 e2 e3 RL RD
          generalize l[i] = t at *
          obtain ⟨c0, c1, c2, c3, c4⟩ := hx
          obtain ⟨ti, tc, td, tt, tm⟩ := t
          unfold Tk.v at ON
          simp only at c0 c1 c2 c3 c4 ON st
          have B0 := Lib.hid (bx_new wr ⟨ti, tc, td, tt, tm⟩ 42)
          simp only at B0
          obtain ⟨sm, wm, ws, r0, m0, m1, s0, s1⟩ := st
          go_wp2_with fail
          obtain ⟨d0, d1, d2, d3, d4, -⟩ := B0.out
          have BD := Lib.hid B0.out.drew
          generalize wr.alloc (.cells #[.int .i64 ti, .int .i64 tc, .int .i64 td, .int .i64 tt, .int .i64 tm] 42) = wa at *
          go_region_held3 (fun w' => Bx wr.heap.size wr ⟨ti, tc, td, tt, tm⟩ w' ∧ w'.cell? ⟨wr.heap.size, 0, none⟩ = some (.int .i64 ti) ∧ w'.cell? ⟨wr.heap.size, 1, none⟩ = some (.int .i64 tc) ∧ w'.cell? ⟨wr.heap.size, 2, none⟩ = some (.int .i64 td) ∧ w'.cell? ⟨wr.heap.size, 3, none⟩ = some (.int .i64 tt) ∧ w'.cell? ⟨wr.heap.size, 4, none⟩ = some (.int .i64 tm)) (first | exact bx_cells BD.out | assumption | fail) (first | (go_at_call 67; (with_reducible refine (ON.out _).mono ?_); rintro e w3 ⟨rfl, b3⟩; (have B3 := BD.out.call b3); (have S3 := bx_cells B3)) | fail)
          all_goals
            have FIN := Lib.hid (KB.out.trans (B3.bel.mono KB.out.size))
            clear B3 S3 BD
            go_wp2
            go_roundg (gk - 1)
            case measure => omega
            case rel => exact ⟨i + 1, by have := HI.out; omega, by rw [NX.out], by go_num, FIN.out⟩
        · have hge : (l.length : Int) ≤ (i : Int) := by omega
          rw [List.take_of_length_le (by omega)]
          have K2 := Lib.hid hB
          clear hB TQ hi hlt RL RD
          go_wp2
          go_ret
          exact ⟨by rw [E.out]; rfl, K2.out⟩
end Go.Proofs.Ytbhafcaekpccoaa.Bs
