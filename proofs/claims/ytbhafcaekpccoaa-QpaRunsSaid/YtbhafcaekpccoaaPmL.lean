/- Contracts of package param's Load, Over. -/
import Derived.Test.YtbhafcaekpccoaaPmP
namespace Go.Proofs.Ytbhafcaekpccoaa.Pm
open Go.ChangeShapes Go.WideShapes Go.ChangeAt Go.RowKit Go.Joins
set_option maxRecDepth 100000
set_option maxRecDepth 100000
set_option linter.unusedVariables false
set_option linter.unusedSimpArgs false
/-- i tasks were counted -/
def LoRel (l : List Tk) (p : Int) (B : Nat) (w : World) (g : Nat) (s t : Value) (wx : World) : Prop :=
  ∃ i : Nat, i + g = l.length ∧ s = .int .i64 (work p (l.take i)) ∧ t = .int .i64 (i : Int) ∧ Below B w wx
theorem load_yes {l : List Tk} (h : (periodR l).2 = 0) : loadR l = ⟨work (periodR l).1 l, (periodR l).1, 0⟩ := by unfold loadR; rw [if_pos h]
theorem load_no {l : List Tk} (h : (periodR l).2 ≠ 0) : loadR l = ⟨0, 0, (periodR l).2⟩ := by unfold loadR; rw [if_neg h]
theorem wrap_in {z : Int} (h0 : -9223372036854775808 ≤ z) (h1 : z ≤ 9223372036854775807) : IntKind.i64.wrap z = z := by rw [IntKind.wrap_i64]; omega
/-- a round's arithmetic -/
structure Step (S x p D M : Int) (t : Int) : Prop where
  d : p / t = D
  d' : p.tdiv t = D
  m : x * D = M
  wd : IntKind.i64.wrap D = D
  wm : IntKind.i64.wrap M = M
  ws : IntKind.i64.wrap (S + M) = S + M
  m0 : 0 ≤ M
  m1 : M ≤ 1048576
  s0 : 0 ≤ S
  s1 : S ≤ 16777216
  z : ¬ t = 0
  zb : (t == 0) = false
  t0 : 0 < t
theorem step_of {l : List Tk} {p : Nat} {i : Nat} (hr : rowB l = true) (hp : p ≤ 1048576) (hlt : i < l.length) :
    ∃ S D M, work p (l.take i) = S ∧ work p (l.take (i + 1)) = S + M ∧ Step S l[i].c p D M l[i].t := by
  have hx := rowB_all hr _ (List.getElem_mem hlt)
  have h1 := term_le hx (p := (p : Int)) (by omega)
  have h2 := work_le (l := l.take i) (p := (p : Int)) (fun x hx => rowB_all hr x (List.mem_of_mem_take hx)) (by omega)
  have hl := rowB_len hr
  have h3 : ((l.take i).length : Int) * (p : Int) ≤ 16 * 1048576 := Int.mul_le_mul (by simp; omega) (by omega) (by omega) (by omega)
  have hc := chk_iff.1 hx
  refine ⟨_, (p : Int) / l[i].t, l[i].c * ((p : Int) / l[i].t), rfl, work_take hlt _, ⟨rfl, ?_, rfl, wrap_in (by omega) (by omega), wrap_in (by omega) (by omega), wrap_in (by omega) (by omega), h1.1, by omega, h2.1, by omega, by omega, by simp; omega, by omega⟩⟩
  exact Int.tdiv_eq_ediv_of_nonneg (by omega)
set_option maxHeartbeats 4000000 in
theorem load_any (l : List Tk) (ao : Option Addr) (cap : Nat) (w : World) (hT : Ts ao l w) (hl : l.length ≤ 1000000) :
    Calls Try.prog 52 #[.slice ao l.length cap] w fun e w' => e = .returned (.tuple #[.int .i64 (loadR l).n, .int .i64 (loadR l).p, .int .i64 (loadR l).e]) ∧ Below w.heap.size w w' := by
  have PE := Lib.hid (fun w h => period_any l ao cap w h hl)
  have T := Lib.hid hT
  by_cases h0 : (periodR l).2 = 0
  · obtain ⟨hr, p, -, hp1, hp0, hp2⟩ := period_ok h0
    rw [h0, hp1] at PE
    have E := Lib.hid (load_yes h0)
    rw [hp1] at E
    have ST := Lib.hid (fun i (hlt : i < l.length) => step_of hr hp2 hlt)
    generalize loadR l = ld at *
    clear h0 hp1
    go_enter Try.func52, Try.ntmps52
    go_wp2_with fail
    (with_reducible refine (PE.out _ hT).mono ?_)
    rintro e w1 ⟨rfl, b1⟩
    have K0 := Lib.hid b1
    clear hT PE b1
    go_wp2_with fail
    go_loopg [7, 20] l.length (LoRel l p w.heap.size w)
    case atStart => exact ⟨0, by omega, by simp [work], rfl, K0.out⟩
    case round =>
      obtain ⟨i, hi, rfl, rfl, hB⟩ := hrel
      have TQ := T.out.below hB (Nat.le_refl _)
      by_cases hlt : i < l.length
      · obtain ⟨b, off, rfl, hb, hat⟩ := TQ (by omega)
        have hx := hat i l[i] (List.getElem?_eq_getElem hlt)
        obtain ⟨S, D, M, e1, e2, st⟩ := ST.out i hlt
        have HI := Lib.hid hi
        have KB := Lib.hid (fun o => hB.alloc hB.size o)
        have WT2 := Lib.hid e2
        have hg0 : 0 < gk := by omega
        rw [e1]
        clear hi hat TQ hB e1 e2
        generalize l[i] = x at *
        obtain ⟨c0, c1, c2, c3, c4⟩ := hx
        obtain ⟨xi, xc, xd, xt, xm⟩ := x
        simp only at c0 c1 c2 c3 c4 st
        obtain ⟨sd, sd', sm, wd, wm, ws, m0, m1, hs0, hs1, hz, hzb, ht0⟩ := st
        go_wp2_with fail
        go_quiet (fail)
        go_wp2
        go_roundg (gk - 1)
        case measure => omega
        case rel => exact ⟨i + 1, by have := HI.out; omega, by rw [WT2.out], by go_num, (KB.out _).trans ((below_drewN _ _).mono (KB.out _).size)⟩
      · have hge : (l.length : Int) ≤ (i : Int) := by omega
        rw [List.take_of_length_le (by omega)]
        have K2 := Lib.hid hB
        clear hB TQ hi hlt ST
        go_wp2
        exact bodyPost_ret (v := .tuple #[.int .i64 (work p l), .int .i64 (p : Int), .int .i64 0]) (by simp [results, Try.results52, go_sem]) rfl ⟨by rw [E.out], K2.out⟩
  · have E := Lib.hid (load_no h0)
    generalize loadR l = ld at *
    generalize (periodR l).1 = pp at *
    generalize (periodR l).2 = pe at *
    have h1 : (pe == 0) = false := by simpa using h0
    have h2 : (pe != 0) = true := by simpa using h0
    clear h0
    go_enter Try.func52, Try.ntmps52
    go_wp2_with fail
    (with_reducible refine (PE.out _ hT).mono ?_)
    rintro e w1 ⟨rfl, b1⟩
    clear hT PE
    go_wp2
    exact bodyPost_ret (v := .tuple #[.int .i64 0, .int .i64 0, .int .i64 pe]) (by simp [results, Try.results52, go_sem]) rfl ⟨by rw [E.out], b1⟩
theorem over_any (l : List Tk) (ao : Option Addr) (cap : Nat) (w : World) (hT : Ts ao l w) (hl : l.length ≤ 1000000) :
    Calls Try.prog 40 #[.slice ao l.length cap] w fun e w' => e = .returned (.tuple #[.bool (decide ((loadR l).p < (loadR l).n)), .int .i64 (loadR l).e]) ∧ Below w.heap.size w w' := by
  have LO := Lib.hid (load_any l ao cap w hT hl)
  generalize loadR l = ld at *
  obtain ⟨n, p, e0⟩ := ld
  simp only at *
  clear hT
  go_enter Try.func40, Try.ntmps40
  go_wp2_with fail
  (with_reducible refine (LO.out).mono ?_)
  rintro e w1 ⟨rfl, b1⟩
  go_wp2
  exact bodyPost_ret (v := .tuple #[.bool (decide (p < n)), .int .i64 e0]) (by simp [results, Try.results40, go_sem]) rfl ⟨rfl, b1⟩
end Go.Proofs.Ytbhafcaekpccoaa.Pm
