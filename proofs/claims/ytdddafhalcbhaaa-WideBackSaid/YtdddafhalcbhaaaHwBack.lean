/- What was added is taken away again; what was multiplied, and something less added, is divided again. For every two numbers of 128 bits and every three of 64, without a condition. -/
import Derived.Test.YtdddafhalcbhaaaHwG
import Derived.Deep.DeepCutAuto
import Derived.Deep.RegionHeld3
import Derived.Test.YtdddafhalcbhaaaHwFA
namespace Go.Proofs.Ytdddafhalcbhaaa.wideBack
open Go.ChangeShapes Go.WideShapes Go.ChangeAt Go.RowKit Go.Joins
set_option linter.unusedVariables false
set_option linter.unusedSimpArgs false

def Kept3 (w : World) (n0 n1 n2 : Int) (w' : World) : Prop := w'.cell? ⟨w.heap.size + 2, 0, none⟩ = some (.int .u64 n0) ∧ w'.cell? ⟨w.heap.size + 2, 1, none⟩ = some (.int .u64 n1) ∧ w'.cell? ⟨w.heap.size + 2, 2, none⟩ = some (.int .u64 n2) ∧ Below w.heap.size w w' ∧ w.heap.size + 2 < w'.heap.size
def NewP (w : World) (n0 n1 n2 x y : Int) (s : Value) (wx : World) : Prop := ∃ g, s = .pointer (some ⟨g, 0, none⟩) ∧ wx.cell? ⟨g, 0, none⟩ = some (.int .u64 x) ∧ wx.cell? ⟨g, 1, none⟩ = some (.int .u64 y) ∧ Kept3 w n0 n1 n2 wx
theorem carry_fr {W w1 : World} {p : Addr} {v : Value} (hb : Below W.heap.size W w1) (h : W.cell? p = some v) (hf : W.frozen? p = false) : w1.frozen? p = false := by
  rw [← hf]
  apply hb.frozen
  rcases Nat.lt_or_ge p.block W.heap.size with h' | h'
  · exact h'
  · exfalso; unfold World.cell? at h; rw [Array.getElem?_eq_none h'] at h; cases h
theorem kept_call {w W w' : World} {n0 n1 n2 : Int} (h : Kept3 w n0 n1 n2 W) (hb : Below W.heap.size W w') : Kept3 w n0 n1 n2 w' := by
  obtain ⟨a, b, c, d, e⟩ := h
  exact ⟨carry hb a, carry hb b, carry hb c, d.trans (hb.mono (by omega)), by have := hb.size; omega⟩
theorem kept_alloc {w W : World} {n0 n1 n2 : Int} {cs : Array Value} {t : TypeId} (h : Kept3 w n0 n1 n2 W) : Kept3 w n0 n1 n2 (W.alloc (.cells cs t)) := by
  obtain ⟨a, b, c, d, e⟩ := h
  exact ⟨by simp [go_sem, a, e], by simp [go_sem, b, e], by simp [go_sem, c, e], d.alloc (by omega) _, by simp; omega⟩
theorem kept_drew {w W : World} {n0 n1 n2 : Int} (h : Kept3 w n0 n1 n2 W) : Kept3 w n0 n1 n2 W.drew := by
  obtain ⟨a, b, c, d, e⟩ := h
  exact ⟨by simpa [go_sem] using a, by simpa [go_sem] using b, by simpa [go_sem] using c, d.drew, by simpa [go_sem] using e⟩
theorem kept_set {w W : World} {n0 n1 n2 : Int} {g o : Nat} {v : Value} (h : Kept3 w n0 n1 n2 W) (hg : w.heap.size + 2 < g) : Kept3 w n0 n1 n2 (W.setCell ⟨g, o, none⟩ v) := by
  obtain ⟨a, b, c, d, e⟩ := h
  have h1 : ¬ g = w.heap.size + 2 := by omega
  have h2 : ¬ w.heap.size + 2 = g := by omega
  exact ⟨by simp [go_sem, a, h1, h2], by simp [go_sem, b, h1, h2], by simp [go_sem, c, h1, h2], d.setCell (by simp; omega) _, by simpa using e⟩
theorem newp_alloc {w W : World} {n0 n1 n2 x y : Int} {t : TypeId} (k : Kept3 w n0 n1 n2 W) : NewP w n0 n1 n2 x y (.pointer (some ⟨W.heap.size, 0, none⟩)) (W.alloc (.cells #[.int .u64 x, .int .u64 y] t)) :=
  ⟨_, rfl, by simp [go_sem], by simp [go_sem], kept_alloc k⟩
theorem newp_set {w W : World} {n0 n1 n2 x y : Int} {g : Nat} {u0 u1 : Value} (h0 : W.cell? ⟨g, 0, none⟩ = some u0) (h1 : W.cell? ⟨g, 1, none⟩ = some u1) (hg : w.heap.size + 2 < g) (k : Kept3 w n0 n1 n2 W) :
    NewP w n0 n1 n2 x y (.pointer (some ⟨g, 0, none⟩)) ((W.setCell ⟨g, 0, none⟩ (.int .u64 x)).setCell ⟨g, 1, none⟩ (.int .u64 y)) :=
  ⟨_, rfl, by simp [go_sem, h0], by simp [go_sem, h1], kept_set (kept_set k hg) hg⟩
open Classical in
theorem addB_yes {a b c d : Int} (h : Is128 (V a b + V c d)) : addB a b c d = true := decide_eq_true h
open Classical in
theorem addB_not {a b c d : Int} (h : ¬ Is128 (V a b + V c d)) : addB a b c d = false := decide_eq_false h
open Classical in
theorem addH_yes {a b c d : Int} (h : Is128 (V a b + V c d)) : addH a b c d = hi (V a b + V c d) := if_pos h
open Classical in
theorem addL_yes {a b c d : Int} (h : Is128 (V a b + V c d)) : addL a b c d = lo (V a b + V c d) := if_pos h
theorem sub_back {a b c d : Int} (ha : Is64 a) (hb : Is64 b) (hc : Is64 c) (hd : Is64 d) (h : Is128 (V a b + V c d)) (w : World) :
    Calls Try.prog 13 #[.agg #[.int .u64 (hi (V a b + V c d)), .int .u64 (lo (V a b + V c d))], .agg #[.int .u64 c, .int .u64 d]] w fun e w' => e = .returned (.tuple #[.agg #[.int .u64 a, .int .u64 b], .bool true]) ∧ Below w.heap.size w w' := by
  have h0 := (is128_V ha hb).1
  have := sub_yes (hi (V a b + V c d)) (lo (V a b + V c d)) c d w (is64_hi h) (is64_lo _) hc hd (by rw [V_hi_lo]; omega)
  rw [V_hi_lo, Int.add_sub_cancel, hi_V hb, lo_V hb] at this
  exact this
theorem cmp_back {a b c d : Int} (ha : Is64 a) (hb : Is64 b) (hc : Is64 c) (hd : Is64 d) (h : Is128 (V a b + V c d)) (w : World) :
    Calls Try.prog 15 #[.agg #[.int .u64 (hi (V a b + V c d)), .int .u64 (lo (V a b + V c d))], .agg #[.int .u64 a, .int .u64 b]] w fun e w' => e = .returned (.int .i64 (cmpI (V a b + V c d) (V a b))) ∧ Below w.heap.size w w' := by
  have := cmp_any (hi (V a b + V c d)) (lo (V a b + V c d)) a b w (is64_lo _) hb
  rw [V_hi_lo] at this
  exact this
theorem cmp_back_not {a b c d : Int} (ha : Is64 a) (hb : Is64 b) (hc : Is64 c) (hd : Is64 d) : decide (cmpI (V a b + V c d) (V a b) < 0) = false := by
  have := (is128_V hc hd).1
  rw [cmpI_neg]; simp; omega
theorem rest_128 {n D r : Int} (h0 : Is64 n) (hD : Is64 D) (hp : 0 < D) (h2 : Is64 r) : Is64 (r % D) ∧ Is128 (n * D + r % D) ∧ (n * D + r % D) / D = n ∧ (n * D + r % D) % D = r % D := by
  have m0 : 0 ≤ r % D := Int.emod_nonneg _ (by omega)
  have m1 : r % D < D := Int.emod_lt_of_pos _ hp
  have hm : Is64 (r % D) := by unfold Is64 at *; omega
  have e1 : 0 ≤ n * D := Int.mul_nonneg h0.1 (by omega)
  have e2 : n * D ≤ 18446744073709551615 * 18446744073709551615 := Int.mul_le_mul (by unfold Is64 at h0; omega) (by unfold Is64 at hD; omega) (by omega) (by decide)
  refine ⟨hm, by unfold Is128; unfold Is64 at hm; omega, ?_, ?_⟩
  · rw [Int.add_comm, Int.add_mul_ediv_right _ _ (by omega), Int.ediv_eq_zero_of_lt m0 m1]; omega
  · rw [Int.add_comm, Int.add_mul_emod_self_right, Int.emod_eq_of_lt m0 m1]
theorem add_rest {n D r : Int} (h0 : Is64 n) (hD : Is64 D) (hp : 0 < D) (h2 : Is64 r) (w : World) :
    Calls Try.prog 11 #[.agg #[.int .u64 (hi (n * D)), .int .u64 (lo (n * D))], .agg #[.int .u64 0, .int .u64 (r.tmod D)]] w fun e w' => e = .returned (.tuple #[.agg #[.int .u64 (hi (n * D + r % D)), .int .u64 (lo (n * D + r % D))], .bool true]) ∧ Below w.heap.size w w' := by
  rw [Int.tmod_eq_emod_of_nonneg h2.1]
  obtain ⟨a1, a2, -, -⟩ := rest_128 h0 hD hp h2
  have e : V (hi (n * D)) (lo (n * D)) + V 0 (r % D) = n * D + r % D := by rw [V_hi_lo]; unfold V; omega
  have := add_yes (hi (n * D)) (lo (n * D)) 0 (r % D) w (is64_hi (is128_mul h0 hD)) (is64_lo _) (by unfold Is64; omega) a1 (by rw [e]; exact a2)
  rw [e] at this
  exact this
theorem div_rest {n D r : Int} (h0 : Is64 n) (hD : Is64 D) (hp : 0 < D) (h2 : Is64 r) (w : World) :
    Calls Try.prog 20 #[.agg #[.int .u64 (hi (n * D + r % D)), .int .u64 (lo (n * D + r % D))], .int .u64 D] w fun e w' => e = .returned (.tuple #[.agg #[.int .u64 0, .int .u64 n], .int .u64 (r.tmod D), .bool true]) ∧ Below w.heap.size w w' := by
  rw [Int.tmod_eq_emod_of_nonneg h2.1]
  obtain ⟨a1, a2, a3, a4⟩ := rest_128 h0 hD hp h2
  have := div_any (hi (n * D + r % D)) (lo (n * D + r % D)) D w (is64_hi a2) (is64_lo _) hD (by simp; omega)
  rw [V_hi_lo, a3, a4] at this
  have e1 : hi n = 0 := by unfold hi; unfold Is64 at h0; omega
  have e2 : lo n = n := by unfold lo; unfold Is64 at h0; omega
  rw [e1, e2] at this
  exact this
set_option maxRecDepth 100000 in
set_option maxHeartbeats 4000000 in
theorem walk (a b c d n0 n1 n2 D : Int) (w : World) (ha : Is64 a) (hb : Is64 b) (hc : Is64 c) (hd : Is64 d) (h0 : Is64 n0) (h1 : Is64 n1) (h2 : Is64 n2) (hD : D = if n1 = 0 then 1 else n1) :
    Calls Try.prog 5 #[.agg #[.int .u64 a, .int .u64 b], .agg #[.int .u64 c, .int .u64 d], .agg #[.int .u64 n0, .int .u64 n1, .int .u64 n2]] w fun e w' => e = .returned (.bool true) ∧ Below w.heap.size w w' := by
  have hDp : 0 < D := by subst hD; unfold Is64 at h1; split <;> omega
  have hD64 : Is64 D := by subst hD; unfold Is64 at *; split <;> omega
  have hn2 : 0 ≤ n2 := h2.1
  have hDn : ¬ D = 0 := by omega
  have AG := Lib.hid (fun w => add_gen a b c d w ha hb hc hd)
  have MB := Lib.hid (fun w => mul_any n0 D w h0 hD64)
  have AB := Lib.hid (add_rest h0 hD64 hDp h2)
  have DB := Lib.hid (div_rest h0 hD64 hDp h2)
  have HD := Lib.hid hD
  clear hD
  go_enter Try.func5, Try.ntmps5
  go_wp2_with fail
  (with_reducible refine (awake_any _).mono ?_)
  rintro e w1 ⟨rfl, hb1⟩
  have k1 := carry hb1 (p := ⟨w.heap.size, 0, none⟩) (v := .int .u64 a) (by first | (simp [go_sem]; done) | (simp [go_sem]; omega))
  have k2 := carry hb1 (p := ⟨w.heap.size, 1, none⟩) (v := .int .u64 b) (by first | (simp [go_sem]; done) | (simp [go_sem]; omega))
  have k3 := carry hb1 (p := ⟨w.heap.size + 1, 0, none⟩) (v := .int .u64 c) (by first | (simp [go_sem]; done) | (simp [go_sem]; omega))
  have k4 := carry hb1 (p := ⟨w.heap.size + 1, 1, none⟩) (v := .int .u64 d) (by first | (simp [go_sem]; done) | (simp [go_sem]; omega))
  have k5 := carry hb1 (p := ⟨w.heap.size + 2, 0, none⟩) (v := .int .u64 n0) (by first | (simp [go_sem]; done) | (simp [go_sem]; omega))
  have k6 := carry hb1 (p := ⟨w.heap.size + 2, 1, none⟩) (v := .int .u64 n1) (by first | (simp [go_sem]; done) | (simp [go_sem]; omega))
  have k7 := carry hb1 (p := ⟨w.heap.size + 2, 2, none⟩) (v := .int .u64 n2) (by first | (simp [go_sem]; done) | (simp [go_sem]; omega))
  have bl : Below w.heap.size w w1 := by repeat (first | exact Below.refl _ _ | refine Below.trans ?_ (hb1.mono (by first | omega | (simp; done) | (simp; omega))) | refine Below.setCell ?_ (by first | omega | (simp; done) | (simp; omega)) _ | refine Below.alloc ?_ (by first | omega | (simp; done) | (simp; omega)) _ | refine Below.drew ?_)
  have zz := hb1.size
  try simp at zz
  have y0 : w.heap.size < w1.heap.size := by omega
  have y1 : w.heap.size + 1 < w1.heap.size := by omega
  have y2 : w.heap.size + 2 < w1.heap.size := by omega
  have bn : w.heap.size ≤ w1.heap.size := by omega
  clear hb1 zz
  go_wp2_with fail
  (with_reducible refine (AG.out _).mono ?_)
  rintro e w2 ⟨rfl, hb2⟩
  replace k1 := carry hb2 (p := ⟨w.heap.size, 0, none⟩) (v := .int .u64 a) (by first | exact k1 | (simp [go_sem, k1, y0, y1, y2]; done) | (simp [go_sem, k1, y0, y1, y2]; omega))
  replace k2 := carry hb2 (p := ⟨w.heap.size, 1, none⟩) (v := .int .u64 b) (by first | exact k2 | (simp [go_sem, k2, y0, y1, y2]; done) | (simp [go_sem, k2, y0, y1, y2]; omega))
  replace k3 := carry hb2 (p := ⟨w.heap.size + 1, 0, none⟩) (v := .int .u64 c) (by first | exact k3 | (simp [go_sem, k3, y0, y1, y2]; done) | (simp [go_sem, k3, y0, y1, y2]; omega))
  replace k4 := carry hb2 (p := ⟨w.heap.size + 1, 1, none⟩) (v := .int .u64 d) (by first | exact k4 | (simp [go_sem, k4, y0, y1, y2]; done) | (simp [go_sem, k4, y0, y1, y2]; omega))
  replace k5 := carry hb2 (p := ⟨w.heap.size + 2, 0, none⟩) (v := .int .u64 n0) (by first | exact k5 | (simp [go_sem, k5, y0, y1, y2]; done) | (simp [go_sem, k5, y0, y1, y2]; omega))
  replace k6 := carry hb2 (p := ⟨w.heap.size + 2, 1, none⟩) (v := .int .u64 n1) (by first | exact k6 | (simp [go_sem, k6, y0, y1, y2]; done) | (simp [go_sem, k6, y0, y1, y2]; omega))
  replace k7 := carry hb2 (p := ⟨w.heap.size + 2, 2, none⟩) (v := .int .u64 n2) (by first | exact k7 | (simp [go_sem, k7, y0, y1, y2]; done) | (simp [go_sem, k7, y0, y1, y2]; omega))
  replace bl : Below w.heap.size w w2 := by repeat (first | exact bl | refine Below.trans ?_ (hb2.mono (by first | omega | (simp; done) | (simp; omega))) | refine Below.setCell ?_ (by first | omega | (simp; done) | (simp; omega)) _ | refine Below.alloc ?_ (by first | omega | (simp; done) | (simp; omega)) _ | refine Below.drew ?_)
  have zz := hb2.size
  try simp at zz
  replace y0 : w.heap.size < w2.heap.size := by omega
  replace y1 : w.heap.size + 1 < w2.heap.size := by omega
  replace y2 : w.heap.size + 2 < w2.heap.size := by omega
  replace bn : w.heap.size ≤ w2.heap.size := by omega
  clear hb2 zz
  go_upto_if 25 with (fail)
  go_cut [9, 10, 11, 19, 22, 23, 24, 25] (fun s9 s10 s11 s19 s22 s23 s24 s25 wx => Kept3 w n0 n1 n2 wx)
  case first =>
    by_cases hs : Is128 (V a b + V c d)
    · have SB := Lib.hid (sub_back ha hb hc hd hs)
      have CB := Lib.hid (cmp_back ha hb hc hd hs)
      have e1 := Lib.hid (addB_yes hs)
      have e2 := Lib.hid (addH_yes hs)
      have e3 := Lib.hid (addL_yes hs)
      have hcm := cmp_back_not ha hb hc hd
      clear hs
      rw [e1.out, e2.out, e3.out]
      go_wp2_with fail
      (with_reducible refine (SB.out _).mono ?_)
      rintro e w3 ⟨rfl, hb3⟩
      replace k1 := carry hb3 (p := ⟨w.heap.size, 0, none⟩) (v := .int .u64 a) (by first | exact k1 | (simp [go_sem, k1, y0, y1, y2]; done) | (simp [go_sem, k1, y0, y1, y2]; omega))
      replace k2 := carry hb3 (p := ⟨w.heap.size, 1, none⟩) (v := .int .u64 b) (by first | exact k2 | (simp [go_sem, k2, y0, y1, y2]; done) | (simp [go_sem, k2, y0, y1, y2]; omega))
      replace k3 := carry hb3 (p := ⟨w.heap.size + 1, 0, none⟩) (v := .int .u64 c) (by first | exact k3 | (simp [go_sem, k3, y0, y1, y2]; done) | (simp [go_sem, k3, y0, y1, y2]; omega))
      replace k4 := carry hb3 (p := ⟨w.heap.size + 1, 1, none⟩) (v := .int .u64 d) (by first | exact k4 | (simp [go_sem, k4, y0, y1, y2]; done) | (simp [go_sem, k4, y0, y1, y2]; omega))
      replace k5 := carry hb3 (p := ⟨w.heap.size + 2, 0, none⟩) (v := .int .u64 n0) (by first | exact k5 | (simp [go_sem, k5, y0, y1, y2]; done) | (simp [go_sem, k5, y0, y1, y2]; omega))
      replace k6 := carry hb3 (p := ⟨w.heap.size + 2, 1, none⟩) (v := .int .u64 n1) (by first | exact k6 | (simp [go_sem, k6, y0, y1, y2]; done) | (simp [go_sem, k6, y0, y1, y2]; omega))
      replace k7 := carry hb3 (p := ⟨w.heap.size + 2, 2, none⟩) (v := .int .u64 n2) (by first | exact k7 | (simp [go_sem, k7, y0, y1, y2]; done) | (simp [go_sem, k7, y0, y1, y2]; omega))
      have k8 := carry hb3 (p := ⟨w2.heap.size, 0, none⟩) (v := .int .u64 (hi (V a b + V c d))) (by first | (simp [go_sem, y0, y1, y2]; done) | (simp [go_sem, y0, y1, y2]; omega))
      have k9 := carry hb3 (p := ⟨w2.heap.size, 1, none⟩) (v := .int .u64 (lo (V a b + V c d))) (by first | (simp [go_sem, y0, y1, y2]; done) | (simp [go_sem, y0, y1, y2]; omega))
      replace bl : Below w.heap.size w w3 := by repeat (first | exact bl | refine Below.trans ?_ (hb3.mono (by first | omega | (simp; done) | (simp; omega))) | refine Below.setCell ?_ (by first | omega | (simp; done) | (simp; omega)) _ | refine Below.alloc ?_ (by first | omega | (simp; done) | (simp; omega)) _ | refine Below.drew ?_)
      have zz := hb3.size
      try simp at zz
      replace y0 : w.heap.size < w3.heap.size := by omega
      replace y1 : w.heap.size + 1 < w3.heap.size := by omega
      replace y2 : w.heap.size + 2 < w3.heap.size := by omega
      have y3 : w2.heap.size < w3.heap.size := by omega
      replace bn : w.heap.size ≤ w3.heap.size := by omega
      clear hb3 zz
      go_wp2_with fail
      (with_reducible refine (CB.out _).mono ?_)
      rintro e w4 ⟨rfl, hb4⟩
      replace k1 := carry hb4 (p := ⟨w.heap.size, 0, none⟩) (v := .int .u64 a) (by first | exact k1 | (simp [go_sem, k1, y0, y1, y2, y3]; done) | (simp [go_sem, k1, y0, y1, y2, y3]; omega))
      replace k2 := carry hb4 (p := ⟨w.heap.size, 1, none⟩) (v := .int .u64 b) (by first | exact k2 | (simp [go_sem, k2, y0, y1, y2, y3]; done) | (simp [go_sem, k2, y0, y1, y2, y3]; omega))
      replace k3 := carry hb4 (p := ⟨w.heap.size + 1, 0, none⟩) (v := .int .u64 c) (by first | exact k3 | (simp [go_sem, k3, y0, y1, y2, y3]; done) | (simp [go_sem, k3, y0, y1, y2, y3]; omega))
      replace k4 := carry hb4 (p := ⟨w.heap.size + 1, 1, none⟩) (v := .int .u64 d) (by first | exact k4 | (simp [go_sem, k4, y0, y1, y2, y3]; done) | (simp [go_sem, k4, y0, y1, y2, y3]; omega))
      replace k5 := carry hb4 (p := ⟨w.heap.size + 2, 0, none⟩) (v := .int .u64 n0) (by first | exact k5 | (simp [go_sem, k5, y0, y1, y2, y3]; done) | (simp [go_sem, k5, y0, y1, y2, y3]; omega))
      replace k6 := carry hb4 (p := ⟨w.heap.size + 2, 1, none⟩) (v := .int .u64 n1) (by first | exact k6 | (simp [go_sem, k6, y0, y1, y2, y3]; done) | (simp [go_sem, k6, y0, y1, y2, y3]; omega))
      replace k7 := carry hb4 (p := ⟨w.heap.size + 2, 2, none⟩) (v := .int .u64 n2) (by first | exact k7 | (simp [go_sem, k7, y0, y1, y2, y3]; done) | (simp [go_sem, k7, y0, y1, y2, y3]; omega))
      replace k8 := carry hb4 (p := ⟨w2.heap.size, 0, none⟩) (v := .int .u64 (hi (V a b + V c d))) (by first | exact k8 | (simp [go_sem, k8, y0, y1, y2, y3]; done) | (simp [go_sem, k8, y0, y1, y2, y3]; omega))
      replace k9 := carry hb4 (p := ⟨w2.heap.size, 1, none⟩) (v := .int .u64 (lo (V a b + V c d))) (by first | exact k9 | (simp [go_sem, k9, y0, y1, y2, y3]; done) | (simp [go_sem, k9, y0, y1, y2, y3]; omega))
      have k10 := carry hb4 (p := ⟨w3.heap.size, 0, none⟩) (v := .int .u64 a) (by first | (simp [go_sem, y0, y1, y2, y3]; done) | (simp [go_sem, y0, y1, y2, y3]; omega))
      have k11 := carry hb4 (p := ⟨w3.heap.size, 1, none⟩) (v := .int .u64 b) (by first | (simp [go_sem, y0, y1, y2, y3]; done) | (simp [go_sem, y0, y1, y2, y3]; omega))
      replace bl : Below w.heap.size w w4 := by repeat (first | exact bl | refine Below.trans ?_ (hb4.mono (by first | omega | (simp; done) | (simp; omega))) | refine Below.setCell ?_ (by first | omega | (simp; done) | (simp; omega)) _ | refine Below.alloc ?_ (by first | omega | (simp; done) | (simp; omega)) _ | refine Below.drew ?_)
      have zz := hb4.size
      try simp at zz
      replace y0 : w.heap.size < w4.heap.size := by omega
      replace y1 : w.heap.size + 1 < w4.heap.size := by omega
      replace y2 : w.heap.size + 2 < w4.heap.size := by omega
      replace y3 : w2.heap.size < w4.heap.size := by omega
      have y4 : w3.heap.size < w4.heap.size := by omega
      replace bn : w.heap.size ≤ w4.heap.size := by omega
      clear hb4 zz
      go_wp2_with fail
      go_meet
      exact ⟨(by first | exact k5 | simp [go_sem, k5, y2]), (by first | exact k6 | simp [go_sem, k6, y2]), (by first | exact k7 | simp [go_sem, k7, y2]), (by repeat (first | exact bl | refine Below.setCell ?_ (by first | omega | (simp; done) | (simp; omega)) _ | refine Below.alloc ?_ (by first | omega | (simp; done) | (simp; omega)) _ | refine Below.drew ?_)), (by first | omega | (simp; done) | (simp; omega))⟩
    · rw [addB_not hs]
      go_wp2_with fail
      go_meet
      exact ⟨(by first | exact k5 | simp [go_sem, k5, y2]), (by first | exact k6 | simp [go_sem, k6, y2]), (by first | exact k7 | simp [go_sem, k7, y2]), (by repeat (first | exact bl | refine Below.setCell ?_ (by first | omega | (simp; done) | (simp; omega)) _ | refine Below.alloc ?_ (by first | omega | (simp; done) | (simp; omega)) _ | refine Below.drew ?_)), (by first | omega | (simp; done) | (simp; omega))⟩
  case rest =>
    clear k1 k2 k3 k4 k5 k6 k7 bl y0 y1 y2 bn
    obtain ⟨k5, k6, k7, bl, y2⟩ := hcut
    go_upto_if 48 with (fail)
    go_cut [12] (fun s12 wx => s12 = .int .u64 D ∧ Kept3 w n0 n1 n2 wx)
    case first =>
      by_cases hz : n1 = 0
      · have z : (n1 == 0) = true := by simpa using hz
        have ed : D = 1 := by rw [HD.out, if_pos hz]
        have ED := Lib.hid ed
        clear hz ed
        go_wp2_with fail
        go_meet
        exact ⟨by rw [ED.out], k5, k6, k7, bl, y2⟩
      · have z : (n1 == 0) = false := by simpa using hz
        have ed : D = n1 := by rw [HD.out, if_neg hz]
        have ED := Lib.hid ed
        clear hz ed
        go_wp2_with fail
        go_meet
        exact ⟨by rw [ED.out], k5, k6, k7, bl, y2⟩
    case rest =>
      clear k5 k6 k7 bl y2
      obtain ⟨rfl, hk⟩ := hcut
      have y2 := hk.2.2.2.2
      have HK := Lib.hid hk
      obtain ⟨k5, k6, k7, -, -⟩ := hk
      go_upto_region 10 with (fail)
      go_cut [13, 14] (fun s13 s14 wx => NewP w n0 n1 n2 (hi (n0 * D + n2 % D)) (lo (n0 * D + n2 % D)) s13 wx ∧ s14 = .bool true)
      case first =>
        go_region_held3 (fun w' => w'.cell? ⟨w.heap.size + 2, 0, none⟩ = some (.int .u64 n0) ∧ w'.cell? ⟨w.heap.size + 2, 1, none⟩ = some (.int .u64 n1) ∧ w'.cell? ⟨w.heap.size + 2, 2, none⟩ = some (.int .u64 n2) ∧ Below w.heap.size w w' ∧ w.heap.size + 2 < w'.heap.size) (first | exact HK.out | exact kept_drew HK.out | assumption | exact kkhA | exact kkhM | exact kkhO | exact kept_alloc kkhA | exact kept_alloc kkhM | exact kept_alloc kkhO | exact kept_set (kept_set kkhA (by first | (simp; omega) | omega)) (by first | (simp; omega) | omega) | exact kept_call (by assumption) (by assumption) | exact kept_alloc (by assumption) | exact kept_alloc (kept_drew HK.out) | exact kept_set (kept_set (by assumption) (by first | (simp; omega) | omega)) (by first | (simp; omega) | omega)) (first | (go_at_call 17; (with_reducible refine (MB.out _).mono ?_); rintro e wm ⟨rfl, hM⟩; (have zhM := hM.size); (try simp at zhM); (try (have qhM := Nat.lt_of_succ_le zhM)); (try (have fhMwc0 := carry_fr hM (p := ⟨wc.heap.size, 0, none⟩) (v := .int .u64 0) (by first | (simp [go_sem]; done) | assumption) (by first | (simp [go_sem]; done) | assumption))); (try (have chMwc0 := carry hM (p := ⟨wc.heap.size, 0, none⟩) (v := .int .u64 0) (by first | (simp [go_sem]; done) | assumption))); (try (have fhMwc1 := carry_fr hM (p := ⟨wc.heap.size, 1, none⟩) (v := .int .u64 0) (by first | (simp [go_sem]; done) | assumption) (by first | (simp [go_sem]; done) | assumption))); (try (have chMwc1 := carry hM (p := ⟨wc.heap.size, 1, none⟩) (v := .int .u64 0) (by first | (simp [go_sem]; done) | assumption))); (try (have fhMwm0 := carry_fr hM (p := ⟨wm.heap.size, 0, none⟩) (v := .int .u64 0) (by first | (simp [go_sem]; done) | assumption) (by first | (simp [go_sem]; done) | assumption))); (try (have chMwm0 := carry hM (p := ⟨wm.heap.size, 0, none⟩) (v := .int .u64 0) (by first | (simp [go_sem]; done) | assumption))); (try (have fhMwm1 := carry_fr hM (p := ⟨wm.heap.size, 1, none⟩) (v := .int .u64 0) (by first | (simp [go_sem]; done) | assumption) (by first | (simp [go_sem]; done) | assumption))); (try (have chMwm1 := carry hM (p := ⟨wm.heap.size, 1, none⟩) (v := .int .u64 0) (by first | (simp [go_sem]; done) | assumption))); (try (have fhMwo0 := carry_fr hM (p := ⟨wo.heap.size, 0, none⟩) (v := .int .u64 0) (by first | (simp [go_sem]; done) | assumption) (by first | (simp [go_sem]; done) | assumption))); (try (have chMwo0 := carry hM (p := ⟨wo.heap.size, 0, none⟩) (v := .int .u64 0) (by first | (simp [go_sem]; done) | assumption))); (try (have fhMwo1 := carry_fr hM (p := ⟨wo.heap.size, 1, none⟩) (v := .int .u64 0) (by first | (simp [go_sem]; done) | assumption) (by first | (simp [go_sem]; done) | assumption))); (try (have chMwo1 := carry hM (p := ⟨wo.heap.size, 1, none⟩) (v := .int .u64 0) (by first | (simp [go_sem]; done) | assumption))); (have kkhM : Kept3 w n0 n1 n2 wm := kept_call (by first | assumption | exact kept_drew HK.out | exact HK.out) hM)) | (go_at_call 19; (with_reducible refine (of_any _ _).mono ?_); rintro e wo ⟨rfl, hO⟩; (have zhO := hO.size); (try simp at zhO); (try (have qhO := Nat.lt_of_succ_le zhO)); (try (have fhOwc0 := carry_fr hO (p := ⟨wc.heap.size, 0, none⟩) (v := .int .u64 0) (by first | (simp [go_sem]; done) | assumption) (by first | (simp [go_sem]; done) | assumption))); (try (have chOwc0 := carry hO (p := ⟨wc.heap.size, 0, none⟩) (v := .int .u64 0) (by first | (simp [go_sem]; done) | assumption))); (try (have fhOwc1 := carry_fr hO (p := ⟨wc.heap.size, 1, none⟩) (v := .int .u64 0) (by first | (simp [go_sem]; done) | assumption) (by first | (simp [go_sem]; done) | assumption))); (try (have chOwc1 := carry hO (p := ⟨wc.heap.size, 1, none⟩) (v := .int .u64 0) (by first | (simp [go_sem]; done) | assumption))); (try (have fhOwm0 := carry_fr hO (p := ⟨wm.heap.size, 0, none⟩) (v := .int .u64 0) (by first | (simp [go_sem]; done) | assumption) (by first | (simp [go_sem]; done) | assumption))); (try (have chOwm0 := carry hO (p := ⟨wm.heap.size, 0, none⟩) (v := .int .u64 0) (by first | (simp [go_sem]; done) | assumption))); (try (have fhOwm1 := carry_fr hO (p := ⟨wm.heap.size, 1, none⟩) (v := .int .u64 0) (by first | (simp [go_sem]; done) | assumption) (by first | (simp [go_sem]; done) | assumption))); (try (have chOwm1 := carry hO (p := ⟨wm.heap.size, 1, none⟩) (v := .int .u64 0) (by first | (simp [go_sem]; done) | assumption))); (try (have fhOwo0 := carry_fr hO (p := ⟨wo.heap.size, 0, none⟩) (v := .int .u64 0) (by first | (simp [go_sem]; done) | assumption) (by first | (simp [go_sem]; done) | assumption))); (try (have chOwo0 := carry hO (p := ⟨wo.heap.size, 0, none⟩) (v := .int .u64 0) (by first | (simp [go_sem]; done) | assumption))); (try (have fhOwo1 := carry_fr hO (p := ⟨wo.heap.size, 1, none⟩) (v := .int .u64 0) (by first | (simp [go_sem]; done) | assumption) (by first | (simp [go_sem]; done) | assumption))); (try (have chOwo1 := carry hO (p := ⟨wo.heap.size, 1, none⟩) (v := .int .u64 0) (by first | (simp [go_sem]; done) | assumption))); (have kkhO : Kept3 w n0 n1 n2 wo := kept_call (by first | assumption | exact kept_drew HK.out | exact HK.out) hO)) | (go_at_call 11; (with_reducible refine (AB.out _).mono ?_); rintro e wa ⟨rfl, hA⟩; (have zhA := hA.size); (try simp at zhA); (try (have qhA := Nat.lt_of_succ_le zhA)); (try (have fhAwc0 := carry_fr hA (p := ⟨wc.heap.size, 0, none⟩) (v := .int .u64 0) (by first | (simp [go_sem]; done) | assumption) (by first | (simp [go_sem]; done) | assumption))); (try (have chAwc0 := carry hA (p := ⟨wc.heap.size, 0, none⟩) (v := .int .u64 0) (by first | (simp [go_sem]; done) | assumption))); (try (have fhAwc1 := carry_fr hA (p := ⟨wc.heap.size, 1, none⟩) (v := .int .u64 0) (by first | (simp [go_sem]; done) | assumption) (by first | (simp [go_sem]; done) | assumption))); (try (have chAwc1 := carry hA (p := ⟨wc.heap.size, 1, none⟩) (v := .int .u64 0) (by first | (simp [go_sem]; done) | assumption))); (try (have fhAwm0 := carry_fr hA (p := ⟨wm.heap.size, 0, none⟩) (v := .int .u64 0) (by first | (simp [go_sem]; done) | assumption) (by first | (simp [go_sem]; done) | assumption))); (try (have chAwm0 := carry hA (p := ⟨wm.heap.size, 0, none⟩) (v := .int .u64 0) (by first | (simp [go_sem]; done) | assumption))); (try (have fhAwm1 := carry_fr hA (p := ⟨wm.heap.size, 1, none⟩) (v := .int .u64 0) (by first | (simp [go_sem]; done) | assumption) (by first | (simp [go_sem]; done) | assumption))); (try (have chAwm1 := carry hA (p := ⟨wm.heap.size, 1, none⟩) (v := .int .u64 0) (by first | (simp [go_sem]; done) | assumption))); (try (have fhAwo0 := carry_fr hA (p := ⟨wo.heap.size, 0, none⟩) (v := .int .u64 0) (by first | (simp [go_sem]; done) | assumption) (by first | (simp [go_sem]; done) | assumption))); (try (have chAwo0 := carry hA (p := ⟨wo.heap.size, 0, none⟩) (v := .int .u64 0) (by first | (simp [go_sem]; done) | assumption))); (try (have fhAwo1 := carry_fr hA (p := ⟨wo.heap.size, 1, none⟩) (v := .int .u64 0) (by first | (simp [go_sem]; done) | assumption) (by first | (simp [go_sem]; done) | assumption))); (try (have chAwo1 := carry hA (p := ⟨wo.heap.size, 1, none⟩) (v := .int .u64 0) (by first | (simp [go_sem]; done) | assumption))); (have kkhA : Kept3 w n0 n1 n2 wa := kept_call (by first | assumption | exact kept_drew HK.out | exact HK.out) hA)))
        all_goals
          go_wp2_with fail
          go_meet
          first
          | exact ⟨newp_alloc kkhA, rfl⟩
          | exact ⟨newp_set (u0 := .int .u64 0) (u1 := .int .u64 0) (by assumption) (by assumption) (by omega) kkhA, rfl⟩
      case rest =>
        clear k5 k6 k7 y2 HK
        obtain ⟨⟨g, rfl, k8, k9, k5, k6, k7, bl, y2⟩, rfl⟩ := hcut
        have bn : w.heap.size ≤ wc.heap.size := by omega
        go_wp2_with fail
        (with_reducible refine (DB.out _).mono ?_)
        rintro e w11 ⟨rfl, hb11⟩
        replace k5 := carry hb11 (p := ⟨w.heap.size + 2, 0, none⟩) (v := .int .u64 n0) (by first | exact k5 | (simp [go_sem, k5]; done) | (simp [go_sem, k5]; omega))
        replace k7 := carry hb11 (p := ⟨w.heap.size + 2, 2, none⟩) (v := .int .u64 n2) (by first | exact k7 | (simp [go_sem, k7]; done) | (simp [go_sem, k7]; omega))
        replace k6 := carry hb11 (p := ⟨w.heap.size + 2, 1, none⟩) (v := .int .u64 n1) (by first | exact k6 | (simp [go_sem, k6]; done) | (simp [go_sem, k6]; omega))
        replace bl : Below w.heap.size w w11 := by repeat (first | exact bl | refine Below.trans ?_ (hb11.mono (by first | omega | (simp; done) | (simp; omega))) | refine Below.setCell ?_ (by first | omega | (simp; done) | (simp; omega)) _ | refine Below.alloc ?_ (by first | omega | (simp; done) | (simp; omega)) _ | refine Below.drew ?_)
        have zz := hb11.size
        try simp at zz
        have y0 : w.heap.size + 2 < w11.heap.size := by omega
        replace bn : w.heap.size ≤ w11.heap.size := by omega
        clear hb11 zz
        clear y2
        have hk : Kept3 w n0 n1 n2 w11 := ⟨k5, k6, k7, bl, y0⟩
        have q0 : (w11.alloc (.cells #[.int .u64 0, .int .u64 n0] 24)).cell? ⟨w11.heap.size, 0, none⟩ = some (.int .u64 0) := by simp [go_sem]
        have q1 : (w11.alloc (.cells #[.int .u64 0, .int .u64 n0] 24)).cell? ⟨w11.heap.size, 1, none⟩ = some (.int .u64 n0) := by simp [go_sem]
        have HK := Lib.hid (kept_alloc (cs := #[.int .u64 0, .int .u64 n0]) (t := 24) hk)
        clear k8 k9 hk
        have et : (n2 % D == n2.tmod D) = true := by simp [Int.tmod_eq_emod_of_nonneg hn2]
        go_upto_region 14 with (fail)
        go_region_held3 (fun w' => w'.cell? ⟨w11.heap.size, 0, none⟩ = some (.int .u64 0) ∧ w'.cell? ⟨w11.heap.size, 1, none⟩ = some (.int .u64 n0) ∧ Kept3 w n0 n1 n2 w' ∧ w'.cell? ⟨w.heap.size + 2, 0, none⟩ = some (.int .u64 n0) ∧ w'.cell? ⟨w.heap.size + 2, 2, none⟩ = some (.int .u64 n2)) (first | exact ⟨by simp [go_sem], by simp [go_sem], kept_drew HK.out, (kept_drew HK.out).1, (kept_drew HK.out).2.2.1⟩ | exact kks) (first | (go_at_call 19; (with_reducible refine (of_any _ _).mono ?_); rintro e wo ⟨rfl, hO⟩; (have kkO : Kept3 w n0 n1 n2 wo := kept_call (kept_drew HK.out) hO); (have kks := And.intro (carry hO (p := ⟨w11.heap.size, 0, none⟩) (v := .int .u64 0) (by simp [go_sem])) (And.intro (carry hO (p := ⟨w11.heap.size, 1, none⟩) (v := .int .u64 n0) (by simp [go_sem])) (And.intro kkO (And.intro kkO.1 kkO.2.2.1))))))
        all_goals
          go_wp2
          all_goals (go_ret; exact ⟨rfl, by first | exact kkO.2.2.2.1 | exact HK.out.2.2.2.1⟩)

set_option maxRecDepth 100000 in
theorem lifted (os : Os) (started : os.Started) (H : Type) (enc : TypeId × Value → H) :
    ReturnsInHanded {} Try.checked os 5 .any (Rows.wideBackSpec.pre6 enc Try.prog Try.f5 Rows.wideBackRow.domain false) (Rows.wideBackSpec.post enc Try.prog Try.f5 false true false false) := by
  refine returnsInHanded_of_change (C := Try.checked) own started (by kernel_rfl) Try.func5
    (ChangeSpec.witness6 (enc := enc) (C := Try.checked) false ⟨#[], #[.agg #[.int .u64 0, .int .u64 0], .agg #[.int .u64 0, .int .u64 0], .agg #[.int .u64 0, .int .u64 0, .int .u64 0]], []⟩ 8 (by kernel_rfl) (by kernel_rfl) (by kernel_rfl) (by kernel_rfl)) ?_
  intro W base args ds gs before hval0 hW hcnd _
  have hval : ∀ (j : Nat) t v, Try.f5.params[j]? = some t → args[j]? = some v → Value.okWide Try.prog W .any base t v := hval0
  have hW' := hW
  obtain ⟨p, q, hA0, hV, rfl, hfz, hnd⟩ := hW
  have hA : DataW.TrodAll enc Try.prog W 0 (fun _ => true) true Try.f5.params.toList args.toList ds p := hA0
  rw [Try.params5] at hA hval
  obtain ⟨v0, vs0, d0, ds0, p0, q0, hargs, rfl, rfl, h0, r0⟩ := trodAll_cons hA
  obtain ⟨v1, vs1, d1, ds1, p1, q1, rfl, rfl, rfl, h1, r1⟩ := trodAll_cons r0
  obtain ⟨v2, vs2, d2, ds2, p2, q2, rfl, rfl, rfl, h2, r2⟩ := trodAll_cons r1
  obtain ⟨rfl, rfl, rfl⟩ := trodAll_nil r2
  obtain rfl : args = #[v0, v1, v2] := by cases args; simp_all
  obtain ⟨rfl, rfl⟩ := trodVars_none hV
  have lt0 : ∀ x ∈ p0, x.block < W.heap.size := by obtain ⟨m, hm⟩ := h0; exact DataW.trod_lt m _ _ _ hm
  obtain ⟨a, b, rfl, wa, wb⟩ := open_wide (hval 0 24 v0 rfl rfl) h0
  have lt1 : ∀ x ∈ p1, x.block < W.heap.size := by obtain ⟨m, hm⟩ := h1; exact DataW.trod_lt m _ _ _ hm
  obtain ⟨c, d, rfl, wc, wd⟩ := open_wide (hval 1 24 v1 rfl rfl) h1
  have lt2 : ∀ x ∈ p2, x.block < W.heap.size := by obtain ⟨m, hm⟩ := h2; exact DataW.trod_lt m _ _ _ hm
  obtain ⟨n0, n1, n2, rfl, wn0, wn1, wn2⟩ := open_arr3 Try.underlying42 (by kernel_rfl) (hval 2 42 v2 rfl rfl) h2
  clear hA0 hval0
  refine (walk a b c d n0 n1 n2 _ W wa wb wc wd wn0 wn1 wn2 rfl).mono fun e W' ⟨he, bel⟩ => ?_
  subst he
  exact ⟨_, rfl, _, _, _, [], _, [], hW', trodAll_mk1 (shut_bool Try.underlying4 _), (trodAll_cons_mk (Below.trod laidOut (by kernel_rfl) (of_decide_eq_true (by kernel_rfl)) h0 bel lt0) (trodAll_cons_mk (Below.trod laidOut (by kernel_rfl) (of_decide_eq_true (by kernel_rfl)) h1 bel lt1) (trodAll_cons_mk (Below.trod laidOut (by kernel_rfl) (of_decide_eq_true (by kernel_rfl)) h2 bel lt2) trodAll_mk0))), rfl, bel.frame _, fun h => by cases h⟩

theorem proved : Rows.WideBackSaid :=
  OpenClaim.holds_of_wide 5 Try.f5 rfl rfl rfl rfl rfl rfl rfl ⟨rfl, rfl, rfl, rfl, rfl⟩ rfl rfl rfl rfl rfl (by kernel_rfl) Try.func5 (by kernel_rfl)
    (of_decide_eq_true (by kernel_rfl)) (by unfold Func.isWrapper; first | (rw [if_pos (by decide +kernel)]; kernel_rfl) | (rw [if_neg (by decide +kernel)]; exact ⟨rfl, rfl⟩))
    (fun os started H enc _ => lifted os started H enc)
#print axioms proved
end Go.Proofs.Ytdddafhalcbhaaa.wideBack
