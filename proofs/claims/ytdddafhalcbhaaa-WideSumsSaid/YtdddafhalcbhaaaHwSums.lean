/- Numbers are reckoned as the document says: sums, differences, order, products, and a number of 64 bits as one of 128 are what the document answers. For every two numbers of 128 bits and every two of 64, without a condition. -/
import Derived.Test.YtdddafhalcbhaaaHrSub
import Derived.Test.YtdddafhalcbhaaaHwFA
namespace Go.Proofs.Ytdddafhalcbhaaa.wideSums
open Go.ChangeShapes Go.WideShapes Go.ChangeAt Go.RowKit Go.Joins
set_option linter.unusedVariables false
set_option linter.unusedSimpArgs false

def SumsS (w w1 w2 w3 w4 w5 : World) (a b c d m n : Int) (w' : World) : Prop := w'.cell? ⟨w.heap.size, 0, none⟩ = some (.int .u64 a) ∧ w'.cell? ⟨w.heap.size, 1, none⟩ = some (.int .u64 b) ∧ w'.cell? ⟨w.heap.size + 1, 0, none⟩ = some (.int .u64 c) ∧ w'.cell? ⟨w.heap.size + 1, 1, none⟩ = some (.int .u64 d) ∧ w'.cell? ⟨w.heap.size + 1 + 1, 0, none⟩ = some (.int .u64 m) ∧ w'.cell? ⟨w.heap.size + 1 + 1, 1, none⟩ = some (.int .u64 n) ∧ w'.cell? ⟨w1.heap.size, 0, none⟩ = some (.int .u64 0) ∧ w'.cell? ⟨w1.heap.size, 1, none⟩ = some (.int .u64 m) ∧ w'.cell? ⟨w2.heap.size, 0, none⟩ = some (.int .u64 (addH a b c d)) ∧ w'.cell? ⟨w2.heap.size, 1, none⟩ = some (.int .u64 (addL a b c d)) ∧ w'.cell? ⟨w3.heap.size, 0, none⟩ = some (.int .u64 (addH a b c d)) ∧ w'.cell? ⟨w3.heap.size, 1, none⟩ = some (.int .u64 (addL a b c d)) ∧ w'.cell? ⟨w4.heap.size, 0, none⟩ = some (.int .u64 (subH a b c d)) ∧ w'.cell? ⟨w4.heap.size, 1, none⟩ = some (.int .u64 (subL a b c d)) ∧ w'.cell? ⟨w5.heap.size, 0, none⟩ = some (.int .u64 (subH a b c d)) ∧ w'.cell? ⟨w5.heap.size, 1, none⟩ = some (.int .u64 (subL a b c d)) ∧ Below w.heap.size w w'
theorem sums_call {w w1 w2 w3 w4 w5 W w' : World} {a b c d m n : Int} (h : SumsS w w1 w2 w3 w4 w5 a b c d m n W) (hb : Below W.heap.size W w') : SumsS w w1 w2 w3 w4 w5 a b c d m n w' := by
  obtain ⟨h0, h1, h2, h3, h4, h5, h6, h7, h8, h9, h10, h11, h12, h13, h14, h15, bl⟩ := h
  exact ⟨carry hb h0, carry hb h1, carry hb h2, carry hb h3, carry hb h4, carry hb h5, carry hb h6, carry hb h7, carry hb h8, carry hb h9, carry hb h10, carry hb h11, carry hb h12, carry hb h13, carry hb h14, carry hb h15, bl.trans (hb.mono bl.size)⟩
theorem sums_drew {w w1 w2 w3 w4 w5 W : World} {a b c d m n : Int} (h : SumsS w w1 w2 w3 w4 w5 a b c d m n W) : SumsS w w1 w2 w3 w4 w5 a b c d m n W.drew := by
  obtain ⟨h0, h1, h2, h3, h4, h5, h6, h7, h8, h9, h10, h11, h12, h13, h14, h15, bl⟩ := h
  exact ⟨by simpa [go_sem] using h0, by simpa [go_sem] using h1, by simpa [go_sem] using h2, by simpa [go_sem] using h3, by simpa [go_sem] using h4, by simpa [go_sem] using h5, by simpa [go_sem] using h6, by simpa [go_sem] using h7, by simpa [go_sem] using h8, by simpa [go_sem] using h9, by simpa [go_sem] using h10, by simpa [go_sem] using h11, by simpa [go_sem] using h12, by simpa [go_sem] using h13, by simpa [go_sem] using h14, by simpa [go_sem] using h15, bl.drew⟩
set_option maxRecDepth 100000 in
set_option maxHeartbeats 8000000 in
theorem walk (a b c d m n : Int) (w : World) (ha : Is64 a) (hb : Is64 b) (hc : Is64 c) (hd : Is64 d) (hm : Is64 m) (hn : Is64 n) :
    Calls Try.prog 3 #[.agg #[.int .u64 a, .int .u64 b], .agg #[.int .u64 c, .int .u64 d], .agg #[.int .u64 m, .int .u64 n]] w fun e w' => e = .returned (.bool true) ∧ Below w.heap.size w w' := by
  have AG := Lib.hid (fun w => add_gen a b c d w ha hb hc hd)
  have AR := Lib.hid (fun w => add_rf a b c d w ha hb hc hd)
  have SG := Lib.hid (fun w => sub_gen a b c d w ha hb hc hd)
  have SR := Lib.hid (fun w => sub_rf a b c d w ha hb hc hd)
  have CG := Lib.hid (fun w => cmp_any a b c d w hb hd)
  have CR := Lib.hid (fun w => cmp_rf a b c d w ha hb hc hd)
  have MG := Lib.hid (fun w => mul_any m n w hm hn)
  have MR := Lib.hid (fun w => mul_rf m n w hm hn)
  clear ha hb hc hd hm hn
  go_enter Try.func3, Try.ntmps3
  go_wp2_with fail
  (with_reducible refine (awake_any _).mono ?_)
  rintro e w1 ⟨rfl, hb1⟩
  have k1 := carry hb1 (p := ⟨w.heap.size, 0, none⟩) (v := .int .u64 a) (by first | (simp [go_sem]; done) | (simp [go_sem]; omega))
  have k2 := carry hb1 (p := ⟨w.heap.size, 1, none⟩) (v := .int .u64 b) (by first | (simp [go_sem]; done) | (simp [go_sem]; omega))
  have k3 := carry hb1 (p := ⟨w.heap.size + 1, 0, none⟩) (v := .int .u64 c) (by first | (simp [go_sem]; done) | (simp [go_sem]; omega))
  have k4 := carry hb1 (p := ⟨w.heap.size + 1, 1, none⟩) (v := .int .u64 d) (by first | (simp [go_sem]; done) | (simp [go_sem]; omega))
  have k5 := carry hb1 (p := ⟨w.heap.size + 1 + 1, 0, none⟩) (v := .int .u64 m) (by first | (simp [go_sem]; done) | (simp [go_sem]; omega))
  have k6 := carry hb1 (p := ⟨w.heap.size + 1 + 1, 1, none⟩) (v := .int .u64 n) (by first | (simp [go_sem]; done) | (simp [go_sem]; omega))
  have bl : Below w.heap.size w w1 := by repeat (first | exact Below.refl _ _ | refine Below.trans ?_ (hb1.mono (by first | omega | (simp; done) | (simp; omega))) | refine Below.setCell ?_ (by first | omega | (simp; done) | (simp; omega)) _ | refine Below.alloc ?_ (by first | omega | (simp; done) | (simp; omega)) _ | refine Below.drew ?_)
  have zz := hb1.size
  try simp at zz
  have y0 : w.heap.size < w1.heap.size := by omega
  have y1 : w.heap.size + 1 < w1.heap.size := by omega
  have y2 : w.heap.size + 1 + 1 < w1.heap.size := by omega
  have bn : w.heap.size ≤ w1.heap.size := by omega
  clear hb1 zz
  go_wp2_with fail
  (with_reducible refine (AG.out _).mono ?_)
  rintro e w2 ⟨rfl, hb2⟩
  replace k1 := carry hb2 (p := ⟨w.heap.size, 0, none⟩) (v := .int .u64 a) (by first | exact k1 | (simp [go_sem, k1, y0, y1, y2]; done) | (simp [go_sem, k1, y0, y1, y2]; omega))
  replace k2 := carry hb2 (p := ⟨w.heap.size, 1, none⟩) (v := .int .u64 b) (by first | exact k2 | (simp [go_sem, k2, y0, y1, y2]; done) | (simp [go_sem, k2, y0, y1, y2]; omega))
  replace k3 := carry hb2 (p := ⟨w.heap.size + 1, 0, none⟩) (v := .int .u64 c) (by first | exact k3 | (simp [go_sem, k3, y0, y1, y2]; done) | (simp [go_sem, k3, y0, y1, y2]; omega))
  replace k4 := carry hb2 (p := ⟨w.heap.size + 1, 1, none⟩) (v := .int .u64 d) (by first | exact k4 | (simp [go_sem, k4, y0, y1, y2]; done) | (simp [go_sem, k4, y0, y1, y2]; omega))
  replace k5 := carry hb2 (p := ⟨w.heap.size + 1 + 1, 0, none⟩) (v := .int .u64 m) (by first | exact k5 | (simp [go_sem, k5, y0, y1, y2]; done) | (simp [go_sem, k5, y0, y1, y2]; omega))
  replace k6 := carry hb2 (p := ⟨w.heap.size + 1 + 1, 1, none⟩) (v := .int .u64 n) (by first | exact k6 | (simp [go_sem, k6, y0, y1, y2]; done) | (simp [go_sem, k6, y0, y1, y2]; omega))
  have k7 := carry hb2 (p := ⟨w1.heap.size, 0, none⟩) (v := .int .u64 0) (by first | (simp [go_sem, y0, y1, y2]; done) | (simp [go_sem, y0, y1, y2]; omega))
  have k8 := carry hb2 (p := ⟨w1.heap.size, 1, none⟩) (v := .int .u64 m) (by first | (simp [go_sem, y0, y1, y2]; done) | (simp [go_sem, y0, y1, y2]; omega))
  replace bl : Below w.heap.size w w2 := by repeat (first | exact bl | refine Below.trans ?_ (hb2.mono (by first | omega | (simp; done) | (simp; omega))) | refine Below.setCell ?_ (by first | omega | (simp; done) | (simp; omega)) _ | refine Below.alloc ?_ (by first | omega | (simp; done) | (simp; omega)) _ | refine Below.drew ?_)
  have zz := hb2.size
  try simp at zz
  replace y0 : w.heap.size < w2.heap.size := by omega
  replace y1 : w.heap.size + 1 < w2.heap.size := by omega
  replace y2 : w.heap.size + 1 + 1 < w2.heap.size := by omega
  have y3 : w1.heap.size < w2.heap.size := by omega
  replace bn : w.heap.size ≤ w2.heap.size := by omega
  clear hb2 zz
  go_wp2_with fail
  (with_reducible refine (AR.out _).mono ?_)
  rintro e w3 ⟨rfl, hb3⟩
  replace k1 := carry hb3 (p := ⟨w.heap.size, 0, none⟩) (v := .int .u64 a) (by first | exact k1 | (simp [go_sem, k1, y0, y1, y2, y3]; done) | (simp [go_sem, k1, y0, y1, y2, y3]; omega))
  replace k2 := carry hb3 (p := ⟨w.heap.size, 1, none⟩) (v := .int .u64 b) (by first | exact k2 | (simp [go_sem, k2, y0, y1, y2, y3]; done) | (simp [go_sem, k2, y0, y1, y2, y3]; omega))
  replace k3 := carry hb3 (p := ⟨w.heap.size + 1, 0, none⟩) (v := .int .u64 c) (by first | exact k3 | (simp [go_sem, k3, y0, y1, y2, y3]; done) | (simp [go_sem, k3, y0, y1, y2, y3]; omega))
  replace k4 := carry hb3 (p := ⟨w.heap.size + 1, 1, none⟩) (v := .int .u64 d) (by first | exact k4 | (simp [go_sem, k4, y0, y1, y2, y3]; done) | (simp [go_sem, k4, y0, y1, y2, y3]; omega))
  replace k5 := carry hb3 (p := ⟨w.heap.size + 1 + 1, 0, none⟩) (v := .int .u64 m) (by first | exact k5 | (simp [go_sem, k5, y0, y1, y2, y3]; done) | (simp [go_sem, k5, y0, y1, y2, y3]; omega))
  replace k6 := carry hb3 (p := ⟨w.heap.size + 1 + 1, 1, none⟩) (v := .int .u64 n) (by first | exact k6 | (simp [go_sem, k6, y0, y1, y2, y3]; done) | (simp [go_sem, k6, y0, y1, y2, y3]; omega))
  replace k7 := carry hb3 (p := ⟨w1.heap.size, 0, none⟩) (v := .int .u64 0) (by first | exact k7 | (simp [go_sem, k7, y0, y1, y2, y3]; done) | (simp [go_sem, k7, y0, y1, y2, y3]; omega))
  replace k8 := carry hb3 (p := ⟨w1.heap.size, 1, none⟩) (v := .int .u64 m) (by first | exact k8 | (simp [go_sem, k8, y0, y1, y2, y3]; done) | (simp [go_sem, k8, y0, y1, y2, y3]; omega))
  have k9 := carry hb3 (p := ⟨w2.heap.size, 0, none⟩) (v := .int .u64 (addH a b c d)) (by first | (simp [go_sem, y0, y1, y2, y3]; done) | (simp [go_sem, y0, y1, y2, y3]; omega))
  have k10 := carry hb3 (p := ⟨w2.heap.size, 1, none⟩) (v := .int .u64 (addL a b c d)) (by first | (simp [go_sem, y0, y1, y2, y3]; done) | (simp [go_sem, y0, y1, y2, y3]; omega))
  replace bl : Below w.heap.size w w3 := by repeat (first | exact bl | refine Below.trans ?_ (hb3.mono (by first | omega | (simp; done) | (simp; omega))) | refine Below.setCell ?_ (by first | omega | (simp; done) | (simp; omega)) _ | refine Below.alloc ?_ (by first | omega | (simp; done) | (simp; omega)) _ | refine Below.drew ?_)
  have zz := hb3.size
  try simp at zz
  replace y0 : w.heap.size < w3.heap.size := by omega
  replace y1 : w.heap.size + 1 < w3.heap.size := by omega
  replace y2 : w.heap.size + 1 + 1 < w3.heap.size := by omega
  replace y3 : w1.heap.size < w3.heap.size := by omega
  have y4 : w2.heap.size < w3.heap.size := by omega
  replace bn : w.heap.size ≤ w3.heap.size := by omega
  clear hb3 zz
  go_wp2_with fail
  (with_reducible refine (SG.out _).mono ?_)
  rintro e w4 ⟨rfl, hb4⟩
  replace k1 := carry hb4 (p := ⟨w.heap.size, 0, none⟩) (v := .int .u64 a) (by first | exact k1 | (simp [go_sem, k1, y0, y1, y2, y3, y4]; done) | (simp [go_sem, k1, y0, y1, y2, y3, y4]; omega))
  replace k2 := carry hb4 (p := ⟨w.heap.size, 1, none⟩) (v := .int .u64 b) (by first | exact k2 | (simp [go_sem, k2, y0, y1, y2, y3, y4]; done) | (simp [go_sem, k2, y0, y1, y2, y3, y4]; omega))
  replace k3 := carry hb4 (p := ⟨w.heap.size + 1, 0, none⟩) (v := .int .u64 c) (by first | exact k3 | (simp [go_sem, k3, y0, y1, y2, y3, y4]; done) | (simp [go_sem, k3, y0, y1, y2, y3, y4]; omega))
  replace k4 := carry hb4 (p := ⟨w.heap.size + 1, 1, none⟩) (v := .int .u64 d) (by first | exact k4 | (simp [go_sem, k4, y0, y1, y2, y3, y4]; done) | (simp [go_sem, k4, y0, y1, y2, y3, y4]; omega))
  replace k5 := carry hb4 (p := ⟨w.heap.size + 1 + 1, 0, none⟩) (v := .int .u64 m) (by first | exact k5 | (simp [go_sem, k5, y0, y1, y2, y3, y4]; done) | (simp [go_sem, k5, y0, y1, y2, y3, y4]; omega))
  replace k6 := carry hb4 (p := ⟨w.heap.size + 1 + 1, 1, none⟩) (v := .int .u64 n) (by first | exact k6 | (simp [go_sem, k6, y0, y1, y2, y3, y4]; done) | (simp [go_sem, k6, y0, y1, y2, y3, y4]; omega))
  replace k7 := carry hb4 (p := ⟨w1.heap.size, 0, none⟩) (v := .int .u64 0) (by first | exact k7 | (simp [go_sem, k7, y0, y1, y2, y3, y4]; done) | (simp [go_sem, k7, y0, y1, y2, y3, y4]; omega))
  replace k8 := carry hb4 (p := ⟨w1.heap.size, 1, none⟩) (v := .int .u64 m) (by first | exact k8 | (simp [go_sem, k8, y0, y1, y2, y3, y4]; done) | (simp [go_sem, k8, y0, y1, y2, y3, y4]; omega))
  replace k9 := carry hb4 (p := ⟨w2.heap.size, 0, none⟩) (v := .int .u64 (addH a b c d)) (by first | exact k9 | (simp [go_sem, k9, y0, y1, y2, y3, y4]; done) | (simp [go_sem, k9, y0, y1, y2, y3, y4]; omega))
  replace k10 := carry hb4 (p := ⟨w2.heap.size, 1, none⟩) (v := .int .u64 (addL a b c d)) (by first | exact k10 | (simp [go_sem, k10, y0, y1, y2, y3, y4]; done) | (simp [go_sem, k10, y0, y1, y2, y3, y4]; omega))
  have k11 := carry hb4 (p := ⟨w3.heap.size, 0, none⟩) (v := .int .u64 (addH a b c d)) (by first | (simp [go_sem, y0, y1, y2, y3, y4]; done) | (simp [go_sem, y0, y1, y2, y3, y4]; omega))
  have k12 := carry hb4 (p := ⟨w3.heap.size, 1, none⟩) (v := .int .u64 (addL a b c d)) (by first | (simp [go_sem, y0, y1, y2, y3, y4]; done) | (simp [go_sem, y0, y1, y2, y3, y4]; omega))
  replace bl : Below w.heap.size w w4 := by repeat (first | exact bl | refine Below.trans ?_ (hb4.mono (by first | omega | (simp; done) | (simp; omega))) | refine Below.setCell ?_ (by first | omega | (simp; done) | (simp; omega)) _ | refine Below.alloc ?_ (by first | omega | (simp; done) | (simp; omega)) _ | refine Below.drew ?_)
  have zz := hb4.size
  try simp at zz
  replace y0 : w.heap.size < w4.heap.size := by omega
  replace y1 : w.heap.size + 1 < w4.heap.size := by omega
  replace y2 : w.heap.size + 1 + 1 < w4.heap.size := by omega
  replace y3 : w1.heap.size < w4.heap.size := by omega
  replace y4 : w2.heap.size < w4.heap.size := by omega
  have y5 : w3.heap.size < w4.heap.size := by omega
  replace bn : w.heap.size ≤ w4.heap.size := by omega
  clear hb4 zz
  go_wp2_with fail
  (with_reducible refine (SR.out _).mono ?_)
  rintro e w5 ⟨rfl, hb5⟩
  replace k1 := carry hb5 (p := ⟨w.heap.size, 0, none⟩) (v := .int .u64 a) (by first | exact k1 | (simp [go_sem, k1, y0, y1, y2, y3, y4, y5]; done) | (simp [go_sem, k1, y0, y1, y2, y3, y4, y5]; omega))
  replace k2 := carry hb5 (p := ⟨w.heap.size, 1, none⟩) (v := .int .u64 b) (by first | exact k2 | (simp [go_sem, k2, y0, y1, y2, y3, y4, y5]; done) | (simp [go_sem, k2, y0, y1, y2, y3, y4, y5]; omega))
  replace k3 := carry hb5 (p := ⟨w.heap.size + 1, 0, none⟩) (v := .int .u64 c) (by first | exact k3 | (simp [go_sem, k3, y0, y1, y2, y3, y4, y5]; done) | (simp [go_sem, k3, y0, y1, y2, y3, y4, y5]; omega))
  replace k4 := carry hb5 (p := ⟨w.heap.size + 1, 1, none⟩) (v := .int .u64 d) (by first | exact k4 | (simp [go_sem, k4, y0, y1, y2, y3, y4, y5]; done) | (simp [go_sem, k4, y0, y1, y2, y3, y4, y5]; omega))
  replace k5 := carry hb5 (p := ⟨w.heap.size + 1 + 1, 0, none⟩) (v := .int .u64 m) (by first | exact k5 | (simp [go_sem, k5, y0, y1, y2, y3, y4, y5]; done) | (simp [go_sem, k5, y0, y1, y2, y3, y4, y5]; omega))
  replace k6 := carry hb5 (p := ⟨w.heap.size + 1 + 1, 1, none⟩) (v := .int .u64 n) (by first | exact k6 | (simp [go_sem, k6, y0, y1, y2, y3, y4, y5]; done) | (simp [go_sem, k6, y0, y1, y2, y3, y4, y5]; omega))
  replace k7 := carry hb5 (p := ⟨w1.heap.size, 0, none⟩) (v := .int .u64 0) (by first | exact k7 | (simp [go_sem, k7, y0, y1, y2, y3, y4, y5]; done) | (simp [go_sem, k7, y0, y1, y2, y3, y4, y5]; omega))
  replace k8 := carry hb5 (p := ⟨w1.heap.size, 1, none⟩) (v := .int .u64 m) (by first | exact k8 | (simp [go_sem, k8, y0, y1, y2, y3, y4, y5]; done) | (simp [go_sem, k8, y0, y1, y2, y3, y4, y5]; omega))
  replace k9 := carry hb5 (p := ⟨w2.heap.size, 0, none⟩) (v := .int .u64 (addH a b c d)) (by first | exact k9 | (simp [go_sem, k9, y0, y1, y2, y3, y4, y5]; done) | (simp [go_sem, k9, y0, y1, y2, y3, y4, y5]; omega))
  replace k10 := carry hb5 (p := ⟨w2.heap.size, 1, none⟩) (v := .int .u64 (addL a b c d)) (by first | exact k10 | (simp [go_sem, k10, y0, y1, y2, y3, y4, y5]; done) | (simp [go_sem, k10, y0, y1, y2, y3, y4, y5]; omega))
  replace k11 := carry hb5 (p := ⟨w3.heap.size, 0, none⟩) (v := .int .u64 (addH a b c d)) (by first | exact k11 | (simp [go_sem, k11, y0, y1, y2, y3, y4, y5]; done) | (simp [go_sem, k11, y0, y1, y2, y3, y4, y5]; omega))
  replace k12 := carry hb5 (p := ⟨w3.heap.size, 1, none⟩) (v := .int .u64 (addL a b c d)) (by first | exact k12 | (simp [go_sem, k12, y0, y1, y2, y3, y4, y5]; done) | (simp [go_sem, k12, y0, y1, y2, y3, y4, y5]; omega))
  have k13 := carry hb5 (p := ⟨w4.heap.size, 0, none⟩) (v := .int .u64 (subH a b c d)) (by first | (simp [go_sem, y0, y1, y2, y3, y4, y5]; done) | (simp [go_sem, y0, y1, y2, y3, y4, y5]; omega))
  have k14 := carry hb5 (p := ⟨w4.heap.size, 1, none⟩) (v := .int .u64 (subL a b c d)) (by first | (simp [go_sem, y0, y1, y2, y3, y4, y5]; done) | (simp [go_sem, y0, y1, y2, y3, y4, y5]; omega))
  replace bl : Below w.heap.size w w5 := by repeat (first | exact bl | refine Below.trans ?_ (hb5.mono (by first | omega | (simp; done) | (simp; omega))) | refine Below.setCell ?_ (by first | omega | (simp; done) | (simp; omega)) _ | refine Below.alloc ?_ (by first | omega | (simp; done) | (simp; omega)) _ | refine Below.drew ?_)
  have zz := hb5.size
  try simp at zz
  replace y0 : w.heap.size < w5.heap.size := by omega
  replace y1 : w.heap.size + 1 < w5.heap.size := by omega
  replace y2 : w.heap.size + 1 + 1 < w5.heap.size := by omega
  replace y3 : w1.heap.size < w5.heap.size := by omega
  replace y4 : w2.heap.size < w5.heap.size := by omega
  replace y5 : w3.heap.size < w5.heap.size := by omega
  have y6 : w4.heap.size < w5.heap.size := by omega
  replace bn : w.heap.size ≤ w5.heap.size := by omega
  clear hb5 zz
  have bsz := bl.size
  have K0 : SumsS w w1 w2 w3 w4 w5 a b c d m n (w5.alloc (.cells #[.int .u64 (subH a b c d), .int .u64 (subL a b c d)] 24)) := ⟨(by simp [go_sem, k1, y0, y1, y2, y3, y4, y5, y6]), (by simp [go_sem, k2, y0, y1, y2, y3, y4, y5, y6]), (by simp [go_sem, k3, y0, y1, y2, y3, y4, y5, y6]), (by simp [go_sem, k4, y0, y1, y2, y3, y4, y5, y6]), (by simp [go_sem, k5, y0, y1, y2, y3, y4, y5, y6]), (by simp [go_sem, k6, y0, y1, y2, y3, y4, y5, y6]), (by simp [go_sem, k7, y0, y1, y2, y3, y4, y5, y6]), (by simp [go_sem, k8, y0, y1, y2, y3, y4, y5, y6]), (by simp [go_sem, k9, y0, y1, y2, y3, y4, y5, y6]), (by simp [go_sem, k10, y0, y1, y2, y3, y4, y5, y6]), (by simp [go_sem, k11, y0, y1, y2, y3, y4, y5, y6]), (by simp [go_sem, k12, y0, y1, y2, y3, y4, y5, y6]), (by simp [go_sem, k13, y0, y1, y2, y3, y4, y5, y6]), (by simp [go_sem, k14, y0, y1, y2, y3, y4, y5, y6]), (by simp [go_sem]), (by simp [go_sem]), bl.alloc bsz _⟩
  have HK := Lib.hid (sums_drew K0)
  clear K0 k1 k2 k3 k4 k5 k6 k7 k8 k9 k10 k11 k12 k13 k14
  go_upto_region 7 with (fail)
  go_region_held3 (fun w' => w'.cell? ⟨w.heap.size, 0, none⟩ = some (.int .u64 a) ∧ w'.cell? ⟨w.heap.size, 1, none⟩ = some (.int .u64 b) ∧ w'.cell? ⟨w.heap.size + 1, 0, none⟩ = some (.int .u64 c) ∧ w'.cell? ⟨w.heap.size + 1, 1, none⟩ = some (.int .u64 d) ∧ w'.cell? ⟨w.heap.size + 1 + 1, 0, none⟩ = some (.int .u64 m) ∧ w'.cell? ⟨w.heap.size + 1 + 1, 1, none⟩ = some (.int .u64 n) ∧ w'.cell? ⟨w1.heap.size, 0, none⟩ = some (.int .u64 0) ∧ w'.cell? ⟨w1.heap.size, 1, none⟩ = some (.int .u64 m) ∧ w'.cell? ⟨w2.heap.size, 0, none⟩ = some (.int .u64 (addH a b c d)) ∧ w'.cell? ⟨w2.heap.size, 1, none⟩ = some (.int .u64 (addL a b c d)) ∧ w'.cell? ⟨w3.heap.size, 0, none⟩ = some (.int .u64 (addH a b c d)) ∧ w'.cell? ⟨w3.heap.size, 1, none⟩ = some (.int .u64 (addL a b c d)) ∧ w'.cell? ⟨w4.heap.size, 0, none⟩ = some (.int .u64 (subH a b c d)) ∧ w'.cell? ⟨w4.heap.size, 1, none⟩ = some (.int .u64 (subL a b c d)) ∧ w'.cell? ⟨w5.heap.size, 0, none⟩ = some (.int .u64 (subH a b c d)) ∧ w'.cell? ⟨w5.heap.size, 1, none⟩ = some (.int .u64 (subL a b c d)) ∧ Below w.heap.size w w') (first | exact HK.out | assumption | exact kkhA | exact kkhB | exact kkhC | exact kkhD | exact kkhE)
    (first
      | (go_at_call 15; (with_reducible refine (CG.out _).mono ?_); rintro e wa ⟨rfl, hA⟩; (have kkhA : SumsS w w1 w2 w3 w4 w5 a b c d m n wa := sums_call (by first | assumption | exact HK.out) hA))
      | (go_at_call 16; (with_reducible refine (CR.out _).mono ?_); rintro e wb ⟨rfl, hB⟩; (have kkhB : SumsS w w1 w2 w3 w4 w5 a b c d m n wb := sums_call (by first | assumption | exact HK.out) hB))
      | (go_at_call 17; (with_reducible refine (MG.out _).mono ?_); rintro e wc ⟨rfl, hC⟩; (have kkhC : SumsS w w1 w2 w3 w4 w5 a b c d m n wc := sums_call (by first | assumption | exact HK.out) hC))
      | (go_at_call 18; (with_reducible refine (MR.out _).mono ?_); rintro e wd ⟨rfl, hD⟩; (have kkhD : SumsS w w1 w2 w3 w4 w5 a b c d m n wd := sums_call (by first | assumption | exact HK.out) hD))
      | (go_at_call 19; (with_reducible refine (of_any _ _).mono ?_); rintro e we ⟨rfl, hE⟩; (have kkhE : SumsS w w1 w2 w3 w4 w5 a b c d m n we := sums_call (by first | assumption | exact HK.out) hE)))
  all_goals
    go_wp2
    all_goals (go_ret; exact ⟨rfl, kkhE.2.2.2.2.2.2.2.2.2.2.2.2.2.2.2.2⟩)

set_option maxRecDepth 100000 in
theorem lifted (os : Os) (started : os.Started) (H : Type) (enc : TypeId × Value → H) :
    ReturnsInHanded {} Try.checked os 3 .any (Rows.wideSumsSpec.pre6 enc Try.prog Try.f3 Rows.wideSumsRow.domain false) (Rows.wideSumsSpec.post enc Try.prog Try.f3 false true false false) := by
  refine returnsInHanded_of_change (C := Try.checked) own started (by kernel_rfl) Try.func3
    (ChangeSpec.witness6 (enc := enc) (C := Try.checked) false ⟨#[], #[.agg #[.int .u64 0, .int .u64 0], .agg #[.int .u64 0, .int .u64 0], .agg #[.int .u64 0, .int .u64 0]], []⟩ 8 (by kernel_rfl) (by kernel_rfl) (by kernel_rfl) (by kernel_rfl)) ?_
  intro W base args ds gs before hval0 hW hcnd _
  have hval : ∀ (j : Nat) t v, Try.f3.params[j]? = some t → args[j]? = some v → Value.okWide Try.prog W .any base t v := hval0
  have hW' := hW
  obtain ⟨p, q, hA0, hV, rfl, hfz, hnd⟩ := hW
  have hA : DataW.TrodAll enc Try.prog W 0 (fun _ => true) true Try.f3.params.toList args.toList ds p := hA0
  rw [Try.params3] at hA hval
  obtain ⟨v0, vs0, d0, ds0, p0, q0, hargs, rfl, rfl, h0, r0⟩ := trodAll_cons hA
  obtain ⟨v1, vs1, d1, ds1, p1, q1, rfl, rfl, rfl, h1, r1⟩ := trodAll_cons r0
  obtain ⟨v2, vs2, d2, ds2, p2, q2, rfl, rfl, rfl, h2, r2⟩ := trodAll_cons r1
  obtain ⟨rfl, rfl, rfl⟩ := trodAll_nil r2
  obtain rfl : args = #[v0, v1, v2] := by cases args; simp_all
  obtain ⟨rfl, rfl⟩ := trodVars_none hV
  have lt0 : ∀ x ∈ p0, x.block < W.heap.size := by obtain ⟨m, hm⟩ := h0; exact DataW.trod_lt m _ _ _ hm
  obtain ⟨a, b, rfl, wa, wb⟩ := open_wide (hval 0 24 v0 rfl rfl) h0
  have lt1 : ∀ x ∈ p1, x.block < W.heap.size := by obtain ⟨m, hm⟩ := h1; exact DataW.trod_lt m _ _ _ hm
  obtain ⟨c, d, rfl, wc, wd⟩ := open_wide (hval 1 24 v1 rfl rfl) h1
  have lt2 : ∀ x ∈ p2, x.block < W.heap.size := by obtain ⟨m, hm⟩ := h2; exact DataW.trod_lt m _ _ _ hm
  obtain ⟨m, n, rfl, wm, wn⟩ := open_arr2 Try.underlying25 (by kernel_rfl) (hval 2 25 v2 rfl rfl) h2
  clear hA0 hval0
  refine (walk a b c d m n W wa wb wc wd wm wn).mono fun e W' ⟨he, bel⟩ => ?_
  subst he
  exact ⟨_, rfl, _, _, _, [], _, [], hW', trodAll_mk1 (shut_bool Try.underlying4 _), (trodAll_cons_mk (Below.trod laidOut (by kernel_rfl) (of_decide_eq_true (by kernel_rfl)) h0 bel lt0) (trodAll_cons_mk (Below.trod laidOut (by kernel_rfl) (of_decide_eq_true (by kernel_rfl)) h1 bel lt1) (trodAll_cons_mk (Below.trod laidOut (by kernel_rfl) (of_decide_eq_true (by kernel_rfl)) h2 bel lt2) trodAll_mk0))), rfl, bel.frame _, fun h => by cases h⟩

theorem proved : Rows.WideSumsSaid :=
  OpenClaim.holds_of_wide 3 Try.f3 rfl rfl rfl rfl rfl rfl rfl ⟨rfl, rfl, rfl, rfl, rfl⟩ rfl rfl rfl rfl rfl (by kernel_rfl) Try.func3 (by kernel_rfl)
    (of_decide_eq_true (by kernel_rfl)) (by unfold Func.isWrapper; first | (rw [if_pos (by decide +kernel)]; kernel_rfl) | (rw [if_neg (by decide +kernel)]; exact ⟨rfl, rfl⟩))
    (fun os started H enc _ => lifted os started H enc)
#print axioms proved
end Go.Proofs.Ytdddafhalcbhaaa.wideSums
