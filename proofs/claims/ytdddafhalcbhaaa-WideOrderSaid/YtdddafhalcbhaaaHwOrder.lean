/- Of any two numbers of 128 bits one is less, or they are the same; the one less the other is there if it is not less; sums turn round. For every two numbers, without a condition. -/
import Derived.Test.YtdddafhalcbhaaaHwG
namespace Go.Proofs.Ytdddafhalcbhaaa.wideOrder
open Go.ChangeShapes Go.WideShapes Go.ChangeAt Go.RowKit Go.Joins
set_option linter.unusedVariables false
set_option linter.unusedSimpArgs false

set_option maxRecDepth 100000 in
set_option maxHeartbeats 1000000 in
theorem walk_lt (a b c d : Int) (w : World) (ha : Is64 a) (hb : Is64 b) (hc : Is64 c) (hd : Is64 d) (h : V a b < V c d) :
    Calls Try.prog 6 #[.agg #[.int .u64 a, .int .u64 b], .agg #[.int .u64 c, .int .u64 d]] w fun e w' => e = .returned (.bool true) ∧ Below w.heap.size w w' := by
  have hne : ¬ (a = c ∧ b = d) := by rintro ⟨rfl, rfl⟩; exact absurd h (Int.lt_irrefl _)
  go_enter Try.func6, Try.ntmps6
  go_wp2_with fail
  (with_reducible refine (awake_any _).mono ?_)
  rintro e w1 ⟨rfl, hb1⟩
  have k1 := carry hb1 (p := ⟨w.heap.size, 0, none⟩) (v := .int .u64 a) (by first | (simp [go_sem]; done) | (simp [go_sem]; omega))
  have k2 := carry hb1 (p := ⟨w.heap.size, 1, none⟩) (v := .int .u64 b) (by first | (simp [go_sem]; done) | (simp [go_sem]; omega))
  have k3 := carry hb1 (p := ⟨w.heap.size + 1, 0, none⟩) (v := .int .u64 c) (by first | (simp [go_sem]; done) | (simp [go_sem]; omega))
  have k4 := carry hb1 (p := ⟨w.heap.size + 1, 1, none⟩) (v := .int .u64 d) (by first | (simp [go_sem]; done) | (simp [go_sem]; omega))
  have bl : Below w.heap.size w w1 := by repeat (first | exact Below.refl _ _ | refine Below.trans ?_ (hb1.mono (by first | omega | (simp; done) | (simp; omega))) | refine Below.setCell ?_ (by first | omega | (simp; done) | (simp; omega)) _ | refine Below.alloc ?_ (by first | omega | (simp; done) | (simp; omega)) _ | refine Below.drew ?_)
  have zz := hb1.size
  try simp at zz
  have y0 : w.heap.size < w1.heap.size := by omega
  have y1 : w.heap.size + 1 < w1.heap.size := by omega
  have bn : w.heap.size ≤ w1.heap.size := by omega
  clear hb1 zz
  go_wp2_with fail
  (with_reducible refine (cmp_lt _ _ _ _ _ hb hd h).mono ?_)
  rintro e w2 ⟨rfl, hb2⟩
  replace k1 := carry hb2 (p := ⟨w.heap.size, 0, none⟩) (v := .int .u64 a) (by first | exact k1 | (simp [go_sem, k1, y0, y1]; done) | (simp [go_sem, k1, y0, y1]; omega))
  replace k2 := carry hb2 (p := ⟨w.heap.size, 1, none⟩) (v := .int .u64 b) (by first | exact k2 | (simp [go_sem, k2, y0, y1]; done) | (simp [go_sem, k2, y0, y1]; omega))
  replace k3 := carry hb2 (p := ⟨w.heap.size + 1, 0, none⟩) (v := .int .u64 c) (by first | exact k3 | (simp [go_sem, k3, y0, y1]; done) | (simp [go_sem, k3, y0, y1]; omega))
  replace k4 := carry hb2 (p := ⟨w.heap.size + 1, 1, none⟩) (v := .int .u64 d) (by first | exact k4 | (simp [go_sem, k4, y0, y1]; done) | (simp [go_sem, k4, y0, y1]; omega))
  replace bl : Below w.heap.size w w2 := by repeat (first | exact bl | refine Below.trans ?_ (hb2.mono (by first | omega | (simp; done) | (simp; omega))) | refine Below.setCell ?_ (by first | omega | (simp; done) | (simp; omega)) _ | refine Below.alloc ?_ (by first | omega | (simp; done) | (simp; omega)) _ | refine Below.drew ?_)
  have zz := hb2.size
  try simp at zz
  replace y0 : w.heap.size < w2.heap.size := by omega
  replace y1 : w.heap.size + 1 < w2.heap.size := by omega
  replace bn : w.heap.size ≤ w2.heap.size := by omega
  clear hb2 zz
  go_wp2_with fail
  (with_reducible refine (sub_no _ _ _ _ _ hb hd h).mono ?_)
  rintro e w3 ⟨rfl, hb3⟩
  replace k1 := carry hb3 (p := ⟨w.heap.size, 0, none⟩) (v := .int .u64 a) (by first | exact k1 | (simp [go_sem, k1, y0, y1]; done) | (simp [go_sem, k1, y0, y1]; omega))
  replace k2 := carry hb3 (p := ⟨w.heap.size, 1, none⟩) (v := .int .u64 b) (by first | exact k2 | (simp [go_sem, k2, y0, y1]; done) | (simp [go_sem, k2, y0, y1]; omega))
  replace k3 := carry hb3 (p := ⟨w.heap.size + 1, 0, none⟩) (v := .int .u64 c) (by first | exact k3 | (simp [go_sem, k3, y0, y1]; done) | (simp [go_sem, k3, y0, y1]; omega))
  replace k4 := carry hb3 (p := ⟨w.heap.size + 1, 1, none⟩) (v := .int .u64 d) (by first | exact k4 | (simp [go_sem, k4, y0, y1]; done) | (simp [go_sem, k4, y0, y1]; omega))
  replace bl : Below w.heap.size w w3 := by repeat (first | exact bl | refine Below.trans ?_ (hb3.mono (by first | omega | (simp; done) | (simp; omega))) | refine Below.setCell ?_ (by first | omega | (simp; done) | (simp; omega)) _ | refine Below.alloc ?_ (by first | omega | (simp; done) | (simp; omega)) _ | refine Below.drew ?_)
  have zz := hb3.size
  try simp at zz
  replace y0 : w.heap.size < w3.heap.size := by omega
  replace y1 : w.heap.size + 1 < w3.heap.size := by omega
  replace bn : w.heap.size ≤ w3.heap.size := by omega
  clear hb3 zz
  go_wp2_with fail
  (with_reducible refine (add_gen _ _ _ _ _ ha hb hc hd).mono ?_)
  rintro e w4 ⟨rfl, hb4⟩
  replace k1 := carry hb4 (p := ⟨w.heap.size, 0, none⟩) (v := .int .u64 a) (by first | exact k1 | (simp [go_sem, k1, y0, y1]; done) | (simp [go_sem, k1, y0, y1]; omega))
  replace k2 := carry hb4 (p := ⟨w.heap.size, 1, none⟩) (v := .int .u64 b) (by first | exact k2 | (simp [go_sem, k2, y0, y1]; done) | (simp [go_sem, k2, y0, y1]; omega))
  replace k3 := carry hb4 (p := ⟨w.heap.size + 1, 0, none⟩) (v := .int .u64 c) (by first | exact k3 | (simp [go_sem, k3, y0, y1]; done) | (simp [go_sem, k3, y0, y1]; omega))
  replace k4 := carry hb4 (p := ⟨w.heap.size + 1, 1, none⟩) (v := .int .u64 d) (by first | exact k4 | (simp [go_sem, k4, y0, y1]; done) | (simp [go_sem, k4, y0, y1]; omega))
  replace bl : Below w.heap.size w w4 := by repeat (first | exact bl | refine Below.trans ?_ (hb4.mono (by first | omega | (simp; done) | (simp; omega))) | refine Below.setCell ?_ (by first | omega | (simp; done) | (simp; omega)) _ | refine Below.alloc ?_ (by first | omega | (simp; done) | (simp; omega)) _ | refine Below.drew ?_)
  have zz := hb4.size
  try simp at zz
  replace y0 : w.heap.size < w4.heap.size := by omega
  replace y1 : w.heap.size + 1 < w4.heap.size := by omega
  replace bn : w.heap.size ≤ w4.heap.size := by omega
  clear hb4 zz
  go_wp2_with fail
  (with_reducible refine (add_gen _ _ _ _ _ hc hd ha hb).mono ?_)
  rintro e w5 ⟨rfl, hb5⟩
  replace k1 := carry hb5 (p := ⟨w.heap.size, 0, none⟩) (v := .int .u64 a) (by first | exact k1 | (simp [go_sem, k1, y0, y1]; done) | (simp [go_sem, k1, y0, y1]; omega))
  replace k2 := carry hb5 (p := ⟨w.heap.size, 1, none⟩) (v := .int .u64 b) (by first | exact k2 | (simp [go_sem, k2, y0, y1]; done) | (simp [go_sem, k2, y0, y1]; omega))
  replace k3 := carry hb5 (p := ⟨w.heap.size + 1, 0, none⟩) (v := .int .u64 c) (by first | exact k3 | (simp [go_sem, k3, y0, y1]; done) | (simp [go_sem, k3, y0, y1]; omega))
  replace k4 := carry hb5 (p := ⟨w.heap.size + 1, 1, none⟩) (v := .int .u64 d) (by first | exact k4 | (simp [go_sem, k4, y0, y1]; done) | (simp [go_sem, k4, y0, y1]; omega))
  have k5 := carry hb5 (p := ⟨w4.heap.size, 0, none⟩) (v := .int .u64 (addH a b c d)) (by first | (simp [go_sem, y0, y1]; done) | (simp [go_sem, y0, y1]; omega))
  have k6 := carry hb5 (p := ⟨w4.heap.size, 1, none⟩) (v := .int .u64 (addL a b c d)) (by first | (simp [go_sem, y0, y1]; done) | (simp [go_sem, y0, y1]; omega))
  replace bl : Below w.heap.size w w5 := by repeat (first | exact bl | refine Below.trans ?_ (hb5.mono (by first | omega | (simp; done) | (simp; omega))) | refine Below.setCell ?_ (by first | omega | (simp; done) | (simp; omega)) _ | refine Below.alloc ?_ (by first | omega | (simp; done) | (simp; omega)) _ | refine Below.drew ?_)
  have zz := hb5.size
  try simp at zz
  replace y0 : w.heap.size < w5.heap.size := by omega
  replace y1 : w.heap.size + 1 < w5.heap.size := by omega
  have y2 : w4.heap.size < w5.heap.size := by omega
  replace bn : w.heap.size ≤ w5.heap.size := by omega
  clear hb5 zz
  rw [← addH_comm a b c d, ← addL_comm a b c d, ← addB_comm a b c d]
  go_wp2_with fail
  (with_reducible refine (cmp_gt _ _ _ _ _ hd hb h).mono ?_)
  rintro e w6 ⟨rfl, hb6⟩
  replace k1 := carry hb6 (p := ⟨w.heap.size, 0, none⟩) (v := .int .u64 a) (by first | exact k1 | (simp [go_sem, k1, y0, y1, y2]; done) | (simp [go_sem, k1, y0, y1, y2]; omega))
  replace k2 := carry hb6 (p := ⟨w.heap.size, 1, none⟩) (v := .int .u64 b) (by first | exact k2 | (simp [go_sem, k2, y0, y1, y2]; done) | (simp [go_sem, k2, y0, y1, y2]; omega))
  replace k3 := carry hb6 (p := ⟨w.heap.size + 1, 0, none⟩) (v := .int .u64 c) (by first | exact k3 | (simp [go_sem, k3, y0, y1, y2]; done) | (simp [go_sem, k3, y0, y1, y2]; omega))
  replace k4 := carry hb6 (p := ⟨w.heap.size + 1, 1, none⟩) (v := .int .u64 d) (by first | exact k4 | (simp [go_sem, k4, y0, y1, y2]; done) | (simp [go_sem, k4, y0, y1, y2]; omega))
  replace k5 := carry hb6 (p := ⟨w4.heap.size, 0, none⟩) (v := .int .u64 (addH a b c d)) (by first | exact k5 | (simp [go_sem, k5, y0, y1, y2]; done) | (simp [go_sem, k5, y0, y1, y2]; omega))
  replace k6 := carry hb6 (p := ⟨w4.heap.size, 1, none⟩) (v := .int .u64 (addL a b c d)) (by first | exact k6 | (simp [go_sem, k6, y0, y1, y2]; done) | (simp [go_sem, k6, y0, y1, y2]; omega))
  have k7 := carry hb6 (p := ⟨w5.heap.size, 0, none⟩) (v := .int .u64 (addH a b c d)) (by first | (simp [go_sem, y0, y1, y2]; done) | (simp [go_sem, y0, y1, y2]; omega))
  have k8 := carry hb6 (p := ⟨w5.heap.size, 1, none⟩) (v := .int .u64 (addL a b c d)) (by first | (simp [go_sem, y0, y1, y2]; done) | (simp [go_sem, y0, y1, y2]; omega))
  replace bl : Below w.heap.size w w6 := by repeat (first | exact bl | refine Below.trans ?_ (hb6.mono (by first | omega | (simp; done) | (simp; omega))) | refine Below.setCell ?_ (by first | omega | (simp; done) | (simp; omega)) _ | refine Below.alloc ?_ (by first | omega | (simp; done) | (simp; omega)) _ | refine Below.drew ?_)
  have zz := hb6.size
  try simp at zz
  replace y0 : w.heap.size < w6.heap.size := by omega
  replace y1 : w.heap.size + 1 < w6.heap.size := by omega
  replace y2 : w4.heap.size < w6.heap.size := by omega
  have y3 : w5.heap.size < w6.heap.size := by omega
  replace bn : w.heap.size ≤ w6.heap.size := by omega
  clear hb6 zz
  go_wp2
  all_goals (go_ret; exact ⟨rfl, by repeat (first | exact bl | refine Below.setCell ?_ (by first | omega | (simp; done) | (simp; omega)) _ | refine Below.alloc ?_ (by first | omega | (simp; done) | (simp; omega)) _ | refine Below.drew ?_)⟩)
set_option maxRecDepth 100000 in
set_option maxHeartbeats 1000000 in
theorem walk_gt (a b c d : Int) (w : World) (ha : Is64 a) (hb : Is64 b) (hc : Is64 c) (hd : Is64 d) (h : V c d < V a b) :
    Calls Try.prog 6 #[.agg #[.int .u64 a, .int .u64 b], .agg #[.int .u64 c, .int .u64 d]] w fun e w' => e = .returned (.bool true) ∧ Below w.heap.size w w' := by
  have hne : ¬ (a = c ∧ b = d) := by rintro ⟨rfl, rfl⟩; exact absurd h (Int.lt_irrefl _)
  go_enter Try.func6, Try.ntmps6
  go_wp2_with fail
  (with_reducible refine (awake_any _).mono ?_)
  rintro e w1 ⟨rfl, hb1⟩
  have k1 := carry hb1 (p := ⟨w.heap.size, 0, none⟩) (v := .int .u64 a) (by first | (simp [go_sem]; done) | (simp [go_sem]; omega))
  have k2 := carry hb1 (p := ⟨w.heap.size, 1, none⟩) (v := .int .u64 b) (by first | (simp [go_sem]; done) | (simp [go_sem]; omega))
  have k3 := carry hb1 (p := ⟨w.heap.size + 1, 0, none⟩) (v := .int .u64 c) (by first | (simp [go_sem]; done) | (simp [go_sem]; omega))
  have k4 := carry hb1 (p := ⟨w.heap.size + 1, 1, none⟩) (v := .int .u64 d) (by first | (simp [go_sem]; done) | (simp [go_sem]; omega))
  have bl : Below w.heap.size w w1 := by repeat (first | exact Below.refl _ _ | refine Below.trans ?_ (hb1.mono (by first | omega | (simp; done) | (simp; omega))) | refine Below.setCell ?_ (by first | omega | (simp; done) | (simp; omega)) _ | refine Below.alloc ?_ (by first | omega | (simp; done) | (simp; omega)) _ | refine Below.drew ?_)
  have zz := hb1.size
  try simp at zz
  have y0 : w.heap.size < w1.heap.size := by omega
  have y1 : w.heap.size + 1 < w1.heap.size := by omega
  have bn : w.heap.size ≤ w1.heap.size := by omega
  clear hb1 zz
  go_wp2_with fail
  (with_reducible refine (cmp_gt _ _ _ _ _ hb hd h).mono ?_)
  rintro e w2 ⟨rfl, hb2⟩
  replace k1 := carry hb2 (p := ⟨w.heap.size, 0, none⟩) (v := .int .u64 a) (by first | exact k1 | (simp [go_sem, k1, y0, y1]; done) | (simp [go_sem, k1, y0, y1]; omega))
  replace k2 := carry hb2 (p := ⟨w.heap.size, 1, none⟩) (v := .int .u64 b) (by first | exact k2 | (simp [go_sem, k2, y0, y1]; done) | (simp [go_sem, k2, y0, y1]; omega))
  replace k3 := carry hb2 (p := ⟨w.heap.size + 1, 0, none⟩) (v := .int .u64 c) (by first | exact k3 | (simp [go_sem, k3, y0, y1]; done) | (simp [go_sem, k3, y0, y1]; omega))
  replace k4 := carry hb2 (p := ⟨w.heap.size + 1, 1, none⟩) (v := .int .u64 d) (by first | exact k4 | (simp [go_sem, k4, y0, y1]; done) | (simp [go_sem, k4, y0, y1]; omega))
  replace bl : Below w.heap.size w w2 := by repeat (first | exact bl | refine Below.trans ?_ (hb2.mono (by first | omega | (simp; done) | (simp; omega))) | refine Below.setCell ?_ (by first | omega | (simp; done) | (simp; omega)) _ | refine Below.alloc ?_ (by first | omega | (simp; done) | (simp; omega)) _ | refine Below.drew ?_)
  have zz := hb2.size
  try simp at zz
  replace y0 : w.heap.size < w2.heap.size := by omega
  replace y1 : w.heap.size + 1 < w2.heap.size := by omega
  replace bn : w.heap.size ≤ w2.heap.size := by omega
  clear hb2 zz
  go_wp2_with fail
  (with_reducible refine (sub_yes _ _ _ _ _ ha hb hc hd (Int.le_of_lt h)).mono ?_)
  rintro e w3 ⟨rfl, hb3⟩
  replace k1 := carry hb3 (p := ⟨w.heap.size, 0, none⟩) (v := .int .u64 a) (by first | exact k1 | (simp [go_sem, k1, y0, y1]; done) | (simp [go_sem, k1, y0, y1]; omega))
  replace k2 := carry hb3 (p := ⟨w.heap.size, 1, none⟩) (v := .int .u64 b) (by first | exact k2 | (simp [go_sem, k2, y0, y1]; done) | (simp [go_sem, k2, y0, y1]; omega))
  replace k3 := carry hb3 (p := ⟨w.heap.size + 1, 0, none⟩) (v := .int .u64 c) (by first | exact k3 | (simp [go_sem, k3, y0, y1]; done) | (simp [go_sem, k3, y0, y1]; omega))
  replace k4 := carry hb3 (p := ⟨w.heap.size + 1, 1, none⟩) (v := .int .u64 d) (by first | exact k4 | (simp [go_sem, k4, y0, y1]; done) | (simp [go_sem, k4, y0, y1]; omega))
  replace bl : Below w.heap.size w w3 := by repeat (first | exact bl | refine Below.trans ?_ (hb3.mono (by first | omega | (simp; done) | (simp; omega))) | refine Below.setCell ?_ (by first | omega | (simp; done) | (simp; omega)) _ | refine Below.alloc ?_ (by first | omega | (simp; done) | (simp; omega)) _ | refine Below.drew ?_)
  have zz := hb3.size
  try simp at zz
  replace y0 : w.heap.size < w3.heap.size := by omega
  replace y1 : w.heap.size + 1 < w3.heap.size := by omega
  replace bn : w.heap.size ≤ w3.heap.size := by omega
  clear hb3 zz
  go_wp2_with fail
  (with_reducible refine (add_gen _ _ _ _ _ ha hb hc hd).mono ?_)
  rintro e w4 ⟨rfl, hb4⟩
  replace k1 := carry hb4 (p := ⟨w.heap.size, 0, none⟩) (v := .int .u64 a) (by first | exact k1 | (simp [go_sem, k1, y0, y1]; done) | (simp [go_sem, k1, y0, y1]; omega))
  replace k2 := carry hb4 (p := ⟨w.heap.size, 1, none⟩) (v := .int .u64 b) (by first | exact k2 | (simp [go_sem, k2, y0, y1]; done) | (simp [go_sem, k2, y0, y1]; omega))
  replace k3 := carry hb4 (p := ⟨w.heap.size + 1, 0, none⟩) (v := .int .u64 c) (by first | exact k3 | (simp [go_sem, k3, y0, y1]; done) | (simp [go_sem, k3, y0, y1]; omega))
  replace k4 := carry hb4 (p := ⟨w.heap.size + 1, 1, none⟩) (v := .int .u64 d) (by first | exact k4 | (simp [go_sem, k4, y0, y1]; done) | (simp [go_sem, k4, y0, y1]; omega))
  replace bl : Below w.heap.size w w4 := by repeat (first | exact bl | refine Below.trans ?_ (hb4.mono (by first | omega | (simp; done) | (simp; omega))) | refine Below.setCell ?_ (by first | omega | (simp; done) | (simp; omega)) _ | refine Below.alloc ?_ (by first | omega | (simp; done) | (simp; omega)) _ | refine Below.drew ?_)
  have zz := hb4.size
  try simp at zz
  replace y0 : w.heap.size < w4.heap.size := by omega
  replace y1 : w.heap.size + 1 < w4.heap.size := by omega
  replace bn : w.heap.size ≤ w4.heap.size := by omega
  clear hb4 zz
  go_wp2_with fail
  (with_reducible refine (add_gen _ _ _ _ _ hc hd ha hb).mono ?_)
  rintro e w5 ⟨rfl, hb5⟩
  replace k1 := carry hb5 (p := ⟨w.heap.size, 0, none⟩) (v := .int .u64 a) (by first | exact k1 | (simp [go_sem, k1, y0, y1]; done) | (simp [go_sem, k1, y0, y1]; omega))
  replace k2 := carry hb5 (p := ⟨w.heap.size, 1, none⟩) (v := .int .u64 b) (by first | exact k2 | (simp [go_sem, k2, y0, y1]; done) | (simp [go_sem, k2, y0, y1]; omega))
  replace k3 := carry hb5 (p := ⟨w.heap.size + 1, 0, none⟩) (v := .int .u64 c) (by first | exact k3 | (simp [go_sem, k3, y0, y1]; done) | (simp [go_sem, k3, y0, y1]; omega))
  replace k4 := carry hb5 (p := ⟨w.heap.size + 1, 1, none⟩) (v := .int .u64 d) (by first | exact k4 | (simp [go_sem, k4, y0, y1]; done) | (simp [go_sem, k4, y0, y1]; omega))
  have k5 := carry hb5 (p := ⟨w4.heap.size, 0, none⟩) (v := .int .u64 (addH a b c d)) (by first | (simp [go_sem, y0, y1]; done) | (simp [go_sem, y0, y1]; omega))
  have k6 := carry hb5 (p := ⟨w4.heap.size, 1, none⟩) (v := .int .u64 (addL a b c d)) (by first | (simp [go_sem, y0, y1]; done) | (simp [go_sem, y0, y1]; omega))
  replace bl : Below w.heap.size w w5 := by repeat (first | exact bl | refine Below.trans ?_ (hb5.mono (by first | omega | (simp; done) | (simp; omega))) | refine Below.setCell ?_ (by first | omega | (simp; done) | (simp; omega)) _ | refine Below.alloc ?_ (by first | omega | (simp; done) | (simp; omega)) _ | refine Below.drew ?_)
  have zz := hb5.size
  try simp at zz
  replace y0 : w.heap.size < w5.heap.size := by omega
  replace y1 : w.heap.size + 1 < w5.heap.size := by omega
  have y2 : w4.heap.size < w5.heap.size := by omega
  replace bn : w.heap.size ≤ w5.heap.size := by omega
  clear hb5 zz
  rw [← addH_comm a b c d, ← addL_comm a b c d, ← addB_comm a b c d]
  go_wp2_with fail
  (with_reducible refine (cmp_lt _ _ _ _ _ hd hb h).mono ?_)
  rintro e w6 ⟨rfl, hb6⟩
  replace k1 := carry hb6 (p := ⟨w.heap.size, 0, none⟩) (v := .int .u64 a) (by first | exact k1 | (simp [go_sem, k1, y0, y1, y2]; done) | (simp [go_sem, k1, y0, y1, y2]; omega))
  replace k2 := carry hb6 (p := ⟨w.heap.size, 1, none⟩) (v := .int .u64 b) (by first | exact k2 | (simp [go_sem, k2, y0, y1, y2]; done) | (simp [go_sem, k2, y0, y1, y2]; omega))
  replace k3 := carry hb6 (p := ⟨w.heap.size + 1, 0, none⟩) (v := .int .u64 c) (by first | exact k3 | (simp [go_sem, k3, y0, y1, y2]; done) | (simp [go_sem, k3, y0, y1, y2]; omega))
  replace k4 := carry hb6 (p := ⟨w.heap.size + 1, 1, none⟩) (v := .int .u64 d) (by first | exact k4 | (simp [go_sem, k4, y0, y1, y2]; done) | (simp [go_sem, k4, y0, y1, y2]; omega))
  replace k5 := carry hb6 (p := ⟨w4.heap.size, 0, none⟩) (v := .int .u64 (addH a b c d)) (by first | exact k5 | (simp [go_sem, k5, y0, y1, y2]; done) | (simp [go_sem, k5, y0, y1, y2]; omega))
  replace k6 := carry hb6 (p := ⟨w4.heap.size, 1, none⟩) (v := .int .u64 (addL a b c d)) (by first | exact k6 | (simp [go_sem, k6, y0, y1, y2]; done) | (simp [go_sem, k6, y0, y1, y2]; omega))
  have k7 := carry hb6 (p := ⟨w5.heap.size, 0, none⟩) (v := .int .u64 (addH a b c d)) (by first | (simp [go_sem, y0, y1, y2]; done) | (simp [go_sem, y0, y1, y2]; omega))
  have k8 := carry hb6 (p := ⟨w5.heap.size, 1, none⟩) (v := .int .u64 (addL a b c d)) (by first | (simp [go_sem, y0, y1, y2]; done) | (simp [go_sem, y0, y1, y2]; omega))
  replace bl : Below w.heap.size w w6 := by repeat (first | exact bl | refine Below.trans ?_ (hb6.mono (by first | omega | (simp; done) | (simp; omega))) | refine Below.setCell ?_ (by first | omega | (simp; done) | (simp; omega)) _ | refine Below.alloc ?_ (by first | omega | (simp; done) | (simp; omega)) _ | refine Below.drew ?_)
  have zz := hb6.size
  try simp at zz
  replace y0 : w.heap.size < w6.heap.size := by omega
  replace y1 : w.heap.size + 1 < w6.heap.size := by omega
  replace y2 : w4.heap.size < w6.heap.size := by omega
  have y3 : w5.heap.size < w6.heap.size := by omega
  replace bn : w.heap.size ≤ w6.heap.size := by omega
  clear hb6 zz
  go_wp2
  all_goals (go_ret; exact ⟨rfl, by repeat (first | exact bl | refine Below.setCell ?_ (by first | omega | (simp; done) | (simp; omega)) _ | refine Below.alloc ?_ (by first | omega | (simp; done) | (simp; omega)) _ | refine Below.drew ?_)⟩)
set_option maxRecDepth 100000 in
set_option maxHeartbeats 1000000 in
theorem walk_eq (a b c d : Int) (w : World) (ha : Is64 a) (hb : Is64 b) (hc : Is64 c) (hd : Is64 d) (h : V a b = V c d) :
    Calls Try.prog 6 #[.agg #[.int .u64 a, .int .u64 b], .agg #[.int .u64 c, .int .u64 d]] w fun e w' => e = .returned (.bool true) ∧ Below w.heap.size w w' := by
  obtain ⟨e1, e2⟩ := V_inj hb hd h
  subst e1 e2
  clear h
  go_enter Try.func6, Try.ntmps6
  go_wp2_with fail
  (with_reducible refine (awake_any _).mono ?_)
  rintro e w1 ⟨rfl, hb1⟩
  have k1 := carry hb1 (p := ⟨w.heap.size, 0, none⟩) (v := .int .u64 a) (by first | (simp [go_sem]; done) | (simp [go_sem]; omega))
  have k2 := carry hb1 (p := ⟨w.heap.size, 1, none⟩) (v := .int .u64 b) (by first | (simp [go_sem]; done) | (simp [go_sem]; omega))
  have k3 := carry hb1 (p := ⟨w.heap.size + 1, 0, none⟩) (v := .int .u64 a) (by first | (simp [go_sem]; done) | (simp [go_sem]; omega))
  have k4 := carry hb1 (p := ⟨w.heap.size + 1, 1, none⟩) (v := .int .u64 b) (by first | (simp [go_sem]; done) | (simp [go_sem]; omega))
  have bl : Below w.heap.size w w1 := by repeat (first | exact Below.refl _ _ | refine Below.trans ?_ (hb1.mono (by first | omega | (simp; done) | (simp; omega))) | refine Below.setCell ?_ (by first | omega | (simp; done) | (simp; omega)) _ | refine Below.alloc ?_ (by first | omega | (simp; done) | (simp; omega)) _ | refine Below.drew ?_)
  have zz := hb1.size
  try simp at zz
  have y0 : w.heap.size < w1.heap.size := by omega
  have y1 : w.heap.size + 1 < w1.heap.size := by omega
  have bn : w.heap.size ≤ w1.heap.size := by omega
  clear hb1 zz
  go_wp2_with fail
  (with_reducible refine (cmp_eq _ _ _ _ _ hb hd rfl).mono ?_)
  rintro e w2 ⟨rfl, hb2⟩
  replace k1 := carry hb2 (p := ⟨w.heap.size, 0, none⟩) (v := .int .u64 a) (by first | exact k1 | (simp [go_sem, k1, y0, y1]; done) | (simp [go_sem, k1, y0, y1]; omega))
  replace k2 := carry hb2 (p := ⟨w.heap.size, 1, none⟩) (v := .int .u64 b) (by first | exact k2 | (simp [go_sem, k2, y0, y1]; done) | (simp [go_sem, k2, y0, y1]; omega))
  replace k3 := carry hb2 (p := ⟨w.heap.size + 1, 0, none⟩) (v := .int .u64 a) (by first | exact k3 | (simp [go_sem, k3, y0, y1]; done) | (simp [go_sem, k3, y0, y1]; omega))
  replace k4 := carry hb2 (p := ⟨w.heap.size + 1, 1, none⟩) (v := .int .u64 b) (by first | exact k4 | (simp [go_sem, k4, y0, y1]; done) | (simp [go_sem, k4, y0, y1]; omega))
  replace bl : Below w.heap.size w w2 := by repeat (first | exact bl | refine Below.trans ?_ (hb2.mono (by first | omega | (simp; done) | (simp; omega))) | refine Below.setCell ?_ (by first | omega | (simp; done) | (simp; omega)) _ | refine Below.alloc ?_ (by first | omega | (simp; done) | (simp; omega)) _ | refine Below.drew ?_)
  have zz := hb2.size
  try simp at zz
  replace y0 : w.heap.size < w2.heap.size := by omega
  replace y1 : w.heap.size + 1 < w2.heap.size := by omega
  replace bn : w.heap.size ≤ w2.heap.size := by omega
  clear hb2 zz
  go_wp2_with fail
  (with_reducible refine (sub_yes _ _ _ _ _ ha hb hc hd (Int.le_refl _)).mono ?_)
  rintro e w3 ⟨rfl, hb3⟩
  replace k1 := carry hb3 (p := ⟨w.heap.size, 0, none⟩) (v := .int .u64 a) (by first | exact k1 | (simp [go_sem, k1, y0, y1]; done) | (simp [go_sem, k1, y0, y1]; omega))
  replace k2 := carry hb3 (p := ⟨w.heap.size, 1, none⟩) (v := .int .u64 b) (by first | exact k2 | (simp [go_sem, k2, y0, y1]; done) | (simp [go_sem, k2, y0, y1]; omega))
  replace k3 := carry hb3 (p := ⟨w.heap.size + 1, 0, none⟩) (v := .int .u64 a) (by first | exact k3 | (simp [go_sem, k3, y0, y1]; done) | (simp [go_sem, k3, y0, y1]; omega))
  replace k4 := carry hb3 (p := ⟨w.heap.size + 1, 1, none⟩) (v := .int .u64 b) (by first | exact k4 | (simp [go_sem, k4, y0, y1]; done) | (simp [go_sem, k4, y0, y1]; omega))
  replace bl : Below w.heap.size w w3 := by repeat (first | exact bl | refine Below.trans ?_ (hb3.mono (by first | omega | (simp; done) | (simp; omega))) | refine Below.setCell ?_ (by first | omega | (simp; done) | (simp; omega)) _ | refine Below.alloc ?_ (by first | omega | (simp; done) | (simp; omega)) _ | refine Below.drew ?_)
  have zz := hb3.size
  try simp at zz
  replace y0 : w.heap.size < w3.heap.size := by omega
  replace y1 : w.heap.size + 1 < w3.heap.size := by omega
  replace bn : w.heap.size ≤ w3.heap.size := by omega
  clear hb3 zz
  go_wp2_with fail
  (with_reducible refine (add_gen _ _ _ _ _ ha hb hc hd).mono ?_)
  rintro e w4 ⟨rfl, hb4⟩
  replace k1 := carry hb4 (p := ⟨w.heap.size, 0, none⟩) (v := .int .u64 a) (by first | exact k1 | (simp [go_sem, k1, y0, y1]; done) | (simp [go_sem, k1, y0, y1]; omega))
  replace k2 := carry hb4 (p := ⟨w.heap.size, 1, none⟩) (v := .int .u64 b) (by first | exact k2 | (simp [go_sem, k2, y0, y1]; done) | (simp [go_sem, k2, y0, y1]; omega))
  replace k3 := carry hb4 (p := ⟨w.heap.size + 1, 0, none⟩) (v := .int .u64 a) (by first | exact k3 | (simp [go_sem, k3, y0, y1]; done) | (simp [go_sem, k3, y0, y1]; omega))
  replace k4 := carry hb4 (p := ⟨w.heap.size + 1, 1, none⟩) (v := .int .u64 b) (by first | exact k4 | (simp [go_sem, k4, y0, y1]; done) | (simp [go_sem, k4, y0, y1]; omega))
  replace bl : Below w.heap.size w w4 := by repeat (first | exact bl | refine Below.trans ?_ (hb4.mono (by first | omega | (simp; done) | (simp; omega))) | refine Below.setCell ?_ (by first | omega | (simp; done) | (simp; omega)) _ | refine Below.alloc ?_ (by first | omega | (simp; done) | (simp; omega)) _ | refine Below.drew ?_)
  have zz := hb4.size
  try simp at zz
  replace y0 : w.heap.size < w4.heap.size := by omega
  replace y1 : w.heap.size + 1 < w4.heap.size := by omega
  replace bn : w.heap.size ≤ w4.heap.size := by omega
  clear hb4 zz
  go_wp2_with fail
  (with_reducible refine (add_gen _ _ _ _ _ hc hd ha hb).mono ?_)
  rintro e w5 ⟨rfl, hb5⟩
  replace k1 := carry hb5 (p := ⟨w.heap.size, 0, none⟩) (v := .int .u64 a) (by first | exact k1 | (simp [go_sem, k1, y0, y1]; done) | (simp [go_sem, k1, y0, y1]; omega))
  replace k2 := carry hb5 (p := ⟨w.heap.size, 1, none⟩) (v := .int .u64 b) (by first | exact k2 | (simp [go_sem, k2, y0, y1]; done) | (simp [go_sem, k2, y0, y1]; omega))
  replace k3 := carry hb5 (p := ⟨w.heap.size + 1, 0, none⟩) (v := .int .u64 a) (by first | exact k3 | (simp [go_sem, k3, y0, y1]; done) | (simp [go_sem, k3, y0, y1]; omega))
  replace k4 := carry hb5 (p := ⟨w.heap.size + 1, 1, none⟩) (v := .int .u64 b) (by first | exact k4 | (simp [go_sem, k4, y0, y1]; done) | (simp [go_sem, k4, y0, y1]; omega))
  have k5 := carry hb5 (p := ⟨w4.heap.size, 0, none⟩) (v := .int .u64 (addH a b a b)) (by first | (simp [go_sem, y0, y1]; done) | (simp [go_sem, y0, y1]; omega))
  have k6 := carry hb5 (p := ⟨w4.heap.size, 1, none⟩) (v := .int .u64 (addL a b a b)) (by first | (simp [go_sem, y0, y1]; done) | (simp [go_sem, y0, y1]; omega))
  replace bl : Below w.heap.size w w5 := by repeat (first | exact bl | refine Below.trans ?_ (hb5.mono (by first | omega | (simp; done) | (simp; omega))) | refine Below.setCell ?_ (by first | omega | (simp; done) | (simp; omega)) _ | refine Below.alloc ?_ (by first | omega | (simp; done) | (simp; omega)) _ | refine Below.drew ?_)
  have zz := hb5.size
  try simp at zz
  replace y0 : w.heap.size < w5.heap.size := by omega
  replace y1 : w.heap.size + 1 < w5.heap.size := by omega
  have y2 : w4.heap.size < w5.heap.size := by omega
  replace bn : w.heap.size ≤ w5.heap.size := by omega
  clear hb5 zz
  rw [← addH_comm a b a b, ← addL_comm a b a b, ← addB_comm a b a b]
  go_wp2_with fail
  (with_reducible refine (cmp_eq _ _ _ _ _ hd hb rfl).mono ?_)
  rintro e w6 ⟨rfl, hb6⟩
  replace k1 := carry hb6 (p := ⟨w.heap.size, 0, none⟩) (v := .int .u64 a) (by first | exact k1 | (simp [go_sem, k1, y0, y1, y2]; done) | (simp [go_sem, k1, y0, y1, y2]; omega))
  replace k2 := carry hb6 (p := ⟨w.heap.size, 1, none⟩) (v := .int .u64 b) (by first | exact k2 | (simp [go_sem, k2, y0, y1, y2]; done) | (simp [go_sem, k2, y0, y1, y2]; omega))
  replace k3 := carry hb6 (p := ⟨w.heap.size + 1, 0, none⟩) (v := .int .u64 a) (by first | exact k3 | (simp [go_sem, k3, y0, y1, y2]; done) | (simp [go_sem, k3, y0, y1, y2]; omega))
  replace k4 := carry hb6 (p := ⟨w.heap.size + 1, 1, none⟩) (v := .int .u64 b) (by first | exact k4 | (simp [go_sem, k4, y0, y1, y2]; done) | (simp [go_sem, k4, y0, y1, y2]; omega))
  replace k5 := carry hb6 (p := ⟨w4.heap.size, 0, none⟩) (v := .int .u64 (addH a b a b)) (by first | exact k5 | (simp [go_sem, k5, y0, y1, y2]; done) | (simp [go_sem, k5, y0, y1, y2]; omega))
  replace k6 := carry hb6 (p := ⟨w4.heap.size, 1, none⟩) (v := .int .u64 (addL a b a b)) (by first | exact k6 | (simp [go_sem, k6, y0, y1, y2]; done) | (simp [go_sem, k6, y0, y1, y2]; omega))
  have k7 := carry hb6 (p := ⟨w5.heap.size, 0, none⟩) (v := .int .u64 (addH a b a b)) (by first | (simp [go_sem, y0, y1, y2]; done) | (simp [go_sem, y0, y1, y2]; omega))
  have k8 := carry hb6 (p := ⟨w5.heap.size, 1, none⟩) (v := .int .u64 (addL a b a b)) (by first | (simp [go_sem, y0, y1, y2]; done) | (simp [go_sem, y0, y1, y2]; omega))
  replace bl : Below w.heap.size w w6 := by repeat (first | exact bl | refine Below.trans ?_ (hb6.mono (by first | omega | (simp; done) | (simp; omega))) | refine Below.setCell ?_ (by first | omega | (simp; done) | (simp; omega)) _ | refine Below.alloc ?_ (by first | omega | (simp; done) | (simp; omega)) _ | refine Below.drew ?_)
  have zz := hb6.size
  try simp at zz
  replace y0 : w.heap.size < w6.heap.size := by omega
  replace y1 : w.heap.size + 1 < w6.heap.size := by omega
  replace y2 : w4.heap.size < w6.heap.size := by omega
  have y3 : w5.heap.size < w6.heap.size := by omega
  replace bn : w.heap.size ≤ w6.heap.size := by omega
  clear hb6 zz
  go_wp2
  all_goals (go_ret; exact ⟨rfl, by repeat (first | exact bl | refine Below.setCell ?_ (by first | omega | (simp; done) | (simp; omega)) _ | refine Below.alloc ?_ (by first | omega | (simp; done) | (simp; omega)) _ | refine Below.drew ?_)⟩)
theorem walk (a b c d : Int) (w : World) (ha : Is64 a) (hb : Is64 b) (hc : Is64 c) (hd : Is64 d) :
    Calls Try.prog 6 #[.agg #[.int .u64 a, .int .u64 b], .agg #[.int .u64 c, .int .u64 d]] w fun e w' => e = .returned (.bool true) ∧ Below w.heap.size w w' := by
  rcases Int.lt_trichotomy (V a b) (V c d) with h | h | h
  · exact walk_lt a b c d w ha hb hc hd h
  · exact walk_eq a b c d w ha hb hc hd h
  · exact walk_gt a b c d w ha hb hc hd h

set_option maxRecDepth 100000 in
theorem lifted (os : Os) (started : os.Started) (H : Type) (enc : TypeId × Value → H) :
    ReturnsInHanded {} Try.checked os 6 .any (Rows.wideOrderSpec.pre6 enc Try.prog Try.f6 Rows.wideOrderRow.domain false) (Rows.wideOrderSpec.post enc Try.prog Try.f6 false true false false) := by
  refine returnsInHanded_of_change (C := Try.checked) own started (by kernel_rfl) Try.func6
    (ChangeSpec.witness6 (enc := enc) (C := Try.checked) false ⟨#[], #[.agg #[.int .u64 0, .int .u64 0], .agg #[.int .u64 0, .int .u64 0]], []⟩ 8 (by kernel_rfl) (by kernel_rfl) (by kernel_rfl) (by kernel_rfl)) ?_
  intro W base args ds gs before hval0 hW hcnd _
  have hval : ∀ (j : Nat) t v, Try.f6.params[j]? = some t → args[j]? = some v → Value.okWide Try.prog W .any base t v := hval0
  have hW' := hW
  obtain ⟨p, q, hA0, hV, rfl, hfz, hnd⟩ := hW
  have hA : DataW.TrodAll enc Try.prog W 0 (fun _ => true) true Try.f6.params.toList args.toList ds p := hA0
  rw [Try.params6] at hA hval
  obtain ⟨v0, vs0, d0, ds0, p0, q0, hargs, rfl, rfl, h0, r0⟩ := trodAll_cons hA
  obtain ⟨v1, vs1, d1, ds1, p1, q1, rfl, rfl, rfl, h1, r1⟩ := trodAll_cons r0
  obtain ⟨rfl, rfl, rfl⟩ := trodAll_nil r1
  obtain rfl : args = #[v0, v1] := by cases args; simp_all
  obtain ⟨rfl, rfl⟩ := trodVars_none hV
  have lt0 : ∀ x ∈ p0, x.block < W.heap.size := by obtain ⟨m, hm⟩ := h0; exact DataW.trod_lt m _ _ _ hm
  obtain ⟨a, b, rfl, wa, wb⟩ := open_wide (hval 0 24 v0 rfl rfl) h0
  have lt1 : ∀ x ∈ p1, x.block < W.heap.size := by obtain ⟨m, hm⟩ := h1; exact DataW.trod_lt m _ _ _ hm
  obtain ⟨c, d, rfl, wc, wd⟩ := open_wide (hval 1 24 v1 rfl rfl) h1
  clear hA0 hval0
  refine (walk a b c d W wa wb wc wd).mono fun e W' ⟨he, bel⟩ => ?_
  subst he
  exact ⟨_, rfl, _, _, _, [], _, [], hW', trodAll_mk1 (shut_bool Try.underlying4 _), (trodAll_cons_mk (Below.trod laidOut (by kernel_rfl) (of_decide_eq_true (by kernel_rfl)) h0 bel lt0) (trodAll_cons_mk (Below.trod laidOut (by kernel_rfl) (of_decide_eq_true (by kernel_rfl)) h1 bel lt1) trodAll_mk0)), rfl, bel.frame _, fun h => by cases h⟩

theorem proved : Rows.WideOrderSaid :=
  OpenClaim.holds_of_wide 6 Try.f6 rfl rfl rfl rfl rfl rfl rfl ⟨rfl, rfl, rfl, rfl, rfl⟩ rfl rfl rfl rfl rfl (by kernel_rfl) Try.func6 (by kernel_rfl)
    (of_decide_eq_true (by kernel_rfl)) (by unfold Func.isWrapper; first | (rw [if_pos (by decide +kernel)]; kernel_rfl) | (rw [if_neg (by decide +kernel)]; exact ⟨rfl, rfl⟩))
    (fun os started H enc _ => lifted os started H enc)
#print axioms proved
end Go.Proofs.Ytdddafhalcbhaaa.wideOrder
