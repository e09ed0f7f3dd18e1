/- A product is the sum of the one with a number less, and the other one; a sum with 1 is greater. For every two numbers of 64 bits and every number of 128, without a condition. -/
import Derived.Test.YtdddafhalcbhaaaHwG
import Derived.Deep.DeepCutAuto
namespace Go.Proofs.Ytdddafhalcbhaaa.wideSteps
open Go.ChangeShapes Go.WideShapes Go.ChangeAt Go.RowKit Go.Joins
set_option linter.unusedVariables false
set_option linter.unusedSimpArgs false

def Kept (w : World) (c d : Int) (wx : World) : Prop := wx.cell? ⟨w.heap.size, 0, none⟩ = some (.int .u64 c) ∧ wx.cell? ⟨w.heap.size, 1, none⟩ = some (.int .u64 d) ∧ Below w.heap.size w wx ∧ w.heap.size < wx.heap.size
def NewSum (w : World) (c d x y : Int) (s : Value) (wx : World) : Prop := ∃ g, s = .pointer (some ⟨g, 0, none⟩) ∧ wx.cell? ⟨g, 0, none⟩ = some (.int .u64 x) ∧ wx.cell? ⟨g, 1, none⟩ = some (.int .u64 y) ∧ Kept w c d wx
theorem newsum_alloc {w wb : World} {c d x y : Int} {t : TypeId} (k : Kept w c d wb) : NewSum w c d x y (.pointer (some ⟨wb.heap.size, 0, none⟩)) (wb.alloc (.cells #[.int .u64 x, .int .u64 y] t)) := by
  obtain ⟨k1, k2, b, z⟩ := k
  refine ⟨_, rfl, by simp [go_sem], by simp [go_sem], by simp [go_sem, k1, z], by simp [go_sem, k2, z], b.alloc (by omega) _, by simp; omega⟩
theorem newsum_set {w wb : World} {c d x y : Int} {g : Nat} {u0 u1 : Value} (h0 : wb.cell? ⟨g, 0, none⟩ = some u0) (h1 : wb.cell? ⟨g, 1, none⟩ = some u1) (hg : w.heap.size < g) (k : Kept w c d wb) :
    NewSum w c d x y (.pointer (some ⟨g, 0, none⟩)) ((wb.setCell ⟨g, 0, none⟩ (.int .u64 x)).setCell ⟨g, 1, none⟩ (.int .u64 y)) := by
  obtain ⟨k1, k2, b, z⟩ := k
  have hne : ¬ g = w.heap.size := by omega
  have hne' : ¬ w.heap.size = g := by omega
  refine ⟨_, rfl, by simp [go_sem, h0], by simp [go_sem, h1], by simp [go_sem, k1, hne, hne'], by simp [go_sem, k2, hne, hne'], (b.setCell (by simp; omega) _).setCell (by simp; omega) _, by simpa using z⟩
theorem mul_swap {a b : Int} (ha : Is64 a) (hb : Is64 b) (w : World) :
    Calls Try.prog 17 #[.int .u64 b, .int .u64 a] w fun e w' => e = .returned (.agg #[.int .u64 (hi (a * b)), .int .u64 (lo (a * b))]) ∧ Below w.heap.size w w' := by
  rw [Int.mul_comm a b]; exact mul_any b a w hb ha
theorem add_step {a b : Int} (ha : Is64 a) (hb : Is64 b) (h : 0 < a) (w : World) :
    Calls Try.prog 11 #[.agg #[.int .u64 (hi ((a - 1) * b)), .int .u64 (lo ((a - 1) * b))], .agg #[.int .u64 0, .int .u64 b]] w fun e w' => e = .returned (.tuple #[.agg #[.int .u64 (hi (a * b)), .int .u64 (lo (a * b))], .bool true]) ∧ Below w.heap.size w w' := by
  have e : V (hi ((a - 1) * b)) (lo ((a - 1) * b)) + V 0 b = a * b := by
    rw [V_hi_lo, Int.sub_mul]; unfold V; omega
  have h1 : Is64 (a - 1) := by unfold Is64 at *; omega
  have := add_yes (hi ((a - 1) * b)) (lo ((a - 1) * b)) 0 b w (is64_hi (is128_mul h1 hb)) (is64_lo _) (by unfold Is64; omega) hb (by rw [e]; exact is128_mul ha hb)
  rw [e] at this
  exact this
theorem add_one {c d : Int} (hc : Is64 c) (hd : Is64 d) (h : Is128 (V c d + 1)) (w : World) :
    Calls Try.prog 11 #[.agg #[.int .u64 c, .int .u64 d], .agg #[.int .u64 0, .int .u64 1]] w fun e w' => e = .returned (.tuple #[.agg #[.int .u64 (hi (V c d + 1)), .int .u64 (lo (V c d + 1))], .bool true]) ∧ Below w.heap.size w w' := by
  have e : V c d + V 0 1 = V c d + 1 := rfl
  have := add_yes c d 0 1 w hc hd (by unfold Is64; omega) (by unfold Is64; omega) (by rw [e]; exact h)
  rw [e] at this
  exact this
theorem isok_of {c d : Int} (hc : Is64 c) (hd : Is64 d) (h : ¬ (c = 18446744073709551615 ∧ d = 18446744073709551615)) : Is128 (V c d + 1) := by
  unfold Is64 at *; unfold Is128 V; omega
theorem add_full {c d : Int} (hc : c = 18446744073709551615) (hd : d = 18446744073709551615) (w : World) :
    Calls Try.prog 11 #[.agg #[.int .u64 c, .int .u64 d], .agg #[.int .u64 0, .int .u64 1]] w fun e w' => e = .returned (.tuple #[.agg #[.int .u64 0, .int .u64 0], .bool false]) ∧ Below w.heap.size w w' :=
  add_no _ _ _ _ w (by unfold Is64; omega) (by unfold Is64; omega) (by unfold Is64; omega) (by unfold Is64; omega) (by unfold Is128 V; omega)
open Classical in
theorem addB_ok {c d : Int} (h : Is128 (V c d + 1)) : addB c d 0 1 = true := by unfold addB; exact decide_eq_true h
open Classical in
theorem addH_ok {c d : Int} (h : Is128 (V c d + 1)) : addH c d 0 1 = hi (V c d + 1) := by unfold addH; exact if_pos h
open Classical in
theorem addL_ok {c d : Int} (h : Is128 (V c d + 1)) : addL c d 0 1 = lo (V c d + 1) := by unfold addL; exact if_pos h
open Classical in
theorem addB_full {c d : Int} (h1 : c = 18446744073709551615) (h2 : d = 18446744073709551615) : addB c d 0 1 = false := by
  unfold addB; exact decide_eq_false (by subst h1 h2; unfold Is128 V; omega)
set_option maxRecDepth 100000 in
set_option maxHeartbeats 4000000 in
theorem walk (a b c d : Int) (w : World) (ha : Is64 a) (hb : Is64 b) (hc : Is64 c) (hd : Is64 d) :
    Calls Try.prog 9 #[.int .u64 a, .int .u64 b, .agg #[.int .u64 c, .int .u64 d]] w fun e w' => e = .returned (.bool true) ∧ Below w.heap.size w w' := by
  have M := Lib.hid (fun w => mul_any a b w ha hb)
  have M2 := Lib.hid (mul_swap ha hb)
  have A2 := Lib.hid (fun w => add_gen c d 0 1 w hc hd (by unfold Is64; omega) (by unfold Is64; omega))
  have o64 : Is64 a := ha
  go_enter Try.func9, Try.ntmps9
  go_wp2_with fail
  (with_reducible refine (awake_any _).mono ?_)
  rintro e w1 ⟨rfl, hb1⟩
  have k1 := carry hb1 (p := ⟨w.heap.size, 0, none⟩) (v := .int .u64 c) (by first | (simp [go_sem]; done) | (simp [go_sem]; omega))
  have k2 := carry hb1 (p := ⟨w.heap.size, 1, none⟩) (v := .int .u64 d) (by first | (simp [go_sem]; done) | (simp [go_sem]; omega))
  have bl : Below w.heap.size w w1 := by repeat (first | exact Below.refl _ _ | refine Below.trans ?_ (hb1.mono (by first | omega | (simp; done) | (simp; omega))) | refine Below.setCell ?_ (by first | omega | (simp; done) | (simp; omega)) _ | refine Below.alloc ?_ (by first | omega | (simp; done) | (simp; omega)) _ | refine Below.drew ?_)
  have zz := hb1.size
  try simp at zz
  have y0 : w.heap.size < w1.heap.size := by omega
  have bn : w.heap.size ≤ w1.heap.size := by omega
  clear hb1 zz
  go_upto_if 14 with (fail)
  go_cut [8, 9] (fun s8 s9 wx => Kept w c d wx)
  case first =>
    by_cases hpos : 0 < a
    · have wr : IntKind.u64.wrap (a - 1) = a - 1 := by unfold Is64 at ha; rw [IntKind.wrap_u64]; omega
      have ha' : Is64 (a - 1) := by unfold Is64 at *; omega
      have M1 := Lib.hid (fun w => mul_any (a - 1) b w ha' hb)
      have A1 := Lib.hid (add_step ha hb hpos)
      go_wp2_with fail
      (with_reducible refine (M1.out _).mono ?_)
      rintro e w2 ⟨rfl, hb2⟩
      replace k1 := carry hb2 (p := ⟨w.heap.size, 0, none⟩) (v := .int .u64 c) (by first | exact k1 | (simp [go_sem, k1, y0]; done) | (simp [go_sem, k1, y0]; omega))
      replace k2 := carry hb2 (p := ⟨w.heap.size, 1, none⟩) (v := .int .u64 d) (by first | exact k2 | (simp [go_sem, k2, y0]; done) | (simp [go_sem, k2, y0]; omega))
      replace bl : Below w.heap.size w w2 := by repeat (first | exact bl | refine Below.trans ?_ (hb2.mono (by first | omega | (simp; done) | (simp; omega))) | refine Below.setCell ?_ (by first | omega | (simp; done) | (simp; omega)) _ | refine Below.alloc ?_ (by first | omega | (simp; done) | (simp; omega)) _ | refine Below.drew ?_)
      have zz := hb2.size
      try simp at zz
      replace y0 : w.heap.size < w2.heap.size := by omega
      replace bn : w.heap.size ≤ w2.heap.size := by omega
      clear hb2 zz
      go_wp2_with fail
      (with_reducible refine (of_any _ _).mono ?_)
      rintro e w3 ⟨rfl, hb3⟩
      replace k1 := carry hb3 (p := ⟨w.heap.size, 0, none⟩) (v := .int .u64 c) (by first | exact k1 | (simp [go_sem, k1, y0]; done) | (simp [go_sem, k1, y0]; omega))
      replace k2 := carry hb3 (p := ⟨w.heap.size, 1, none⟩) (v := .int .u64 d) (by first | exact k2 | (simp [go_sem, k2, y0]; done) | (simp [go_sem, k2, y0]; omega))
      replace bl : Below w.heap.size w w3 := by repeat (first | exact bl | refine Below.trans ?_ (hb3.mono (by first | omega | (simp; done) | (simp; omega))) | refine Below.setCell ?_ (by first | omega | (simp; done) | (simp; omega)) _ | refine Below.alloc ?_ (by first | omega | (simp; done) | (simp; omega)) _ | refine Below.drew ?_)
      have zz := hb3.size
      try simp at zz
      replace y0 : w.heap.size < w3.heap.size := by omega
      replace bn : w.heap.size ≤ w3.heap.size := by omega
      clear hb3 zz
      go_wp2_with fail
      (with_reducible refine (A1.out _).mono ?_)
      rintro e w4 ⟨rfl, hb4⟩
      replace k1 := carry hb4 (p := ⟨w.heap.size, 0, none⟩) (v := .int .u64 c) (by first | exact k1 | (simp [go_sem, k1, y0]; done) | (simp [go_sem, k1, y0]; omega))
      replace k2 := carry hb4 (p := ⟨w.heap.size, 1, none⟩) (v := .int .u64 d) (by first | exact k2 | (simp [go_sem, k2, y0]; done) | (simp [go_sem, k2, y0]; omega))
      replace bl : Below w.heap.size w w4 := by repeat (first | exact bl | refine Below.trans ?_ (hb4.mono (by first | omega | (simp; done) | (simp; omega))) | refine Below.setCell ?_ (by first | omega | (simp; done) | (simp; omega)) _ | refine Below.alloc ?_ (by first | omega | (simp; done) | (simp; omega)) _ | refine Below.drew ?_)
      have zz := hb4.size
      try simp at zz
      replace y0 : w.heap.size < w4.heap.size := by omega
      replace bn : w.heap.size ≤ w4.heap.size := by omega
      clear hb4 zz
      have le0 : w.heap.size ≤ w4.heap.size := by omega
      go_wp2_with fail
      go_region_with (go_at_call 17; refine (M.out _).mono ?_; rintro e wa ⟨rfl, hM⟩; obtain ⟨hcl, hfr⟩ := bcell hM; (have za := hM.size); (try simp at za))
      all_goals (go_wp2_with fail; go_meet; exact ⟨(by simp [go_sem, hcl, k1, k2, y0, le0]), (by simp [go_sem, hcl, k1, k2, y0, le0]), by repeat (first | exact bl | refine Below.trans ?_ (hA.mono (by first | omega | (simp; done) | (simp; omega))) | refine Below.trans ?_ (hO.mono (by first | omega | (simp; done) | (simp; omega))) | refine Below.trans ?_ (hM.mono (by first | omega | (simp; done) | (simp; omega))) | refine Below.setCell ?_ (by first | omega | (simp; done) | (simp; omega)) _ | refine Below.alloc ?_ (by first | omega | (simp; done) | (simp; omega)) _ | refine Below.drew ?_), (by omega)⟩)
    · go_wp2_with fail
      go_meet
      exact ⟨k1, k2, bl, y0⟩
  case rest =>
    clear k1 k2 bl y0 bn
    obtain ⟨k1, k2, bl, y0⟩ := hcut
    have le0 : w.heap.size ≤ wc.heap.size := by omega
    have lt1 : w.heap.size < wc.heap.size + 1 := by omega
    go_upto_region 6 with (fail)
    go_cut [10, 11] (fun s10 s11 wx => NewSum w c d (addH c d 0 1) (addL c d 0 1) s10 wx ∧ s11 = .bool (addB c d 0 1))
    case first =>
      go_region_with (first | (go_at_call 19; refine (of_any _ _).mono ?_; rintro e wa ⟨rfl, hO⟩; obtain ⟨hcl, hfr⟩ := bcell hO; (have za := hO.size); (try simp at za); (try (have za3 := Nat.lt_of_succ_le za)); (have zc : w.heap.size < wa.heap.size := by omega); (have kc1 := carry hO (p := ⟨w.heap.size, 0, none⟩) (v := .int .u64 c) (by simp [go_sem, k1, y0])); (have kc2 := carry hO (p := ⟨w.heap.size, 1, none⟩) (v := .int .u64 d) (by simp [go_sem, k2, y0]))) | (go_at_call 11; refine (A2.out _).mono ?_; rintro e wb ⟨rfl, hA⟩; obtain ⟨hcl2, hfr2⟩ := bcell hA; (have zb := hA.size); (try simp at zb); (try (have zb3 := Nat.lt_of_succ_le zb)); (have zd : w.heap.size < wb.heap.size := by omega); (have kd1 := carry hA (p := ⟨w.heap.size, 0, none⟩) (v := .int .u64 c) (by simp [go_sem, kc1, zc])); (have kd2 := carry hA (p := ⟨w.heap.size, 1, none⟩) (v := .int .u64 d) (by simp [go_sem, kc2, zc]))))
      all_goals
        have kk : Kept w c d wb := ⟨kd1, kd2, by repeat (first | exact bl | refine Below.trans ?_ (hA.mono (by first | omega | (simp; done) | (simp; omega))) | refine Below.trans ?_ (hO.mono (by first | omega | (simp; done) | (simp; omega))) | refine Below.trans ?_ (hM.mono (by first | omega | (simp; done) | (simp; omega))) | refine Below.setCell ?_ (by first | omega | (simp; done) | (simp; omega)) _ | refine Below.alloc ?_ (by first | omega | (simp; done) | (simp; omega)) _ | refine Below.drew ?_), zd⟩
        go_wp2_with fail
        go_meet
        first
        | exact ⟨newsum_alloc kk, rfl⟩
        | exact ⟨newsum_set (carry hA (p := ⟨wa.heap.size, 0, none⟩) (v := .int .u64 0) (by simp [go_sem])) (carry hA (p := ⟨wa.heap.size, 1, none⟩) (v := .int .u64 0) (by simp [go_sem])) (by omega) kk, rfl⟩
        | exact ⟨newsum_set (carry hA (p := ⟨wc.heap.size, 0, none⟩) (v := .int .u64 0) (carry hO (by simp [go_sem]))) (carry hA (p := ⟨wc.heap.size, 1, none⟩) (v := .int .u64 0) (carry hO (by simp [go_sem]))) (by omega) kk, rfl⟩
    case rest =>
      clear k1 k2 bl y0 le0 lt1
      obtain ⟨⟨g, rfl, k3, k4, k1, k2, bl, y0⟩, rfl⟩ := hcut
      have bn : w.heap.size ≤ wc.heap.size := by omega
      by_cases hm : c = 18446744073709551615 ∧ d = 18446744073709551615
      · obtain ⟨hcm, hdm⟩ := hm
        have x1 : (c != 18446744073709551615) = false := by simp [hcm]
        have x2 : (d != 18446744073709551615) = false := by simp [hdm]
        rw [addB_full hcm hdm]
        clear hcm hdm k3 k4
        go_wp2_with fail
        (with_reducible refine (M.out _).mono ?_)
        rintro e w2 ⟨rfl, hb2⟩
        replace k1 := carry hb2 (p := ⟨w.heap.size, 0, none⟩) (v := .int .u64 c) (by first | exact k1 | (simp [go_sem, k1, y0]; done) | (simp [go_sem, k1, y0]; omega))
        replace k2 := carry hb2 (p := ⟨w.heap.size, 1, none⟩) (v := .int .u64 d) (by first | exact k2 | (simp [go_sem, k2, y0]; done) | (simp [go_sem, k2, y0]; omega))
        replace bl : Below w.heap.size w w2 := by repeat (first | exact bl | refine Below.trans ?_ (hb2.mono (by first | omega | (simp; done) | (simp; omega))) | refine Below.setCell ?_ (by first | omega | (simp; done) | (simp; omega)) _ | refine Below.alloc ?_ (by first | omega | (simp; done) | (simp; omega)) _ | refine Below.drew ?_)
        have zz := hb2.size
        try simp at zz
        replace y0 : w.heap.size < w2.heap.size := by omega
        replace bn : w.heap.size ≤ w2.heap.size := by omega
        clear hb2 zz
        go_wp2_with fail
        (with_reducible refine (M2.out _).mono ?_)
        rintro e w3 ⟨rfl, hb3⟩
        replace k1 := carry hb3 (p := ⟨w.heap.size, 0, none⟩) (v := .int .u64 c) (by first | exact k1 | (simp [go_sem, k1, y0]; done) | (simp [go_sem, k1, y0]; omega))
        replace k2 := carry hb3 (p := ⟨w.heap.size, 1, none⟩) (v := .int .u64 d) (by first | exact k2 | (simp [go_sem, k2, y0]; done) | (simp [go_sem, k2, y0]; omega))
        replace bl : Below w.heap.size w w3 := by repeat (first | exact bl | refine Below.trans ?_ (hb3.mono (by first | omega | (simp; done) | (simp; omega))) | refine Below.setCell ?_ (by first | omega | (simp; done) | (simp; omega)) _ | refine Below.alloc ?_ (by first | omega | (simp; done) | (simp; omega)) _ | refine Below.drew ?_)
        have zz := hb3.size
        try simp at zz
        replace y0 : w.heap.size < w3.heap.size := by omega
        replace bn : w.heap.size ≤ w3.heap.size := by omega
        clear hb3 zz
        go_wp2
        all_goals (go_ret; exact ⟨rfl, by repeat (first | exact bl | refine Below.setCell ?_ (by first | omega | (simp; done) | (simp; omega)) _ | refine Below.alloc ?_ (by first | omega | (simp; done) | (simp; omega)) _ | refine Below.drew ?_)⟩)
      · have h128 : Is128 (V c d + 1) := isok_of hc hd hm
        rw [addB_ok h128]
        rw [addH_ok h128] at k3
        rw [addL_ok h128] at k4
        have C := Lib.hid (fun w => cmp_gt (hi (V c d + 1)) (lo (V c d + 1)) c d w (is64_lo _) hd (by rw [V_hi_lo]; omega))
        have hm2 : (c != 18446744073709551615) = true ∨ ((c != 18446744073709551615) = false ∧ (d != 18446744073709551615) = true) := by simp; omega
        clear hm h128
        rcases hm2 with x1 | ⟨x1, x2⟩
        all_goals
          go_wp2_with fail
          (with_reducible refine (M.out _).mono ?_)
          rintro e w2 ⟨rfl, hb2⟩
          replace k1 := carry hb2 (p := ⟨w.heap.size, 0, none⟩) (v := .int .u64 c) (by first | exact k1 | (simp [go_sem, k1, y0]; done) | (simp [go_sem, k1, y0]; omega))
          replace k2 := carry hb2 (p := ⟨w.heap.size, 1, none⟩) (v := .int .u64 d) (by first | exact k2 | (simp [go_sem, k2, y0]; done) | (simp [go_sem, k2, y0]; omega))
          replace k3 := carry hb2 (p := ⟨g, 0, none⟩) (v := .int .u64 (hi (V c d + 1))) (by first | exact k3 | (simp [go_sem, k3, y0]; done) | (simp [go_sem, k3, y0]; omega))
          replace k4 := carry hb2 (p := ⟨g, 1, none⟩) (v := .int .u64 (lo (V c d + 1))) (by first | exact k4 | (simp [go_sem, k4, y0]; done) | (simp [go_sem, k4, y0]; omega))
          replace bl : Below w.heap.size w w2 := by repeat (first | exact bl | refine Below.trans ?_ (hb2.mono (by first | omega | (simp; done) | (simp; omega))) | refine Below.setCell ?_ (by first | omega | (simp; done) | (simp; omega)) _ | refine Below.alloc ?_ (by first | omega | (simp; done) | (simp; omega)) _ | refine Below.drew ?_)
          have zz := hb2.size
          try simp at zz
          replace y0 : w.heap.size < w2.heap.size := by omega
          replace bn : w.heap.size ≤ w2.heap.size := by omega
          clear hb2 zz
          go_wp2_with fail
          (with_reducible refine (M2.out _).mono ?_)
          rintro e w3 ⟨rfl, hb3⟩
          replace k1 := carry hb3 (p := ⟨w.heap.size, 0, none⟩) (v := .int .u64 c) (by first | exact k1 | (simp [go_sem, k1, y0]; done) | (simp [go_sem, k1, y0]; omega))
          replace k2 := carry hb3 (p := ⟨w.heap.size, 1, none⟩) (v := .int .u64 d) (by first | exact k2 | (simp [go_sem, k2, y0]; done) | (simp [go_sem, k2, y0]; omega))
          replace k3 := carry hb3 (p := ⟨g, 0, none⟩) (v := .int .u64 (hi (V c d + 1))) (by first | exact k3 | (simp [go_sem, k3, y0]; done) | (simp [go_sem, k3, y0]; omega))
          replace k4 := carry hb3 (p := ⟨g, 1, none⟩) (v := .int .u64 (lo (V c d + 1))) (by first | exact k4 | (simp [go_sem, k4, y0]; done) | (simp [go_sem, k4, y0]; omega))
          replace bl : Below w.heap.size w w3 := by repeat (first | exact bl | refine Below.trans ?_ (hb3.mono (by first | omega | (simp; done) | (simp; omega))) | refine Below.setCell ?_ (by first | omega | (simp; done) | (simp; omega)) _ | refine Below.alloc ?_ (by first | omega | (simp; done) | (simp; omega)) _ | refine Below.drew ?_)
          have zz := hb3.size
          try simp at zz
          replace y0 : w.heap.size < w3.heap.size := by omega
          replace bn : w.heap.size ≤ w3.heap.size := by omega
          clear hb3 zz
          go_wp2_with fail
          (with_reducible refine (C.out _).mono ?_)
          rintro e w4 ⟨rfl, hb4⟩
          replace k1 := carry hb4 (p := ⟨w.heap.size, 0, none⟩) (v := .int .u64 c) (by first | exact k1 | (simp [go_sem, k1, y0]; done) | (simp [go_sem, k1, y0]; omega))
          replace k2 := carry hb4 (p := ⟨w.heap.size, 1, none⟩) (v := .int .u64 d) (by first | exact k2 | (simp [go_sem, k2, y0]; done) | (simp [go_sem, k2, y0]; omega))
          replace k3 := carry hb4 (p := ⟨g, 0, none⟩) (v := .int .u64 (hi (V c d + 1))) (by first | exact k3 | (simp [go_sem, k3, y0]; done) | (simp [go_sem, k3, y0]; omega))
          replace k4 := carry hb4 (p := ⟨g, 1, none⟩) (v := .int .u64 (lo (V c d + 1))) (by first | exact k4 | (simp [go_sem, k4, y0]; done) | (simp [go_sem, k4, y0]; omega))
          replace bl : Below w.heap.size w w4 := by repeat (first | exact bl | refine Below.trans ?_ (hb4.mono (by first | omega | (simp; done) | (simp; omega))) | refine Below.setCell ?_ (by first | omega | (simp; done) | (simp; omega)) _ | refine Below.alloc ?_ (by first | omega | (simp; done) | (simp; omega)) _ | refine Below.drew ?_)
          have zz := hb4.size
          try simp at zz
          replace y0 : w.heap.size < w4.heap.size := by omega
          replace bn : w.heap.size ≤ w4.heap.size := by omega
          clear hb4 zz
          go_wp2
          all_goals (go_ret; exact ⟨rfl, by repeat (first | exact bl | refine Below.setCell ?_ (by first | omega | (simp; done) | (simp; omega)) _ | refine Below.alloc ?_ (by first | omega | (simp; done) | (simp; omega)) _ | refine Below.drew ?_)⟩)

set_option maxRecDepth 100000 in
theorem lifted (os : Os) (started : os.Started) (H : Type) (enc : TypeId × Value → H) :
    ReturnsInHanded {} Try.checked os 9 .any (Rows.wideStepsSpec.pre6 enc Try.prog Try.f9 Rows.wideStepsRow.domain false) (Rows.wideStepsSpec.post enc Try.prog Try.f9 false true false false) := by
  refine returnsInHanded_of_change (C := Try.checked) own started (by kernel_rfl) Try.func9
    (ChangeSpec.witness6 (enc := enc) (C := Try.checked) false ⟨#[], #[.int .u64 0, .int .u64 0, .agg #[.int .u64 0, .int .u64 0]], []⟩ 8 (by kernel_rfl) (by kernel_rfl) (by kernel_rfl) (by kernel_rfl)) ?_
  intro W base args ds gs before hval0 hW hcnd _
  have hval : ∀ (j : Nat) t v, Try.f9.params[j]? = some t → args[j]? = some v → Value.okWide Try.prog W .any base t v := hval0
  have hW' := hW
  obtain ⟨p, q, hA0, hV, rfl, hfz, hnd⟩ := hW
  have hA : DataW.TrodAll enc Try.prog W 0 (fun _ => true) true Try.f9.params.toList args.toList ds p := hA0
  rw [Try.params9] at hA hval
  obtain ⟨v0, vs0, d0, ds0, p0, q0, hargs, rfl, rfl, h0, r0⟩ := trodAll_cons hA
  obtain ⟨v1, vs1, d1, ds1, p1, q1, rfl, rfl, rfl, h1, r1⟩ := trodAll_cons r0
  obtain ⟨v2, vs2, d2, ds2, p2, q2, rfl, rfl, rfl, h2, r2⟩ := trodAll_cons r1
  obtain ⟨rfl, rfl, rfl⟩ := trodAll_nil r2
  obtain rfl : args = #[v0, v1, v2] := by cases args; simp_all
  obtain ⟨rfl, rfl⟩ := trodVars_none hV
  have lt0 : ∀ x ∈ p0, x.block < W.heap.size := by obtain ⟨m, hm⟩ := h0; exact DataW.trod_lt m _ _ _ hm
  obtain ⟨a, e0, -, -, wfa⟩ := open_int Try.underlying22 (hval 0 22 v0 rfl rfl) h0
  subst e0
  have wa := is64_wf wfa
  have lt1 : ∀ x ∈ p1, x.block < W.heap.size := by obtain ⟨m, hm⟩ := h1; exact DataW.trod_lt m _ _ _ hm
  obtain ⟨b, e1, -, -, wfb⟩ := open_int Try.underlying22 (hval 1 22 v1 rfl rfl) h1
  subst e1
  have wb := is64_wf wfb
  have lt2 : ∀ x ∈ p2, x.block < W.heap.size := by obtain ⟨m, hm⟩ := h2; exact DataW.trod_lt m _ _ _ hm
  obtain ⟨c, d, rfl, wc, wd⟩ := open_wide (hval 2 24 v2 rfl rfl) h2
  clear hA0 hval0
  refine (walk a b c d W wa wb wc wd).mono fun e W' ⟨he, bel⟩ => ?_
  subst he
  exact ⟨_, rfl, _, _, _, [], _, [], hW', trodAll_mk1 (shut_bool Try.underlying4 _), (trodAll_cons_mk (Below.trod laidOut (by kernel_rfl) (of_decide_eq_true (by kernel_rfl)) h0 bel lt0) (trodAll_cons_mk (Below.trod laidOut (by kernel_rfl) (of_decide_eq_true (by kernel_rfl)) h1 bel lt1) (trodAll_cons_mk (Below.trod laidOut (by kernel_rfl) (of_decide_eq_true (by kernel_rfl)) h2 bel lt2) trodAll_mk0))), rfl, bel.frame _, fun h => by cases h⟩

theorem proved : Rows.WideStepsSaid :=
  OpenClaim.holds_of_wide 9 Try.f9 rfl rfl rfl rfl rfl rfl rfl ⟨rfl, rfl, rfl, rfl, rfl⟩ rfl rfl rfl rfl rfl (by kernel_rfl) Try.func9 (by kernel_rfl)
    (of_decide_eq_true (by kernel_rfl)) (by unfold Func.isWrapper; first | (rw [if_pos (by decide +kernel)]; kernel_rfl) | (rw [if_neg (by decide +kernel)]; exact ⟨rfl, rfl⟩))
    (fun os started H enc _ => lifted os started H enc)
#print axioms proved
end Go.Proofs.Ytdddafhalcbhaaa.wideSteps
