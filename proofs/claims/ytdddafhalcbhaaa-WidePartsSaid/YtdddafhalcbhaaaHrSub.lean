/- The document's Sub: what it answers. -/
import Derived.Test.YtdddafhalcbhaaaHrAdd
namespace Go.Proofs.Ytdddafhalcbhaaa
open Go.ChangeShapes Go.WideShapes Go.ChangeAt Go.RowKit Go.Joins
set_option linter.unusedVariables false
set_option linter.unusedSimpArgs false
theorem slot2_alloc {b : Nat} {w : World} {cs : Array Value} {t : TypeId} (h : Slot2 b w) : Slot2 b (w.alloc (.cells cs t)) := by
  obtain ⟨⟨u0, u1, h0, h1⟩, f0, f1⟩ := h
  have hl : b < w.heap.size := by
    rcases Nat.lt_or_ge b w.heap.size with h' | h'
    · exact h'
    · exfalso; unfold World.cell? at h0; rw [Array.getElem?_eq_none h'] at h0; cases h0
  exact ⟨⟨u0, u1, by simp [go_sem, h0, hl], by simp [go_sem, h1, hl]⟩, by simp [go_sem, f0, hl], by simp [go_sem, f1, hl]⟩
theorem slot2_set {b g o : Nat} {w : World} {v : Value} (h : Slot2 b w) (hg : ¬ g = b) : Slot2 b (w.setCell ⟨g, o, none⟩ v) := by
  obtain ⟨⟨u0, u1, h0, h1⟩, f0, f1⟩ := h
  have hg' : ¬ b = g := fun e => hg e.symm
  exact ⟨⟨u0, u1, by simp [go_sem, h0, hg, hg'], by simp [go_sem, h1, hg, hg']⟩, by simp [go_sem, f0], by simp [go_sem, f1]⟩
theorem slot2_lt {b : Nat} {w : World} (h : Slot2 b w) : b < w.heap.size := by
  obtain ⟨⟨u0, u1, h0, h1⟩, f0, f1⟩ := h
  rcases Nat.lt_or_ge b w.heap.size with h' | h'
  · exact h'
  · exfalso; unfold World.cell? at h0; rw [Array.getElem?_eq_none h'] at h0; cases h0
/-- a new block holds the two halves; the result's place is free -/
def NewW (w : World) (x y : Int) (s : Value) (wx : World) : Prop := ∃ g, s = .pointer (some ⟨g, 0, none⟩) ∧ wx.cell? ⟨g, 0, none⟩ = some (.int .u64 x) ∧ wx.cell? ⟨g, 1, none⟩ = some (.int .u64 y) ∧ w.heap.size + 1 + 1 < g ∧ Slot2 (w.heap.size + 1 + 1) wx ∧ Below w.heap.size w wx
theorem neww_alloc {w W : World} {x y : Int} {t : TypeId} (sl : Slot2 (w.heap.size + 1 + 1) W) (bl : Below w.heap.size w W) : NewW w x y (.pointer (some ⟨W.heap.size, 0, none⟩)) (W.alloc (.cells #[.int .u64 x, .int .u64 y] t)) :=
  ⟨_, rfl, by simp [go_sem], by simp [go_sem], slot2_lt sl, slot2_alloc sl, bl.alloc bl.size _⟩
theorem neww_set {w W : World} {x y : Int} {g : Nat} {u0 u1 : Value} (h0 : W.cell? ⟨g, 0, none⟩ = some u0) (h1 : W.cell? ⟨g, 1, none⟩ = some u1) (hg : w.heap.size + 1 + 1 < g) (sl : Slot2 (w.heap.size + 1 + 1) W) (bl : Below w.heap.size w W) :
    NewW w x y (.pointer (some ⟨g, 0, none⟩)) ((W.setCell ⟨g, 0, none⟩ (.int .u64 x)).setCell ⟨g, 1, none⟩ (.int .u64 y)) :=
  ⟨_, rfl, by simp [go_sem, h0], by simp [go_sem, h1], hg, slot2_set (slot2_set sl (by omega)) (by omega), (bl.setCell (by simp; omega) _).setCell (by simp; omega) _⟩
theorem le_toNat {a b c d : Int} (ha : Is64 a) (hb : Is64 b) (hc : Is64 c) (hd : Is64 d) (h : V c d ≤ V a b) : (V c d).toNat ≤ (V a b).toNat ∧ (((V a b).toNat - (V c d).toNat : Nat) : Int) = V a b - V c d := by
  have n1 := V_nat ha hb
  have n2 := V_nat hc hd
  omega
theorem sub_minus {a b c d : Int} (ha : Is64 a) (hb : Is64 b) (hc : Is64 c) (hd : Is64 d) (h : V c d ≤ V a b) (w : World) :
    Calls Try.prog 29 #[bv (V a b).toNat, bv (V c d).toNat] w fun e w' => e = .returned (bv ((V a b).toNat - (V c d).toNat)) ∧ Below w.heap.size w w' :=
  minus_nat _ _ w (le_toNat ha hb hc hd h).1 (Nat.lt_trans (V_lt ha hb) (by decide))
theorem sub_backr {a b c d : Int} (ha : Is64 a) (hb : Is64 b) (hc : Is64 c) (hd : Is64 d) (h : V c d ≤ V a b) (w : World) :
    Calls Try.prog 26 #[bv ((V a b).toNat - (V c d).toNat)] w fun e w' => e = .returned (.tuple #[.agg #[.int .u64 (hi (V a b - V c d)), .int .u64 (lo (V a b - V c d))], .bool true]) ∧ Below w.heap.size w w' := by
  have h1 := V_lt ha hb
  have := back_yes ((V a b).toNat - (V c d).toNat) w (by omega)
  rw [(le_toNat ha hb hc hd h).2] at this
  exact this
set_option maxRecDepth 100000 in
set_option maxHeartbeats 4000000 in
theorem sub_rf_yes (a b c d : Int) (w : World) (ha : Is64 a) (hb : Is64 b) (hc : Is64 c) (hd : Is64 d) (h : V c d ≤ V a b) :
    Calls Try.prog 14 #[.agg #[.int .u64 a, .int .u64 b], .agg #[.int .u64 c, .int .u64 d]] w fun e w' => e = .returned (.tuple #[.agg #[.int .u64 (hi (V a b - V c d)), .int .u64 (lo (V a b - V c d))], .bool true]) ∧ Below w.heap.size w w' := by
  have O1 := Lib.hid (fun w => of_nat a b w ha hb)
  have O2 := Lib.hid (fun w => of_nat c d w hc hd)
  have MI := Lib.hid (sub_minus ha hb hc hd h)
  have BK := Lib.hid (sub_backr ha hb hc hd h)
  have CC := Lib.hid (fun w => cmp_rf a b c d w ha hb hc hd)
  have hcm : decide (cmpI (V a b) (V c d) < 0) = false := by rw [cmpI_neg]; simp; omega
  clear h
  go_enter Try.func14, Try.ntmps14
  go_wp2_with fail
  (with_reducible refine (CC.out _).mono ?_)
  rintro e wq ⟨rfl, hq⟩
  have HK := Lib.hid (wides_call (show Wides w a b c d (((w.alloc (.cells #[.int .u64 a, .int .u64 b] 24)).alloc (.cells #[.int .u64 c, .int .u64 d] 24)).alloc (.cells #[.int .u64 0, .int .u64 0] 24)) from wides_alloc ⟨by simp [go_sem], by simp [go_sem], by simp [go_sem], by simp [go_sem], below_alloc2 w _ _, by simp⟩) hq)
  have SL := Lib.hid (slot2_call (show Slot2 (w.heap.size + 1 + 1) (((w.alloc (.cells #[.int .u64 a, .int .u64 b] 24)).alloc (.cells #[.int .u64 c, .int .u64 d] 24)).alloc (.cells #[.int .u64 0, .int .u64 0] 24)) from ⟨⟨.int .u64 0, .int .u64 0, by simp [go_sem], by simp [go_sem]⟩, by simp [go_sem], by simp [go_sem]⟩) hq)
  have k1 := HK.out.1
  have k2 := HK.out.2.1
  have k3 := HK.out.2.2.1
  have k4 := HK.out.2.2.2.1
  have zq := slot2_lt SL.out
  clear hq
  go_upto_region 3 with (fail)
  go_cut [6, 7] (fun s6 s7 wx => NewW w (hi (V a b - V c d)) (lo (V a b - V c d)) s6 wx ∧ s7 = .bool true)
  case first =>
    go_region_held3 (fun w' => w'.cell? ⟨w.heap.size, 0, none⟩ = some (.int .u64 a) ∧ w'.cell? ⟨w.heap.size, 1, none⟩ = some (.int .u64 b) ∧ w'.cell? ⟨w.heap.size + 1, 0, none⟩ = some (.int .u64 c) ∧ w'.cell? ⟨w.heap.size + 1, 1, none⟩ = some (.int .u64 d) ∧ Below w.heap.size w w' ∧ w.heap.size + 1 < w'.heap.size) (first | exact wides_drew HK.out | exact HK.out | assumption | exact kkhK | exact wides_alloc kkhK | exact kkhM | exact wides_alloc kkhM | exact kkhP | exact wides_alloc kkhP | exact kkhO | exact wides_alloc kkhO | exact wides_alloc (wides_drew HK.out) | exact wides_set (wides_set kkhK (by first | (simp; omega) | omega)) (by first | (simp; omega) | omega) | exact wides_call (by assumption) (by assumption))
    (first
      | (go_at_call_of 28 (Value.agg #[Value.int IntKind.u64 a, Value.int IntKind.u64 b]); (with_reducible refine (O1.out _).mono ?_); rintro e wo ⟨rfl, hO⟩; (have zhO := hO.size); (try simp at zhO); (try (have qhO := Nat.lt_of_succ_le zhO)); (have slhO : Slot2 (w.heap.size + 1 + 1) wo := slot2_call (by first | assumption | exact slot2_drew SL.out | exact slot2_alloc (by assumption) | exact slot2_alloc (slot2_drew SL.out)) hO); (try (have fhOwq0 := carry_fr hO (p := ⟨wq.heap.size, 0, none⟩) (v := .int .u64 0) (by first | (simp [go_sem]; done) | assumption) (by first | (simp [go_sem]; done) | assumption))); (try (have chOwq0 := carry hO (p := ⟨wq.heap.size, 0, none⟩) (v := .int .u64 0) (by first | (simp [go_sem]; done) | assumption))); (try (have fhOwq1 := carry_fr hO (p := ⟨wq.heap.size, 1, none⟩) (v := .int .u64 0) (by first | (simp [go_sem]; done) | assumption) (by first | (simp [go_sem]; done) | assumption))); (try (have chOwq1 := carry hO (p := ⟨wq.heap.size, 1, none⟩) (v := .int .u64 0) (by first | (simp [go_sem]; done) | assumption))); (try (have fhOwo0 := carry_fr hO (p := ⟨wo.heap.size, 0, none⟩) (v := .int .u64 0) (by first | (simp [go_sem]; done) | assumption) (by first | (simp [go_sem]; done) | assumption))); (try (have chOwo0 := carry hO (p := ⟨wo.heap.size, 0, none⟩) (v := .int .u64 0) (by first | (simp [go_sem]; done) | assumption))); (try (have fhOwo1 := carry_fr hO (p := ⟨wo.heap.size, 1, none⟩) (v := .int .u64 0) (by first | (simp [go_sem]; done) | assumption) (by first | (simp [go_sem]; done) | assumption))); (try (have chOwo1 := carry hO (p := ⟨wo.heap.size, 1, none⟩) (v := .int .u64 0) (by first | (simp [go_sem]; done) | assumption))); (try (have fhOwp0 := carry_fr hO (p := ⟨wp.heap.size, 0, none⟩) (v := .int .u64 0) (by first | (simp [go_sem]; done) | assumption) (by first | (simp [go_sem]; done) | assumption))); (try (have chOwp0 := carry hO (p := ⟨wp.heap.size, 0, none⟩) (v := .int .u64 0) (by first | (simp [go_sem]; done) | assumption))); (try (have fhOwp1 := carry_fr hO (p := ⟨wp.heap.size, 1, none⟩) (v := .int .u64 0) (by first | (simp [go_sem]; done) | assumption) (by first | (simp [go_sem]; done) | assumption))); (try (have chOwp1 := carry hO (p := ⟨wp.heap.size, 1, none⟩) (v := .int .u64 0) (by first | (simp [go_sem]; done) | assumption))); (try (have fhOwm0 := carry_fr hO (p := ⟨wm.heap.size, 0, none⟩) (v := .int .u64 0) (by first | (simp [go_sem]; done) | assumption) (by first | (simp [go_sem]; done) | assumption))); (try (have chOwm0 := carry hO (p := ⟨wm.heap.size, 0, none⟩) (v := .int .u64 0) (by first | (simp [go_sem]; done) | assumption))); (try (have fhOwm1 := carry_fr hO (p := ⟨wm.heap.size, 1, none⟩) (v := .int .u64 0) (by first | (simp [go_sem]; done) | assumption) (by first | (simp [go_sem]; done) | assumption))); (try (have chOwm1 := carry hO (p := ⟨wm.heap.size, 1, none⟩) (v := .int .u64 0) (by first | (simp [go_sem]; done) | assumption))); (have kkhO : Wides w a b c d wo := wides_call (by first | assumption | exact wides_drew HK.out | exact HK.out) hO))
      | (go_at_call_of 28 (Value.agg #[Value.int IntKind.u64 c, Value.int IntKind.u64 d]); (with_reducible refine (O2.out _).mono ?_); rintro e wp ⟨rfl, hP⟩; (have zhP := hP.size); (try simp at zhP); (try (have qhP := Nat.lt_of_succ_le zhP)); (have slhP : Slot2 (w.heap.size + 1 + 1) wp := slot2_call (by first | assumption | exact slot2_drew SL.out | exact slot2_alloc (by assumption) | exact slot2_alloc (slot2_drew SL.out)) hP); (try (have fhPwq0 := carry_fr hP (p := ⟨wq.heap.size, 0, none⟩) (v := .int .u64 0) (by first | (simp [go_sem]; done) | assumption) (by first | (simp [go_sem]; done) | assumption))); (try (have chPwq0 := carry hP (p := ⟨wq.heap.size, 0, none⟩) (v := .int .u64 0) (by first | (simp [go_sem]; done) | assumption))); (try (have fhPwq1 := carry_fr hP (p := ⟨wq.heap.size, 1, none⟩) (v := .int .u64 0) (by first | (simp [go_sem]; done) | assumption) (by first | (simp [go_sem]; done) | assumption))); (try (have chPwq1 := carry hP (p := ⟨wq.heap.size, 1, none⟩) (v := .int .u64 0) (by first | (simp [go_sem]; done) | assumption))); (try (have fhPwo0 := carry_fr hP (p := ⟨wo.heap.size, 0, none⟩) (v := .int .u64 0) (by first | (simp [go_sem]; done) | assumption) (by first | (simp [go_sem]; done) | assumption))); (try (have chPwo0 := carry hP (p := ⟨wo.heap.size, 0, none⟩) (v := .int .u64 0) (by first | (simp [go_sem]; done) | assumption))); (try (have fhPwo1 := carry_fr hP (p := ⟨wo.heap.size, 1, none⟩) (v := .int .u64 0) (by first | (simp [go_sem]; done) | assumption) (by first | (simp [go_sem]; done) | assumption))); (try (have chPwo1 := carry hP (p := ⟨wo.heap.size, 1, none⟩) (v := .int .u64 0) (by first | (simp [go_sem]; done) | assumption))); (try (have fhPwp0 := carry_fr hP (p := ⟨wp.heap.size, 0, none⟩) (v := .int .u64 0) (by first | (simp [go_sem]; done) | assumption) (by first | (simp [go_sem]; done) | assumption))); (try (have chPwp0 := carry hP (p := ⟨wp.heap.size, 0, none⟩) (v := .int .u64 0) (by first | (simp [go_sem]; done) | assumption))); (try (have fhPwp1 := carry_fr hP (p := ⟨wp.heap.size, 1, none⟩) (v := .int .u64 0) (by first | (simp [go_sem]; done) | assumption) (by first | (simp [go_sem]; done) | assumption))); (try (have chPwp1 := carry hP (p := ⟨wp.heap.size, 1, none⟩) (v := .int .u64 0) (by first | (simp [go_sem]; done) | assumption))); (try (have fhPwm0 := carry_fr hP (p := ⟨wm.heap.size, 0, none⟩) (v := .int .u64 0) (by first | (simp [go_sem]; done) | assumption) (by first | (simp [go_sem]; done) | assumption))); (try (have chPwm0 := carry hP (p := ⟨wm.heap.size, 0, none⟩) (v := .int .u64 0) (by first | (simp [go_sem]; done) | assumption))); (try (have fhPwm1 := carry_fr hP (p := ⟨wm.heap.size, 1, none⟩) (v := .int .u64 0) (by first | (simp [go_sem]; done) | assumption) (by first | (simp [go_sem]; done) | assumption))); (try (have chPwm1 := carry hP (p := ⟨wm.heap.size, 1, none⟩) (v := .int .u64 0) (by first | (simp [go_sem]; done) | assumption))); (have kkhP : Wides w a b c d wp := wides_call (by first | assumption | exact wides_drew HK.out | exact HK.out) hP))
      | (go_at_call 29; (with_reducible refine (MI.out _).mono ?_); rintro e wm ⟨rfl, hM⟩; (have zhM := hM.size); (try simp at zhM); (try (have qhM := Nat.lt_of_succ_le zhM)); (have slhM : Slot2 (w.heap.size + 1 + 1) wm := slot2_call (by first | assumption | exact slot2_drew SL.out | exact slot2_alloc (by assumption) | exact slot2_alloc (slot2_drew SL.out)) hM); (try (have fhMwq0 := carry_fr hM (p := ⟨wq.heap.size, 0, none⟩) (v := .int .u64 0) (by first | (simp [go_sem]; done) | assumption) (by first | (simp [go_sem]; done) | assumption))); (try (have chMwq0 := carry hM (p := ⟨wq.heap.size, 0, none⟩) (v := .int .u64 0) (by first | (simp [go_sem]; done) | assumption))); (try (have fhMwq1 := carry_fr hM (p := ⟨wq.heap.size, 1, none⟩) (v := .int .u64 0) (by first | (simp [go_sem]; done) | assumption) (by first | (simp [go_sem]; done) | assumption))); (try (have chMwq1 := carry hM (p := ⟨wq.heap.size, 1, none⟩) (v := .int .u64 0) (by first | (simp [go_sem]; done) | assumption))); (try (have fhMwo0 := carry_fr hM (p := ⟨wo.heap.size, 0, none⟩) (v := .int .u64 0) (by first | (simp [go_sem]; done) | assumption) (by first | (simp [go_sem]; done) | assumption))); (try (have chMwo0 := carry hM (p := ⟨wo.heap.size, 0, none⟩) (v := .int .u64 0) (by first | (simp [go_sem]; done) | assumption))); (try (have fhMwo1 := carry_fr hM (p := ⟨wo.heap.size, 1, none⟩) (v := .int .u64 0) (by first | (simp [go_sem]; done) | assumption) (by first | (simp [go_sem]; done) | assumption))); (try (have chMwo1 := carry hM (p := ⟨wo.heap.size, 1, none⟩) (v := .int .u64 0) (by first | (simp [go_sem]; done) | assumption))); (try (have fhMwp0 := carry_fr hM (p := ⟨wp.heap.size, 0, none⟩) (v := .int .u64 0) (by first | (simp [go_sem]; done) | assumption) (by first | (simp [go_sem]; done) | assumption))); (try (have chMwp0 := carry hM (p := ⟨wp.heap.size, 0, none⟩) (v := .int .u64 0) (by first | (simp [go_sem]; done) | assumption))); (try (have fhMwp1 := carry_fr hM (p := ⟨wp.heap.size, 1, none⟩) (v := .int .u64 0) (by first | (simp [go_sem]; done) | assumption) (by first | (simp [go_sem]; done) | assumption))); (try (have chMwp1 := carry hM (p := ⟨wp.heap.size, 1, none⟩) (v := .int .u64 0) (by first | (simp [go_sem]; done) | assumption))); (try (have fhMwm0 := carry_fr hM (p := ⟨wm.heap.size, 0, none⟩) (v := .int .u64 0) (by first | (simp [go_sem]; done) | assumption) (by first | (simp [go_sem]; done) | assumption))); (try (have chMwm0 := carry hM (p := ⟨wm.heap.size, 0, none⟩) (v := .int .u64 0) (by first | (simp [go_sem]; done) | assumption))); (try (have fhMwm1 := carry_fr hM (p := ⟨wm.heap.size, 1, none⟩) (v := .int .u64 0) (by first | (simp [go_sem]; done) | assumption) (by first | (simp [go_sem]; done) | assumption))); (try (have chMwm1 := carry hM (p := ⟨wm.heap.size, 1, none⟩) (v := .int .u64 0) (by first | (simp [go_sem]; done) | assumption))); (have kkhM : Wides w a b c d wm := wides_call (by first | assumption | exact wides_drew HK.out | exact HK.out) hM))
      | (go_at_call 26; (with_reducible refine (BK.out _).mono ?_); rintro e wk ⟨rfl, hK⟩; (have zhK := hK.size); (try simp at zhK); (try (have qhK := Nat.lt_of_succ_le zhK)); (have slhK : Slot2 (w.heap.size + 1 + 1) wk := slot2_call (by first | assumption | exact slot2_drew SL.out | exact slot2_alloc (by assumption) | exact slot2_alloc (slot2_drew SL.out)) hK); (try (have fhKwq0 := carry_fr hK (p := ⟨wq.heap.size, 0, none⟩) (v := .int .u64 0) (by first | (simp [go_sem]; done) | assumption) (by first | (simp [go_sem]; done) | assumption))); (try (have chKwq0 := carry hK (p := ⟨wq.heap.size, 0, none⟩) (v := .int .u64 0) (by first | (simp [go_sem]; done) | assumption))); (try (have fhKwq1 := carry_fr hK (p := ⟨wq.heap.size, 1, none⟩) (v := .int .u64 0) (by first | (simp [go_sem]; done) | assumption) (by first | (simp [go_sem]; done) | assumption))); (try (have chKwq1 := carry hK (p := ⟨wq.heap.size, 1, none⟩) (v := .int .u64 0) (by first | (simp [go_sem]; done) | assumption))); (try (have fhKwo0 := carry_fr hK (p := ⟨wo.heap.size, 0, none⟩) (v := .int .u64 0) (by first | (simp [go_sem]; done) | assumption) (by first | (simp [go_sem]; done) | assumption))); (try (have chKwo0 := carry hK (p := ⟨wo.heap.size, 0, none⟩) (v := .int .u64 0) (by first | (simp [go_sem]; done) | assumption))); (try (have fhKwo1 := carry_fr hK (p := ⟨wo.heap.size, 1, none⟩) (v := .int .u64 0) (by first | (simp [go_sem]; done) | assumption) (by first | (simp [go_sem]; done) | assumption))); (try (have chKwo1 := carry hK (p := ⟨wo.heap.size, 1, none⟩) (v := .int .u64 0) (by first | (simp [go_sem]; done) | assumption))); (try (have fhKwp0 := carry_fr hK (p := ⟨wp.heap.size, 0, none⟩) (v := .int .u64 0) (by first | (simp [go_sem]; done) | assumption) (by first | (simp [go_sem]; done) | assumption))); (try (have chKwp0 := carry hK (p := ⟨wp.heap.size, 0, none⟩) (v := .int .u64 0) (by first | (simp [go_sem]; done) | assumption))); (try (have fhKwp1 := carry_fr hK (p := ⟨wp.heap.size, 1, none⟩) (v := .int .u64 0) (by first | (simp [go_sem]; done) | assumption) (by first | (simp [go_sem]; done) | assumption))); (try (have chKwp1 := carry hK (p := ⟨wp.heap.size, 1, none⟩) (v := .int .u64 0) (by first | (simp [go_sem]; done) | assumption))); (try (have fhKwm0 := carry_fr hK (p := ⟨wm.heap.size, 0, none⟩) (v := .int .u64 0) (by first | (simp [go_sem]; done) | assumption) (by first | (simp [go_sem]; done) | assumption))); (try (have chKwm0 := carry hK (p := ⟨wm.heap.size, 0, none⟩) (v := .int .u64 0) (by first | (simp [go_sem]; done) | assumption))); (try (have fhKwm1 := carry_fr hK (p := ⟨wm.heap.size, 1, none⟩) (v := .int .u64 0) (by first | (simp [go_sem]; done) | assumption) (by first | (simp [go_sem]; done) | assumption))); (try (have chKwm1 := carry hK (p := ⟨wm.heap.size, 1, none⟩) (v := .int .u64 0) (by first | (simp [go_sem]; done) | assumption))); (have kkhK : Wides w a b c d wk := wides_call (by first | assumption | exact wides_drew HK.out | exact HK.out) hK)))
    all_goals
      go_wp2_with fail
      go_meet
      first
      | exact ⟨neww_alloc slhK kkhK.2.2.2.2.1, rfl⟩
      | exact ⟨neww_set (u0 := .int .u64 0) (u1 := .int .u64 0) (by assumption) (by assumption) (by omega) slhK kkhK.2.2.2.2.1, rfl⟩
  case rest =>
    obtain ⟨⟨g, rfl, c0, c1, hg, sl, bl⟩, rfl⟩ := hcut
    obtain ⟨⟨u0, u1, r0, r1⟩, f0, f1⟩ := sl
    clear k1 k2 k3 k4 zq
    have hg1 : ¬ g = w.heap.size + 1 + 1 := by omega
    have hg2 : ¬ w.heap.size + 1 + 1 = g := by omega
    go_wp2
    refine bodyPost_ret (v := .tuple #[.agg #[.int .u64 (hi (V a b - V c d)), .int .u64 (lo (V a b - V c d))], .bool true]) (by simp [results, Try.results14, go_sem, r0, r1]) rfl ⟨rfl, ?_⟩
    repeat (first | exact bl | refine Below.setCell ?_ (by first | omega | (simp; done) | (simp; omega)) _ | refine Below.drew ?_)
set_option maxRecDepth 100000 in
set_option maxHeartbeats 2000000 in
theorem sub_rf_no (a b c d : Int) (w : World) (ha : Is64 a) (hb : Is64 b) (hc : Is64 c) (hd : Is64 d) (h : V a b < V c d) :
    Calls Try.prog 14 #[.agg #[.int .u64 a, .int .u64 b], .agg #[.int .u64 c, .int .u64 d]] w fun e w' => e = .returned (.tuple #[.agg #[.int .u64 0, .int .u64 0], .bool false]) ∧ Below w.heap.size w w' := by
  have CC := Lib.hid (fun w => cmp_rf a b c d w ha hb hc hd)
  have hcm : decide (cmpI (V a b) (V c d) < 0) = true := by rw [cmpI_neg]; simp; omega
  clear h
  go_enter Try.func14, Try.ntmps14
  go_wp2_with fail
  (with_reducible refine (CC.out _).mono ?_)
  rintro e wq ⟨rfl, hq⟩
  have sl := (slot2_call (show Slot2 (w.heap.size + 1 + 1) (((w.alloc (.cells #[.int .u64 a, .int .u64 b] 24)).alloc (.cells #[.int .u64 c, .int .u64 d] 24)).alloc (.cells #[.int .u64 0, .int .u64 0] 24)) from ⟨⟨.int .u64 0, .int .u64 0, by simp [go_sem], by simp [go_sem]⟩, by simp [go_sem], by simp [go_sem]⟩) hq)
  have bl : Below w.heap.size w wq := (below_alloc3 w _ _ _).trans (hq.mono (by simp; omega))
  obtain ⟨⟨u0, u1, r0, r1⟩, f0, f1⟩ := sl
  clear hq
  go_wp2
  refine bodyPost_ret (v := .tuple #[.agg #[.int .u64 0, .int .u64 0], .bool false]) (by simp [results, Try.results14, go_sem, r0, r1]) rfl ⟨rfl, ?_⟩
  repeat (first | exact bl | refine Below.setCell ?_ (by first | omega | (simp; done) | (simp; omega)) _ | refine Below.drew ?_)
theorem sub_rf (a b c d : Int) (w : World) (ha : Is64 a) (hb : Is64 b) (hc : Is64 c) (hd : Is64 d) :
    Calls Try.prog 14 #[.agg #[.int .u64 a, .int .u64 b], .agg #[.int .u64 c, .int .u64 d]] w fun e w' => e = .returned (.tuple #[.agg #[.int .u64 (subH a b c d), .int .u64 (subL a b c d)], .bool (subB a b c d)]) ∧ Below w.heap.size w w' := by
  by_cases h : V c d ≤ V a b
  · refine (sub_rf_yes a b c d w ha hb hc hd h).mono fun e w' ⟨he, hw⟩ => ⟨?_, hw⟩
    rw [he]; simp [subH, subL, subB, h]
  · refine (sub_rf_no a b c d w ha hb hc hd (by omega)).mono fun e w' ⟨he, hw⟩ => ⟨?_, hw⟩
    rw [he]; simp [subH, subL, subB, h]
end Go.Proofs.Ytdddafhalcbhaaa
