/- Contracts of package wide: Of, Mul, Cmp, Add, Sub, Less. -/
import Derived.Test.YtdddafhalcbhaaaRows
import Derived.Test.YtdddafhalcbhaaaHwMath
import Derived.WalkKit
import Derived.ProofKit
import Derived.OpenShut
import Derived.Below
import Derived.Lib.Hide
import Derived.Lib.SmallJoins
namespace Go.Proofs.Ytdddafhalcbhaaa
open Go.ChangeShapes Go.WideShapes Go.ChangeAt Go.RowKit Go.Joins
set_option linter.unusedVariables false

theorem of_any (n : Int) (w : World) :
    Calls Try.prog 19 #[.int .u64 n] w fun e w' => e = .returned (.agg #[.int .u64 0, .int .u64 n]) ∧ Below w.heap.size w w' := by
  go_enter Try.func19, Try.ntmps19
  go_wp2
  exact bodyPost_ret (v := .agg #[.int .u64 0, .int .u64 n]) (by simp [results, Try.results19, go_sem]) rfl ⟨rfl, by repeat (first | exact Below.refl _ _ | refine Below.setCell ?_ (by simp) _ | refine Below.alloc ?_ (by simp) _)⟩

theorem mul_any (a b : Int) (w : World) (ha : Is64 a) (hb : Is64 b) :
    Calls Try.prog 17 #[.int .u64 a, .int .u64 b] w fun e w' => e = .returned (.agg #[.int .u64 (hi (a * b)), .int .u64 (lo (a * b))]) ∧ Below w.heap.size w w' := by
  have hM := Lib.hid (mul_hi ha hb)
  have hL := Lib.hid (mul_lo a b)
  go_enter Try.func17, Try.ntmps17
  go_wp2
  refine bodyPost_ret (v := .agg #[.int .u64 (hi (a * b)), .int .u64 (lo (a * b))]) ?_ rfl ⟨rfl, by repeat (first | exact Below.refl _ _ | refine Below.setCell ?_ (by simp) _ | refine Below.alloc ?_ (by simp) _)⟩
  rw [← hM.out, ← hL.out]
  simp [results, Try.results17, go_sem]

theorem cmpI_lt {x y : Int} (h : x < y) : cmpI x y = -1 := by simp [cmpI, h]
theorem cmpI_eq {x y : Int} (h : x = y) : cmpI x y = 0 := by simp [cmpI, h]
theorem cmpI_gt {x y : Int} (h : y < x) : cmpI x y = 1 := by unfold cmpI; rw [if_neg (by omega), if_neg (by omega)]
theorem cmp_step1 {a b c d : Int} (hb : Is64 b) (hd : Is64 d) (h : a < c) : (-1 : Int) = cmpI (V a b) (V c d) := (cmpI_lt (by unfold V; unfold Is64 at *; omega)).symm
theorem cmp_step2 {b c d : Int} (h : b < d) : (-1 : Int) = cmpI (V c b) (V c d) := (cmpI_lt (by unfold V; omega)).symm
theorem cmp_step3 {c d : Int} : (0 : Int) = cmpI (V c d) (V c d) := (cmpI_eq rfl).symm
theorem cmp_step4 {b c d : Int} (h : d ≤ b) (k : ¬ b = d) : (1 : Int) = cmpI (V c b) (V c d) := (cmpI_gt (by unfold V; omega)).symm
theorem cmp_step5 {a b c d : Int} (hb : Is64 b) (hd : Is64 d) (h : c ≤ a) (k : ¬ a = c) : (1 : Int) = cmpI (V a b) (V c d) := (cmpI_gt (by unfold V; unfold Is64 at *; omega)).symm

theorem cmp_any (a b c d : Int) (w : World) (hb : Is64 b) (hd : Is64 d) :
    Calls Try.prog 15 #[.agg #[.int .u64 a, .int .u64 b], .agg #[.int .u64 c, .int .u64 d]] w fun e w' => e = .returned (.int .i64 (cmpI (V a b) (V c d))) ∧ Below w.heap.size w w' := by
  go_enter Try.func15, Try.ntmps15
  go_wp2
  · rw [← cmp_step1 hb hd (by assumption)]; go_ret; exact ⟨rfl, below_alloc2 _ _ _⟩
  · rename_i h; have e : a = c := by assumption
    subst e; rw [← cmp_step2 (by assumption)]; go_ret; exact ⟨rfl, below_alloc2 _ _ _⟩
  · have e : a = c := by assumption
    have e' : b = d := by assumption
    subst e e'; rw [← cmp_step3]; go_ret; exact ⟨rfl, below_alloc2 _ _ _⟩
  · have e : a = c := by assumption
    subst e; rw [← cmp_step4 (by assumption) (by assumption)]; go_ret; exact ⟨rfl, below_alloc2 _ _ _⟩
  · rw [← cmp_step5 hb hd (by assumption) (by assumption)]; go_ret; exact ⟨rfl, below_alloc2 _ _ _⟩

theorem bcell {W w1 : World} (hb : Below W.heap.size W w1) : (∀ b o, b < W.heap.size → w1.cell? ⟨b, o, none⟩ = W.cell? ⟨b, o, none⟩) ∧ (∀ b o, b < W.heap.size → w1.frozen? ⟨b, o, none⟩ = W.frozen? ⟨b, o, none⟩) :=
  ⟨fun b o h => hb.cell (p := ⟨b, o, none⟩) h, fun b o h => hb.frozen (p := ⟨b, o, none⟩) h⟩

open Classical in
noncomputable def addR (a b c d : Int) : Value := if Is128 (V a b + V c d) then .tuple #[.agg #[.int .u64 (hi (V a b + V c d)), .int .u64 (lo (V a b + V c d))], .bool true] else .tuple #[.agg #[.int .u64 0, .int .u64 0], .bool false]
theorem addR_yes {a b c d : Int} (h : Is128 (V a b + V c d)) : addR a b c d = .tuple #[.agg #[.int .u64 (hi (V a b + V c d)), .int .u64 (lo (V a b + V c d))], .bool true] := by rw [addR, if_pos h]
theorem addR_no {a b c d : Int} (h : ¬ Is128 (V a b + V c d)) : addR a b c d = .tuple #[.agg #[.int .u64 0, .int .u64 0], .bool false] := by rw [addR, if_neg h]
theorem addR_ok {a b c d x y : Int} (h : Is128 (V a b + V c d)) (hx : hi (V a b + V c d) = x) (hy : lo (V a b + V c d) = y) : addR a b c d = .tuple #[.agg #[.int .u64 x, .int .u64 y], .bool true] := by rw [addR_yes h, hx, hy]
theorem add1 {a b c d : Int} (ha : Is64 a) (hb : Is64 b) (hc : Is64 c) (hd : Is64 d) (h1 : IntKind.u64.wrap (b + d) < b) (h3 : IntKind.u64.wrap (a + c) < a ∨ (IntKind.u64.wrap (IntKind.u64.wrap (a + c) + 1) == 0) = true) : addR a b c d = .tuple #[.agg #[.int .u64 0, .int .u64 0], .bool false] := by
  apply addR_no
  simp only [beq_iff_eq] at h3
  rw [IntKind.wrap_u64] at *
  rw [IntKind.wrap_u64] at *
  unfold Is128 V; unfold Is64 at *
  omega
theorem add2 {a b c d : Int} (ha : Is64 a) (hb : Is64 b) (hc : Is64 c) (hd : Is64 d) (h1 : IntKind.u64.wrap (b + d) < b) (h3 : a ≤ IntKind.u64.wrap (a + c) ∧ (IntKind.u64.wrap (IntKind.u64.wrap (a + c) + 1) == 0) = false) : addR a b c d = .tuple #[.agg #[.int .u64 (IntKind.u64.wrap (IntKind.u64.wrap (a + c) + 1)), .int .u64 (IntKind.u64.wrap (b + d))], .bool true] := by
  simp only [beq_eq_false_iff_ne, ne_eq] at h3
  simp only [IntKind.wrap_u64] at *
  apply addR_ok
  · unfold Is128 V; unfold Is64 at *; omega
  · unfold hi V; unfold Is64 at *; omega
  · unfold lo V; unfold Is64 at *; omega
theorem add3 {a b c d : Int} (ha : Is64 a) (hb : Is64 b) (hc : Is64 c) (hd : Is64 d) (h1 : IntKind.u64.wrap (a + c) < a) : addR a b c d = .tuple #[.agg #[.int .u64 0, .int .u64 0], .bool false] := by
  apply addR_no
  rw [IntKind.wrap_u64] at *
  unfold Is128 V; unfold Is64 at *
  omega
theorem add5 {a b c d : Int} (ha : Is64 a) (hb : Is64 b) (hc : Is64 c) (hd : Is64 d) (h1 : b ≤ IntKind.u64.wrap (b + d)) (h3 : a ≤ IntKind.u64.wrap (a + c)) : addR a b c d = .tuple #[.agg #[.int .u64 (IntKind.u64.wrap (a + c)), .int .u64 (IntKind.u64.wrap (b + d))], .bool true] := by
  simp only [IntKind.wrap_u64] at *
  apply addR_ok
  · unfold Is128 V; unfold Is64 at *; omega
  · unfold hi V; unfold Is64 at *; omega
  · unfold lo V; unfold Is64 at *; omega
theorem add_any (a b c d : Int) (w : World) (ha : Is64 a) (hb : Is64 b) (hc : Is64 c) (hd : Is64 d) :
    Calls Try.prog 11 #[.agg #[.int .u64 a, .int .u64 b], .agg #[.int .u64 c, .int .u64 d]] w fun e w' => e = .returned (addR a b c d) ∧ Below w.heap.size w w' := by
  go_enter Try.func11, Try.ntmps11
  go_wp2
  all_goals
    refine bodyPost_ret (v := addR a b c d) ?_ rfl ⟨rfl, by repeat (first | exact Below.refl _ _ | refine Below.setCell ?_ (by simp; try omega) _ | refine Below.alloc ?_ (by simp; try omega) _)⟩
    first
    | (rw [add1 ha hb hc hd (by assumption) (by assumption)]; simp [results, Try.results11, go_sem]; done)
    | (rw [add2 ha hb hc hd (by assumption) (by assumption)]; simp [results, Try.results11, go_sem]; done)
    | (rw [add3 ha hb hc hd (by assumption)]; simp [results, Try.results11, go_sem]; done)
    | (rw [add5 ha hb hc hd (by assumption) (by assumption)]; simp [results, Try.results11, go_sem]; done)
theorem add_yes (a b c d : Int) (w : World) (ha : Is64 a) (hb : Is64 b) (hc : Is64 c) (hd : Is64 d) (h : Is128 (V a b + V c d)) :
    Calls Try.prog 11 #[.agg #[.int .u64 a, .int .u64 b], .agg #[.int .u64 c, .int .u64 d]] w fun e w' => e = .returned (.tuple #[.agg #[.int .u64 (hi (V a b + V c d)), .int .u64 (lo (V a b + V c d))], .bool true]) ∧ Below w.heap.size w w' :=
  (add_any a b c d w ha hb hc hd).mono fun e w' ⟨he, hw⟩ => ⟨by rw [he, addR_yes h], hw⟩
theorem add_no (a b c d : Int) (w : World) (ha : Is64 a) (hb : Is64 b) (hc : Is64 c) (hd : Is64 d) (h : ¬ Is128 (V a b + V c d)) :
    Calls Try.prog 11 #[.agg #[.int .u64 a, .int .u64 b], .agg #[.int .u64 c, .int .u64 d]] w fun e w' => e = .returned (.tuple #[.agg #[.int .u64 0, .int .u64 0], .bool false]) ∧ Below w.heap.size w w' :=
  (add_any a b c d w ha hb hc hd).mono fun e w' ⟨he, hw⟩ => ⟨by rw [he, addR_no h], hw⟩

theorem cmp_lt (a b c d : Int) (w : World) (hb : Is64 b) (hd : Is64 d) (h : V a b < V c d) :
    Calls Try.prog 15 #[.agg #[.int .u64 a, .int .u64 b], .agg #[.int .u64 c, .int .u64 d]] w fun e w' => e = .returned (.int .i64 (-1)) ∧ Below w.heap.size w w' :=
  (cmp_any a b c d w hb hd).mono fun e w' ⟨he, hw⟩ => ⟨by rw [he, cmpI_lt h], hw⟩
theorem cmp_ge_or {x y : Int} (h : ¬ x < y) : cmpI x y = 0 ∨ cmpI x y = 1 := by
  unfold cmpI; rw [if_neg h]; split <;> simp
/-- a number that is 0 or 1 -/
def ZeroOne (w : World) (e : Ending) (w' : World) : Prop := ∃ r : Int, (r = 0 ∨ r = 1) ∧ e = .returned (.int .i64 r) ∧ Below w.heap.size w w'
theorem cmp_ge (a b c d : Int) (w : World) (hb : Is64 b) (hd : Is64 d) (h : V c d ≤ V a b) :
    Calls Try.prog 15 #[.agg #[.int .u64 a, .int .u64 b], .agg #[.int .u64 c, .int .u64 d]] w (ZeroOne w) :=
  (cmp_any a b c d w hb hd).mono fun e w' ⟨he, hw⟩ => ⟨_, cmp_ge_or (by omega), he, hw⟩

theorem sub_no (a b c d : Int) (w : World) (hb : Is64 b) (hd : Is64 d) (h : V a b < V c d) :
    Calls Try.prog 13 #[.agg #[.int .u64 a, .int .u64 b], .agg #[.int .u64 c, .int .u64 d]] w fun e w' => e = .returned (.tuple #[.agg #[.int .u64 0, .int .u64 0], .bool false]) ∧ Below w.heap.size w w' := by
  go_enter Try.func13, Try.ntmps13
  go_wp2_with fail
  (with_reducible refine (cmp_lt _ _ _ _ _ hb hd h).mono ?_)
  rintro e w' ⟨rfl, hb1⟩
  obtain ⟨hcl, hfr⟩ := bcell hb1
  have hz : w.heap.size + 2 < w'.heap.size := by have := hb1.size; simp at this; omega
  go_wp2
  refine bodyPost_ret (v := .tuple #[.agg #[.int .u64 0, .int .u64 0], .bool false]) (by simp [results, Try.results13, go_sem, hcl]) rfl ⟨rfl, ?_⟩
  repeat (first | exact Below.refl _ _ | refine Below.setCell ?_ (by simp; try omega) _ | refine Below.alloc ?_ (by simp; try omega) _ | refine Below.trans ?_ (hb1.mono (by simp; try omega)))

theorem sub1 {a b c d : Int} (ha : Is64 a) (hb : Is64 b) (hc : Is64 c) (hd : Is64 d) (h : V c d ≤ V a b) (k : b < d) : IntKind.u64.wrap (IntKind.u64.wrap (a - c) - 1) = hi (V a b - V c d) ∧ IntKind.u64.wrap (b - d) = lo (V a b - V c d) := by
  simp only [IntKind.wrap_u64]; unfold hi lo; unfold V at *; unfold Is64 at *; omega
theorem sub2 {a b c d : Int} (ha : Is64 a) (hb : Is64 b) (hc : Is64 c) (hd : Is64 d) (h : V c d ≤ V a b) (k : d ≤ b) : IntKind.u64.wrap (a - c) = hi (V a b - V c d) ∧ IntKind.u64.wrap (b - d) = lo (V a b - V c d) := by
  simp only [IntKind.wrap_u64]; unfold hi lo; unfold V at *; unfold Is64 at *; omega
theorem sub_yes (a b c d : Int) (w : World) (ha : Is64 a) (hb : Is64 b) (hc : Is64 c) (hd : Is64 d) (h : V c d ≤ V a b) :
    Calls Try.prog 13 #[.agg #[.int .u64 a, .int .u64 b], .agg #[.int .u64 c, .int .u64 d]] w fun e w' => e = .returned (.tuple #[.agg #[.int .u64 (hi (V a b - V c d)), .int .u64 (lo (V a b - V c d))], .bool true]) ∧ Below w.heap.size w w' := by
  have H := Lib.hid h
  clear h
  go_enter Try.func13, Try.ntmps13
  go_wp2_with fail
  (with_reducible refine (cmp_ge _ _ _ _ _ hb hd H.out).mono ?_)
  rintro e w' ⟨r, hr, rfl, hb1⟩
  have hr0 : ¬ r < 0 := by omega
  clear hr
  obtain ⟨hcl, hfr⟩ := bcell hb1
  have hz : w.heap.size + 2 < w'.heap.size := by have := hb1.size; simp at this; omega
  go_wp2
  all_goals
    refine bodyPost_ret (v := .tuple #[.agg #[.int .u64 (hi (V a b - V c d)), .int .u64 (lo (V a b - V c d))], .bool true]) ?_ rfl ⟨rfl, by repeat (first | exact Below.refl _ _ | refine Below.setCell ?_ (by simp; try omega) _ | refine Below.alloc ?_ (by simp; try omega) _ | refine Below.trans ?_ (hb1.mono (by simp; try omega)))⟩
    first
    | (rw [← (sub1 ha hb hc hd H.out (by assumption)).1, ← (sub1 ha hb hc hd H.out (by assumption)).2]; simp [results, Try.results13, go_sem, hcl]; done)
    | (rw [← (sub2 ha hb hc hd H.out (by assumption)).1, ← (sub2 ha hb hc hd H.out (by assumption)).2]; simp [results, Try.results13, go_sem, hcl]; done)

theorem less_zero (a b c d : Int) (w : World) (h : b = 0 ∨ d = 0) :
    Calls Try.prog 24 #[.int .u64 a, .int .u64 b, .int .u64 c, .int .u64 d] w fun e w' => e = .returned (.bool false) ∧ Below w.heap.size w w' := by
  by_cases h1 : b = 0
  · subst h1
    go_enter Try.func24, Try.ntmps24
    go_wp2
    go_ret
    exact ⟨rfl, Below.refl _ _⟩
  · obtain rfl : d = 0 := by omega
    have hb : (b == 0) = false := by simpa using h1
    clear h h1
    go_enter Try.func24, Try.ntmps24
    go_wp2
    go_ret
    exact ⟨rfl, Below.refl _ _⟩
def lessB (a b c d : Int) : Bool := decide (a * d < c * b)
theorem cmpI_neg (x y : Int) : decide (cmpI x y < 0) = decide (x < y) := by
  unfold cmpI; split <;> (try split) <;> simp_all
theorem less_any (a b c d : Int) (w : World) (ha : Is64 a) (hb : Is64 b) (hc : Is64 c) (hd : Is64 d) (h1 : (b == 0) = false) (h2 : (d == 0) = false) :
    Calls Try.prog 24 #[.int .u64 a, .int .u64 b, .int .u64 c, .int .u64 d] w fun e w' => e = .returned (.bool (lessB a b c d)) ∧ Below w.heap.size w w' := by
  go_enter Try.func24, Try.ntmps24
  go_wp2_with fail
  (with_reducible refine (mul_any _ _ _ ha hd).mono ?_)
  rintro e w1 ⟨rfl, hb1⟩
  go_wp2_with fail
  (with_reducible refine (mul_any _ _ _ hc hb).mono ?_)
  rintro e w2 ⟨rfl, hb2⟩
  go_wp2_with fail
  (with_reducible refine (cmp_any _ _ _ _ _ (is64_lo _) (is64_lo _)).mono ?_)
  rintro e w3 ⟨rfl, hb3⟩
  rw [V_hi_lo, V_hi_lo]
  go_wp2
  go_ret
  refine ⟨?_, (hb1.trans (hb2.mono hb1.size)).trans (hb3.mono (Nat.le_trans hb1.size hb2.size))⟩
  rw [cmpI_neg]; rfl
end Go.Proofs.Ytdddafhalcbhaaa
