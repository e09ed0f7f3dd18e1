/- General forms of the contracts of Add and Sub; what a call leaves of the memory. -/
import Derived.Test.YtdddafhalcbhaaaHwF
namespace Go.Proofs.Ytdddafhalcbhaaa
open Go.ChangeShapes Go.WideShapes Go.ChangeAt Go.RowKit Go.Joins
set_option linter.unusedVariables false
set_option linter.unusedSimpArgs false
theorem carry {W w1 : World} {p : Addr} {v : Value} (hb : Below W.heap.size W w1) (h : W.cell? p = some v) : w1.cell? p = some v := by
  rw [← h]
  apply hb.cell
  rcases Nat.lt_or_ge p.block W.heap.size with h' | h'
  · exact h'
  · exfalso; unfold World.cell? at h; rw [Array.getElem?_eq_none h'] at h; cases h
open Classical in
noncomputable def addB (a b c d : Int) : Bool := decide (Is128 (V a b + V c d))
open Classical in
noncomputable def addH (a b c d : Int) : Int := if Is128 (V a b + V c d) then hi (V a b + V c d) else 0
open Classical in
noncomputable def addL (a b c d : Int) : Int := if Is128 (V a b + V c d) then lo (V a b + V c d) else 0
theorem add_gen (a b c d : Int) (w : World) (ha : Is64 a) (hb : Is64 b) (hc : Is64 c) (hd : Is64 d) :
    Calls Try.prog 11 #[.agg #[.int .u64 a, .int .u64 b], .agg #[.int .u64 c, .int .u64 d]] w fun e w' => e = .returned (.tuple #[.agg #[.int .u64 (addH a b c d), .int .u64 (addL a b c d)], .bool (addB a b c d)]) ∧ Below w.heap.size w w' := by
  refine (add_any a b c d w ha hb hc hd).mono fun e w' ⟨he, hw⟩ => ⟨?_, hw⟩
  rw [he]; unfold addR addH addL addB
  by_cases h : Is128 (V a b + V c d) <;> simp [h]
theorem addH_comm (a b c d : Int) : addH a b c d = addH c d a b := by unfold addH; rw [Int.add_comm (V a b)]
theorem addL_comm (a b c d : Int) : addL a b c d = addL c d a b := by unfold addL; rw [Int.add_comm (V a b)]
theorem addB_comm (a b c d : Int) : addB a b c d = addB c d a b := by unfold addB; rw [Int.add_comm (V a b)]
def subB (a b c d : Int) : Bool := decide (V c d ≤ V a b)
def subH (a b c d : Int) : Int := if V c d ≤ V a b then hi (V a b - V c d) else 0
def subL (a b c d : Int) : Int := if V c d ≤ V a b then lo (V a b - V c d) else 0
theorem sub_gen (a b c d : Int) (w : World) (ha : Is64 a) (hb : Is64 b) (hc : Is64 c) (hd : Is64 d) :
    Calls Try.prog 13 #[.agg #[.int .u64 a, .int .u64 b], .agg #[.int .u64 c, .int .u64 d]] w fun e w' => e = .returned (.tuple #[.agg #[.int .u64 (subH a b c d), .int .u64 (subL a b c d)], .bool (subB a b c d)]) ∧ Below w.heap.size w w' := by
  by_cases h : V c d ≤ V a b
  · refine (sub_yes a b c d w ha hb hc hd h).mono fun e w' ⟨he, hw⟩ => ⟨?_, hw⟩
    rw [he]; simp [subH, subL, subB, h]
  · refine (sub_no a b c d w hb hd (by omega)).mono fun e w' ⟨he, hw⟩ => ⟨?_, hw⟩
    rw [he]; simp [subH, subL, subB, h]
theorem cmpI_swap (x y : Int) : cmpI y x = -cmpI x y := by
  unfold cmpI; repeat' split
  all_goals omega
theorem cmp_gt (a b c d : Int) (w : World) (hb : Is64 b) (hd : Is64 d) (h : V c d < V a b) :
    Calls Try.prog 15 #[.agg #[.int .u64 a, .int .u64 b], .agg #[.int .u64 c, .int .u64 d]] w fun e w' => e = .returned (.int .i64 1) ∧ Below w.heap.size w w' :=
  (cmp_any a b c d w hb hd).mono fun e w' ⟨he, hw⟩ => ⟨by rw [he, cmpI_gt h], hw⟩
theorem cmp_eq (a b c d : Int) (w : World) (hb : Is64 b) (hd : Is64 d) (h : V a b = V c d) :
    Calls Try.prog 15 #[.agg #[.int .u64 a, .int .u64 b], .agg #[.int .u64 c, .int .u64 d]] w fun e w' => e = .returned (.int .i64 0) ∧ Below w.heap.size w w' :=
  (cmp_any a b c d w hb hd).mono fun e w' ⟨he, hw⟩ => ⟨by rw [he, cmpI_eq h], hw⟩
end Go.Proofs.Ytdddafhalcbhaaa
