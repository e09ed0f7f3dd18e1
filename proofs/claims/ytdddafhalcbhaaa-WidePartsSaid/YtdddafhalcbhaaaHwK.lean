/- Contract of the statements' function awake: the chapter's examples hold. -/
import Derived.Test.YtdddafhalcbhaaaHwT
namespace Go.Proofs.Ytdddafhalcbhaaa
open Go.ChangeShapes Go.WideShapes Go.ChangeAt Go.RowKit Go.Joins
set_option linter.unusedVariables false
set_option linter.unusedSimpArgs false
def bigN : Nat := 340282366920938463426481119284349108225
theorem mul_max (w : World) :
    Calls Try.prog 17 #[.int .u64 18446744073709551615, .int .u64 18446744073709551615] w fun e w' => e = .returned (.agg #[.int .u64 (hi (bigN : Int)), .int .u64 (lo (bigN : Int))]) ∧ Below w.heap.size w w' :=
  mul_any 18446744073709551615 18446744073709551615 w (by unfold Is64; omega) (by unfold Is64; omega)
theorem dec_big : dec bigN = ⟨#[51, 52, 48, 50, 56, 50, 51, 54, 54, 57, 50, 48, 57, 51, 56, 52, 54, 51, 52, 50, 54, 52, 56, 49, 49, 49, 57, 50, 56, 52, 51, 52, 57, 49, 48, 56, 50, 50, 53]⟩ := by unfold dec; congr 1
theorem dec_zero : dec 0 = ⟨#[48]⟩ := by unfold dec; congr 1
theorem text_big (w : World) :
    Calls Try.prog 22 #[.agg #[.int .u64 (hi (bigN : Int)), .int .u64 (lo (bigN : Int))]] w fun e w' => e = .returned (.string ⟨#[51, 52, 48, 50, 56, 50, 51, 54, 54, 57, 50, 48, 57, 51, 56, 52, 54, 51, 52, 50, 54, 52, 56, 49, 49, 49, 57, 50, 56, 52, 51, 52, 57, 49, 48, 56, 50, 50, 53]⟩) ∧ Below w.heap.size w w' := by
  have := text_any (hi (bigN : Int)) (lo (bigN : Int)) bigN w (is64_hi (by unfold Is128 bigN; omega)) (is64_lo _) (V_hi_lo _)
  rw [dec_big] at this
  exact this
theorem text_zero (w : World) :
    Calls Try.prog 22 #[.agg #[.int .u64 0, .int .u64 0]] w fun e w' => e = .returned (.string ⟨#[48]⟩) ∧ Below w.heap.size w w' := by
  have := text_any 0 0 0 w (by unfold Is64; omega) (by unfold Is64; omega) rfl
  rw [dec_zero] at this
  exact this
theorem less_third (w : World) :
    Calls Try.prog 24 #[.int .u64 333333333, .int .u64 1000000000, .int .u64 1, .int .u64 3] w fun e w' => e = .returned (.bool true) ∧ Below w.heap.size w w' :=
  less_any 333333333 1000000000 1 3 w (by unfold Is64; omega) (by unfold Is64; omega) (by unfold Is64; omega) (by unfold Is64; omega) rfl rfl
theorem awake_any (w : World) :
    Calls Try.prog 10 #[] w fun e w' => e = .returned (.bool true) ∧ Below w.heap.size w w' := by
  go_enter Try.func10, Try.ntmps10
  go_wp2_with fail
  (with_reducible refine (mul_max _).mono ?_)
  rintro e w1 ⟨rfl, hb1⟩
  go_wp2_with fail
  (with_reducible refine (text_big _).mono ?_)
  rintro e w2 ⟨rfl, hb2⟩
  go_wp2_with fail
  (with_reducible refine (less_third _).mono ?_)
  rintro e w3 ⟨rfl, hb3⟩
  go_wp2_with fail
  (with_reducible refine (text_zero _).mono ?_)
  rintro e w4 ⟨rfl, hb4⟩
  go_wp2
  go_ret
  exact ⟨rfl, ((hb1.trans (hb2.mono hb1.size)).trans (hb3.mono (Nat.le_trans hb1.size hb2.size))).trans (hb4.mono (Nat.le_trans (Nat.le_trans hb1.size hb2.size) hb3.size))⟩
end Go.Proofs.Ytdddafhalcbhaaa
