/- The arithmetic of layer 2: one shift of a sum, what eight do to a byte, sums of texts. -/
import Derived.Test.YtcbemjckcmcelaaRows
import Derived.WalkKit
namespace Go.Proofs.Ytcbemjckcmcelaa
set_option maxRecDepth 100000
set_option linter.unusedVariables false
def poly : Nat := 3988292384
def sh (x : Nat) : Nat := if x % 2 = 0 then x / 2 else x / 2 ^^^ poly
def shN : Nat → Nat → Nat | 0, x => x | n + 1, x => shN n (sh x)
def tab (x : Nat) : Nat := shN 8 x
/-- one byte more, by the table -/
def step (x c : Nat) : Nat := tab (x % 256 ^^^ c) ^^^ x / 256
def fold (x : Nat) (l : List UInt8) : Nat := l.foldl (fun a c => step a c.toNat) x
def ones : Nat := 4294967295
def more (x : Nat) (s : ByteArray) : Nat := fold (x ^^^ ones) s.data.toList ^^^ ones
def Is32 (x : Nat) : Prop := x < 4294967296
theorem xor_mod (x y n : Nat) : (x ^^^ y) % 2 ^ n = x % 2 ^ n ^^^ y % 2 ^ n := Nat.xor_mod_two_pow
theorem xor_div (x y n : Nat) : (x ^^^ y) / 2 ^ n = x / 2 ^ n ^^^ y / 2 ^ n := Nat.xor_div_two_pow
theorem is32_xor {x y : Nat} (h : Is32 x) (k : Is32 y) : Is32 (x ^^^ y) := Nat.xor_lt_two_pow (n := 32) h k
theorem is32_ones : Is32 ones := by unfold Is32 ones; omega
theorem is32_poly : Is32 poly := by unfold Is32 poly; omega
theorem eq_of_xor {a b : Nat} (h : a ^^^ b = 0) : a = b := by
  have := congrArg (· ^^^ b) h
  simpa [Nat.xor_assoc] using this
theorem xor_swap4 (a b c d : Nat) : (a ^^^ b) ^^^ (c ^^^ d) = (a ^^^ c) ^^^ (b ^^^ d) := by
  rw [Nat.xor_assoc, Nat.xor_assoc, ← Nat.xor_assoc b c d, Nat.xor_comm b c, Nat.xor_assoc c b d]
theorem sh_xor (x y : Nat) : sh (x ^^^ y) = sh x ^^^ sh y := by
  have h1 : (x ^^^ y) / 2 = x / 2 ^^^ y / 2 := xor_div x y 1
  have h2 : (x ^^^ y) % 2 = (x + y) % 2 := by
    rw [show (x ^^^ y) % 2 = x % 2 ^^^ y % 2 from xor_mod x y 1]
    rcases Nat.mod_two_eq_zero_or_one x with h | h <;> rcases Nat.mod_two_eq_zero_or_one y with k | k <;> rw [h, k] <;> (first | (show _ = _; omega) | (simp; omega))
  unfold sh
  rw [h1, h2]
  by_cases hx : x % 2 = 0 <;> by_cases hy : y % 2 = 0
  · rw [if_pos hx, if_pos hy, if_pos (by omega)]
  · rw [if_pos hx, if_neg hy, if_neg (by omega), Nat.xor_assoc]
  · rw [if_neg hx, if_pos hy, if_neg (by omega), Nat.xor_assoc, Nat.xor_assoc, Nat.xor_comm (y / 2) poly]
  · rw [if_neg hx, if_neg hy, if_pos (by omega), xor_swap4, Nat.xor_self, Nat.xor_zero]
theorem sh_is32 {x : Nat} (h : Is32 x) : Is32 (sh x) := by
  unfold sh
  split
  · unfold Is32 at *; omega
  · exact is32_xor (by unfold Is32 at *; omega) is32_poly
theorem sh_zero : sh 0 = 0 := by decide
theorem sh_double (k : Nat) : sh (2 * k) = k := by unfold sh; rw [if_pos (by omega)]; omega
theorem sh_eq_zero {x : Nat} (h : Is32 x) (k : sh x = 0) : x = 0 := by
  unfold sh at k
  split at k
  · omega
  · have := eq_of_xor k
    unfold Is32 poly at *; omega
theorem shN_xor (n x y : Nat) : shN n (x ^^^ y) = shN n x ^^^ shN n y := by
  induction n generalizing x y with
  | zero => rfl
  | succ n ih => simp only [shN]; rw [sh_xor, ih]
theorem shN_is32 {n x : Nat} (h : Is32 x) : Is32 (shN n x) := by
  induction n generalizing x with
  | zero => exact h
  | succ n ih => exact ih (sh_is32 h)
theorem shN_eq_zero {n x : Nat} (h : Is32 x) (k : shN n x = 0) : x = 0 := by
  induction n generalizing x with
  | zero => exact k
  | succ n ih => exact sh_eq_zero h (ih (sh_is32 h) k)
theorem shN_last (n x : Nat) : shN (n + 1) x = sh (shN n x) := by
  induction n generalizing x with
  | zero => rfl
  | succ n ih => show shN (n + 1) (sh x) = _; rw [ih]; rfl
theorem tab_256 (k : Nat) : tab (256 * k) = k := by
  unfold tab
  simp only [shN]
  rw [show 256 * k = 2 * (2 * (2 * (2 * (2 * (2 * (2 * (2 * k))))))) by omega]
  simp only [sh_double]
theorem tab_xor (x y : Nat) : tab (x ^^^ y) = tab x ^^^ tab y := shN_xor 8 x y
theorem split256 (x : Nat) : x % 256 ^^^ 256 * (x / 256) = x := by
  apply Nat.eq_of_testBit_eq
  intro i
  have h1 : (x % 256).testBit i = (decide (i < 8) && x.testBit i) := Nat.testBit_mod_two_pow x 8 i
  have h2 : (256 * (x / 256)).testBit i = (decide (8 ≤ i) && (x / 256).testBit (i - 8)) := Nat.testBit_two_pow_mul (i := 8)
  have h3 : (x / 256).testBit (i - 8) = x.testBit (8 + (i - 8)) := by
    rw [← Nat.testBit_shiftRight]; rw [Nat.shiftRight_eq_div_pow]
  rw [Nat.testBit_xor, h1, h2, h3]
  by_cases h : i < 8
  · simp [h, show ¬ 8 ≤ i by omega]
  · rw [show 8 + (i - 8) = i by omega]; simp [h, show 8 ≤ i by omega]
/-- the document's way, a bit at a time, is the table's -/
theorem step_words (x c : Nat) : tab (x ^^^ c) = step x c := by
  unfold step
  conv => lhs; rw [← split256 x, Nat.xor_assoc, Nat.xor_comm (256 * (x / 256)) c, ← Nat.xor_assoc, tab_xor, tab_256]
theorem step_xor (x y c d : Nat) : step (x ^^^ y) (c ^^^ d) = step x c ^^^ step y d := by
  rw [← step_words, ← step_words, ← step_words, xor_swap4, tab_xor]
theorem step_is32 {x c : Nat} (h : Is32 x) (k : c < 256) : Is32 (step x c) := by
  rw [← step_words]; exact shN_is32 (is32_xor h (by unfold Is32; omega))
theorem fold_is32 {x : Nat} {l : List UInt8} (h : Is32 x) : Is32 (fold x l) := by
  induction l generalizing x with
  | nil => exact h
  | cons c l ih => exact ih (step_is32 h c.toNat_lt)
theorem fold_snoc (x : Nat) (l : List UInt8) (c : UInt8) : fold x (l ++ [c]) = step (fold x l) c.toNat := by simp [fold]
theorem fold_append (x : Nat) (l m : List UInt8) : fold x (l ++ m) = fold (fold x l) m := by simp [fold]
theorem xor_ones_ones (x : Nat) : x ^^^ ones ^^^ ones = x := by rw [Nat.xor_assoc, Nat.xor_self, Nat.xor_zero]
theorem more_is32 {x : Nat} {s : ByteArray} (h : Is32 x) : Is32 (more x s) := is32_xor (fold_is32 (is32_xor h is32_ones)) is32_ones
end Go.Proofs.Ytcbemjckcmcelaa
