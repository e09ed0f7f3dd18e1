/- Plain lemmas on the bits of sums and differences. No dump is imported. -/
import Derived.Test.YtdddafhalcbhaaaHwMath
namespace Go.Proofs.Ytdddafhalcbhaaa
set_option linter.unusedVariables false
set_option linter.unusedSimpArgs false
/-- the bits of S below i -/
def low (S i : Nat) (j : Nat) : Bool := (S % 2 ^ i).testBit j
theorem low_zero (S j : Nat) : low S 0 j = false := by simp [low, Nat.mod_one]
theorem low_eq (S i j : Nat) : low S i j = (decide (j < i) && S.testBit j) := by unfold low; rw [Nat.testBit_mod_two_pow]
theorem low_succ (S i j : Nat) : low S (i + 1) j = if j = i then S.testBit i else low S i j := by
  rw [low_eq, low_eq]
  by_cases h : j = i
  · subst h; simp
  · rw [if_neg h]
    have : (j < i + 1) ↔ (j < i) := by omega
    simp [this]
def carryB (N M i : Nat) : Bool := decide (2 ^ i ≤ N % 2 ^ i + M % 2 ^ i)
theorem carry_zero (N M : Nat) : carryB N M 0 = false := by simp [carryB, Nat.mod_one]
theorem bit_div (N i : Nat) : (N.testBit i).toNat = N / 2 ^ i % 2 := by
  rw [Nat.testBit_eq_decide_div_mod_eq]
  have : N / 2 ^ i % 2 < 2 := Nat.mod_lt _ (by decide)
  by_cases h : N / 2 ^ i % 2 = 1
  · simp [h]
  · simp [h]; omega
theorem add_bit (N M i : Nat) : (N + M).testBit i = (((N.testBit i).toNat + (M.testBit i).toNat + (carryB N M i).toNat) % 2 == 1) := by
  rw [bit_div, bit_div, Nat.testBit_eq_decide_div_mod_eq]
  have hp : 0 < 2 ^ i := Nat.pow_pos (by decide)
  have e := Nat.add_div (a := N) (b := M) hp
  rw [e]
  unfold carryB
  generalize N / 2 ^ i = a
  generalize M / 2 ^ i = b
  by_cases h : 2 ^ i ≤ N % 2 ^ i + M % 2 ^ i
  · simp only [h, if_true, decide_true, Bool.toNat_true]
    rw [Bool.eq_iff_iff]; simp only [decide_eq_true_eq, beq_iff_eq]; omega
  · simp only [h, if_false, decide_false, Bool.toNat_false]
    rw [Bool.eq_iff_iff]; simp only [decide_eq_true_eq, beq_iff_eq]; omega
theorem carry_succ (N M i : Nat) : carryB N M (i + 1) = decide (2 ≤ (N.testBit i).toNat + (M.testBit i).toNat + (carryB N M i).toNat) := by
  rw [bit_div, bit_div]
  unfold carryB
  rw [Nat.mod_pow_succ, Nat.mod_pow_succ, Nat.pow_succ]
  have h1 : N % 2 ^ i < 2 ^ i := Nat.mod_lt _ (Nat.pow_pos (by decide))
  have h2 : M % 2 ^ i < 2 ^ i := Nat.mod_lt _ (Nat.pow_pos (by decide))
  have h3 : N / 2 ^ i % 2 < 2 := Nat.mod_lt _ (by decide)
  have h4 : M / 2 ^ i % 2 < 2 := Nat.mod_lt _ (by decide)
  generalize N / 2 ^ i % 2 = a at *
  generalize M / 2 ^ i % 2 = b at *
  generalize N % 2 ^ i = x at *
  generalize M % 2 ^ i = y at *
  generalize 2 ^ i = p at *
  have ha : a = 0 ∨ a = 1 := by omega
  have hb : b = 0 ∨ b = 1 := by omega
  by_cases h : p ≤ x + y
  · rcases ha with rfl | rfl <;> rcases hb with rfl | rfl <;> simp [h] <;> omega
  · rcases ha with rfl | rfl <;> rcases hb with rfl | rfl <;> simp [h] <;> omega
/-- a borrow: the lower bits of M are more than N's -/
def borrowB (N M i : Nat) : Bool := decide (N % 2 ^ i < M % 2 ^ i)
theorem borrow_zero (N M : Nat) : borrowB N M 0 = false := by simp [borrowB, Nat.mod_one]
theorem sub_parts {N M i : Nat} (h : M ≤ N) : ∃ a b x y p : Nat, N = p * a + x ∧ M = p * b + y ∧ x < p ∧ y < p ∧ 0 < p ∧ a = N / 2 ^ i ∧ b = M / 2 ^ i ∧ x = N % 2 ^ i ∧ y = M % 2 ^ i ∧ p = 2 ^ i :=
  ⟨_, _, _, _, _, (Nat.div_add_mod N (2 ^ i)).symm, (Nat.div_add_mod M (2 ^ i)).symm, Nat.mod_lt _ (Nat.pow_pos (by decide)), Nat.mod_lt _ (Nat.pow_pos (by decide)), Nat.pow_pos (by decide), rfl, rfl, rfl, rfl, rfl⟩
theorem sub_div {N M i : Nat} (h : M ≤ N) : (N - M) / 2 ^ i = N / 2 ^ i - M / 2 ^ i - (borrowB N M i).toNat := by
  have hp : 0 < 2 ^ i := Nat.pow_pos (by decide)
  unfold borrowB
  have hx := Nat.mod_lt N hp
  have hy := Nat.mod_lt M hp
  have hN := Nat.div_add_mod N (2 ^ i)
  have hM := Nat.div_add_mod M (2 ^ i)
  have hle : M / 2 ^ i ≤ N / 2 ^ i := Nat.div_le_div_right h
  generalize N / 2 ^ i = a at *
  generalize M / 2 ^ i = b at *
  generalize N % 2 ^ i = x at *
  generalize M % 2 ^ i = y at *
  generalize 2 ^ i = p at *
  obtain ⟨d, rfl⟩ : ∃ d, a = b + d := ⟨a - b, by omega⟩
  rw [Nat.mul_add] at hN
  by_cases hb : x < y
  · simp [hb]
    have hd : 1 ≤ d := by
      rcases Nat.eq_zero_or_pos d with rfl | h0
      · simp at hN; omega
      · exact h0
    obtain ⟨d, rfl⟩ : ∃ e, d = e + 1 := ⟨d - 1, by omega⟩
    have e1 : N - M = x + p - y + p * d := by rw [Nat.mul_add] at hN; omega
    have e2 : d + 1 - 1 = d := by omega
    rw [e1, e2, Nat.add_mul_div_left _ _ hp, Nat.div_eq_of_lt (by omega)]; omega
  · simp [hb]
    have e1 : N - M = x - y + p * d := by omega
    rw [e1, Nat.add_mul_div_left _ _ hp, Nat.div_eq_of_lt (by omega)]; omega
theorem sub_bit {N M i : Nat} (h : M ≤ N) : (N - M).testBit i = (((N.testBit i).toNat + (M.testBit i).toNat + (borrowB N M i).toNat) % 2 == 1) := by
  rw [bit_div, bit_div, Nat.testBit_eq_decide_div_mod_eq, sub_div h]
  have hle : M / 2 ^ i + (borrowB N M i).toNat ≤ N / 2 ^ i := by
    have hp : 0 < 2 ^ i := Nat.pow_pos (by decide)
    have hle : M / 2 ^ i ≤ N / 2 ^ i := Nat.div_le_div_right h
    by_cases hb : borrowB N M i = true
    · rw [hb]
      unfold borrowB at hb
      simp at hb
      rcases Nat.lt_or_ge (M / 2 ^ i) (N / 2 ^ i) with h' | h'
      · simp only [Bool.toNat_true]; omega
      · exfalso
        have hN := Nat.div_add_mod N (2 ^ i)
        have hM := Nat.div_add_mod M (2 ^ i)
        have e : N / 2 ^ i = M / 2 ^ i := by omega
        rw [e] at hN
        omega
    · simp [hb, hle]
  generalize N / 2 ^ i = a at *
  generalize M / 2 ^ i = b at *
  generalize (borrowB N M i).toNat = c at *
  rw [Bool.eq_iff_iff]; simp; omega
theorem borrow_succ (N M i : Nat) : borrowB N M (i + 1) = decide ((N.testBit i).toNat < (M.testBit i).toNat + (borrowB N M i).toNat) := by
  rw [bit_div, bit_div]
  unfold borrowB
  rw [Nat.mod_pow_succ, Nat.mod_pow_succ]
  have h1 : N % 2 ^ i < 2 ^ i := Nat.mod_lt _ (Nat.pow_pos (by decide))
  have h2 : M % 2 ^ i < 2 ^ i := Nat.mod_lt _ (Nat.pow_pos (by decide))
  have h3 : N / 2 ^ i % 2 < 2 := Nat.mod_lt _ (by decide)
  have h4 : M / 2 ^ i % 2 < 2 := Nat.mod_lt _ (by decide)
  generalize N / 2 ^ i % 2 = a at *
  generalize M / 2 ^ i % 2 = b at *
  generalize N % 2 ^ i = x at *
  generalize M % 2 ^ i = y at *
  generalize 2 ^ i = p at *
  have ha : a = 0 ∨ a = 1 := by omega
  have hb : b = 0 ∨ b = 1 := by omega
  by_cases h : x < y
  · rcases ha with rfl | rfl <;> rcases hb with rfl | rfl <;> simp [h] <;> omega
  · rcases ha with rfl | rfl <;> rcases hb with rfl | rfl <;> simp [h] <;> omega
end Go.Proofs.Ytdddafhalcbhaaa
