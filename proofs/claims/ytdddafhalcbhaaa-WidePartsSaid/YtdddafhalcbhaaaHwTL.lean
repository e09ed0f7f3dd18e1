/- Plain lemmas: digits are ordered as their numbers are. No dump is imported. -/
import Derived.Test.YtdddafhalcbhaaaHwTM
namespace Go.Proofs.Ytdddafhalcbhaaa
set_option linter.unusedVariables false
set_option linter.unusedSimpArgs false
theorem decK_zero (n : Nat) : decK n 0 = [] := rfl
/-- a digit's byte -/
def dg (x : Nat) : UInt8 := UInt8.ofNat (48 + x)
theorem decK_top (n k : Nat) : decK n (k + 1) = dg (n / 10 ^ k % 10) :: decK n k := by
  unfold decK
  rw [List.range_succ_eq_map, List.map_cons, List.map_map]
  congr 1
  apply List.map_congr_left
  intro t ht
  simp only [Function.comp, List.mem_range] at *
  have : k + 1 - 1 - (t + 1) = k - 1 - t := by omega
  simp only [Nat.succ_eq_add_one, this]
theorem decK_last (n k : Nat) : decK n (k + 1) = decK (n / 10) k ++ [UInt8.ofNat (48 + n % 10)] := by
  unfold decK
  rw [List.range_succ, List.map_append]
  congr 1
  · apply List.map_congr_left
    intro t ht
    simp only [List.mem_range] at ht
    have : k + 1 - 1 - t = (k - 1 - t) + 1 := by omega
    rw [this, Nat.pow_succ, Nat.mul_comm, ← Nat.div_div_eq_div_mul]
  · simp
theorem decK_length (n k : Nat) : (decK n k).length = k := by simp [decK]
theorem digit_lt {x y : Nat} (hx : x < 10) (hy : y < 10) (h : x < y) : dg x < dg y := by
  unfold dg
  rw [UInt8.lt_iff_toNat_lt]
  simp only [UInt8.toNat_ofNat']
  omega
theorem digit_ne {x y : Nat} (hx : x < 10) (hy : y < 10) (h : x < y) : ¬ dg y < dg x := by
  unfold dg
  rw [UInt8.lt_iff_toNat_lt]
  simp only [UInt8.toNat_ofNat']
  omega
theorem digit_neq {x y : Nat} (hx : x < 10) (hy : y < 10) (h : x < y) : ¬ dg y = dg x := by
  intro e
  have := digit_lt hx hy h
  rw [e, UInt8.lt_iff_toNat_lt] at this
  omega
theorem decK_less : ∀ (k n m : Nat), n % 10 ^ k < m % 10 ^ k → Op.bytesLess (decK n k) (decK m k) = true := by
  intro k
  induction k with
  | zero => intro n m h; simp [Nat.mod_one] at h
  | succ k ih =>
    intro n m h
    rw [decK_top, decK_top]
    rw [Nat.mod_pow_succ, Nat.mod_pow_succ] at h
    have hp : 0 < 10 ^ k := Nat.pow_pos (by decide)
    have h1 : n % 10 ^ k < 10 ^ k := Nat.mod_lt _ hp
    have h2 : m % 10 ^ k < 10 ^ k := Nat.mod_lt _ hp
    have d1 : n / 10 ^ k % 10 < 10 := Nat.mod_lt _ (by decide)
    have d2 : m / 10 ^ k % 10 < 10 := Nat.mod_lt _ (by decide)
    have ihk := ih n m
    generalize n / 10 ^ k % 10 = x at h d1 ⊢
    generalize m / 10 ^ k % 10 = y at h d2 ⊢
    rcases Nat.lt_trichotomy x y with hxy | hxy | hxy
    · simp [Op.bytesLess, digit_lt d1 d2 hxy]
    · subst hxy
      simp [Op.bytesLess]
      exact ihk (by omega)
    · exfalso
      have : 10 ^ k * y + 10 ^ k ≤ 10 ^ k * x := by
        have := Nat.mul_le_mul_left (10 ^ k) (show y + 1 ≤ x from hxy)
        rw [Nat.mul_add] at this; omega
      omega
theorem bytesLess_self : ∀ l : List UInt8, Op.bytesLess l l = false := by
  intro l
  induction l with
  | nil => simp [Op.bytesLess]
  | cons a l ih => simp [Op.bytesLess, ih]
theorem dec_toList (n : Nat) : (dec n).toList = decK n (ndig n) := by
  rw [ByteArray.toList_eq]; rfl
theorem dec_size (n : Nat) : (dec n).size = ndig n := by
  show (decK n (ndig n)).toArray.size = _
  simp [decK_length]
theorem ndig_mono {n m : Nat} (h : n ≤ m) (hm : m < 10 ^ 41) : ndig n ≤ ndig m := by
  obtain ⟨a1, a2⟩ := ndig_spec (Nat.lt_of_le_of_lt h hm)
  obtain ⟨b1, b2⟩ := ndig_spec hm
  have hp := ndig_pos m
  rcases a2 with a2 | a2
  · omega
  · rcases Nat.lt_or_ge (ndig m) (ndig n) with h' | h'
    · exfalso
      have : 10 ^ ndig m ≤ 10 ^ (ndig n - 1) := Nat.pow_le_pow_right (by decide) (by omega)
      omega
    · exact h'
/-- of two numbers the lesser one has fewer digits, or as many, and they come first -/
theorem dec_lt {n m : Nat} (h : n < m) (hm : m < 10 ^ 41) : (dec n).size < (dec m).size ∨ ((dec n).size = (dec m).size ∧ Op.bytesLess (dec n).toList (dec m).toList = true) := by
  rw [dec_size, dec_size, dec_toList, dec_toList]
  have h1 := ndig_mono (Nat.le_of_lt h) hm
  rcases Nat.lt_or_ge (ndig n) (ndig m) with h2 | h2
  · exact .inl h2
  · have e : ndig n = ndig m := by omega
    refine .inr ⟨e, ?_⟩
    obtain ⟨a1, -⟩ := ndig_spec (Nat.lt_trans h hm)
    obtain ⟨b1, -⟩ := ndig_spec hm
    rw [e] at a1 ⊢
    apply decK_less
    rw [Nat.mod_eq_of_lt a1, Nat.mod_eq_of_lt b1]; exact h
theorem decK_gt : ∀ (k n m : Nat), n % 10 ^ k < m % 10 ^ k → Op.bytesLess (decK m k) (decK n k) = false := by
  intro k
  induction k with
  | zero => intro n m h; simp [Nat.mod_one] at h
  | succ k ih =>
    intro n m h
    rw [decK_top, decK_top]
    rw [Nat.mod_pow_succ, Nat.mod_pow_succ] at h
    have hp : 0 < 10 ^ k := Nat.pow_pos (by decide)
    have h1 : n % 10 ^ k < 10 ^ k := Nat.mod_lt _ hp
    have h2 : m % 10 ^ k < 10 ^ k := Nat.mod_lt _ hp
    have d1 : n / 10 ^ k % 10 < 10 := Nat.mod_lt _ (by decide)
    have d2 : m / 10 ^ k % 10 < 10 := Nat.mod_lt _ (by decide)
    have ihk := ih n m
    generalize n / 10 ^ k % 10 = x at h d1 ⊢
    generalize m / 10 ^ k % 10 = y at h d2 ⊢
    rcases Nat.lt_trichotomy x y with hxy | hxy | hxy
    · simp only [Op.bytesLess]; simp [digit_ne d1 d2 hxy, digit_neq d1 d2 hxy]
    · subst hxy
      simp [Op.bytesLess]
      exact ihk (by omega)
    · exfalso
      have : 10 ^ k * y + 10 ^ k ≤ 10 ^ k * x := by
        have := Nat.mul_le_mul_left (10 ^ k) (show y + 1 ≤ x from hxy)
        rw [Nat.mul_add] at this; omega
      omega
theorem dec_ne {n m : Nat} (h : n < m) (hm : m < 10 ^ 41) : ¬ (dec n).toList = (dec m).toList := by
  intro e
  rcases dec_lt h hm with h1 | ⟨-, h1⟩
  · have : (dec n).toList.length = (dec m).toList.length := by rw [e]
    rw [dec_toList, dec_toList, decK_length, decK_length] at this
    rw [dec_size, dec_size] at h1; omega
  · rw [e, bytesLess_self] at h1; cases h1
theorem dec_gt {n m : Nat} (h : n < m) (hm : m < 10 ^ 41) : (dec n).size < (dec m).size ∨ ((dec n).size = (dec m).size ∧ Op.bytesLess (dec m).toList (dec n).toList = false) := by
  rw [dec_size, dec_size, dec_toList, dec_toList]
  have h1 := ndig_mono (Nat.le_of_lt h) hm
  rcases Nat.lt_or_ge (ndig n) (ndig m) with h2 | h2
  · exact .inl h2
  · have e : ndig n = ndig m := by omega
    refine .inr ⟨e, ?_⟩
    obtain ⟨a1, -⟩ := ndig_spec (Nat.lt_trans h hm)
    obtain ⟨b1, -⟩ := ndig_spec hm
    rw [e] at a1 ⊢
    apply decK_gt
    rw [Nat.mod_eq_of_lt a1, Nat.mod_eq_of_lt b1]; exact h
theorem ndig_ten {n : Nat} (h0 : 0 < n) (hn : n * 10 < 10 ^ 41) : ndig (n * 10) = ndig n + 1 := by
  obtain ⟨a1, a2⟩ := ndig_spec (n := n) (by omega)
  have hp := ndig_pos n
  refine ndig_eq hn (by omega) (by rw [Nat.pow_succ]; omega) (.inr ?_)
  have e : ndig n + 1 - 1 = (ndig n - 1) + 1 := by omega
  rw [e, Nat.pow_succ]
  rcases a2 with a2 | a2
  · rw [a2]; simp; omega
  · omega
theorem dec_ten {n : Nat} (h0 : 0 < n) (hn : n * 10 < 10 ^ 41) : dec (n * 10) = dec n ++ ⟨#[48]⟩ := by
  apply ByteArray.ext
  rw [ByteArray.data_append]
  unfold dec
  rw [ndig_ten h0 hn, decK_last]
  have e1 : n * 10 / 10 = n := by omega
  have e2 : n * 10 % 10 = 0 := by omega
  rw [e1, e2]
  simp
end Go.Proofs.Ytdddafhalcbhaaa
