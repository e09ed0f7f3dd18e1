/- Plain arithmetic of the division bit by bit. No dump is imported. -/
import Derived.Test.YtdddafhalcbhaaaHwMath
namespace Go.Proofs.Ytdddafhalcbhaaa
set_option linter.unusedVariables false
set_option linter.unusedSimpArgs false

/-- what holds of the remainder and the quotient's lower half when k bits are done -/
def DivNum (b d r0 : Int) (k : Nat) (R Q : Int) : Prop :=
  0 ≤ R ∧ R < d ∧ ∃ L : Int, 0 ≤ L ∧ L < 2 ^ k ∧ Q = L * 2 ^ (64 - k) ∧ L * d + R = r0 * 2 ^ k + b / 2 ^ (64 - k)

theorem and1 {a : Int} (h : Is64 a) : bits .and .u64 a 1 = a % 2 := by
  unfold Is64 at h
  obtain ⟨n, rfl⟩ := Int.eq_ofNat_of_zero_le h.1
  have hn : n < 18446744073709551616 := by omega
  have := bits_and_u64_nat n 1 hn (by decide)
  rw [Nat.and_one_is_mod] at this
  simpa using this

theorem or_low {a x : Int} (ha : Is64 a) (he : a % 2 = 0) (hx : x = 0 ∨ x = 1) : bits .or .u64 a x = a + x := by
  unfold Is64 at ha
  obtain ⟨n, rfl⟩ := Int.eq_ofNat_of_zero_le ha.1
  obtain ⟨m, rfl⟩ : ∃ m : Nat, n = 2 ^ 1 * m := ⟨n / 2, by omega⟩
  obtain ⟨y, rfl, hy⟩ : ∃ y : Nat, x = y ∧ y < 2 ^ 1 := by
    rcases hx with rfl | rfl
    · exact ⟨0, rfl, by decide⟩
    · exact ⟨1, rfl, by decide⟩
  rw [bits_or_u64_nat _ _ (by omega) (by omega), ← Nat.two_pow_add_eq_or_of_lt hy m]
  simp

theorem pow_bd (j : Nat) (h : j ≤ 63) : (0 : Int) < 2 ^ j ∧ (2 : Int) ^ j ≤ 9223372036854775808 := by
  refine ⟨Int.pow_pos (by decide), ?_⟩
  have : (2 : Nat) ^ j ≤ 2 ^ 63 := Nat.pow_le_pow_right (by decide) h
  have e : ((2 ^ j : Nat) : Int) = (2 : Int) ^ j := by simp
  rw [← e]; omega

theorem or_top {L : Int} (j : Nat) (hj : j ≤ 63) (h0 : 0 ≤ L) (hQ : L * 2 ^ (j + 1) < 18446744073709551616) : bits .or .u64 (L * 2 ^ (j + 1)) (2 ^ j) = (2 * L + 1) * 2 ^ j := by
  obtain ⟨l, rfl⟩ := Int.eq_ofNat_of_zero_le h0
  have hp : (2 : Nat) ^ j < 2 ^ (j + 1) := Nat.pow_lt_pow_right (by decide) (by omega)
  have hj2 := pow_bd j hj
  have e1 : ((2 ^ (j + 1) * l : Nat) : Int) = (l : Int) * 2 ^ (j + 1) := by simp [Int.mul_comm]
  have e2 : ((2 ^ j : Nat) : Int) = (2 : Int) ^ j := by simp
  have h1 : 2 ^ (j + 1) * l < 18446744073709551616 := by rw [← e1] at hQ; omega
  have h2 : 2 ^ j < 18446744073709551616 := by omega
  rw [← e1, ← e2, bits_or_u64_nat _ _ h1 h2, ← Nat.two_pow_add_eq_or_of_lt hp l]
  simp [Int.pow_succ, Int.add_mul, Int.mul_comm, Int.mul_assoc, Int.mul_left_comm]

/-- the remainder, shifted up by a bit of b -/
theorem shifted {R b : Int} {j : Nat} (hR : Is64 R) (hb : Is64 b) (hj : j ≤ 63) :
    bits .or .u64 (IntKind.u64.wrap (R * 2)) (bits .and .u64 (b / 2 ^ j) 1) = (2 * R + b / 2 ^ j % 2) % 18446744073709551616 := by
  have hp := pow_bd j hj
  have hx : Is64 (b / 2 ^ j) := by
    unfold Is64 at *
    exact ⟨Int.ediv_nonneg hb.1 (by omega), Int.lt_of_le_of_lt (Int.ediv_le_self _ hb.1) hb.2⟩
  rw [and1 hx, IntKind.wrap_u64]
  generalize b / 2 ^ j = y
  rw [or_low (by unfold Is64; omega) (by omega) (by omega)]
  omega

theorem half (b : Int) (j : Nat) : b / 2 ^ (j + 1) = b / 2 ^ j / 2 := by
  rw [Int.pow_succ, Int.ediv_ediv_of_nonneg (Int.le_of_lt (Int.pow_pos (by decide)))]

theorem div_sub {R b d r0 Q S : Int} {k : Nat} (hb : Is64 b) (hd : Is64 d) (hk : k < 64) (h : DivNum b d r0 k R Q) (hQ : Is64 Q)
    (hS : S = bits .or .u64 (IntKind.u64.wrap (R * 2)) (bits .and .u64 (b / 2 ^ (63 - k)) 1)) (ht : R / 9223372036854775808 = 1 ∨ d ≤ S) :
    DivNum b d r0 (k + 1) (IntKind.u64.wrap (S - d)) (bits .or .u64 Q (2 ^ (63 - k))) := by
  obtain ⟨r1, r2, L, l0, l1, rfl, e⟩ := h
  have hR : Is64 R := by unfold Is64 at *; omega
  rw [shifted hR hb (by omega)] at hS
  obtain ⟨j, hj⟩ : ∃ j, j = 63 - k := ⟨_, rfl⟩
  have e1 : 64 - k = j + 1 := by omega
  have e2 : 64 - (k + 1) = j := by omega
  rw [e1] at hQ e ⊢; rw [← hj] at hS ⊢
  rw [or_top j (by omega) l0 hQ.2]
  rw [half] at e
  generalize hy : b / 2 ^ j = y at hS e
  have hge : d ≤ 2 * R + y % 2 := by unfold Is64 at *; omega
  have hw : IntKind.u64.wrap (S - d) = 2 * R + y % 2 - d := by rw [IntKind.wrap_u64]; unfold Is64 at *; omega
  rw [hw]
  refine ⟨by omega, by omega, 2 * L + 1, by omega, ?_, by rw [e2], ?_⟩
  · rw [Int.pow_succ]; omega
  · rw [e2, hy, Int.pow_succ, Int.add_mul, Int.mul_assoc, ← Int.mul_assoc r0]
    generalize L * d = X at e ⊢
    generalize r0 * 2 ^ k = Z at e ⊢
    omega

theorem wrap_pow (k : Nat) : IntKind.u64.wrap ((2 : Int) ^ (63 - k)) = 2 ^ (63 - k) := by
  have := pow_bd (63 - k) (by omega)
  rw [IntKind.wrap_u64]; omega
theorem div_sub' {R b d r0 Q : Int} {k : Nat} (hb : Is64 b) (hd : Is64 d) (hk : k < 64) (h : DivNum b d r0 k R Q) (hQ : Is64 Q)
    (ht : R / 9223372036854775808 = 1 ∨ d ≤ bits .or .u64 (IntKind.u64.wrap (R * 2)) (bits .and .u64 (b / 2 ^ (63 - k)) 1)) :
    DivNum b d r0 (k + 1) (IntKind.u64.wrap (bits .or .u64 (IntKind.u64.wrap (R * 2)) (bits .and .u64 (b / 2 ^ (63 - k)) 1) - d)) (bits .or .u64 Q (IntKind.u64.wrap (2 ^ (63 - k)))) := by
  rw [wrap_pow]; exact div_sub hb hd hk h hQ rfl ht

theorem div_keep {R b d r0 Q S : Int} {k : Nat} (hb : Is64 b) (hd : Is64 d) (hk : k < 64) (h : DivNum b d r0 k R Q)
    (hS : S = bits .or .u64 (IntKind.u64.wrap (R * 2)) (bits .and .u64 (b / 2 ^ (63 - k)) 1)) (ht : ¬ R / 9223372036854775808 = 1) (hl : S < d) :
    DivNum b d r0 (k + 1) S Q := by
  obtain ⟨r1, r2, L, l0, l1, rfl, e⟩ := h
  have hR : Is64 R := by unfold Is64 at *; omega
  rw [shifted hR hb (by omega)] at hS
  obtain ⟨j, hj⟩ : ∃ j, j = 63 - k := ⟨_, rfl⟩
  have e1 : 64 - k = j + 1 := by omega
  have e2 : 64 - (k + 1) = j := by omega
  rw [e1] at e ⊢; rw [← hj] at hS
  rw [half] at e
  generalize hy : b / 2 ^ j = y at hS e
  have hw : S = 2 * R + y % 2 := by unfold Is64 at *; omega
  refine ⟨by omega, by omega, 2 * L, by omega, ?_, by rw [e2, Int.pow_succ]; simp [Int.mul_comm, Int.mul_assoc, Int.mul_left_comm], ?_⟩
  · rw [Int.pow_succ]; omega
  · rw [e2, hy, Int.pow_succ, Int.mul_assoc, ← Int.mul_assoc r0]
    generalize L * d = X at e ⊢
    generalize r0 * 2 ^ k = Z at e ⊢
    omega

theorem div_start {a b d : Int} (ha : Is64 a) (hb : Is64 b) (hd : 1 ≤ d) : DivNum b d (a % d) 0 (a % d) 0 := by
  refine ⟨Int.emod_nonneg _ (by omega), Int.emod_lt_of_pos _ (by omega), 0, by omega, by decide, by simp, ?_⟩
  have : b / 2 ^ (64 - 0) = 0 := by
    unfold Is64 at hb
    exact Int.ediv_eq_zero_of_lt hb.1 hb.2
  rw [this]; simp

theorem div_Q64 {b d r0 R Q : Int} {k : Nat} (hk : k ≤ 64) (h : DivNum b d r0 k R Q) : Is64 Q := by
  obtain ⟨_, _, L, l0, l1, rfl, _⟩ := h
  have hp : (0 : Int) < 2 ^ (64 - k) := Int.pow_pos (by decide)
  refine ⟨Int.mul_nonneg l0 (by omega), ?_⟩
  have : L * 2 ^ (64 - k) < 2 ^ k * 2 ^ (64 - k) := Int.mul_lt_mul_of_pos_right l1 hp
  rw [← Int.pow_add] at this
  have e : k + (64 - k) = 64 := by omega
  rw [e] at this
  exact this

theorem div_end {a b d R Q : Int} (ha : Is64 a) (hb : Is64 b) (hd : 1 ≤ d) (h : DivNum b d (a % d) 64 R Q) :
    IntKind.u64.wrap (a.tdiv d) = hi (V a b / d) ∧ Q = lo (V a b / d) ∧ R = V a b % d := by
  have hQ := div_Q64 (by omega) h
  obtain ⟨r1, r2, L, l0, l1, rfl, e⟩ := h
  have e0 : L * 2 ^ (64 - 64) = L := by simp
  have eb : b / 2 ^ (64 - 64) = b := by simp
  rw [e0] at hQ ⊢
  rw [eb] at e
  have hqa : 0 ≤ a / d ∧ a / d ≤ a := ⟨Int.ediv_nonneg ha.1 (by omega), Int.ediv_le_self _ ha.1⟩
  have hdm : d * (a / d) + a % d = a := Int.mul_ediv_add_emod a d
  have hV : V a b = d * V (a / d) L + R := by
    unfold V
    rw [Int.mul_add, ← Int.mul_assoc]
    have : a * 18446744073709551616 = (d * (a / d) + a % d) * 18446744073709551616 := by rw [hdm]
    rw [this, Int.add_mul, Int.mul_comm d L]
    have e' : L * d + R = a % d * 18446744073709551616 + b := e
    omega
  have hdiv : V a b / d = V (a / d) L ∧ V a b % d = R := by
    rw [hV]
    constructor
    · rw [Int.add_comm, Int.add_mul_ediv_left _ _ (by omega), Int.ediv_eq_zero_of_lt r1 r2]; omega
    · rw [Int.add_comm, Int.add_mul_emod_self_left, Int.emod_eq_of_lt r1 r2]
  rw [hdiv.1, hdiv.2, hi_V hQ, lo_V hQ]
  refine ⟨?_, rfl, rfl⟩
  rw [Int.tdiv_eq_ediv_of_nonneg ha.1, IntKind.wrap_u64]
  unfold Is64 at ha
  exact Int.emod_eq_of_lt hqa.1 (by omega)
end Go.Proofs.Ytdddafhalcbhaaa
