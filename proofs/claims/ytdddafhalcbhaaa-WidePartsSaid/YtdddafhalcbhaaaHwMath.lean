/- Plain arithmetic for package wide: numbers of 128 bits as two halves. No dump is imported. -/
import Derived.WalkKit
import Derived.OpenShut
import Derived.Laws.Bits64
import Derived.Laws.Bits64b
namespace Go.Proofs.Ytdddafhalcbhaaa
def Is64 (a : Int) : Prop := 0 ≤ a ∧ a < 18446744073709551616
def V (h l : Int) : Int := h * 18446744073709551616 + l
def hi (n : Int) : Int := n / 18446744073709551616
def lo (n : Int) : Int := n % 18446744073709551616
/-- a number of 128 bits -/
def Is128 (n : Int) : Prop := 0 ≤ n ∧ n < 340282366920938463463374607431768211456
def cmpI (x y : Int) : Int := if x < y then -1 else if x = y then 0 else 1

theorem is64_wf {a : Int} (h : (Lit.int .u64 a).wf = true) : Is64 a := by
  have := bounds_u64 h
  unfold Is64; omega
theorem is64_lo (n : Int) : Is64 (lo n) := by unfold Is64 lo; omega
theorem is64_hi {n : Int} (h : Is128 n) : Is64 (hi n) := by unfold Is64 hi; unfold Is128 at h; omega
theorem is128_V {h l : Int} (a : Is64 h) (b : Is64 l) : Is128 (V h l) := by unfold Is128 V; unfold Is64 at *; omega
theorem V_hi_lo (n : Int) : V (hi n) (lo n) = n := by unfold V hi lo; omega
theorem hi_V {h l : Int} (b : Is64 l) : hi (V h l) = h := by unfold V hi; unfold Is64 at *; omega
theorem lo_V {h l : Int} (b : Is64 l) : lo (V h l) = l := by unfold V lo; unfold Is64 at *; omega
theorem V_inj {a b c d : Int} (hb : Is64 b) (hd : Is64 d) (h : V a b = V c d) : a = c ∧ b = d := by
  unfold V at h; unfold Is64 at *; omega

theorem and32 {a : Int} (h : Is64 a) : bits .and .u64 a 4294967295 = a % 4294967296 := by
  unfold Is64 at h
  obtain ⟨n, rfl⟩ := Int.eq_ofNat_of_zero_le h.1
  have hn : n < 18446744073709551616 := by omega
  have := bits_and_u64_nat n 4294967295 hn (by decide)
  have e : n &&& 4294967295 = n % 4294967296 := by
    have := Nat.and_two_pow_sub_one_eq_mod n 32
    simpa using this
  rw [e] at this
  simpa using this

theorem mul_parts (x y u v : Int) (hx : 0 ≤ x ∧ x ≤ 4294967295) (hy : 0 ≤ y ∧ y ≤ 4294967295) (hu : 0 ≤ u ∧ u ≤ 4294967295) (hv : 0 ≤ v ∧ v ≤ 4294967295) :
    ∃ p q r s, p = x * u ∧ q = x * v ∧ r = y * u ∧ s = y * v ∧ 0 ≤ p ∧ p ≤ 18446744065119617025 ∧ 0 ≤ q ∧ q ≤ 18446744065119617025 ∧ 0 ≤ r ∧ r ≤ 18446744065119617025 ∧ 0 ≤ s ∧ s ≤ 18446744065119617025
      ∧ (x * 4294967296 + y) * (u * 4294967296 + v) = p * 18446744073709551616 + (q + r) * 4294967296 + s := by
  have bd : ∀ a b : Int, (0 ≤ a ∧ a ≤ 4294967295) → (0 ≤ b ∧ b ≤ 4294967295) → 0 ≤ a * b ∧ a * b ≤ 18446744065119617025 := by
    intro a b ha hb
    refine ⟨Int.mul_nonneg ha.1 hb.1, ?_⟩
    have := Int.mul_le_mul ha.2 hb.2 hb.1 (by decide)
    simpa using this
  refine ⟨_, _, _, _, rfl, rfl, rfl, rfl, (bd _ _ hx hu).1, (bd _ _ hx hu).2, (bd _ _ hx hv).1, (bd _ _ hx hv).2, (bd _ _ hy hu).1, (bd _ _ hy hu).2, (bd _ _ hy hv).1, (bd _ _ hy hv).2, ?_⟩
  have : (x * 4294967296 + y) * (u * 4294967296 + v) = (x * u) * 18446744073709551616 + (x * v + y * u) * 4294967296 + y * v := by
    rw [Int.add_mul, Int.mul_add, Int.mul_add]
    have e1 : x * 4294967296 * (u * 4294967296) = (x * u) * 18446744073709551616 := by
      rw [Int.mul_assoc, Int.mul_left_comm 4294967296 u, ← Int.mul_assoc]; rfl
    have e2 : x * 4294967296 * v = x * v * 4294967296 := by rw [Int.mul_assoc, Int.mul_comm 4294967296 v, ← Int.mul_assoc]
    have e3 : y * (u * 4294967296) = y * u * 4294967296 := by rw [← Int.mul_assoc]
    rw [e1, e2, e3]; omega
  exact this

/-- the upper half of a product, as the program puts it together -/
theorem mul_hi {a b : Int} (ha : Is64 a) (hb : Is64 b) :
    IntKind.u64.wrap
      (IntKind.u64.wrap
        (IntKind.u64.wrap (a / 4294967296 * (b / 4294967296)) +
          IntKind.u64.wrap
              (IntKind.u64.wrap (a / 4294967296 * bits BinOp.and IntKind.u64 b 4294967295) +
                IntKind.u64.wrap (bits BinOp.and IntKind.u64 a 4294967295 * bits BinOp.and IntKind.u64 b 4294967295) / 4294967296) /
            4294967296) +
        IntKind.u64.wrap
            (IntKind.u64.wrap (bits BinOp.and IntKind.u64 a 4294967295 * (b / 4294967296)) +
              bits BinOp.and IntKind.u64
                (IntKind.u64.wrap
                  (IntKind.u64.wrap (a / 4294967296 * bits BinOp.and IntKind.u64 b 4294967295) +
                    IntKind.u64.wrap (bits BinOp.and IntKind.u64 a 4294967295 * bits BinOp.and IntKind.u64 b 4294967295) / 4294967296))
                4294967295) /
          4294967296) = hi (a * b) := by
  rw [and32 ha, and32 hb]
  have hw : ∀ n, Is64 (IntKind.u64.wrap n) := by intro n; rw [IntKind.wrap_u64]; unfold Is64; omega
  rw [and32 (hw _)]
  simp only [IntKind.wrap_u64]
  unfold Is64 at ha hb
  obtain ⟨p, q, r, s, ep, eq, er, es, p0, p1, q0, q1, r0, r1, s0, s1, e⟩ := mul_parts (a / 4294967296) (a % 4294967296) (b / 4294967296) (b % 4294967296) (by omega) (by omega) (by omega) (by omega)
  rw [← ep, ← eq, ← er, ← es]
  have ea : a / 4294967296 * 4294967296 + a % 4294967296 = a := by omega
  have eb : b / 4294967296 * 4294967296 + b % 4294967296 = b := by omega
  rw [ea, eb] at e
  rw [e]
  unfold hi
  clear ep eq er es e ea eb ha hb
  omega
theorem mul_lo (a b : Int) : IntKind.u64.wrap (a * b) = lo (a * b) := by rw [IntKind.wrap_u64]; rfl
theorem is128_mul {a b : Int} (ha : Is64 a) (hb : Is64 b) : Is128 (a * b) := by
  unfold Is64 at *; unfold Is128
  refine ⟨Int.mul_nonneg ha.1 hb.1, ?_⟩
  have h1 : a ≤ 18446744073709551615 := by omega
  have h2 : b ≤ 18446744073709551615 := by omega
  have := Int.mul_le_mul h1 h2 hb.1 (by decide)
  omega
end Go.Proofs.Ytdddafhalcbhaaa
