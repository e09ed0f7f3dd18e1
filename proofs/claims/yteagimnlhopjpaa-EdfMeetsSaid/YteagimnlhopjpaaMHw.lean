/- Plain arithmetic for package wide: numbers of 128 bits as two halves. No dump is imported. Contracts of package wide: Of, Mul, Cmp, Add, Sub, Less. Plain arithmetic of the division bit by bit. No dump is imported. Contract of wide.Div. Plain lemmas on decimal digits. No dump is imported. Contract of wide.Text. Contract of the statements' function awake: the chapter's examples hold. How the arguments of the statements of layer 1 are opened: a number of 128 bits; an array of numbers. General forms of the contracts of Add and Sub; what a call leaves of the memory. -/
import Derived.WalkKit
import Derived.OpenShut
import Derived.Laws.Bits64
import Derived.Laws.Bits64b
import Derived.Test.YteagimnlhopjpaaRows
import Derived.ProofKit
import Derived.Below
import Derived.Lib.Hide
import Derived.Lib.SmallJoins
import Derived.Deep.LoopGhost
import Derived.WalkMore
import Derived.Laws.BytesString
import Derived.Deep.RegionWith
import Derived.ChangeOld
import Derived.ShutString
import Derived.Laws.IdiomArrays
namespace Go.Proofs.Yteagimnlhopjpaa
def Is64 (a : Int) : Prop := 0 ≤ a ∧ a < 18446744073709551616
def V (h l : Int) : Int := h * 18446744073709551616 + l
def hi (n : Int) : Int := n / 18446744073709551616
def lo (n : Int) : Int := n % 18446744073709551616
/-- a number of 128 bits -/
def Is128 (n : Int) : Prop := 0 ≤ n ∧ n < 340282366920938463463374607431768211456
def cmpI (x y : Int) : Int := if x < y then -1 else if x = y then 0 else 1

theorem is64_wf {a : Int} (h : (Lit.int .u64 a).wf = true) : Is64 a := by
  have := bounds_u64 h
  unfold Is64; omega
theorem is64_lo (n : Int) : Is64 (lo n) := by unfold Is64 lo; omega
theorem is64_hi {n : Int} (h : Is128 n) : Is64 (hi n) := by unfold Is64 hi; unfold Is128 at h; omega
theorem is128_V {h l : Int} (a : Is64 h) (b : Is64 l) : Is128 (V h l) := by unfold Is128 V; unfold Is64 at *; omega
theorem V_hi_lo (n : Int) : V (hi n) (lo n) = n := by unfold V hi lo; omega
theorem hi_V {h l : Int} (b : Is64 l) : hi (V h l) = h := by unfold V hi; unfold Is64 at *; omega
theorem lo_V {h l : Int} (b : Is64 l) : lo (V h l) = l := by unfold V lo; unfold Is64 at *; omega
theorem V_inj {a b c d : Int} (hb : Is64 b) (hd : Is64 d) (h : V a b = V c d) : a = c ∧ b = d := by
  unfold V at h; unfold Is64 at *; omega

theorem and32 {a : Int} (h : Is64 a) : bits .and .u64 a 4294967295 = a % 4294967296 := by
  unfold Is64 at h
  obtain ⟨n, rfl⟩ := Int.eq_ofNat_of_zero_le h.1
  have hn : n < 18446744073709551616 := by omega
  have := bits_and_u64_nat n 4294967295 hn (by decide)
  have e : n &&& 4294967295 = n % 4294967296 := by
    have := Nat.and_two_pow_sub_one_eq_mod n 32
    simpa using this
  rw [e] at this
  simpa using this

theorem mul_parts (x y u v : Int) (hx : 0 ≤ x ∧ x ≤ 4294967295) (hy : 0 ≤ y ∧ y ≤ 4294967295) (hu : 0 ≤ u ∧ u ≤ 4294967295) (hv : 0 ≤ v ∧ v ≤ 4294967295) :
    ∃ p q r s, p = x * u ∧ q = x * v ∧ r = y * u ∧ s = y * v ∧ 0 ≤ p ∧ p ≤ 18446744065119617025 ∧ 0 ≤ q ∧ q ≤ 18446744065119617025 ∧ 0 ≤ r ∧ r ≤ 18446744065119617025 ∧ 0 ≤ s ∧ s ≤ 18446744065119617025
      ∧ (x * 4294967296 + y) * (u * 4294967296 + v) = p * 18446744073709551616 + (q + r) * 4294967296 + s := by
  have bd : ∀ a b : Int, (0 ≤ a ∧ a ≤ 4294967295) → (0 ≤ b ∧ b ≤ 4294967295) → 0 ≤ a * b ∧ a * b ≤ 18446744065119617025 := by
    intro a b ha hb
    refine ⟨Int.mul_nonneg ha.1 hb.1, ?_⟩
    have := Int.mul_le_mul ha.2 hb.2 hb.1 (by decide)
    simpa using this
  refine ⟨_, _, _, _, rfl, rfl, rfl, rfl, (bd _ _ hx hu).1, (bd _ _ hx hu).2, (bd _ _ hx hv).1, (bd _ _ hx hv).2, (bd _ _ hy hu).1, (bd _ _ hy hu).2, (bd _ _ hy hv).1, (bd _ _ hy hv).2, ?_⟩
  have : (x * 4294967296 + y) * (u * 4294967296 + v) = (x * u) * 18446744073709551616 + (x * v + y * u) * 4294967296 + y * v := by
    rw [Int.add_mul, Int.mul_add, Int.mul_add]
    have e1 : x * 4294967296 * (u * 4294967296) = (x * u) * 18446744073709551616 := by
      rw [Int.mul_assoc, Int.mul_left_comm 4294967296 u, ← Int.mul_assoc]; rfl
    have e2 : x * 4294967296 * v = x * v * 4294967296 := by rw [Int.mul_assoc, Int.mul_comm 4294967296 v, ← Int.mul_assoc]
    have e3 : y * (u * 4294967296) = y * u * 4294967296 := by rw [← Int.mul_assoc]
    rw [e1, e2, e3]; omega
  exact this

/-- the upper half of a product, as the program puts it together -/
theorem mul_hi {a b : Int} (ha : Is64 a) (hb : Is64 b) :
    IntKind.u64.wrap
      (IntKind.u64.wrap
        (IntKind.u64.wrap (a / 4294967296 * (b / 4294967296)) +
          IntKind.u64.wrap
              (IntKind.u64.wrap (a / 4294967296 * bits BinOp.and IntKind.u64 b 4294967295) +
                IntKind.u64.wrap (bits BinOp.and IntKind.u64 a 4294967295 * bits BinOp.and IntKind.u64 b 4294967295) / 4294967296) /
            4294967296) +
        IntKind.u64.wrap
            (IntKind.u64.wrap (bits BinOp.and IntKind.u64 a 4294967295 * (b / 4294967296)) +
              bits BinOp.and IntKind.u64
                (IntKind.u64.wrap
                  (IntKind.u64.wrap (a / 4294967296 * bits BinOp.and IntKind.u64 b 4294967295) +
                    IntKind.u64.wrap (bits BinOp.and IntKind.u64 a 4294967295 * bits BinOp.and IntKind.u64 b 4294967295) / 4294967296))
                4294967295) /
          4294967296) = hi (a * b) := by
  rw [and32 ha, and32 hb]
  have hw : ∀ n, Is64 (IntKind.u64.wrap n) := by intro n; rw [IntKind.wrap_u64]; unfold Is64; omega
  rw [and32 (hw _)]
  simp only [IntKind.wrap_u64]
  unfold Is64 at ha hb
  obtain ⟨p, q, r, s, ep, eq, er, es, p0, p1, q0, q1, r0, r1, s0, s1, e⟩ := mul_parts (a / 4294967296) (a % 4294967296) (b / 4294967296) (b % 4294967296) (by omega) (by omega) (by omega) (by omega)
  rw [← ep, ← eq, ← er, ← es]
  have ea : a / 4294967296 * 4294967296 + a % 4294967296 = a := by omega
  have eb : b / 4294967296 * 4294967296 + b % 4294967296 = b := by omega
  rw [ea, eb] at e
  rw [e]
  unfold hi
  clear ep eq er es e ea eb ha hb
  omega
theorem mul_lo (a b : Int) : IntKind.u64.wrap (a * b) = lo (a * b) := by rw [IntKind.wrap_u64]; rfl
theorem is128_mul {a b : Int} (ha : Is64 a) (hb : Is64 b) : Is128 (a * b) := by
  unfold Is64 at *; unfold Is128
  refine ⟨Int.mul_nonneg ha.1 hb.1, ?_⟩
  have h1 : a ≤ 18446744073709551615 := by omega
  have h2 : b ≤ 18446744073709551615 := by omega
  have := Int.mul_le_mul h1 h2 hb.1 (by decide)
  omega
end Go.Proofs.Yteagimnlhopjpaa
namespace Go.Proofs.Yteagimnlhopjpaa
open Go.ChangeShapes Go.WideShapes Go.ChangeAt Go.RowKit Go.Joins
set_option maxRecDepth 100000
set_option linter.unusedVariables false

theorem cmpI_lt {x y : Int} (h : x < y) : cmpI x y = -1 := by simp [cmpI, h]
theorem cmpI_eq {x y : Int} (h : x = y) : cmpI x y = 0 := by simp [cmpI, h]
theorem cmpI_gt {x y : Int} (h : y < x) : cmpI x y = 1 := by unfold cmpI; rw [if_neg (by omega), if_neg (by omega)]
theorem cmp_step1 {a b c d : Int} (hb : Is64 b) (hd : Is64 d) (h : a < c) : (-1 : Int) = cmpI (V a b) (V c d) := (cmpI_lt (by unfold V; unfold Is64 at *; omega)).symm
theorem cmp_step2 {b c d : Int} (h : b < d) : (-1 : Int) = cmpI (V c b) (V c d) := (cmpI_lt (by unfold V; omega)).symm
theorem cmp_step3 {c d : Int} : (0 : Int) = cmpI (V c d) (V c d) := (cmpI_eq rfl).symm
theorem cmp_step4 {b c d : Int} (h : d ≤ b) (k : ¬ b = d) : (1 : Int) = cmpI (V c b) (V c d) := (cmpI_gt (by unfold V; omega)).symm
theorem cmp_step5 {a b c d : Int} (hb : Is64 b) (hd : Is64 d) (h : c ≤ a) (k : ¬ a = c) : (1 : Int) = cmpI (V a b) (V c d) := (cmpI_gt (by unfold V; unfold Is64 at *; omega)).symm

theorem bcell {W w1 : World} (hb : Below W.heap.size W w1) : (∀ b o, b < W.heap.size → w1.cell? ⟨b, o, none⟩ = W.cell? ⟨b, o, none⟩) ∧ (∀ b o, b < W.heap.size → w1.frozen? ⟨b, o, none⟩ = W.frozen? ⟨b, o, none⟩) :=
  ⟨fun b o h => hb.cell (p := ⟨b, o, none⟩) h, fun b o h => hb.frozen (p := ⟨b, o, none⟩) h⟩

open Classical in
noncomputable def addR (a b c d : Int) : Value := if Is128 (V a b + V c d) then .tuple #[.agg #[.int .u64 (hi (V a b + V c d)), .int .u64 (lo (V a b + V c d))], .bool true] else .tuple #[.agg #[.int .u64 0, .int .u64 0], .bool false]
theorem addR_yes {a b c d : Int} (h : Is128 (V a b + V c d)) : addR a b c d = .tuple #[.agg #[.int .u64 (hi (V a b + V c d)), .int .u64 (lo (V a b + V c d))], .bool true] := by rw [addR, if_pos h]
theorem addR_no {a b c d : Int} (h : ¬ Is128 (V a b + V c d)) : addR a b c d = .tuple #[.agg #[.int .u64 0, .int .u64 0], .bool false] := by rw [addR, if_neg h]
theorem addR_ok {a b c d x y : Int} (h : Is128 (V a b + V c d)) (hx : hi (V a b + V c d) = x) (hy : lo (V a b + V c d) = y) : addR a b c d = .tuple #[.agg #[.int .u64 x, .int .u64 y], .bool true] := by rw [addR_yes h, hx, hy]
theorem add1 {a b c d : Int} (ha : Is64 a) (hb : Is64 b) (hc : Is64 c) (hd : Is64 d) (h1 : IntKind.u64.wrap (b + d) < b) (h3 : IntKind.u64.wrap (a + c) < a ∨ (IntKind.u64.wrap (IntKind.u64.wrap (a + c) + 1) == 0) = true) : addR a b c d = .tuple #[.agg #[.int .u64 0, .int .u64 0], .bool false] := by
  apply addR_no
  simp only [beq_iff_eq] at h3
  rw [IntKind.wrap_u64] at *
  rw [IntKind.wrap_u64] at *
  unfold Is128 V; unfold Is64 at *
  omega
theorem add2 {a b c d : Int} (ha : Is64 a) (hb : Is64 b) (hc : Is64 c) (hd : Is64 d) (h1 : IntKind.u64.wrap (b + d) < b) (h3 : a ≤ IntKind.u64.wrap (a + c) ∧ (IntKind.u64.wrap (IntKind.u64.wrap (a + c) + 1) == 0) = false) : addR a b c d = .tuple #[.agg #[.int .u64 (IntKind.u64.wrap (IntKind.u64.wrap (a + c) + 1)), .int .u64 (IntKind.u64.wrap (b + d))], .bool true] := by
  simp only [beq_eq_false_iff_ne, ne_eq] at h3
  simp only [IntKind.wrap_u64] at *
  apply addR_ok
  · unfold Is128 V; unfold Is64 at *; omega
  · unfold hi V; unfold Is64 at *; omega
  · unfold lo V; unfold Is64 at *; omega
theorem add3 {a b c d : Int} (ha : Is64 a) (hb : Is64 b) (hc : Is64 c) (hd : Is64 d) (h1 : IntKind.u64.wrap (a + c) < a) : addR a b c d = .tuple #[.agg #[.int .u64 0, .int .u64 0], .bool false] := by
  apply addR_no
  rw [IntKind.wrap_u64] at *
  unfold Is128 V; unfold Is64 at *
  omega
theorem add5 {a b c d : Int} (ha : Is64 a) (hb : Is64 b) (hc : Is64 c) (hd : Is64 d) (h1 : b ≤ IntKind.u64.wrap (b + d)) (h3 : a ≤ IntKind.u64.wrap (a + c)) : addR a b c d = .tuple #[.agg #[.int .u64 (IntKind.u64.wrap (a + c)), .int .u64 (IntKind.u64.wrap (b + d))], .bool true] := by
  simp only [IntKind.wrap_u64] at *
  apply addR_ok
  · unfold Is128 V; unfold Is64 at *; omega
  · unfold hi V; unfold Is64 at *; omega
  · unfold lo V; unfold Is64 at *; omega
theorem cmp_ge_or {x y : Int} (h : ¬ x < y) : cmpI x y = 0 ∨ cmpI x y = 1 := by
  unfold cmpI; rw [if_neg h]; split <;> simp
/-- a number that is 0 or 1 -/
def ZeroOne (w : World) (e : Ending) (w' : World) : Prop := ∃ r : Int, (r = 0 ∨ r = 1) ∧ e = .returned (.int .i64 r) ∧ Below w.heap.size w w'
theorem sub1 {a b c d : Int} (ha : Is64 a) (hb : Is64 b) (hc : Is64 c) (hd : Is64 d) (h : V c d ≤ V a b) (k : b < d) : IntKind.u64.wrap (IntKind.u64.wrap (a - c) - 1) = hi (V a b - V c d) ∧ IntKind.u64.wrap (b - d) = lo (V a b - V c d) := by
  simp only [IntKind.wrap_u64]; unfold hi lo; unfold V at *; unfold Is64 at *; omega
theorem sub2 {a b c d : Int} (ha : Is64 a) (hb : Is64 b) (hc : Is64 c) (hd : Is64 d) (h : V c d ≤ V a b) (k : d ≤ b) : IntKind.u64.wrap (a - c) = hi (V a b - V c d) ∧ IntKind.u64.wrap (b - d) = lo (V a b - V c d) := by
  simp only [IntKind.wrap_u64]; unfold hi lo; unfold V at *; unfold Is64 at *; omega
def lessB (a b c d : Int) : Bool := decide (a * d < c * b)
theorem cmpI_neg (x y : Int) : decide (cmpI x y < 0) = decide (x < y) := by
  unfold cmpI; split <;> (try split) <;> simp_all
end Go.Proofs.Yteagimnlhopjpaa
namespace Go.Proofs.Yteagimnlhopjpaa
set_option maxRecDepth 100000
set_option linter.unusedVariables false
set_option linter.unusedSimpArgs false

/-- what holds of the remainder and the quotient's lower half when k bits are done -/
def DivNum (b d r0 : Int) (k : Nat) (R Q : Int) : Prop :=
  0 ≤ R ∧ R < d ∧ ∃ L : Int, 0 ≤ L ∧ L < 2 ^ k ∧ Q = L * 2 ^ (64 - k) ∧ L * d + R = r0 * 2 ^ k + b / 2 ^ (64 - k)

theorem and1 {a : Int} (h : Is64 a) : bits .and .u64 a 1 = a % 2 := by
  unfold Is64 at h
  obtain ⟨n, rfl⟩ := Int.eq_ofNat_of_zero_le h.1
  have hn : n < 18446744073709551616 := by omega
  have := bits_and_u64_nat n 1 hn (by decide)
  rw [Nat.and_one_is_mod] at this
  simpa using this

theorem or_low {a x : Int} (ha : Is64 a) (he : a % 2 = 0) (hx : x = 0 ∨ x = 1) : bits .or .u64 a x = a + x := by
  unfold Is64 at ha
  obtain ⟨n, rfl⟩ := Int.eq_ofNat_of_zero_le ha.1
  obtain ⟨m, rfl⟩ : ∃ m : Nat, n = 2 ^ 1 * m := ⟨n / 2, by omega⟩
  obtain ⟨y, rfl, hy⟩ : ∃ y : Nat, x = y ∧ y < 2 ^ 1 := by
    rcases hx with rfl | rfl
    · exact ⟨0, rfl, by decide⟩
    · exact ⟨1, rfl, by decide⟩
  rw [bits_or_u64_nat _ _ (by omega) (by omega), ← Nat.two_pow_add_eq_or_of_lt hy m]
  simp

theorem pow_bd (j : Nat) (h : j ≤ 63) : (0 : Int) < 2 ^ j ∧ (2 : Int) ^ j ≤ 9223372036854775808 := by
  refine ⟨Int.pow_pos (by decide), ?_⟩
  have : (2 : Nat) ^ j ≤ 2 ^ 63 := Nat.pow_le_pow_right (by decide) h
  have e : ((2 ^ j : Nat) : Int) = (2 : Int) ^ j := by simp
  rw [← e]; omega

theorem or_top {L : Int} (j : Nat) (hj : j ≤ 63) (h0 : 0 ≤ L) (hQ : L * 2 ^ (j + 1) < 18446744073709551616) : bits .or .u64 (L * 2 ^ (j + 1)) (2 ^ j) = (2 * L + 1) * 2 ^ j := by
  obtain ⟨l, rfl⟩ := Int.eq_ofNat_of_zero_le h0
  have hp : (2 : Nat) ^ j < 2 ^ (j + 1) := Nat.pow_lt_pow_right (by decide) (by omega)
  have hj2 := pow_bd j hj
  have e1 : ((2 ^ (j + 1) * l : Nat) : Int) = (l : Int) * 2 ^ (j + 1) := by simp [Int.mul_comm]
  have e2 : ((2 ^ j : Nat) : Int) = (2 : Int) ^ j := by simp
  have h1 : 2 ^ (j + 1) * l < 18446744073709551616 := by rw [← e1] at hQ; omega
  have h2 : 2 ^ j < 18446744073709551616 := by omega
  rw [← e1, ← e2, bits_or_u64_nat _ _ h1 h2, ← Nat.two_pow_add_eq_or_of_lt hp l]
  simp [Int.pow_succ, Int.add_mul, Int.mul_comm, Int.mul_assoc, Int.mul_left_comm]

/-- the remainder, shifted up by a bit of b -/
theorem shifted {R b : Int} {j : Nat} (hR : Is64 R) (hb : Is64 b) (hj : j ≤ 63) :
    bits .or .u64 (IntKind.u64.wrap (R * 2)) (bits .and .u64 (b / 2 ^ j) 1) = (2 * R + b / 2 ^ j % 2) % 18446744073709551616 := by
  have hp := pow_bd j hj
  have hx : Is64 (b / 2 ^ j) := by
    unfold Is64 at *
    exact ⟨Int.ediv_nonneg hb.1 (by omega), Int.lt_of_le_of_lt (Int.ediv_le_self _ hb.1) hb.2⟩
  rw [and1 hx, IntKind.wrap_u64]
  generalize b / 2 ^ j = y
  rw [or_low (by unfold Is64; omega) (by omega) (by omega)]
  omega

theorem half (b : Int) (j : Nat) : b / 2 ^ (j + 1) = b / 2 ^ j / 2 := by
  rw [Int.pow_succ, Int.ediv_ediv_of_nonneg (Int.le_of_lt (Int.pow_pos (by decide)))]

theorem div_sub {R b d r0 Q S : Int} {k : Nat} (hb : Is64 b) (hd : Is64 d) (hk : k < 64) (h : DivNum b d r0 k R Q) (hQ : Is64 Q)
    (hS : S = bits .or .u64 (IntKind.u64.wrap (R * 2)) (bits .and .u64 (b / 2 ^ (63 - k)) 1)) (ht : R / 9223372036854775808 = 1 ∨ d ≤ S) :
    DivNum b d r0 (k + 1) (IntKind.u64.wrap (S - d)) (bits .or .u64 Q (2 ^ (63 - k))) := by
  obtain ⟨r1, r2, L, l0, l1, rfl, e⟩ := h
  have hR : Is64 R := by unfold Is64 at *; omega
  rw [shifted hR hb (by omega)] at hS
  obtain ⟨j, hj⟩ : ∃ j, j = 63 - k := ⟨_, rfl⟩
  have e1 : 64 - k = j + 1 := by omega
  have e2 : 64 - (k + 1) = j := by omega
  rw [e1] at hQ e ⊢; rw [← hj] at hS ⊢
  rw [or_top j (by omega) l0 hQ.2]
  rw [half] at e
  generalize hy : b / 2 ^ j = y at hS e
  have hge : d ≤ 2 * R + y % 2 := by unfold Is64 at *; omega
  have hw : IntKind.u64.wrap (S - d) = 2 * R + y % 2 - d := by rw [IntKind.wrap_u64]; unfold Is64 at *; omega
  rw [hw]
  refine ⟨by omega, by omega, 2 * L + 1, by omega, ?_, by rw [e2], ?_⟩
  · rw [Int.pow_succ]; omega
  · rw [e2, hy, Int.pow_succ, Int.add_mul, Int.mul_assoc, ← Int.mul_assoc r0]
    generalize L * d = X at e ⊢
    generalize r0 * 2 ^ k = Z at e ⊢
    omega

theorem wrap_pow (k : Nat) : IntKind.u64.wrap ((2 : Int) ^ (63 - k)) = 2 ^ (63 - k) := by
  have := pow_bd (63 - k) (by omega)
  rw [IntKind.wrap_u64]; omega
theorem div_sub' {R b d r0 Q : Int} {k : Nat} (hb : Is64 b) (hd : Is64 d) (hk : k < 64) (h : DivNum b d r0 k R Q) (hQ : Is64 Q)
    (ht : R / 9223372036854775808 = 1 ∨ d ≤ bits .or .u64 (IntKind.u64.wrap (R * 2)) (bits .and .u64 (b / 2 ^ (63 - k)) 1)) :
    DivNum b d r0 (k + 1) (IntKind.u64.wrap (bits .or .u64 (IntKind.u64.wrap (R * 2)) (bits .and .u64 (b / 2 ^ (63 - k)) 1) - d)) (bits .or .u64 Q (IntKind.u64.wrap (2 ^ (63 - k)))) := by
  rw [wrap_pow]; exact div_sub hb hd hk h hQ rfl ht

theorem div_keep {R b d r0 Q S : Int} {k : Nat} (hb : Is64 b) (hd : Is64 d) (hk : k < 64) (h : DivNum b d r0 k R Q)
    (hS : S = bits .or .u64 (IntKind.u64.wrap (R * 2)) (bits .and .u64 (b / 2 ^ (63 - k)) 1)) (ht : ¬ R / 9223372036854775808 = 1) (hl : S < d) :
    DivNum b d r0 (k + 1) S Q := by
  obtain ⟨r1, r2, L, l0, l1, rfl, e⟩ := h
  have hR : Is64 R := by unfold Is64 at *; omega
  rw [shifted hR hb (by omega)] at hS
  obtain ⟨j, hj⟩ : ∃ j, j = 63 - k := ⟨_, rfl⟩
  have e1 : 64 - k = j + 1 := by omega
  have e2 : 64 - (k + 1) = j := by omega
  rw [e1] at e ⊢; rw [← hj] at hS
  rw [half] at e
  generalize hy : b / 2 ^ j = y at hS e
  have hw : S = 2 * R + y % 2 := by unfold Is64 at *; omega
  refine ⟨by omega, by omega, 2 * L, by omega, ?_, by rw [e2, Int.pow_succ]; simp [Int.mul_comm, Int.mul_assoc, Int.mul_left_comm], ?_⟩
  · rw [Int.pow_succ]; omega
  · rw [e2, hy, Int.pow_succ, Int.mul_assoc, ← Int.mul_assoc r0]
    generalize L * d = X at e ⊢
    generalize r0 * 2 ^ k = Z at e ⊢
    omega

theorem div_start {a b d : Int} (ha : Is64 a) (hb : Is64 b) (hd : 1 ≤ d) : DivNum b d (a % d) 0 (a % d) 0 := by
  refine ⟨Int.emod_nonneg _ (by omega), Int.emod_lt_of_pos _ (by omega), 0, by omega, by decide, by simp, ?_⟩
  have : b / 2 ^ (64 - 0) = 0 := by
    unfold Is64 at hb
    exact Int.ediv_eq_zero_of_lt hb.1 hb.2
  rw [this]; simp

theorem div_Q64 {b d r0 R Q : Int} {k : Nat} (hk : k ≤ 64) (h : DivNum b d r0 k R Q) : Is64 Q := by
  obtain ⟨_, _, L, l0, l1, rfl, _⟩ := h
  have hp : (0 : Int) < 2 ^ (64 - k) := Int.pow_pos (by decide)
  refine ⟨Int.mul_nonneg l0 (by omega), ?_⟩
  have : L * 2 ^ (64 - k) < 2 ^ k * 2 ^ (64 - k) := Int.mul_lt_mul_of_pos_right l1 hp
  rw [← Int.pow_add] at this
  have e : k + (64 - k) = 64 := by omega
  rw [e] at this
  exact this

theorem div_end {a b d R Q : Int} (ha : Is64 a) (hb : Is64 b) (hd : 1 ≤ d) (h : DivNum b d (a % d) 64 R Q) :
    IntKind.u64.wrap (a.tdiv d) = hi (V a b / d) ∧ Q = lo (V a b / d) ∧ R = V a b % d := by
  have hQ := div_Q64 (by omega) h
  obtain ⟨r1, r2, L, l0, l1, rfl, e⟩ := h
  have e0 : L * 2 ^ (64 - 64) = L := by simp
  have eb : b / 2 ^ (64 - 64) = b := by simp
  rw [e0] at hQ ⊢
  rw [eb] at e
  have hqa : 0 ≤ a / d ∧ a / d ≤ a := ⟨Int.ediv_nonneg ha.1 (by omega), Int.ediv_le_self _ ha.1⟩
  have hdm : d * (a / d) + a % d = a := Int.mul_ediv_add_emod a d
  have hV : V a b = d * V (a / d) L + R := by
    unfold V
    rw [Int.mul_add, ← Int.mul_assoc]
    have : a * 18446744073709551616 = (d * (a / d) + a % d) * 18446744073709551616 := by rw [hdm]
    rw [this, Int.add_mul, Int.mul_comm d L]
    have e' : L * d + R = a % d * 18446744073709551616 + b := e
    omega
  have hdiv : V a b / d = V (a / d) L ∧ V a b % d = R := by
    rw [hV]
    constructor
    · rw [Int.add_comm, Int.add_mul_ediv_left _ _ (by omega), Int.ediv_eq_zero_of_lt r1 r2]; omega
    · rw [Int.add_comm, Int.add_mul_emod_self_left, Int.emod_eq_of_lt r1 r2]
  rw [hdiv.1, hdiv.2, hi_V hQ, lo_V hQ]
  refine ⟨?_, rfl, rfl⟩
  rw [Int.tdiv_eq_ediv_of_nonneg ha.1, IntKind.wrap_u64]
  unfold Is64 at ha
  exact Int.emod_eq_of_lt hqa.1 (by omega)
end Go.Proofs.Yteagimnlhopjpaa
namespace Go.Proofs.Yteagimnlhopjpaa
open Go.ChangeShapes Go.WideShapes Go.ChangeAt Go.RowKit Go.Joins
set_option maxRecDepth 100000
set_option linter.unusedVariables false

def DivRel (w : World) (b d : Int) (qh r0 : Int) (r i : Value) (w' : World) : Prop :=
  ∃ (k : Nat) (R Q : Int), k ≤ 64 ∧ i = .int .i64 (63 - k) ∧ r = .int .u64 R ∧ DivNum b d r0 k R Q ∧
    w'.cell? ⟨w.heap.size, 1, none⟩ = some (.int .u64 b) ∧ w'.cell? ⟨w.heap.size + 1, 0, none⟩ = some (.int .u64 qh) ∧ w'.cell? ⟨w.heap.size + 1, 1, none⟩ = some (.int .u64 Q) ∧
    w'.frozen? ⟨w.heap.size + 1, 0, none⟩ = false ∧ w'.frozen? ⟨w.heap.size + 1, 1, none⟩ = false ∧ Below w.heap.size w w'

end Go.Proofs.Yteagimnlhopjpaa
namespace Go.Proofs.Yteagimnlhopjpaa
set_option maxRecDepth 100000
set_option linter.unusedVariables false
set_option linter.unusedSimpArgs false
def ndF : Nat → Nat → Nat
  | 0, _ => 1
  | f + 1, n => if n < 10 then 1 else ndF f (n / 10) + 1
/-- how many digits a number has (of 41 at most) -/
def ndig (n : Nat) : Nat := ndF 40 n
/-- the k lowest digits, the highest first -/
def decK (n k : Nat) : List UInt8 := (List.range k).map fun t => UInt8.ofNat (48 + n / 10 ^ (k - 1 - t) % 10)
def dec (n : Nat) : ByteArray := ⟨(decK n (ndig n)).toArray⟩

theorem ndF_pos (f n : Nat) : 1 ≤ ndF f n := by
  cases f with
  | zero => simp [ndF]
  | succ f => simp only [ndF]; split <;> omega
theorem ndF_spec : ∀ (f n : Nat), n < 10 ^ (f + 1) → n < 10 ^ ndF f n ∧ (ndF f n = 1 ∨ 10 ^ (ndF f n - 1) ≤ n) := by
  intro f
  induction f with
  | zero => intro n h; simpa [ndF] using h
  | succ f ih =>
    intro n h
    simp only [ndF]
    by_cases hn : n < 10
    · simp [hn]
    · rw [if_neg hn]
      have h' : n / 10 < 10 ^ (f + 1) := by rw [Nat.pow_succ] at h; omega
      obtain ⟨h1, h2⟩ := ih (n / 10) h'
      have hp := ndF_pos f (n / 10)
      refine ⟨by rw [Nat.pow_succ]; omega, .inr ?_⟩
      rcases h2 with h2 | h2
      · rw [h2]; simp; omega
      · have : ndF f (n / 10) + 1 - 1 = (ndF f (n / 10) - 1) + 1 := by omega
        rw [this, Nat.pow_succ]; omega
theorem ndig_pos (n : Nat) : 1 ≤ ndig n := ndF_pos 40 n
theorem ndig_spec {n : Nat} (h : n < 10 ^ 41) : n < 10 ^ ndig n ∧ (ndig n = 1 ∨ 10 ^ (ndig n - 1) ≤ n) := ndF_spec 40 n h
theorem ndig_eq {n k : Nat} (hn : n < 10 ^ 41) (h1 : 1 ≤ k) (h2 : n < 10 ^ k) (h3 : k = 1 ∨ 10 ^ (k - 1) ≤ n) : ndig n = k := by
  obtain ⟨a, b⟩ := ndig_spec hn
  have hp := ndig_pos n
  rcases Nat.lt_trichotomy (ndig n) k with h | h | h
  · exfalso
    rcases h3 with h3 | h3
    · omega
    · have : 10 ^ ndig n ≤ 10 ^ (k - 1) := Nat.pow_le_pow_right (by decide) (by omega)
      omega
  · exact h
  · exfalso
    rcases b with b | b
    · omega
    · have : 10 ^ k ≤ 10 ^ (ndig n - 1) := Nat.pow_le_pow_right (by decide) (by omega)
      omega
theorem lt128 {n : Nat} (h : n < 340282366920938463463374607431768211456) : n < 10 ^ 39 := Nat.lt_of_lt_of_le h (by decide)
theorem lt41 {n : Nat} (h : n < 340282366920938463463374607431768211456) : n < 10 ^ 41 := Nat.lt_of_lt_of_le h (by decide)
theorem decK_foldl (n k : Nat) (ns : List Int) (hl : ns.length = k) (h : ∀ t, t < k → ns[t]? = some (48 + ((n / 10 ^ (k - 1 - t) % 10 : Nat) : Int))) :
    ns.foldl (fun r n => r.push (UInt8.ofNat n.toNat)) ByteArray.empty = ⟨(decK n k).toArray⟩ := by
  have key : ∀ (l : List Int) (s : ByteArray), l.foldl (fun r n => r.push (UInt8.ofNat n.toNat)) s = ⟨s.data ++ (l.map fun z => UInt8.ofNat z.toNat).toArray⟩ := by
    intro l
    induction l with
    | nil => intro s; simp
    | cons a l ih => intro s; rw [List.foldl_cons, ih]; simp [ByteArray.push]
  rw [key]
  have e : (ns.map fun z => UInt8.ofNat z.toNat) = decK n k := by
    apply List.ext_getElem?
    intro t
    rw [List.getElem?_map]
    unfold decK
    by_cases ht : t < k
    · rw [h t ht, List.getElem?_map, List.getElem?_range ht]
      have : (48 + ((n / 10 ^ (k - 1 - t) % 10 : Nat) : Int)).toNat = 48 + n / 10 ^ (k - 1 - t) % 10 := by
        generalize n / 10 ^ (k - 1 - t) % 10 = z
        omega
      simp only [Option.map_some, this]
    · rw [List.getElem?_eq_none (by omega)]
      simp [ht]
  rw [e]
  have : ByteArray.empty.data = #[] := rfl
  rw [this]; simp
end Go.Proofs.Yteagimnlhopjpaa
namespace Go.Proofs.Yteagimnlhopjpaa
open Go.ChangeShapes Go.WideShapes Go.ChangeAt Go.RowKit Go.Joins
set_option maxRecDepth 100000
set_option linter.unusedVariables false
set_option linter.unusedSimpArgs false
/-- what a call of the closure leaves: a tenth stands in the captured cells; nothing else that was there has turned -/
def LastPost (B : Nat) (n : Int) (w : World) (e : Ending) (w' : World) : Prop :=
  e = .returned (.int .u8 (48 + n % 10)) ∧ Below B w w' ∧ w'.cell? ⟨B, 0, none⟩ = some (.int .u64 (hi (n / 10))) ∧ w'.cell? ⟨B, 1, none⟩ = some (.int .u64 (lo (n / 10))) ∧
    w'.frozen? ⟨B, 0, none⟩ = false ∧ w'.frozen? ⟨B, 1, none⟩ = false ∧ (∀ b o, B < b → b < w.heap.size → w'.cell? ⟨b, o, none⟩ = w.cell? ⟨b, o, none⟩) ∧ (∀ b o, B < b → b < w.heap.size → w'.frozen? ⟨b, o, none⟩ = w.frozen? ⟨b, o, none⟩) ∧ w.heap.size ≤ w'.heap.size
theorem last_post {B : Nat} {n : Int} {w w1 : World} (hB : B < w.heap.size) (hb1 : Below w.heap.size w w1) {a b x y : Value} (k0 : w1.cell? ⟨B, 0, none⟩ = some a) (k1 : w1.cell? ⟨B, 1, none⟩ = some b)
    (g0 : w1.frozen? ⟨B, 0, none⟩ = false) (g1 : w1.frozen? ⟨B, 1, none⟩ = false) (hx : x = .int .u64 (hi (n / 10))) (hy : y = .int .u64 (lo (n / 10))) {t : TypeId} {c : Array Value} {e : Ending} (he : e = .returned (.int .u8 (48 + n % 10))) :
    LastPost B n w e (((w1.setCell ⟨B, 0, none⟩ x).setCell ⟨B, 1, none⟩ y).alloc (.cells c t)) := by
  have hz := hb1.size
  have hB1 : B < w1.heap.size := by omega
  subst hx hy he
  refine ⟨rfl, ?_, ?_, ?_, ?_, ?_, ?_, ?_, ?_⟩
  · exact (((hb1.mono (by omega)).setCell (by simp) _).setCell (by simp) _).alloc (by simp; omega) _
  · simp [go_sem, hB1, k0, k1]
  · simp [go_sem, hB1, k0, k1]
  · simp [go_sem, hB1, g0]
  · simp [go_sem, hB1, g1]
  · intro b o h1 h2
    have h3 : b < w1.heap.size := by omega
    have h4 : ¬ b = B := by omega
    have := hb1.cell (p := ⟨b, o, none⟩) h2
    simp [go_sem, h3, h4, this]
  · intro b o h1 h2
    have h3 : b < w1.heap.size := by omega
    have := hb1.frozen (p := ⟨b, o, none⟩) h2
    simp [go_sem, h3, this]
  · simp; omega
theorem zero_cells (w : World) (C : Array Value) (t : TypeId) (m : Nat) (v : Value) (hC : C = Array.replicate m v) (g j : Nat) (hg : g = w.heap.size) (hj : j < m) : (w.alloc (.cells C t)).cell? ⟨g, j, none⟩ = some v ∧ (w.alloc (.cells C t)).frozen? ⟨g, j, none⟩ = false := by
  subst hC hg
  simp [go_sem, hj]
/-- what the memory holds when k digits stand: q is what is left -/
def TextMem (w : World) (n k q : Nat) (w' : World) : Prop :=
  w'.cell? ⟨w.heap.size, 0, none⟩ = some (.int .u64 (hi (q : Int))) ∧ w'.cell? ⟨w.heap.size, 1, none⟩ = some (.int .u64 (lo (q : Int))) ∧
    w'.frozen? ⟨w.heap.size, 0, none⟩ = false ∧ w'.frozen? ⟨w.heap.size, 1, none⟩ = false ∧
    (∀ j, j < 39 → w'.cell? ⟨w.heap.size + 1, j, none⟩ = some (.int .u8 (if 39 - k ≤ j then 48 + ((n / 10 ^ (38 - j) % 10 : Nat) : Int) else 0))) ∧
    (∀ j, j < 39 → w'.frozen? ⟨w.heap.size + 1, j, none⟩ = false) ∧ Below w.heap.size w w' ∧ w.heap.size + 1 < w'.heap.size
/-- what holds at the loop's head when k digits stand -/
def TextRel (w : World) (n : Nat) (g : Nat) (at' : Value) (w' : World) : Prop :=
  ∃ k : Nat, g = 39 - k ∧ k ≤ 38 ∧ (k = 0 ∨ 0 < n / 10 ^ k) ∧ at' = .int .i64 (39 - k) ∧ TextMem w n k (n / 10 ^ k) w'
theorem text_step {w wr w2 w3 : World} {n k m q r : Nat} {e : Ending} (hk : k ≤ 38) (hm : n / 10 ^ k = m) (hq : (m : Int) / 10 = q) (hr : (m : Int) % 10 = r) (h : TextMem w n k m wr) (hl : LastPost w.heap.size (m : Int) wr e w2)
    (h3 : Below (w2.setCell ⟨w.heap.size + 1, 39 - k - 1, none⟩ (.int .u8 (48 + r))).drew.heap.size (w2.setCell ⟨w.heap.size + 1, 39 - k - 1, none⟩ (.int .u8 (48 + r))).drew w3) : TextMem w n (k + 1) q w3 := by
  obtain ⟨hc0, hc1, hf0, hf1, hd, hfd, hB, hsz⟩ := h
  obtain ⟨-, hB2, c0, c1, f0, f1, hoc, hof, hsz2⟩ := hl
  rw [hq] at c0 c1
  obtain ⟨hcl, hfr⟩ := bcell h3
  have z3 := h3.size
  simp at z3
  have hd0 := hoc (w.heap.size + 1) (39 - k - 1) (by omega) hsz
  rw [hd (39 - k - 1) (by omega), if_neg (by omega)] at hd0
  refine ⟨?_, ?_, ?_, ?_, ?_, ?_, ?_, ?_⟩
  · rw [hcl _ _ (by simp; omega)]; simp [go_sem, c0]
  · rw [hcl _ _ (by simp; omega)]; simp [go_sem, c1]
  · rw [hfr _ _ (by simp; omega)]; simp [go_sem, f0]
  · rw [hfr _ _ (by simp; omega)]; simp [go_sem, f1]
  · intro j hj
    rw [hcl _ _ (by simp; omega)]
    by_cases e : j = 39 - k - 1
    · subst e
      rw [if_pos (by omega)]
      have e2 : 38 - (39 - k - 1) = k := by omega
      rw [e2, hm]
      have e3 : ((m % 10 : Nat) : Int) = r := by omega
      rw [e3]
      simp [go_sem, hd0]
    · have hj' := hoc (w.heap.size + 1) j (by omega) hsz
      rw [hd j hj] at hj'
      have e4 : (39 - (k + 1) ≤ j) ↔ (39 - k ≤ j) := by omega
      simp only [e4]
      have e5 : ¬ 39 - k - 1 = j := by omega
      simp [go_sem, e, e5, hj']
  · intro j hj
    rw [hfr _ _ (by simp; omega)]
    have hj' := hof (w.heap.size + 1) j (by omega) hsz
    rw [hfd j hj] at hj'
    simp [go_sem, hj']
  · exact ((hB.trans hB2).setCell (by simp) _).drew.trans (h3.mono (by simp; omega))
  · omega
theorem addr_add (b o j : Nat) : (⟨b, o, none⟩ : Addr).add j = ⟨b, o + j, none⟩ := by
  unfold Addr.add
  by_cases h : j = 0 <;> simp [h]
end Go.Proofs.Yteagimnlhopjpaa
namespace Go.Proofs.Yteagimnlhopjpaa
open Go.ChangeShapes Go.WideShapes Go.ChangeAt Go.RowKit Go.Joins
set_option maxRecDepth 100000
set_option linter.unusedVariables false
set_option linter.unusedSimpArgs false
def bigN : Nat := 340282366920938463426481119284349108225
theorem dec_big : dec bigN = ⟨#[51, 52, 48, 50, 56, 50, 51, 54, 54, 57, 50, 48, 57, 51, 56, 52, 54, 51, 52, 50, 54, 52, 56, 49, 49, 49, 57, 50, 56, 52, 51, 52, 57, 49, 48, 56, 50, 50, 53]⟩ := by unfold dec; congr 1
theorem dec_zero : dec 0 = ⟨#[48]⟩ := by unfold dec; congr 1
end Go.Proofs.Yteagimnlhopjpaa
namespace Go.Proofs.Yteagimnlhopjpaa
open Go.ChangeShapes Go.WideShapes Go.ChangeAt Go.RowKit Go.Joins
set_option maxRecDepth 100000
set_option linter.unusedVariables false
set_option linter.unusedSimpArgs false
theorem own : ownKnob Try.prog.godebug = none := by kernel_rfl
theorem laidOut : laidOutB Try.prog = true := by kernel_rfl
theorem arr2 {zs : Array Int} (h : zs.size = 2) : ∃ a b, zs = #[a, b] := array2 h
end Go.Proofs.Yteagimnlhopjpaa
namespace Go.Proofs.Yteagimnlhopjpaa
open Go.ChangeShapes Go.WideShapes Go.ChangeAt Go.RowKit Go.Joins
set_option maxRecDepth 100000
set_option linter.unusedVariables false
set_option linter.unusedSimpArgs false
theorem carry {W w1 : World} {p : Addr} {v : Value} (hb : Below W.heap.size W w1) (h : W.cell? p = some v) : w1.cell? p = some v := by
  rw [← h]
  apply hb.cell
  rcases Nat.lt_or_ge p.block W.heap.size with h' | h'
  · exact h'
  · exfalso; unfold World.cell? at h; rw [Array.getElem?_eq_none h'] at h; cases h
open Classical in
noncomputable def addB (a b c d : Int) : Bool := decide (Is128 (V a b + V c d))
open Classical in
noncomputable def addH (a b c d : Int) : Int := if Is128 (V a b + V c d) then hi (V a b + V c d) else 0
open Classical in
noncomputable def addL (a b c d : Int) : Int := if Is128 (V a b + V c d) then lo (V a b + V c d) else 0
theorem addH_comm (a b c d : Int) : addH a b c d = addH c d a b := by unfold addH; rw [Int.add_comm (V a b)]
theorem addL_comm (a b c d : Int) : addL a b c d = addL c d a b := by unfold addL; rw [Int.add_comm (V a b)]
theorem addB_comm (a b c d : Int) : addB a b c d = addB c d a b := by unfold addB; rw [Int.add_comm (V a b)]
def subB (a b c d : Int) : Bool := decide (V c d ≤ V a b)
def subH (a b c d : Int) : Int := if V c d ≤ V a b then hi (V a b - V c d) else 0
def subL (a b c d : Int) : Int := if V c d ≤ V a b then lo (V a b - V c d) else 0
theorem cmpI_swap (x y : Int) : cmpI y x = -cmpI x y := by
  unfold cmpI; repeat' split
  all_goals omega
end Go.Proofs.Yteagimnlhopjpaa
