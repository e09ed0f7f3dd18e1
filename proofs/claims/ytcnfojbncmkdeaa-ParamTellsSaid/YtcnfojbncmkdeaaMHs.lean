/- Contract of the document's shift (numbers bit by bit). Contract of the document's Of and one (a number's bits). Contract of the document's Back (the number of bits). -/
import Derived.Test.YtcnfojbncmkdeaaMHr
import Derived.Test.YtcnfojbncmkdeaaMHw
namespace Go.Proofs.Ytcnfojbncmkdeaa
open Go.ChangeShapes Go.WideShapes Go.ChangeAt Go.RowKit Go.Joins
set_option maxRecDepth 100000
set_option linter.unusedVariables false
set_option linter.unusedSimpArgs false
/-- one array that is read, the result's, and the one that is built -/
def One (w : World) (f o : Nat → Bool) (wx : World) : Prop :=
  BitsF wx w.heap.size f ∧ BitsF wx (w.heap.size + 1) (fun _ => false) ∧ FreeF wx (w.heap.size + 1) ∧ BitsF wx (w.heap.size + 1 + 1) o ∧ FreeF wx (w.heap.size + 1 + 1) ∧ Below w.heap.size w wx
theorem one_start (w : World) (f : Nat → Bool) (t : TypeId) : One w f (fun _ => false)
    (((w.alloc (.cells (bitsC f) t)).alloc (.cells (Array.replicate 256 (.bool false)) t)).alloc (.cells (Array.replicate 256 (.bool false)) t)) := by
  have z1 : (w.alloc (.cells (bitsC f) t)).heap.size = w.heap.size + 1 := by simp
  have z2 : ((w.alloc (.cells (bitsC f) t)).alloc (.cells (Array.replicate 256 (.bool false)) t)).heap.size = w.heap.size + 1 + 1 := by simp
  refine ⟨(((BitsF.new w f t).alloc _ _).alloc _ _), ?_, ?_, ?_, ?_, below_alloc3 w _ _ _⟩
  · have := ((BitsF.zero (w.alloc (.cells (bitsC f) t)) t).alloc (Array.replicate 256 (.bool false)) t); rw [z1] at this; exact this
  · have := (FreeF.new (w.alloc (.cells (bitsC f) t)) (Array.replicate 256 (.bool false)) t).alloc (by simp) (Array.replicate 256 (.bool false)) t; rw [z1] at this; exact this
  · have := (BitsF.zero ((w.alloc (.cells (bitsC f) t)).alloc (.cells (Array.replicate 256 (.bool false)) t)) t); rw [z2] at this; exact this
  · have := (FreeF.new ((w.alloc (.cells (bitsC f) t)).alloc (.cells (Array.replicate 256 (.bool false)) t)) (Array.replicate 256 (.bool false)) t); rw [z2] at this; exact this
theorem one_set {w wx : World} {f o o' : Nat → Bool} {i : Nat} {v : Bool} (k : One w f o wx) (hi : i < 256) (e : ∀ j, j < 256 → o' j = if j = i then v else o j) : One w f o' (wx.setCell ⟨w.heap.size + 1 + 1, i, none⟩ (.bool v)) := by
  obtain ⟨a, c, d, g, l, m⟩ := k
  exact ⟨a.other (by omega), c.other (by omega), d.set, g.set hi e, l.set, m.setCell (by simp; omega) _⟩
theorem shift_bit {N k i : Nat} (h : k ≤ i) : (N * 2 ^ k).testBit i = N.testBit (i - k) := by
  rw [Nat.testBit_mul_two_pow]; simp [h]
theorem shift_low (N k j : Nat) : low (N * 2 ^ k) k j = false := by
  unfold low; simp
def ShiftRel (w : World) (N k : Nat) (g : Nat) (s6 : Value) (wx : World) : Prop :=
  ∃ i : Nat, i + g = 256 ∧ k ≤ i ∧ s6 = .int .i64 i ∧ One w N.testBit (low (N * 2 ^ k) i) wx
set_option maxRecDepth 100000 in
set_option maxHeartbeats 2000000 in
theorem shift_ref (N k : Nat) (w : World) (hk : k ≤ 256) :
    Calls Try.prog 43 #[.agg (bitsC N.testBit), .int .i64 k] w fun e w' => e = .returned (.agg (bitsC (low (N * 2 ^ k) 256))) ∧ Below w.heap.size w w' := by
  have hv := zeroB.1
  go_enter Try.func43, Try.ntmps43
  go_wp2
  clear hv
  go_loopg [6] (256 - k) (ShiftRel w N k)
  case atStart =>
    refine ⟨k, by omega, by omega, rfl, ?_⟩
    have := one_start w N.testBit 59
    have e : low (N * 2 ^ k) k = fun _ => false := by funext j; exact shift_low _ _ _
    rw [e]; exact this
  case round =>
    obtain ⟨i, hig, hki, rfl, hm⟩ := hrel
    cases gk with
    | zero =>
      obtain rfl : i = 256 := by omega
      have hr := hm.2.2.2.1.range
      have ht := BitsF.there hm.2.1 hm.2.2.1
      have HB := Lib.hid hm.2.2.2.2.2
      have HR := Lib.hid hr
      have HT := Lib.hid ht
      clear hm hr ht
      go_wp2_with (first
        | (refine wpList_load_mid rfl 59 (.tmp 5) rfl (w.heap.size + 1 + 1) 0 rfl (bitsL (low (N * 2 ^ k) 256)) (.array 256 4) HR.out undB rfl (by rw [bitsL_length]; exact zeroB.2) ?_)
        | (refine wpList_store_mid rfl 59 (.tmp 4) (.tmp 19) rfl (w.heap.size + 1) 0 (bitsC (low (N * 2 ^ k) 256)) rfl rfl (by rw [bitsC_size]; exact HT.out) (by rw [bitsC_size]; exact zeroB.2) (bitsC_one _) ?_))
      refine bodyPost_ret (v := .agg (bitsC (low (N * 2 ^ k) 256))) ?_ rfl ⟨rfl, below_setCells _ (by omega) _ _ _ HB.out⟩
      rw [results_cell rfl]
      simp only [asAddr, Result.andThen]
      exact load_back HT.out
    | succ g =>
      have hi : i < 256 := by omega
      have hiz : (i : Int) < 256 := by omega
      have hik0 : (0 : Int) ≤ (i : Int) - k := by omega
      have hik1 : (i : Int) - k < 256 := by omega
      have hc1 := hm.1 (i - k) (by omega)
      have hc3 := hm.2.2.2.1 i hi
      have hf3 := hm.2.2.2.2.1 i hi
      have HM := Lib.hid hm
      have HA := Lib.hid (shift_bit (N := N) hki)
      clear hm
      go_wp2
      go_roundg g
      case measure => omega
      case rel =>
        refine ⟨i + 1, by omega, by omega, by go_num, one_set HM.out hi (fun j hj => ?_)⟩
        rw [low_succ, HA.out]
end Go.Proofs.Ytcnfojbncmkdeaa
namespace Go.Proofs.Ytcnfojbncmkdeaa
open Go.ChangeShapes Go.WideShapes Go.ChangeAt Go.RowKit Go.Joins
set_option maxRecDepth 100000
set_option linter.unusedVariables false
set_option linter.unusedSimpArgs false
/-- the bits that stand when i rounds are done: i of the lower half, i of the upper one -/
def ofBits (lo' hi' i : Nat) (j : Nat) : Bool := if j < 64 then low lo' i j else low hi' i (j - 64)
theorem of_zero (l h : Nat) : ofBits l h 0 = fun _ => false := by funext j; unfold ofBits; split <;> exact low_zero _ _
theorem of_step1 (l h i j : Nat) (hi : i < 64) : (if j < 64 then low l (i + 1) j else low h i (j - 64)) = if j = i then l.testBit i else ofBits l h i j := by
  unfold ofBits
  by_cases h1 : j < 64
  · rw [if_pos h1, if_pos h1, low_succ]
  · rw [if_neg h1, if_neg h1, if_neg (by omega)]
theorem of_step2 (l h i j : Nat) (hi : i < 64) : ofBits l h (i + 1) j = if j = 64 + i then h.testBit i else (if j < 64 then low l (i + 1) j else low h i (j - 64)) := by
  unfold ofBits
  by_cases h1 : j < 64
  · rw [if_pos h1, if_pos h1, if_neg (by omega)]
  · rw [if_neg h1, if_neg h1, low_succ]
    have e : (j - 64 = i) ↔ (j = 64 + i) := by omega
    simp only [e]
theorem of_end {l h : Nat} (hl : l < 18446744073709551616) (hh : h < 18446744073709551616) (j : Nat) : ofBits l h 64 j = (h * 18446744073709551616 + l).testBit j := by
  have e : h * 18446744073709551616 + l = 2 ^ 64 * h + l := by omega
  rw [e, Nat.testBit_two_pow_mul_add h (by omega)]
  unfold ofBits low
  have e1 : l % 2 ^ 64 = l := Nat.mod_eq_of_lt hl
  have e2 : h % 2 ^ 64 = h := Nat.mod_eq_of_lt hh
  rw [e1, e2]
theorem bit_of {x : Int} {n i : Nat} (hx : Is64 x) (e : x = n) (hi : i < 64) : (bits .and .u64 (x / 2 ^ i) 1 == 1) = n.testBit i := by
  have hp := pow_bd i (by omega)
  have h1 : Is64 (x / 2 ^ i) := by
    unfold Is64 at *
    exact ⟨Int.ediv_nonneg hx.1 (by omega), Int.lt_of_le_of_lt (Int.ediv_le_self _ hx.1) hx.2⟩
  rw [and1 h1, Nat.testBit_eq_decide_div_mod_eq, e]
  have e2 : ((n : Int) / 2 ^ i) = ((n / 2 ^ i : Nat) : Int) := by simp
  rw [e2]
  generalize n / 2 ^ i = z
  rw [Bool.eq_iff_iff]; simp only [decide_eq_true_eq, beq_iff_eq]; omega
def OfRel (w : World) (a b : Int) (l h : Nat) (g : Nat) (s4 : Value) (wx : World) : Prop :=
  ∃ i : Nat, i + g = 64 ∧ s4 = .int .i64 i ∧ wx.cell? ⟨w.heap.size, 0, none⟩ = some (.int .u64 a) ∧ wx.cell? ⟨w.heap.size, 1, none⟩ = some (.int .u64 b) ∧
    BitsF wx (w.heap.size + 1) (fun _ => false) ∧ FreeF wx (w.heap.size + 1) ∧ BitsF wx (w.heap.size + 1 + 1) (ofBits l h i) ∧ FreeF wx (w.heap.size + 1 + 1) ∧ Below w.heap.size w wx
set_option maxRecDepth 100000 in
set_option maxHeartbeats 2000000 in
theorem of_ref (a b : Int) (l h : Nat) (w : World) (ha : Is64 a) (hb : Is64 b) (ea : a = h) (eb : b = l) :
    Calls Try.prog 44 #[.agg #[.int .u64 a, .int .u64 b]] w fun e w' => e = .returned (.agg (bitsC (ofBits l h 64))) ∧ Below w.heap.size w w' := by
  have hv := zeroB.1
  have EA := Lib.hid ea
  have EB := Lib.hid eb
  clear ea eb
  go_enter Try.func44, Try.ntmps44
  go_wp2
  clear hv
  go_loopg [4] 64 (OfRel w a b l h)
  case atStart =>
    have z1 : (w.alloc (.cells #[.int .u64 a, .int .u64 b] 66)).heap.size = w.heap.size + 1 := by simp
    have z2 : ((w.alloc (.cells #[.int .u64 a, .int .u64 b] 66)).alloc (.cells (Array.replicate 256 (.bool false)) 59)).heap.size = w.heap.size + 1 + 1 := by simp
    refine ⟨0, by omega, rfl, by simp [go_sem], by simp [go_sem], ?_, ?_, ?_, ?_, below_alloc3 w _ _ _⟩
    · have := ((BitsF.zero (w.alloc (.cells #[.int .u64 a, .int .u64 b] 66)) 59).alloc (Array.replicate 256 (.bool false)) 59); rw [z1] at this; exact this
    · have := (FreeF.new (w.alloc (.cells #[.int .u64 a, .int .u64 b] 66)) (Array.replicate 256 (.bool false)) 59).alloc (by simp) (Array.replicate 256 (.bool false)) 59; rw [z1] at this; exact this
    · have := (BitsF.zero ((w.alloc (.cells #[.int .u64 a, .int .u64 b] 66)).alloc (.cells (Array.replicate 256 (.bool false)) 59)) 59); rw [z2] at this; rw [of_zero]; exact this
    · have := (FreeF.new ((w.alloc (.cells #[.int .u64 a, .int .u64 b] 66)).alloc (.cells (Array.replicate 256 (.bool false)) 59)) (Array.replicate 256 (.bool false)) 59); rw [z2] at this; exact this
  case round =>
    obtain ⟨i, hig, rfl, k0, k1, hm⟩ := hrel
    cases gk with
    | zero =>
      obtain rfl : i = 64 := by omega
      have hr := hm.2.2.1.range
      have ht := BitsF.there hm.1 hm.2.1
      have HB := Lib.hid hm.2.2.2.2
      have HR := Lib.hid hr
      have HT := Lib.hid ht
      clear hm hr ht
      go_wp2_with (first
        | (refine wpList_load_mid rfl 59 (.tmp 3) rfl (w.heap.size + 1 + 1) 0 rfl (bitsL (ofBits l h 64)) (.array 256 4) HR.out undB rfl (by rw [bitsL_length]; exact zeroB.2) ?_)
        | (refine wpList_store_mid rfl 59 (.tmp 2) (.tmp 28) rfl (w.heap.size + 1) 0 (bitsC (ofBits l h 64)) rfl rfl (by rw [bitsC_size]; exact HT.out) (by rw [bitsC_size]; exact zeroB.2) (bitsC_one _) ?_))
      refine bodyPost_ret (v := .agg (bitsC (ofBits l h 64))) ?_ rfl ⟨rfl, below_setCells _ (by omega) _ _ _ HB.out⟩
      rw [results_cell rfl]
      simp only [asAddr, Result.andThen]
      exact load_back HT.out
    | succ g =>
      have hi : i < 64 := by omega
      have hiz : (i : Int) < 64 := by omega
      have hi2 : (i : Int) < 256 := by omega
      have hi3 : 64 + (i : Int) < 256 := by omega
      have hc3 := hm.2.2.1 i (by omega)
      have hf3 := hm.2.2.2.1 i (by omega)
      have hc4 := hm.2.2.1 (64 + i) (by omega)
      have hf4 := hm.2.2.2.1 (64 + i) (by omega)
      have HM := Lib.hid hm
      have B1 := Lib.hid (bit_of hb EB.out hi)
      have B2 := Lib.hid (bit_of ha EA.out hi)
      clear hm
      go_wp2
      go_roundg g
      case measure => omega
      case rel =>
        obtain ⟨a1, a2, a3, a4, a5⟩ := HM.out
        rw [B1.out, B2.out]
        refine ⟨i + 1, by omega, by go_num, by simp [go_sem, k0], by simp [go_sem, k1], (a1.other (by omega)).other (by omega), a2.set.set, ?_, a4.set.set, (a5.setCell (by simp; omega) _).setCell (by simp; omega) _⟩
        exact (a3.set (g := fun j => if j < 64 then low l (i + 1) j else low h i (j - 64)) (by omega) (fun j hj => of_step1 l h i j hi)).set (by omega) (fun j hj => of_step2 l h i j hi)
end Go.Proofs.Ytcnfojbncmkdeaa
namespace Go.Proofs.Ytcnfojbncmkdeaa
open Go.ChangeShapes Go.WideShapes Go.ChangeAt Go.RowKit Go.Joins
set_option maxRecDepth 100000
set_option linter.unusedVariables false
set_option linter.unusedSimpArgs false
theorem or_pow {x : Nat} {k : Nat} (hk : k ≤ 63) (hx : x < 2 ^ k) : bits .or .u64 (x : Int) (IntKind.u64.wrap (2 ^ k)) = ((x + 2 ^ k : Nat) : Int) := by
  have hp : (2 : Nat) ^ k ≤ 2 ^ 63 := Nat.pow_le_pow_right (by decide) hk
  have e : IntKind.u64.wrap ((2 : Int) ^ k) = ((2 ^ k : Nat) : Int) := by
    have := pow_bd k hk
    rw [IntKind.wrap_u64]
    have e : ((2 ^ k : Nat) : Int) = (2 : Int) ^ k := by simp
    rw [e]; omega
  rw [e, bits_or_u64_nat _ _ (by omega) (by omega), Nat.or_comm]
  have := Nat.two_pow_add_eq_or_of_lt hx 1
  rw [Nat.mul_one] at this
  rw [← this, Nat.add_comm]
theorem mod_bit (N i : Nat) : N % 2 ^ (i + 1) = N % 2 ^ i + 2 ^ i * (N.testBit i).toNat := by
  rw [Nat.mod_pow_succ, bit_div]
theorem mod_no {N i : Nat} (h : N.testBit i = false) : N % 2 ^ (i + 1) = N % 2 ^ i := by rw [mod_bit, h]; simp
theorem mod_yes {N i : Nat} (h : N.testBit i = true) : N % 2 ^ (i + 1) = N % 2 ^ i + 2 ^ i := by rw [mod_bit, h]; simp
theorem hi_nat (n : Nat) : hi (n : Int) = ((n / 18446744073709551616 : Nat) : Int) := by unfold hi; simp
theorem lo_nat (n : Nat) : lo (n : Int) = ((n % 18446744073709551616 : Nat) : Int) := by unfold lo; simp
theorem acc_lo {x i : Nat} (hi' : i < 64) (hx : x < 2 ^ i) : bits .or .u64 (lo (x : Int)) (IntKind.u64.wrap (2 ^ i)) = lo ((x + 2 ^ i : Nat) : Int) ∧ hi (x : Int) = hi ((x + 2 ^ i : Nat) : Int) := by
  have hp : (2 : Nat) ^ i ≤ 2 ^ 63 := Nat.pow_le_pow_right (by decide) (by omega)
  rw [lo_nat, lo_nat, hi_nat, hi_nat]
  have e1 : x % 18446744073709551616 = x := Nat.mod_eq_of_lt (by omega)
  have e2 : (x + 2 ^ i) % 18446744073709551616 = x + 2 ^ i := Nat.mod_eq_of_lt (by omega)
  rw [e1, e2]
  refine ⟨or_pow (by omega) hx, ?_⟩
  rw [Nat.div_eq_of_lt (by omega), Nat.div_eq_of_lt (by omega)]
theorem acc_hi {x i : Nat} (h1 : 64 ≤ i) (h2 : i < 128) (hx : x < 2 ^ i) : bits .or .u64 (hi (x : Int)) (IntKind.u64.wrap (2 ^ (i - 64))) = hi ((x + 2 ^ i : Nat) : Int) ∧ lo (x : Int) = lo ((x + 2 ^ i : Nat) : Int) := by
  have e : (2 : Nat) ^ i = 2 ^ (i - 64) * 18446744073709551616 := by
    have : i = (i - 64) + 64 := by omega
    rw [this, Nat.pow_add]; simp
  have hd : x / 18446744073709551616 < 2 ^ (i - 64) := by rw [Nat.div_lt_iff_lt_mul (by decide)]; omega
  rw [hi_nat, hi_nat, lo_nat, lo_nat, e]
  refine ⟨?_, ?_⟩
  · rw [or_pow (by omega) hd, Nat.add_mul_div_right _ _ (by decide)]
  · rw [Nat.add_mul_mod_self_right]
def BackRel (w : World) (N : Nat) (g : Nat) (s5 : Value) (wx : World) : Prop :=
  ∃ i : Nat, i + g = 256 ∧ s5 = .int .i64 i ∧ N % 2 ^ i < 2 ^ 128 ∧ BitsF wx w.heap.size N.testBit ∧
    (∃ u0 u1, wx.cell? ⟨w.heap.size + 1, 0, none⟩ = some u0 ∧ wx.cell? ⟨w.heap.size + 1, 1, none⟩ = some u1) ∧ wx.frozen? ⟨w.heap.size + 1, 0, none⟩ = false ∧ wx.frozen? ⟨w.heap.size + 1, 1, none⟩ = false ∧
    wx.cell? ⟨w.heap.size + 1 + 1, 0, none⟩ = some (.int .u64 (hi ((N % 2 ^ i : Nat) : Int))) ∧ wx.cell? ⟨w.heap.size + 1 + 1, 1, none⟩ = some (.int .u64 (lo ((N % 2 ^ i : Nat) : Int))) ∧
    wx.frozen? ⟨w.heap.size + 1 + 1, 0, none⟩ = false ∧ wx.frozen? ⟨w.heap.size + 1 + 1, 1, none⟩ = false ∧ Below w.heap.size w wx
open Classical in
noncomputable def backR (N : Nat) : Value := if N < 2 ^ 128 then .tuple #[.agg #[.int .u64 (hi (N : Int)), .int .u64 (lo (N : Int))], .bool true] else .tuple #[.agg #[.int .u64 0, .int .u64 0], .bool false]
theorem backR_yes {N : Nat} (h : N < 2 ^ 128) : backR N = .tuple #[.agg #[.int .u64 (hi (N : Int)), .int .u64 (lo (N : Int))], .bool true] := if_pos h
theorem backR_no {N : Nat} (h : ¬ N < 2 ^ 128) : backR N = .tuple #[.agg #[.int .u64 0, .int .u64 0], .bool false] := if_neg h
end Go.Proofs.Ytcnfojbncmkdeaa
