/- Contract of the document's Of and one (a number's bits). -/
import Derived.Test.YtdddafhalcbhaaaHrShift
import Derived.Test.YtdddafhalcbhaaaHwDM
namespace Go.Proofs.Ytdddafhalcbhaaa
open Go.ChangeShapes Go.WideShapes Go.ChangeAt Go.RowKit Go.Joins
set_option linter.unusedVariables false
set_option linter.unusedSimpArgs false
/-- the bits that stand when i rounds are done: i of the lower half, i of the upper one -/
def ofBits (lo' hi' i : Nat) (j : Nat) : Bool := if j < 64 then low lo' i j else low hi' i (j - 64)
theorem of_zero (l h : Nat) : ofBits l h 0 = fun _ => false := by funext j; unfold ofBits; split <;> exact low_zero _ _
theorem of_step1 (l h i j : Nat) (hi : i < 64) : (if j < 64 then low l (i + 1) j else low h i (j - 64)) = if j = i then l.testBit i else ofBits l h i j := by
  unfold ofBits
  by_cases h1 : j < 64
  · rw [if_pos h1, if_pos h1, low_succ]
  · rw [if_neg h1, if_neg h1, if_neg (by omega)]
theorem of_step2 (l h i j : Nat) (hi : i < 64) : ofBits l h (i + 1) j = if j = 64 + i then h.testBit i else (if j < 64 then low l (i + 1) j else low h i (j - 64)) := by
  unfold ofBits
  by_cases h1 : j < 64
  · rw [if_pos h1, if_pos h1, if_neg (by omega)]
  · rw [if_neg h1, if_neg h1, low_succ]
    have e : (j - 64 = i) ↔ (j = 64 + i) := by omega
    simp only [e]
theorem of_end {l h : Nat} (hl : l < 18446744073709551616) (hh : h < 18446744073709551616) (j : Nat) : ofBits l h 64 j = (h * 18446744073709551616 + l).testBit j := by
  have e : h * 18446744073709551616 + l = 2 ^ 64 * h + l := by omega
  rw [e, Nat.testBit_two_pow_mul_add h (by omega)]
  unfold ofBits low
  have e1 : l % 2 ^ 64 = l := Nat.mod_eq_of_lt hl
  have e2 : h % 2 ^ 64 = h := Nat.mod_eq_of_lt hh
  rw [e1, e2]
theorem bit_of {x : Int} {n i : Nat} (hx : Is64 x) (e : x = n) (hi : i < 64) : (bits .and .u64 (x / 2 ^ i) 1 == 1) = n.testBit i := by
  have hp := pow_bd i (by omega)
  have h1 : Is64 (x / 2 ^ i) := by
    unfold Is64 at *
    exact ⟨Int.ediv_nonneg hx.1 (by omega), Int.lt_of_le_of_lt (Int.ediv_le_self _ hx.1) hx.2⟩
  rw [and1 h1, Nat.testBit_eq_decide_div_mod_eq, e]
  have e2 : ((n : Int) / 2 ^ i) = ((n / 2 ^ i : Nat) : Int) := by simp
  rw [e2]
  generalize n / 2 ^ i = z
  rw [Bool.eq_iff_iff]; simp only [decide_eq_true_eq, beq_iff_eq]; omega
def OfRel (w : World) (a b : Int) (l h : Nat) (g : Nat) (s4 : Value) (wx : World) : Prop :=
  ∃ i : Nat, i + g = 64 ∧ s4 = .int .i64 i ∧ wx.cell? ⟨w.heap.size, 0, none⟩ = some (.int .u64 a) ∧ wx.cell? ⟨w.heap.size, 1, none⟩ = some (.int .u64 b) ∧
    BitsF wx (w.heap.size + 1) (fun _ => false) ∧ FreeF wx (w.heap.size + 1) ∧ BitsF wx (w.heap.size + 1 + 1) (ofBits l h i) ∧ FreeF wx (w.heap.size + 1 + 1) ∧ Below w.heap.size w wx
set_option maxRecDepth 100000 in
set_option maxHeartbeats 2000000 in
theorem of_ref (a b : Int) (l h : Nat) (w : World) (ha : Is64 a) (hb : Is64 b) (ea : a = h) (eb : b = l) :
    Calls Try.prog 28 #[.agg #[.int .u64 a, .int .u64 b]] w fun e w' => e = .returned (.agg (bitsC (ofBits l h 64))) ∧ Below w.heap.size w w' := by
  have hv := zeroB.1
  have EA := Lib.hid ea
  have EB := Lib.hid eb
  clear ea eb
  go_enter Try.func28, Try.ntmps28
  go_wp2
  clear hv
  go_loopg [4] 64 (OfRel w a b l h)
  case atStart =>
    have z1 : (w.alloc (.cells #[.int .u64 a, .int .u64 b] 24)).heap.size = w.heap.size + 1 := by simp
    have z2 : ((w.alloc (.cells #[.int .u64 a, .int .u64 b] 24)).alloc (.cells (Array.replicate 256 (.bool false)) 51)).heap.size = w.heap.size + 1 + 1 := by simp
    refine ⟨0, by omega, rfl, by simp [go_sem], by simp [go_sem], ?_, ?_, ?_, ?_, below_alloc3 w _ _ _⟩
    · have := ((BitsF.zero (w.alloc (.cells #[.int .u64 a, .int .u64 b] 24)) 51).alloc (Array.replicate 256 (.bool false)) 51); rw [z1] at this; exact this
    · have := (FreeF.new (w.alloc (.cells #[.int .u64 a, .int .u64 b] 24)) (Array.replicate 256 (.bool false)) 51).alloc (by simp) (Array.replicate 256 (.bool false)) 51; rw [z1] at this; exact this
    · have := (BitsF.zero ((w.alloc (.cells #[.int .u64 a, .int .u64 b] 24)).alloc (.cells (Array.replicate 256 (.bool false)) 51)) 51); rw [z2] at this; rw [of_zero]; exact this
    · have := (FreeF.new ((w.alloc (.cells #[.int .u64 a, .int .u64 b] 24)).alloc (.cells (Array.replicate 256 (.bool false)) 51)) (Array.replicate 256 (.bool false)) 51); rw [z2] at this; exact this
  case round =>
    obtain ⟨i, hig, rfl, k0, k1, hm⟩ := hrel
    cases gk with
    | zero =>
      obtain rfl : i = 64 := by omega
      have hr := hm.2.2.1.range
      have ht := BitsF.there hm.1 hm.2.1
      have HB := Lib.hid hm.2.2.2.2
      have HR := Lib.hid hr
      have HT := Lib.hid ht
      clear hm hr ht
      go_wp2_with (first
        | (refine wpList_load_mid rfl 51 (.tmp 3) rfl (w.heap.size + 1 + 1) 0 rfl (bitsL (ofBits l h 64)) (.array 256 4) HR.out undB rfl (by rw [bitsL_length]; exact zeroB.2) ?_)
        | (refine wpList_store_mid rfl 51 (.tmp 2) (.tmp 28) rfl (w.heap.size + 1) 0 (bitsC (ofBits l h 64)) rfl rfl (by rw [bitsC_size]; exact HT.out) (by rw [bitsC_size]; exact zeroB.2) (bitsC_one _) ?_))
      refine bodyPost_ret (v := .agg (bitsC (ofBits l h 64))) ?_ rfl ⟨rfl, below_setCells _ (by omega) _ _ _ HB.out⟩
      rw [results_cell rfl]
      simp only [asAddr, Result.andThen]
      exact load_back HT.out
    | succ g =>
      have hi : i < 64 := by omega
      have hiz : (i : Int) < 64 := by omega
      have hi2 : (i : Int) < 256 := by omega
      have hi3 : 64 + (i : Int) < 256 := by omega
      have hc3 := hm.2.2.1 i (by omega)
      have hf3 := hm.2.2.2.1 i (by omega)
      have hc4 := hm.2.2.1 (64 + i) (by omega)
      have hf4 := hm.2.2.2.1 (64 + i) (by omega)
      have HM := Lib.hid hm
      have B1 := Lib.hid (bit_of hb EB.out hi)
      have B2 := Lib.hid (bit_of ha EA.out hi)
      clear hm
      go_wp2
      go_roundg g
      case measure => omega
      case rel =>
        obtain ⟨a1, a2, a3, a4, a5⟩ := HM.out
        rw [B1.out, B2.out]
        refine ⟨i + 1, by omega, by go_num, by simp [go_sem, k0], by simp [go_sem, k1], (a1.other (by omega)).other (by omega), a2.set.set, ?_, a4.set.set, (a5.setCell (by simp; omega) _).setCell (by simp; omega) _⟩
        exact (a3.set (g := fun j => if j < 64 then low l (i + 1) j else low h i (j - 64)) (by omega) (fun j hj => of_step1 l h i j hi)).set (by omega) (fun j hj => of_step2 l h i j hi)
end Go.Proofs.Ytdddafhalcbhaaa
