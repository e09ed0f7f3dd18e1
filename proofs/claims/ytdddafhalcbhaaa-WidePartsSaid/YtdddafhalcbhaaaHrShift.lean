/- Contract of the document's shift (numbers bit by bit). -/
import Derived.Test.YtdddafhalcbhaaaHrP
namespace Go.Proofs.Ytdddafhalcbhaaa
open Go.ChangeShapes Go.WideShapes Go.ChangeAt Go.RowKit Go.Joins
set_option linter.unusedVariables false
set_option linter.unusedSimpArgs false
/-- one array that is read, the result's, and the one that is built -/
def One (w : World) (f o : Nat → Bool) (wx : World) : Prop :=
  BitsF wx w.heap.size f ∧ BitsF wx (w.heap.size + 1) (fun _ => false) ∧ FreeF wx (w.heap.size + 1) ∧ BitsF wx (w.heap.size + 1 + 1) o ∧ FreeF wx (w.heap.size + 1 + 1) ∧ Below w.heap.size w wx
theorem one_start (w : World) (f : Nat → Bool) (t : TypeId) : One w f (fun _ => false)
    (((w.alloc (.cells (bitsC f) t)).alloc (.cells (Array.replicate 256 (.bool false)) t)).alloc (.cells (Array.replicate 256 (.bool false)) t)) := by
  have z1 : (w.alloc (.cells (bitsC f) t)).heap.size = w.heap.size + 1 := by simp
  have z2 : ((w.alloc (.cells (bitsC f) t)).alloc (.cells (Array.replicate 256 (.bool false)) t)).heap.size = w.heap.size + 1 + 1 := by simp
  refine ⟨(((BitsF.new w f t).alloc _ _).alloc _ _), ?_, ?_, ?_, ?_, below_alloc3 w _ _ _⟩
  · have := ((BitsF.zero (w.alloc (.cells (bitsC f) t)) t).alloc (Array.replicate 256 (.bool false)) t); rw [z1] at this; exact this
  · have := (FreeF.new (w.alloc (.cells (bitsC f) t)) (Array.replicate 256 (.bool false)) t).alloc (by simp) (Array.replicate 256 (.bool false)) t; rw [z1] at this; exact this
  · have := (BitsF.zero ((w.alloc (.cells (bitsC f) t)).alloc (.cells (Array.replicate 256 (.bool false)) t)) t); rw [z2] at this; exact this
  · have := (FreeF.new ((w.alloc (.cells (bitsC f) t)).alloc (.cells (Array.replicate 256 (.bool false)) t)) (Array.replicate 256 (.bool false)) t); rw [z2] at this; exact this
theorem one_set {w wx : World} {f o o' : Nat → Bool} {i : Nat} {v : Bool} (k : One w f o wx) (hi : i < 256) (e : ∀ j, j < 256 → o' j = if j = i then v else o j) : One w f o' (wx.setCell ⟨w.heap.size + 1 + 1, i, none⟩ (.bool v)) := by
  obtain ⟨a, c, d, g, l, m⟩ := k
  exact ⟨a.other (by omega), c.other (by omega), d.set, g.set hi e, l.set, m.setCell (by simp; omega) _⟩
theorem shift_bit {N k i : Nat} (h : k ≤ i) : (N * 2 ^ k).testBit i = N.testBit (i - k) := by
  rw [Nat.testBit_mul_two_pow]; simp [h]
theorem shift_low (N k j : Nat) : low (N * 2 ^ k) k j = false := by
  unfold low; simp
def ShiftRel (w : World) (N k : Nat) (g : Nat) (s6 : Value) (wx : World) : Prop :=
  ∃ i : Nat, i + g = 256 ∧ k ≤ i ∧ s6 = .int .i64 i ∧ One w N.testBit (low (N * 2 ^ k) i) wx
set_option maxRecDepth 100000 in
set_option maxHeartbeats 2000000 in
theorem shift_ref (N k : Nat) (w : World) (hk : k ≤ 256) :
    Calls Try.prog 33 #[.agg (bitsC N.testBit), .int .i64 k] w fun e w' => e = .returned (.agg (bitsC (low (N * 2 ^ k) 256))) ∧ Below w.heap.size w w' := by
  have hv := zeroB.1
  go_enter Try.func33, Try.ntmps33
  go_wp2
  clear hv
  go_loopg [6] (256 - k) (ShiftRel w N k)
  case atStart =>
    refine ⟨k, by omega, by omega, rfl, ?_⟩
    have := one_start w N.testBit 51
    have e : low (N * 2 ^ k) k = fun _ => false := by funext j; exact shift_low _ _ _
    rw [e]; exact this
  case round =>
    obtain ⟨i, hig, hki, rfl, hm⟩ := hrel
    cases gk with
    | zero =>
      obtain rfl : i = 256 := by omega
      have hr := hm.2.2.2.1.range
      have ht := BitsF.there hm.2.1 hm.2.2.1
      have HB := Lib.hid hm.2.2.2.2.2
      have HR := Lib.hid hr
      have HT := Lib.hid ht
      clear hm hr ht
      go_wp2_with (first
        | (refine wpList_load_mid rfl 51 (.tmp 5) rfl (w.heap.size + 1 + 1) 0 rfl (bitsL (low (N * 2 ^ k) 256)) (.array 256 4) HR.out undB rfl (by rw [bitsL_length]; exact zeroB.2) ?_)
        | (refine wpList_store_mid rfl 51 (.tmp 4) (.tmp 19) rfl (w.heap.size + 1) 0 (bitsC (low (N * 2 ^ k) 256)) rfl rfl (by rw [bitsC_size]; exact HT.out) (by rw [bitsC_size]; exact zeroB.2) (bitsC_one _) ?_))
      refine bodyPost_ret (v := .agg (bitsC (low (N * 2 ^ k) 256))) ?_ rfl ⟨rfl, below_setCells _ (by omega) _ _ _ HB.out⟩
      rw [results_cell rfl]
      simp only [asAddr, Result.andThen]
      exact load_back HT.out
    | succ g =>
      have hi : i < 256 := by omega
      have hiz : (i : Int) < 256 := by omega
      have hik0 : (0 : Int) ≤ (i : Int) - k := by omega
      have hik1 : (i : Int) - k < 256 := by omega
      have hc1 := hm.1 (i - k) (by omega)
      have hc3 := hm.2.2.2.1 i hi
      have hf3 := hm.2.2.2.2.1 i hi
      have HM := Lib.hid hm
      have HA := Lib.hid (shift_bit (N := N) hki)
      clear hm
      go_wp2
      go_roundg g
      case measure => omega
      case rel =>
        refine ⟨i + 1, by omega, by omega, by go_num, one_set HM.out hi (fun j hj => ?_)⟩
        rw [low_succ, HA.out]
end Go.Proofs.Ytdddafhalcbhaaa
