/- Contract of the document's minus (numbers bit by bit). -/
import Derived.Test.YtdddafhalcbhaaaHrP
namespace Go.Proofs.Ytdddafhalcbhaaa
open Go.ChangeShapes Go.WideShapes Go.ChangeAt Go.RowKit Go.Joins
set_option linter.unusedVariables false
set_option linter.unusedSimpArgs false
def bI : Bool → Int
  | true => 1
  | false => 0
def MinusRel (w : World) (N M : Nat) (g : Nat) (s6 s7 : Value) (wx : World) : Prop :=
  ∃ i : Nat, i + g = 256 ∧ s7 = .int .i64 i ∧ s6 = .int .i64 (bI (borrowB N M i)) ∧ Two w N.testBit M.testBit (low (N - M) i) wx
set_option maxRecDepth 100000 in
set_option maxHeartbeats 2000000 in
theorem minus_ref (N M : Nat) (w : World) (hle : M ≤ N) :
    Calls Try.prog 29 #[.agg (bitsC N.testBit), .agg (bitsC M.testBit)] w fun e w' => e = .returned (.agg (bitsC (low (N - M) 256))) ∧ Below w.heap.size w w' := by
  have hv := zeroB.1
  have HLE := Lib.hid hle
  clear hle
  go_enter Try.func29, Try.ntmps29
  go_wp2
  clear hv
  go_loopg [6, 7] 256 (MinusRel w N M)
  case atStart =>
    refine ⟨0, by omega, rfl, by rw [borrow_zero]; rfl, ?_⟩
    have := two_start w N.testBit M.testBit 51
    have e : low (N - M) 0 = fun _ => false := by funext j; exact low_zero _ _
    rw [e]; exact this
  case round =>
    obtain ⟨i, hig, rfl, rfl, hm⟩ := hrel
    cases gk with
    | zero =>
      obtain rfl : i = 256 := by omega
      have hr := hm.2.2.2.2.1.range
      have ht := BitsF.there hm.2.2.1 hm.2.2.2.1
      have HB := Lib.hid hm.2.2.2.2.2.2
      have HR := Lib.hid hr
      have HT := Lib.hid ht
      clear hm hr ht
      go_wp2_with (first
        | (refine wpList_load_mid rfl 51 (.tmp 5) rfl (w.heap.size + 1 + 1 + 1) 0 rfl (bitsL (low (N - M) 256)) (.array 256 4) HR.out undB rfl (by rw [bitsL_length]; exact zeroB.2) ?_)
        | (refine wpList_store_mid rfl 51 (.tmp 4) (.tmp 35) rfl (w.heap.size + 1 + 1) 0 (bitsC (low (N - M) 256)) rfl rfl (by rw [bitsC_size]; exact HT.out) (by rw [bitsC_size]; exact zeroB.2) (bitsC_one _) ?_))
      refine bodyPost_ret (v := .agg (bitsC (low (N - M) 256))) ?_ rfl ⟨rfl, below_setCells _ (by omega) _ _ _ HB.out⟩
      rw [results_cell rfl]
      simp only [asAddr, Result.andThen]
      exact load_back HT.out
    | succ g =>
      have hi : i < 256 := by omega
      have hiz : (i : Int) < 256 := by omega
      have hc1 := hm.1 i hi
      have hc2 := hm.2.1 i hi
      have hc3 := hm.2.2.2.2.1 i hi
      have hf3 := hm.2.2.2.2.2.1 i hi
      have HM := Lib.hid hm
      have HA := Lib.hid (sub_bit (i := i) HLE.out)
      have HC := Lib.hid (borrow_succ N M i)
      clear hm
      generalize hx : N.testBit i = x at *
      generalize hy : M.testBit i = y at *
      generalize hz : borrowB N M i = z at *
      clear hx hy hz
      cases x <;> cases y <;> cases z
      all_goals
        dsimp only [bI]
        go_wp2
        go_roundg g
        case measure => omega
        case rel =>
          refine ⟨i + 1, by omega, by go_num, by rw [HC.out]; rfl, two_set HM.out hi (fun j hj => ?_)⟩
          rw [low_succ, HA.out]; rfl
end Go.Proofs.Ytdddafhalcbhaaa
