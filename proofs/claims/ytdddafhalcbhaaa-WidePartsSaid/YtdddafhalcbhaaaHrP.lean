/- Contract of the document's plus (numbers bit by bit). -/
import Derived.Test.YtdddafhalcbhaaaHrB
import Derived.Test.YtdddafhalcbhaaaHrM
namespace Go.Proofs.Ytdddafhalcbhaaa
open Go.ChangeShapes Go.WideShapes Go.ChangeAt Go.RowKit Go.Joins
set_option linter.unusedVariables false
set_option linter.unusedSimpArgs false
/-- two arrays that are read, the result's, and the one that is built -/
def Two (w : World) (f h o : Nat → Bool) (wx : World) : Prop :=
  BitsF wx w.heap.size f ∧ BitsF wx (w.heap.size + 1) h ∧ BitsF wx (w.heap.size + 1 + 1) (fun _ => false) ∧ FreeF wx (w.heap.size + 1 + 1) ∧ BitsF wx (w.heap.size + 1 + 1 + 1) o ∧ FreeF wx (w.heap.size + 1 + 1 + 1) ∧ Below w.heap.size w wx
theorem two_start (w : World) (f h : Nat → Bool) (t : TypeId) : Two w f h (fun _ => false)
    ((((w.alloc (.cells (bitsC f) t)).alloc (.cells (bitsC h) t)).alloc (.cells (Array.replicate 256 (.bool false)) t)).alloc (.cells (Array.replicate 256 (.bool false)) t)) := by
  have z1 : (w.alloc (.cells (bitsC f) t)).heap.size = w.heap.size + 1 := by simp
  have z2 : ((w.alloc (.cells (bitsC f) t)).alloc (.cells (bitsC h) t)).heap.size = w.heap.size + 1 + 1 := by simp
  have z3 : (((w.alloc (.cells (bitsC f) t)).alloc (.cells (bitsC h) t)).alloc (.cells (Array.replicate 256 (.bool false)) t)).heap.size = w.heap.size + 1 + 1 + 1 := by simp
  refine ⟨((((BitsF.new w f t).alloc _ _).alloc _ _).alloc _ _), ?_, ?_, ?_, ?_, ?_, ?_⟩
  · have := (((BitsF.new (w.alloc (.cells (bitsC f) t)) h t).alloc (Array.replicate 256 (.bool false)) t).alloc (Array.replicate 256 (.bool false)) t); rw [z1] at this; exact this
  · have := ((BitsF.zero ((w.alloc (.cells (bitsC f) t)).alloc (.cells (bitsC h) t)) t).alloc (Array.replicate 256 (.bool false)) t); rw [z2] at this; exact this
  · have := (FreeF.new ((w.alloc (.cells (bitsC f) t)).alloc (.cells (bitsC h) t)) (Array.replicate 256 (.bool false)) t).alloc (by simp) (Array.replicate 256 (.bool false)) t; rw [z2] at this; exact this
  · have := (BitsF.zero (((w.alloc (.cells (bitsC f) t)).alloc (.cells (bitsC h) t)).alloc (.cells (Array.replicate 256 (.bool false)) t)) t); rw [z3] at this; exact this
  · have := (FreeF.new (((w.alloc (.cells (bitsC f) t)).alloc (.cells (bitsC h) t)).alloc (.cells (Array.replicate 256 (.bool false)) t)) (Array.replicate 256 (.bool false)) t); rw [z3] at this; exact this
  · exact (below_alloc3 w _ _ _).alloc (by simp; omega) _
theorem two_set {w wx : World} {f h o o' : Nat → Bool} {i : Nat} {v : Bool} (k : Two w f h o wx) (hi : i < 256) (e : ∀ j, j < 256 → o' j = if j = i then v else o j) : Two w f h o' (wx.setCell ⟨w.heap.size + 1 + 1 + 1, i, none⟩ (.bool v)) := by
  obtain ⟨a, b, c, d, g, l, m⟩ := k
  exact ⟨a.other (by omega), b.other (by omega), c.other (by omega), d.set, g.set hi e, l.set, m.setCell (by simp; omega) _⟩
def PlusRel (w : World) (N M : Nat) (g : Nat) (s6 s7 : Value) (wx : World) : Prop :=
  ∃ i : Nat, i + g = 256 ∧ s7 = .int .i64 i ∧ s6 = .bool (carryB N M i) ∧ Two w N.testBit M.testBit (low (N + M) i) wx
set_option maxRecDepth 100000 in
set_option maxHeartbeats 2000000 in
theorem plus_ref (N M : Nat) (w : World) :
    Calls Try.prog 27 #[.agg (bitsC N.testBit), .agg (bitsC M.testBit)] w fun e w' => e = .returned (.agg (bitsC (low (N + M) 256))) ∧ Below w.heap.size w w' := by
  have hv := zeroB.1
  go_enter Try.func27, Try.ntmps27
  go_wp2
  clear hv
  go_loopg [6, 7] 256 (PlusRel w N M)
  case atStart =>
    refine ⟨0, by omega, rfl, by rw [carry_zero], ?_⟩
    have := two_start w N.testBit M.testBit 51
    have e : low (N + M) 0 = fun _ => false := by funext j; exact low_zero _ _
    rw [e]; exact this
  case round =>
    obtain ⟨i, hig, rfl, rfl, hm⟩ := hrel
    cases gk with
    | zero =>
      obtain rfl : i = 256 := by omega
      have hr := hm.2.2.2.2.1.range
      have ht := BitsF.there hm.2.2.1 hm.2.2.2.1
      have HB := Lib.hid hm.2.2.2.2.2.2
      have HR := Lib.hid hr
      have HT := Lib.hid ht
      clear hm hr ht
      go_wp2_with (first
        | (refine wpList_load_mid rfl 51 (.tmp 5) rfl (w.heap.size + 1 + 1 + 1) 0 rfl (bitsL (low (N + M) 256)) (.array 256 4) HR.out undB rfl (by rw [bitsL_length]; exact zeroB.2) ?_)
        | (refine wpList_store_mid rfl 51 (.tmp 4) (.tmp 33) rfl (w.heap.size + 1 + 1) 0 (bitsC (low (N + M) 256)) rfl rfl (by rw [bitsC_size]; exact HT.out) (by rw [bitsC_size]; exact zeroB.2) (bitsC_one _) ?_))
      refine bodyPost_ret (v := .agg (bitsC (low (N + M) 256))) ?_ rfl ⟨rfl, below_setCells _ (by omega) _ _ _ HB.out⟩
      rw [results_cell rfl]
      simp only [asAddr, Result.andThen]
      exact load_back HT.out
    | succ g =>
      have hi : i < 256 := by omega
      have hiz : (i : Int) < 256 := by omega
      have hc1 := hm.1 i hi
      have hc2 := hm.2.1 i hi
      have hc3 := hm.2.2.2.2.1 i hi
      have hf3 := hm.2.2.2.2.2.1 i hi
      have HM := Lib.hid hm
      have HA := Lib.hid (add_bit N M i)
      have HC := Lib.hid (carry_succ N M i)
      clear hm
      generalize hx : N.testBit i = x at *
      generalize hy : M.testBit i = y at *
      generalize hz : carryB N M i = z at *
      clear hx hy hz
      cases x <;> cases y <;> cases z
      all_goals
        go_wp2
        go_roundg g
        case measure => omega
        case rel =>
          refine ⟨i + 1, by omega, by go_num, by rw [HC.out]; rfl, two_set HM.out hi (fun j hj => ?_)⟩
          rw [low_succ, HA.out]; rfl
end Go.Proofs.Ytdddafhalcbhaaa
