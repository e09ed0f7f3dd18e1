/- Contract of the document's cmp (numbers bit by bit). -/
import Derived.Test.YtdddafhalcbhaaaHrP
import Derived.Deep.QuietTactic
import Derived.BigQuiet
namespace Go.Proofs.Ytdddafhalcbhaaa
open Go.ChangeShapes Go.WideShapes Go.ChangeAt Go.RowKit Go.Joins
set_option linter.unusedVariables false
set_option linter.unusedSimpArgs false
theorem above_bit (N i : Nat) : N / 2 ^ i = 2 * (N / 2 ^ (i + 1)) + (N.testBit i).toNat := by
  rw [bit_div, Nat.pow_succ, ← Nat.div_div_eq_div_mul]
  generalize N / 2 ^ i = a
  omega
theorem lt_of_div {N M i : Nat} (h : N / 2 ^ i < M / 2 ^ i) : N < M := by
  rcases Nat.lt_or_ge N M with h' | h'
  · exact h'
  · exact absurd (Nat.div_le_div_right (c := 2 ^ i) h') (by omega)
def CmpRel (w : World) (N M : Nat) (g : Nat) (s5 : Value) (wx : World) : Prop :=
  g ≤ 256 ∧ s5 = .int .i64 ((g : Int) - 1) ∧ N / 2 ^ g = M / 2 ^ g ∧ BitsF wx w.heap.size N.testBit ∧ BitsF wx (w.heap.size + 1) M.testBit ∧ Below w.heap.size w wx
set_option maxRecDepth 100000 in
set_option maxHeartbeats 2000000 in
theorem cmp_ref (N M : Nat) (w : World) (hN : N < 2 ^ 256) (hM : M < 2 ^ 256) :
    Calls Try.prog 30 #[.agg (bitsC N.testBit), .agg (bitsC M.testBit)] w fun e w' => e = .returned (.int .i64 (cmpI N M)) ∧ Below w.heap.size w w' := by
  have HN := Lib.hid hN
  have HM := Lib.hid hM
  clear hN hM
  go_enter Try.func30, Try.ntmps30
  go_wp2
  go_loopg [5] 256 (CmpRel w N M)
  case atStart =>
    refine ⟨by omega, rfl, ?_, ?_, ?_, below_alloc2 _ _ _⟩
    · rw [Nat.div_eq_of_lt HN.out, Nat.div_eq_of_lt HM.out]
    · exact (BitsF.new w _ _).alloc _ _
    · have := BitsF.new (w.alloc (.cells (bitsC N.testBit) 51)) M.testBit 51
      have z1 : (w.alloc (.cells (bitsC N.testBit) 51)).heap.size = w.heap.size + 1 := by simp
      rw [z1] at this; exact this
  case round =>
    obtain ⟨hg, rfl, he, h1, h2, hB⟩ := hrel
    have HB := Lib.hid hB
    cases gk with
    | zero =>
      have e : cmpI (N : Int) M = 0 := cmpI_eq (by simp at he; omega)
      have E := Lib.hid e
      clear h1 h2 he hB e
      have hz : ¬ (0 : Int) ≤ ((0 : Nat) : Int) - 1 := by omega
      go_wp2
      go_ret
      exact ⟨(show Ending.returned (.int .i64 0) = .returned (.int .i64 (cmpI N M)) from by rw [E.out]), HB.out⟩
    | succ i =>
      have hc1 := h1 i (by omega)
      have hc2 := h2 i (by omega)
      have HE := Lib.hid he
      have H1 := Lib.hid h1
      have H2 := Lib.hid h2
      have A1 := Lib.hid (above_bit N i)
      have A2 := Lib.hid (above_bit M i)
      clear h1 h2 he hB
      have ei : (((i + 1 : Nat) : Int) - 1) = (i : Int) := by omega
      rw [ei]
      have hi256 : (i : Int) < 256 := by omega
      have hi0 : (0 : Int) ≤ (i : Int) := by omega
      generalize hx : N.testBit i = x at *
      generalize hy : M.testBit i = y at *
      have HX := Lib.hid hx
      have HY := Lib.hid hy
      clear hx hy ei
      cases x <;> cases y
      · go_wp2
        go_quiet (fail)
        go_wp2
        go_roundg i
        case measure => omega
        case rel => exact ⟨by omega, by go_num, by rw [A1.out, A2.out, HE.out], H1.out, H2.out, HB.out.trans (below_draws _ _ _)⟩
      · have e : cmpI (N : Int) M = -1 := cmpI_lt (by have h1 := A1.out; have h2 := A2.out; rw [HE.out] at h1; simp at h1 h2; have := lt_of_div (N := N) (M := M) (i := i) (by omega); omega)
        have E := Lib.hid e
        clear e
        go_wp2
        go_quiet (fail)
        go_wp2
        go_ret
        exact ⟨(show Ending.returned (.int .i64 (-1)) = .returned (.int .i64 (cmpI N M)) from by rw [E.out]), HB.out.trans (below_draws _ _ _)⟩
      · have e : cmpI (N : Int) M = 1 := cmpI_gt (by have h1 := A1.out; have h2 := A2.out; rw [HE.out] at h1; simp at h1 h2; have := lt_of_div (N := M) (M := N) (i := i) (by omega); omega)
        have E := Lib.hid e
        clear e
        go_wp2
        go_quiet (fail)
        go_wp2
        go_ret
        exact ⟨(show Ending.returned (.int .i64 1) = .returned (.int .i64 (cmpI N M)) from by rw [E.out]), HB.out.trans (below_draws _ _ _)⟩
      · go_wp2
        go_quiet (fail)
        go_wp2
        go_roundg i
        case measure => omega
        case rel => exact ⟨by omega, by go_num, by rw [A1.out, A2.out, HE.out], H1.out, H2.out, HB.out.trans (below_draws _ _ _)⟩
end Go.Proofs.Ytdddafhalcbhaaa
