/- How the arguments of the statements of layer 2 are opened. -/
import Derived.Test.YtdlfnmkdidiafaaCcK
import Derived.ChangeOld
import Derived.ShutString
import Derived.ChangeMaps5
import Derived.Laws.IdiomArrays
namespace Go.Proofs.Ytdlfnmkdidiafaa
open Go.ChangeShapes Go.WideShapes Go.ChangeAt Go.RowKit Go.Joins
set_option linter.unusedVariables false
set_option linter.unusedSimpArgs false
theorem own : ownKnob Try.prog.godebug = none := by kernel_rfl
theorem laidOut : laidOutB Try.prog = true := by kernel_rfl
theorem is32_wf {n : Int} (h : (Lit.int .u32 n).wf = true) : ∃ x : Nat, n = (x : Int) ∧ Is32 x := by
  have hb : 0 ≤ n ∧ n < 4294967296 := by
    simp [Lit.wf, IntKind.min, IntKind.max, IntKind.bits, IntKind.signed] at h; omega
  exact ⟨n.toNat, by omega, by unfold Is32; omega⟩
end Go.Proofs.Ytdlfnmkdidiafaa
