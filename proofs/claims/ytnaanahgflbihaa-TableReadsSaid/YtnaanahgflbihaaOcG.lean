/- How the arguments of the statements of layer 3 are opened. -/
import Derived.Test.YtnaanahgflbihaaOcK
import Derived.ChangeOld
import Derived.ShutString
import Derived.ChangeMaps5
namespace Go.Proofs.Ytnaanahgflbihaa.Oc
open Go.ChangeShapes Go.WideShapes Go.ChangeAt Go.RowKit Go.Joins
set_option maxRecDepth 100000
set_option linter.unusedVariables false
set_option linter.unusedSimpArgs false
theorem own : ownKnob Try.prog.godebug = none := by kernel_rfl
theorem laidOut : laidOutB Try.prog = true := by kernel_rfl
theorem is64_nat {n : Int} (h : (Lit.int .u64 n).wf = true) : ∃ x : Nat, n = (x : Int) ∧ x < 18446744073709551616 := by
  have hb : 0 ≤ n ∧ n < 18446744073709551616 := by
    simp [Lit.wf, IntKind.min, IntKind.max, IntKind.bits, IntKind.signed] at h; omega
  exact ⟨n.toNat, by omega, by omega⟩
end Go.Proofs.Ytnaanahgflbihaa.Oc
