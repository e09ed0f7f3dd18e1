/-
  No cell of these rows narrows 'for every input' (looked for: loops, veiled, ifaces, maps, wideKeys, modest, calm, conditions, laid).
  DERIVED. THE GIVEN ROWS OF THIS SEAT. 6 by the template 'for every input the law returns true; each argument reads behind the call as it read before'; 0 by the template 'total and deterministic' (their statements: YtfnagjfgnbnlbaaTotals.lean).
  GIVEN WITH THE SEED: the statements are not yours to turn. If you find one false, say at which input.
  Laid BY PROGRAM, IN A SANDBOX (cutbox-rows.mjs): the forced cells as the released guide's own fill.sh prints them over the translation ece8d1a1f48d4cd8… (all of the seat's roots in one cut). By AI agents, Wed Nov 11 2026. No macro, syntax, notation, axiom, sorry.
-/
import Derived.Test.YtfnagjfgnbnlbaaChecked
import GoSem.Claim
import GoSem.ClaimJoined
import GoSem.ClaimMapViews
import Derived.JoinedTies
import Derived.KernelRfl
namespace Go.Proofs.Ytfnagjfgnbnlbaa
/- THE CELL 'sum', in the pinned program and in every row, IS THE sha256 OF THE DUMP (.gsa) THAT YtfnagjfgnbnlbaaProg.lean LOADS. Nothing in Lean hashes anything: it is a label: what it is worth is what the hold of that sum in a sandbox is worth. -/
noncomputable def Try.pinned : Pinned := { name := "ytfnagjfgnbnlbaa", sum := "ece8d1a1f48d4cd8cae929a1f500246eda802f75ab48a649276301a931c2419b", checked := Try.checked }
namespace Rows
def none {H : Type} : Left H := { results := [], args := [] }

/-- 'horariumlaw11.BusyTells': WHATEVER THE INPUT: true; the input reads as it did. -/
def busyTellsSpec : ChangeSpec := { name := "busyTells", fn := fun _ => fun
  | [d1, d2, d3] => { results := [.lit (.bool true)], args := [d1, d2, d3] }
  | _ => none }
def busyTellsRow : OpenClaim := { program := "ytfnagjfgnbnlbaa", sum := "ece8d1a1f48d4cd8cae929a1f500246eda802f75ab48a649276301a931c2419b", func := "horarium/horariumlaw11.BusyTells", spec := "busyTells", unfollowed := true, recurses := true, apart := false }
def BusyTellsSaid : Prop := busyTellsRow.holds Try.pinned (OpenSpec.ofChange busyTellsSpec)

/-- ITS FALSE NEIGHBOUR: 'it returns false'. Refute it at one input. -/
def busyTellsWrong : ChangeSpec := { name := "busyTells", fn := fun _ => fun
  | [d1, d2, d3] => { results := [.lit (.bool false)], args := [d1, d2, d3] }
  | _ => none }
def BusyTellsWrongFalsely : Prop := busyTellsRow.holds Try.pinned (OpenSpec.ofChange busyTellsWrong)

/-- 'horariumlaw11.BusyLengths': WHATEVER THE INPUT: true; the input reads as it did. -/
def busyLengthsSpec : ChangeSpec := { name := "busyLengths", fn := fun _ => fun
  | [d1, d2] => { results := [.lit (.bool true)], args := [d1, d2] }
  | _ => none }
def busyLengthsRow : OpenClaim := { program := "ytfnagjfgnbnlbaa", sum := "ece8d1a1f48d4cd8cae929a1f500246eda802f75ab48a649276301a931c2419b", func := "horarium/horariumlaw11.BusyLengths", spec := "busyLengths", unfollowed := true, recurses := true, apart := false }
def BusyLengthsSaid : Prop := busyLengthsRow.holds Try.pinned (OpenSpec.ofChange busyLengthsSpec)

/-- ITS FALSE NEIGHBOUR: 'it returns false'. Refute it at one input. -/
def busyLengthsWrong : ChangeSpec := { name := "busyLengths", fn := fun _ => fun
  | [d1, d2] => { results := [.lit (.bool false)], args := [d1, d2] }
  | _ => none }
def BusyLengthsWrongFalsely : Prop := busyLengthsRow.holds Try.pinned (OpenSpec.ofChange busyLengthsWrong)

/-- 'horariumlaw11.BusyLeast': WHATEVER THE INPUT: true; the input reads as it did. -/
def busyLeastSpec : ChangeSpec := { name := "busyLeast", fn := fun _ => fun
  | [d] => { results := [.lit (.bool true)], args := [d] }
  | _ => none }
def busyLeastRow : OpenClaim := { program := "ytfnagjfgnbnlbaa", sum := "ece8d1a1f48d4cd8cae929a1f500246eda802f75ab48a649276301a931c2419b", func := "horarium/horariumlaw11.BusyLeast", spec := "busyLeast", unfollowed := true, recurses := true, apart := false }
def BusyLeastSaid : Prop := busyLeastRow.holds Try.pinned (OpenSpec.ofChange busyLeastSpec)

/-- ITS FALSE NEIGHBOUR: 'it returns false'. Refute it at one input. -/
def busyLeastWrong : ChangeSpec := { name := "busyLeast", fn := fun _ => fun
  | [d] => { results := [.lit (.bool false)], args := [d] }
  | _ => none }
def BusyLeastWrongFalsely : Prop := busyLeastRow.holds Try.pinned (OpenSpec.ofChange busyLeastWrong)

/-- 'horariumlaw11.BusySums': WHATEVER THE INPUT: true; the input reads as it did. -/
def busySumsSpec : ChangeSpec := { name := "busySums", fn := fun _ => fun
  | [d1, d2] => { results := [.lit (.bool true)], args := [d1, d2] }
  | _ => none }
def busySumsRow : OpenClaim := { program := "ytfnagjfgnbnlbaa", sum := "ece8d1a1f48d4cd8cae929a1f500246eda802f75ab48a649276301a931c2419b", func := "horarium/horariumlaw11.BusySums", spec := "busySums", unfollowed := true, recurses := true, apart := false }
def BusySumsSaid : Prop := busySumsRow.holds Try.pinned (OpenSpec.ofChange busySumsSpec)

/-- ITS FALSE NEIGHBOUR: 'it returns false'. Refute it at one input. -/
def busySumsWrong : ChangeSpec := { name := "busySums", fn := fun _ => fun
  | [d1, d2] => { results := [.lit (.bool false)], args := [d1, d2] }
  | _ => none }
def BusySumsWrongFalsely : Prop := busySumsRow.holds Try.pinned (OpenSpec.ofChange busySumsWrong)

/-- 'horariumlaw11.BusySteps': WHATEVER THE INPUT: true; the input reads as it did. -/
def busyStepsSpec : ChangeSpec := { name := "busySteps", fn := fun _ => fun
  | [d] => { results := [.lit (.bool true)], args := [d] }
  | _ => none }
def busyStepsRow : OpenClaim := { program := "ytfnagjfgnbnlbaa", sum := "ece8d1a1f48d4cd8cae929a1f500246eda802f75ab48a649276301a931c2419b", func := "horarium/horariumlaw11.BusySteps", spec := "busySteps", unfollowed := true, recurses := true, apart := false }
def BusyStepsSaid : Prop := busyStepsRow.holds Try.pinned (OpenSpec.ofChange busyStepsSpec)

/-- ITS FALSE NEIGHBOUR: 'it returns false'. Refute it at one input. -/
def busyStepsWrong : ChangeSpec := { name := "busySteps", fn := fun _ => fun
  | [d] => { results := [.lit (.bool false)], args := [d] }
  | _ => none }
def BusyStepsWrongFalsely : Prop := busyStepsRow.holds Try.pinned (OpenSpec.ofChange busyStepsWrong)

/-- 'horariumlaw11.BusyMore': WHATEVER THE INPUT: true; the input reads as it did. -/
def busyMoreSpec : ChangeSpec := { name := "busyMore", fn := fun _ => fun
  | [d1, d2] => { results := [.lit (.bool true)], args := [d1, d2] }
  | _ => none }
def busyMoreRow : OpenClaim := { program := "ytfnagjfgnbnlbaa", sum := "ece8d1a1f48d4cd8cae929a1f500246eda802f75ab48a649276301a931c2419b", func := "horarium/horariumlaw11.BusyMore", spec := "busyMore", unfollowed := true, recurses := true, apart := false }
def BusyMoreSaid : Prop := busyMoreRow.holds Try.pinned (OpenSpec.ofChange busyMoreSpec)

/-- ITS FALSE NEIGHBOUR: 'it returns false'. Refute it at one input. -/
def busyMoreWrong : ChangeSpec := { name := "busyMore", fn := fun _ => fun
  | [d1, d2] => { results := [.lit (.bool false)], args := [d1, d2] }
  | _ => none }
def BusyMoreWrongFalsely : Prop := busyMoreRow.holds Try.pinned (OpenSpec.ofChange busyMoreWrong)

/- THE SECOND FORM. 'bulk': how many values and letters a reading holds, each counted each time it is reached (what is shared counts as often as it is met; a slice's spare places count too). A statement '..UptoSaid' is the law's where the arguments, and the package variables that the reading takes, are together of bulk at most 1048576: NARROWER than '..Said'. Prove '..Said' where nothing that the law and all that it calls make is longer than what came in: it says more and counts as full. Else prove '..UptoSaid'. A law counts once. -/
mutual
def uptoBulk {H : Type} : DataW H → Nat
  | .lit (.string bytes) => bytes.length + 1
  | .lit _ => 1
  | .nil => 1
  | .ptr d => uptoBulk d + 1
  | .slice elems spare => uptoBulkAll elems + uptoBulkAll spare + 1
  | .agg parts => uptoBulkAll parts + 1
  | .iface _ d => uptoBulk d + 1
  | .map entries => uptoBulkEntries entries + 1
  | .held _ => 1
def uptoBulkAll {H : Type} : List (DataW H) → Nat
  | [] => 0
  | d :: r => uptoBulk d + uptoBulkAll r
def uptoBulkEntries {H : Type} : List (Lit × DataW H) → Nat
  | [] => 0
  | x :: r => uptoBulkEntry x + uptoBulkEntries r
def uptoBulkEntry {H : Type} : Lit × DataW H → Nat
  | (.string bytes, d) => bytes.length + uptoBulk d + 1
  | (_, d) => uptoBulk d + 1
 end
def uptoSmall : (H : Type) → List (DataW H) → Bool := fun _ ds => decide (uptoBulkAll ds ≤ 1048576)
def OpenSpec.upto (s : _root_.Go.ChangeSpec) : _root_.Go.OpenSpec := { _root_.Go.OpenSpec.ofChange s with cond := some uptoSmall }

/-- 'horariumlaw11.BusyTells', WHERE WHAT IT READS IS OF BULK AT MOST 1048576: true; the input reads as it did. -/
def busyTellsUptoRow : OpenClaim := { program := "ytfnagjfgnbnlbaa", sum := "ece8d1a1f48d4cd8cae929a1f500246eda802f75ab48a649276301a931c2419b", func := "horarium/horariumlaw11.BusyTells", spec := "busyTells", unfollowed := true, recurses := true, apart := false, narrowed := true }
def BusyTellsUptoSaid : Prop := busyTellsUptoRow.holds Try.pinned (OpenSpec.upto busyTellsSpec)

/-- 'horariumlaw11.BusyLengths', WHERE WHAT IT READS IS OF BULK AT MOST 1048576: true; the input reads as it did. -/
def busyLengthsUptoRow : OpenClaim := { program := "ytfnagjfgnbnlbaa", sum := "ece8d1a1f48d4cd8cae929a1f500246eda802f75ab48a649276301a931c2419b", func := "horarium/horariumlaw11.BusyLengths", spec := "busyLengths", unfollowed := true, recurses := true, apart := false, narrowed := true }
def BusyLengthsUptoSaid : Prop := busyLengthsUptoRow.holds Try.pinned (OpenSpec.upto busyLengthsSpec)

/-- 'horariumlaw11.BusyLeast', WHERE WHAT IT READS IS OF BULK AT MOST 1048576: true; the input reads as it did. -/
def busyLeastUptoRow : OpenClaim := { program := "ytfnagjfgnbnlbaa", sum := "ece8d1a1f48d4cd8cae929a1f500246eda802f75ab48a649276301a931c2419b", func := "horarium/horariumlaw11.BusyLeast", spec := "busyLeast", unfollowed := true, recurses := true, apart := false, narrowed := true }
def BusyLeastUptoSaid : Prop := busyLeastUptoRow.holds Try.pinned (OpenSpec.upto busyLeastSpec)

/-- 'horariumlaw11.BusySums', WHERE WHAT IT READS IS OF BULK AT MOST 1048576: true; the input reads as it did. -/
def busySumsUptoRow : OpenClaim := { program := "ytfnagjfgnbnlbaa", sum := "ece8d1a1f48d4cd8cae929a1f500246eda802f75ab48a649276301a931c2419b", func := "horarium/horariumlaw11.BusySums", spec := "busySums", unfollowed := true, recurses := true, apart := false, narrowed := true }
def BusySumsUptoSaid : Prop := busySumsUptoRow.holds Try.pinned (OpenSpec.upto busySumsSpec)

/-- 'horariumlaw11.BusySteps', WHERE WHAT IT READS IS OF BULK AT MOST 1048576: true; the input reads as it did. -/
def busyStepsUptoRow : OpenClaim := { program := "ytfnagjfgnbnlbaa", sum := "ece8d1a1f48d4cd8cae929a1f500246eda802f75ab48a649276301a931c2419b", func := "horarium/horariumlaw11.BusySteps", spec := "busySteps", unfollowed := true, recurses := true, apart := false, narrowed := true }
def BusyStepsUptoSaid : Prop := busyStepsUptoRow.holds Try.pinned (OpenSpec.upto busyStepsSpec)

/-- 'horariumlaw11.BusyMore', WHERE WHAT IT READS IS OF BULK AT MOST 1048576: true; the input reads as it did. -/
def busyMoreUptoRow : OpenClaim := { program := "ytfnagjfgnbnlbaa", sum := "ece8d1a1f48d4cd8cae929a1f500246eda802f75ab48a649276301a931c2419b", func := "horarium/horariumlaw11.BusyMore", spec := "busyMore", unfollowed := true, recurses := true, apart := false, narrowed := true }
def BusyMoreUptoSaid : Prop := busyMoreUptoRow.holds Try.pinned (OpenSpec.upto busyMoreSpec)

end Rows
end Go.Proofs.Ytfnagjfgnbnlbaa
