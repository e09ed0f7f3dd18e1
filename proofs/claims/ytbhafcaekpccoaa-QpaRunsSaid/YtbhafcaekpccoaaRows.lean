/-
  No cell of these rows narrows 'for every input' (looked for: loops, veiled, ifaces, maps, wideKeys, modest, calm, conditions, laid).
  DERIVED. THE GIVEN ROWS OF THIS SEAT. 7 by the template 'for every input the law returns true; each argument reads behind the call as it read before'; 0 by the template 'total and deterministic' (their statements: YtbhafcaekpccoaaTotals.lean).
  GIVEN WITH THE SEED: the statements are not yours to turn. If you find one false, say at which input.
  Laid BY PROGRAM, IN A SANDBOX (cutbox-rows.mjs): the forced cells as the released guide's own fill.sh prints them over the translation c5895de05ae1630f… (all of the seat's roots in one cut). By AI agents, Wed Nov 11 2026. No macro, syntax, notation, axiom, sorry.
-/
import Derived.Test.YtbhafcaekpccoaaChecked
import GoSem.Claim
import GoSem.ClaimJoined
import GoSem.ClaimMapViews
import Derived.JoinedTies
import Derived.KernelRfl
namespace Go.Proofs.Ytbhafcaekpccoaa
/- THE CELL 'sum', in the pinned program and in every row, IS THE sha256 OF THE DUMP (.gsa) THAT YtbhafcaekpccoaaProg.lean LOADS. Nothing in Lean hashes anything: it is a label: what it is worth is what the hold of that sum in a sandbox is worth. -/
noncomputable def Try.pinned : Pinned := { name := "ytbhafcaekpccoaa", sum := "c5895de05ae1630f2e4924c8daef213af721fb28a87d191069d1d01cba0406b9", checked := Try.checked }
namespace Rows
def none {H : Type} : Left H := { results := [], args := [] }

/-- 'horariumlaw12.QpaTests': WHATEVER THE INPUT: true; the input reads as it did. -/
def qpaTestsSpec : ChangeSpec := { name := "qpaTests", fn := fun _ => fun
  | [d1, d2] => { results := [.lit (.bool true)], args := [d1, d2] }
  | _ => none }
def qpaTestsRow : OpenClaim := { program := "ytbhafcaekpccoaa", sum := "c5895de05ae1630f2e4924c8daef213af721fb28a87d191069d1d01cba0406b9", func := "horarium/horariumlaw12.QpaTests", spec := "qpaTests", unfollowed := true, recurses := true, apart := false }
def QpaTestsSaid : Prop := qpaTestsRow.holds Try.pinned (OpenSpec.ofChange qpaTestsSpec)

/-- ITS FALSE NEIGHBOUR: 'it returns false'. Refute it at one input. -/
def qpaTestsWrong : ChangeSpec := { name := "qpaTests", fn := fun _ => fun
  | [d1, d2] => { results := [.lit (.bool false)], args := [d1, d2] }
  | _ => none }
def QpaTestsWrongFalsely : Prop := qpaTestsRow.holds Try.pinned (OpenSpec.ofChange qpaTestsWrong)

/-- 'horariumlaw12.QpaPaths': WHATEVER THE INPUT: true; the input reads as it did. -/
def qpaPathsSpec : ChangeSpec := { name := "qpaPaths", fn := fun _ => fun
  | [d1, d2] => { results := [.lit (.bool true)], args := [d1, d2] }
  | _ => none }
def qpaPathsRow : OpenClaim := { program := "ytbhafcaekpccoaa", sum := "c5895de05ae1630f2e4924c8daef213af721fb28a87d191069d1d01cba0406b9", func := "horarium/horariumlaw12.QpaPaths", spec := "qpaPaths", unfollowed := true, recurses := true, apart := false }
def QpaPathsSaid : Prop := qpaPathsRow.holds Try.pinned (OpenSpec.ofChange qpaPathsSpec)

/-- ITS FALSE NEIGHBOUR: 'it returns false'. Refute it at one input. -/
def qpaPathsWrong : ChangeSpec := { name := "qpaPaths", fn := fun _ => fun
  | [d1, d2] => { results := [.lit (.bool false)], args := [d1, d2] }
  | _ => none }
def QpaPathsWrongFalsely : Prop := qpaPathsRow.holds Try.pinned (OpenSpec.ofChange qpaPathsWrong)

/-- 'horariumlaw12.QpaRuns': WHATEVER THE INPUT: true; the input reads as it did. -/
def qpaRunsSpec : ChangeSpec := { name := "qpaRuns", fn := fun _ => fun
  | [d] => { results := [.lit (.bool true)], args := [d] }
  | _ => none }
def qpaRunsRow : OpenClaim := { program := "ytbhafcaekpccoaa", sum := "c5895de05ae1630f2e4924c8daef213af721fb28a87d191069d1d01cba0406b9", func := "horarium/horariumlaw12.QpaRuns", spec := "qpaRuns", unfollowed := true, recurses := true, apart := false }
def QpaRunsSaid : Prop := qpaRunsRow.holds Try.pinned (OpenSpec.ofChange qpaRunsSpec)

/-- ITS FALSE NEIGHBOUR: 'it returns false'. Refute it at one input. -/
def qpaRunsWrong : ChangeSpec := { name := "qpaRuns", fn := fun _ => fun
  | [d] => { results := [.lit (.bool false)], args := [d] }
  | _ => none }
def QpaRunsWrongFalsely : Prop := qpaRunsRow.holds Try.pinned (OpenSpec.ofChange qpaRunsWrong)

/-- 'horariumlaw12.QpaLess': WHATEVER THE INPUT: true; the input reads as it did. -/
def qpaLessSpec : ChangeSpec := { name := "qpaLess", fn := fun _ => fun
  | [d1, d2, d3] => { results := [.lit (.bool true)], args := [d1, d2, d3] }
  | _ => none }
def qpaLessRow : OpenClaim := { program := "ytbhafcaekpccoaa", sum := "c5895de05ae1630f2e4924c8daef213af721fb28a87d191069d1d01cba0406b9", func := "horarium/horariumlaw12.QpaLess", spec := "qpaLess", unfollowed := true, recurses := true, apart := false }
def QpaLessSaid : Prop := qpaLessRow.holds Try.pinned (OpenSpec.ofChange qpaLessSpec)

/-- ITS FALSE NEIGHBOUR: 'it returns false'. Refute it at one input. -/
def qpaLessWrong : ChangeSpec := { name := "qpaLess", fn := fun _ => fun
  | [d1, d2, d3] => { results := [.lit (.bool false)], args := [d1, d2, d3] }
  | _ => none }
def QpaLessWrongFalsely : Prop := qpaLessRow.holds Try.pinned (OpenSpec.ofChange qpaLessWrong)

/-- 'horariumlaw12.QpaRoom': WHATEVER THE INPUT: true; the input reads as it did. -/
def qpaRoomSpec : ChangeSpec := { name := "qpaRoom", fn := fun _ => fun
  | [d1, d2] => { results := [.lit (.bool true)], args := [d1, d2] }
  | _ => none }
def qpaRoomRow : OpenClaim := { program := "ytbhafcaekpccoaa", sum := "c5895de05ae1630f2e4924c8daef213af721fb28a87d191069d1d01cba0406b9", func := "horarium/horariumlaw12.QpaRoom", spec := "qpaRoom", unfollowed := true, recurses := true, apart := false }
def QpaRoomSaid : Prop := qpaRoomRow.holds Try.pinned (OpenSpec.ofChange qpaRoomSpec)

/-- ITS FALSE NEIGHBOUR: 'it returns false'. Refute it at one input. -/
def qpaRoomWrong : ChangeSpec := { name := "qpaRoom", fn := fun _ => fun
  | [d1, d2] => { results := [.lit (.bool false)], args := [d1, d2] }
  | _ => none }
def QpaRoomWrongFalsely : Prop := qpaRoomRow.holds Try.pinned (OpenSpec.ofChange qpaRoomWrong)

/-- 'horariumlaw12.QpaPath': WHATEVER THE INPUT: true; the input reads as it did. -/
def qpaPathSpec : ChangeSpec := { name := "qpaPath", fn := fun _ => fun
  | [d] => { results := [.lit (.bool true)], args := [d] }
  | _ => none }
def qpaPathRow : OpenClaim := { program := "ytbhafcaekpccoaa", sum := "c5895de05ae1630f2e4924c8daef213af721fb28a87d191069d1d01cba0406b9", func := "horarium/horariumlaw12.QpaPath", spec := "qpaPath", unfollowed := true, recurses := true, apart := false }
def QpaPathSaid : Prop := qpaPathRow.holds Try.pinned (OpenSpec.ofChange qpaPathSpec)

/-- ITS FALSE NEIGHBOUR: 'it returns false'. Refute it at one input. -/
def qpaPathWrong : ChangeSpec := { name := "qpaPath", fn := fun _ => fun
  | [d] => { results := [.lit (.bool false)], args := [d] }
  | _ => none }
def QpaPathWrongFalsely : Prop := qpaPathRow.holds Try.pinned (OpenSpec.ofChange qpaPathWrong)

/-- 'horariumlaw12.QpaModes': WHATEVER THE INPUT: true; the input reads as it did. -/
def qpaModesSpec : ChangeSpec := { name := "qpaModes", fn := fun _ => fun
  | [d] => { results := [.lit (.bool true)], args := [d] }
  | _ => none }
def qpaModesRow : OpenClaim := { program := "ytbhafcaekpccoaa", sum := "c5895de05ae1630f2e4924c8daef213af721fb28a87d191069d1d01cba0406b9", func := "horarium/horariumlaw12.QpaModes", spec := "qpaModes", unfollowed := true, recurses := true, apart := false }
def QpaModesSaid : Prop := qpaModesRow.holds Try.pinned (OpenSpec.ofChange qpaModesSpec)

/-- ITS FALSE NEIGHBOUR: 'it returns false'. Refute it at one input. -/
def qpaModesWrong : ChangeSpec := { name := "qpaModes", fn := fun _ => fun
  | [d] => { results := [.lit (.bool false)], args := [d] }
  | _ => none }
def QpaModesWrongFalsely : Prop := qpaModesRow.holds Try.pinned (OpenSpec.ofChange qpaModesWrong)

/- THE SECOND FORM. 'bulk': how many values and letters a reading holds, each counted each time it is reached (what is shared counts as often as it is met; a slice's spare places count too). A statement '..UptoSaid' is the law's where the arguments, and the package variables that the reading takes, are together of bulk at most 1048576: NARROWER than '..Said'. Prove '..Said' where nothing that the law and all that it calls make is longer than what came in: it says more and counts as full. Else prove '..UptoSaid'. A law counts once. -/
mutual
def uptoBulk {H : Type} : DataW H → Nat
  | .lit (.string bytes) => bytes.length + 1
  | .lit _ => 1
  | .nil => 1
  | .ptr d => uptoBulk d + 1
  | .slice elems spare => uptoBulkAll elems + uptoBulkAll spare + 1
  | .agg parts => uptoBulkAll parts + 1
  | .iface _ d => uptoBulk d + 1
  | .map entries => uptoBulkEntries entries + 1
  | .held _ => 1
def uptoBulkAll {H : Type} : List (DataW H) → Nat
  | [] => 0
  | d :: r => uptoBulk d + uptoBulkAll r
def uptoBulkEntries {H : Type} : List (Lit × DataW H) → Nat
  | [] => 0
  | x :: r => uptoBulkEntry x + uptoBulkEntries r
def uptoBulkEntry {H : Type} : Lit × DataW H → Nat
  | (.string bytes, d) => bytes.length + uptoBulk d + 1
  | (_, d) => uptoBulk d + 1
 end
def uptoSmall : (H : Type) → List (DataW H) → Bool := fun _ ds => decide (uptoBulkAll ds ≤ 1048576)
def OpenSpec.upto (s : _root_.Go.ChangeSpec) : _root_.Go.OpenSpec := { _root_.Go.OpenSpec.ofChange s with cond := some uptoSmall }

/-- 'horariumlaw12.QpaTests', WHERE WHAT IT READS IS OF BULK AT MOST 1048576: true; the input reads as it did. -/
def qpaTestsUptoRow : OpenClaim := { program := "ytbhafcaekpccoaa", sum := "c5895de05ae1630f2e4924c8daef213af721fb28a87d191069d1d01cba0406b9", func := "horarium/horariumlaw12.QpaTests", spec := "qpaTests", unfollowed := true, recurses := true, apart := false, narrowed := true }
def QpaTestsUptoSaid : Prop := qpaTestsUptoRow.holds Try.pinned (OpenSpec.upto qpaTestsSpec)

/-- 'horariumlaw12.QpaPaths', WHERE WHAT IT READS IS OF BULK AT MOST 1048576: true; the input reads as it did. -/
def qpaPathsUptoRow : OpenClaim := { program := "ytbhafcaekpccoaa", sum := "c5895de05ae1630f2e4924c8daef213af721fb28a87d191069d1d01cba0406b9", func := "horarium/horariumlaw12.QpaPaths", spec := "qpaPaths", unfollowed := true, recurses := true, apart := false, narrowed := true }
def QpaPathsUptoSaid : Prop := qpaPathsUptoRow.holds Try.pinned (OpenSpec.upto qpaPathsSpec)

/-- 'horariumlaw12.QpaRuns', WHERE WHAT IT READS IS OF BULK AT MOST 1048576: true; the input reads as it did. -/
def qpaRunsUptoRow : OpenClaim := { program := "ytbhafcaekpccoaa", sum := "c5895de05ae1630f2e4924c8daef213af721fb28a87d191069d1d01cba0406b9", func := "horarium/horariumlaw12.QpaRuns", spec := "qpaRuns", unfollowed := true, recurses := true, apart := false, narrowed := true }
def QpaRunsUptoSaid : Prop := qpaRunsUptoRow.holds Try.pinned (OpenSpec.upto qpaRunsSpec)

/-- 'horariumlaw12.QpaLess', WHERE WHAT IT READS IS OF BULK AT MOST 1048576: true; the input reads as it did. -/
def qpaLessUptoRow : OpenClaim := { program := "ytbhafcaekpccoaa", sum := "c5895de05ae1630f2e4924c8daef213af721fb28a87d191069d1d01cba0406b9", func := "horarium/horariumlaw12.QpaLess", spec := "qpaLess", unfollowed := true, recurses := true, apart := false, narrowed := true }
def QpaLessUptoSaid : Prop := qpaLessUptoRow.holds Try.pinned (OpenSpec.upto qpaLessSpec)

/-- 'horariumlaw12.QpaRoom', WHERE WHAT IT READS IS OF BULK AT MOST 1048576: true; the input reads as it did. -/
def qpaRoomUptoRow : OpenClaim := { program := "ytbhafcaekpccoaa", sum := "c5895de05ae1630f2e4924c8daef213af721fb28a87d191069d1d01cba0406b9", func := "horarium/horariumlaw12.QpaRoom", spec := "qpaRoom", unfollowed := true, recurses := true, apart := false, narrowed := true }
def QpaRoomUptoSaid : Prop := qpaRoomUptoRow.holds Try.pinned (OpenSpec.upto qpaRoomSpec)

/-- 'horariumlaw12.QpaPath', WHERE WHAT IT READS IS OF BULK AT MOST 1048576: true; the input reads as it did. -/
def qpaPathUptoRow : OpenClaim := { program := "ytbhafcaekpccoaa", sum := "c5895de05ae1630f2e4924c8daef213af721fb28a87d191069d1d01cba0406b9", func := "horarium/horariumlaw12.QpaPath", spec := "qpaPath", unfollowed := true, recurses := true, apart := false, narrowed := true }
def QpaPathUptoSaid : Prop := qpaPathUptoRow.holds Try.pinned (OpenSpec.upto qpaPathSpec)

/-- 'horariumlaw12.QpaModes', WHERE WHAT IT READS IS OF BULK AT MOST 1048576: true; the input reads as it did. -/
def qpaModesUptoRow : OpenClaim := { program := "ytbhafcaekpccoaa", sum := "c5895de05ae1630f2e4924c8daef213af721fb28a87d191069d1d01cba0406b9", func := "horarium/horariumlaw12.QpaModes", spec := "qpaModes", unfollowed := true, recurses := true, apart := false, narrowed := true }
def QpaModesUptoSaid : Prop := qpaModesUptoRow.holds Try.pinned (OpenSpec.upto qpaModesSpec)

end Rows
end Go.Proofs.Ytbhafcaekpccoaa
