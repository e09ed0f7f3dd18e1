/-
  No cell of these rows narrows 'for every input' (looked for: loops, veiled, ifaces, maps, wideKeys, modest, calm, conditions, laid).
  DERIVED. THE GIVEN ROWS OF THIS SEAT. 7 by the template 'for every input the law returns true; each argument reads behind the call as it read before'; 0 by the template 'total and deterministic' (their statements: YtnaanahgflbihaaTotals.lean).
  GIVEN WITH THE SEED: the statements are not yours to turn. If you find one false, say at which input.
  Laid BY PROGRAM, IN A SANDBOX (cutbox-rows.mjs): the forced cells as the released guide's own fill.sh prints them over the translation e5332bd9978b4b2b… (all of the seat's roots in one cut). By AI agents, Wed Nov 11 2026. No macro, syntax, notation, axiom, sorry.
-/
import Derived.Test.YtnaanahgflbihaaChecked
import GoSem.Claim
import GoSem.ClaimJoined
import GoSem.ClaimMapViews
import Derived.JoinedTies
import Derived.KernelRfl
namespace Go.Proofs.Ytnaanahgflbihaa
/- THE CELL 'sum', in the pinned program and in every row, IS THE sha256 OF THE DUMP (.gsa) THAT YtnaanahgflbihaaProg.lean LOADS. Nothing in Lean hashes anything: it is a label: what it is worth is what the hold of that sum in a sandbox is worth. -/
noncomputable def Try.pinned : Pinned := { name := "ytnaanahgflbihaa", sum := "e5332bd9978b4b2b33cda05ad22fda6534455f22eb7de0318b190f8a15327139", checked := Try.checked }
namespace Rows
def none {H : Type} : Left H := { results := [], args := [] }

/-- 'horariumlaw14.TableApplies': WHATEVER THE INPUT: true; the input reads as it did. -/
def tableAppliesSpec : ChangeSpec := { name := "tableApplies", fn := fun _ => fun
  | [d1, d2, d3] => { results := [.lit (.bool true)], args := [d1, d2, d3] }
  | _ => none }
def tableAppliesRow : OpenClaim := { program := "ytnaanahgflbihaa", sum := "e5332bd9978b4b2b33cda05ad22fda6534455f22eb7de0318b190f8a15327139", func := "horarium/horariumlaw14.TableApplies", spec := "tableApplies", inPlace := ["internal/abi.NoEscape"], unfollowed := true, recurses := true, apart := false }
def TableAppliesSaid : Prop := tableAppliesRow.holds Try.pinned (OpenSpec.ofChange tableAppliesSpec)

/-- ITS FALSE NEIGHBOUR: 'it returns false'. Refute it at one input. -/
def tableAppliesWrong : ChangeSpec := { name := "tableApplies", fn := fun _ => fun
  | [d1, d2, d3] => { results := [.lit (.bool false)], args := [d1, d2, d3] }
  | _ => none }
def TableAppliesWrongFalsely : Prop := tableAppliesRow.holds Try.pinned (OpenSpec.ofChange tableAppliesWrong)

/-- 'horariumlaw14.TableTells': WHATEVER THE INPUT: true; the input reads as it did. -/
def tableTellsSpec : ChangeSpec := { name := "tableTells", fn := fun _ => fun
  | [d1, d2, d3] => { results := [.lit (.bool true)], args := [d1, d2, d3] }
  | _ => none }
def tableTellsRow : OpenClaim := { program := "ytnaanahgflbihaa", sum := "e5332bd9978b4b2b33cda05ad22fda6534455f22eb7de0318b190f8a15327139", func := "horarium/horariumlaw14.TableTells", spec := "tableTells", inPlace := ["internal/abi.NoEscape"], unfollowed := true, recurses := true, apart := false }
def TableTellsSaid : Prop := tableTellsRow.holds Try.pinned (OpenSpec.ofChange tableTellsSpec)

/-- ITS FALSE NEIGHBOUR: 'it returns false'. Refute it at one input. -/
def tableTellsWrong : ChangeSpec := { name := "tableTells", fn := fun _ => fun
  | [d1, d2, d3] => { results := [.lit (.bool false)], args := [d1, d2, d3] }
  | _ => none }
def TableTellsWrongFalsely : Prop := tableTellsRow.holds Try.pinned (OpenSpec.ofChange tableTellsWrong)

/-- 'horariumlaw14.TableReads': WHATEVER THE INPUT: true; the input reads as it did. -/
def tableReadsSpec : ChangeSpec := { name := "tableReads", fn := fun _ => fun
  | [d1, d2, d3] => { results := [.lit (.bool true)], args := [d1, d2, d3] }
  | _ => none }
def tableReadsRow : OpenClaim := { program := "ytnaanahgflbihaa", sum := "e5332bd9978b4b2b33cda05ad22fda6534455f22eb7de0318b190f8a15327139", func := "horarium/horariumlaw14.TableReads", spec := "tableReads", inPlace := ["internal/abi.NoEscape"], unfollowed := true, recurses := true, apart := false }
def TableReadsSaid : Prop := tableReadsRow.holds Try.pinned (OpenSpec.ofChange tableReadsSpec)

/-- ITS FALSE NEIGHBOUR: 'it returns false'. Refute it at one input. -/
def tableReadsWrong : ChangeSpec := { name := "tableReads", fn := fun _ => fun
  | [d1, d2, d3] => { results := [.lit (.bool false)], args := [d1, d2, d3] }
  | _ => none }
def TableReadsWrongFalsely : Prop := tableReadsRow.holds Try.pinned (OpenSpec.ofChange tableReadsWrong)

/-- 'horariumlaw14.TableReplays': WHATEVER THE INPUT: true; the input reads as it did. -/
def tableReplaysSpec : ChangeSpec := { name := "tableReplays", fn := fun _ => fun
  | [d1, d2, d3] => { results := [.lit (.bool true)], args := [d1, d2, d3] }
  | _ => none }
def tableReplaysRow : OpenClaim := { program := "ytnaanahgflbihaa", sum := "e5332bd9978b4b2b33cda05ad22fda6534455f22eb7de0318b190f8a15327139", func := "horarium/horariumlaw14.TableReplays", spec := "tableReplays", inPlace := ["internal/abi.NoEscape"], unfollowed := true, recurses := true, apart := false }
def TableReplaysSaid : Prop := tableReplaysRow.holds Try.pinned (OpenSpec.ofChange tableReplaysSpec)

/-- ITS FALSE NEIGHBOUR: 'it returns false'. Refute it at one input. -/
def tableReplaysWrong : ChangeSpec := { name := "tableReplays", fn := fun _ => fun
  | [d1, d2, d3] => { results := [.lit (.bool false)], args := [d1, d2, d3] }
  | _ => none }
def TableReplaysWrongFalsely : Prop := tableReplaysRow.holds Try.pinned (OpenSpec.ofChange tableReplaysWrong)

/-- 'horariumlaw14.TableBack': WHATEVER THE INPUT: true; the input reads as it did. -/
def tableBackSpec : ChangeSpec := { name := "tableBack", fn := fun _ => fun
  | [d1, d2] => { results := [.lit (.bool true)], args := [d1, d2] }
  | _ => none }
def tableBackRow : OpenClaim := { program := "ytnaanahgflbihaa", sum := "e5332bd9978b4b2b33cda05ad22fda6534455f22eb7de0318b190f8a15327139", func := "horarium/horariumlaw14.TableBack", spec := "tableBack", inPlace := ["internal/abi.NoEscape"], unfollowed := true, recurses := true, apart := false }
def TableBackSaid : Prop := tableBackRow.holds Try.pinned (OpenSpec.ofChange tableBackSpec)

/-- ITS FALSE NEIGHBOUR: 'it returns false'. Refute it at one input. -/
def tableBackWrong : ChangeSpec := { name := "tableBack", fn := fun _ => fun
  | [d1, d2] => { results := [.lit (.bool false)], args := [d1, d2] }
  | _ => none }
def TableBackWrongFalsely : Prop := tableBackRow.holds Try.pinned (OpenSpec.ofChange tableBackWrong)

/-- 'horariumlaw14.TableModes': WHATEVER THE INPUT: true; the input reads as it did. -/
def tableModesSpec : ChangeSpec := { name := "tableModes", fn := fun _ => fun
  | [d1, d2] => { results := [.lit (.bool true)], args := [d1, d2] }
  | _ => none }
def tableModesRow : OpenClaim := { program := "ytnaanahgflbihaa", sum := "e5332bd9978b4b2b33cda05ad22fda6534455f22eb7de0318b190f8a15327139", func := "horarium/horariumlaw14.TableModes", spec := "tableModes", inPlace := ["internal/abi.NoEscape"], unfollowed := true, recurses := true, apart := false }
def TableModesSaid : Prop := tableModesRow.holds Try.pinned (OpenSpec.ofChange tableModesSpec)

/-- ITS FALSE NEIGHBOUR: 'it returns false'. Refute it at one input. -/
def tableModesWrong : ChangeSpec := { name := "tableModes", fn := fun _ => fun
  | [d1, d2] => { results := [.lit (.bool false)], args := [d1, d2] }
  | _ => none }
def TableModesWrongFalsely : Prop := tableModesRow.holds Try.pinned (OpenSpec.ofChange tableModesWrong)

/-- 'horariumlaw14.TableReplay': WHATEVER THE INPUT: true; the input reads as it did. -/
def tableReplaySpec : ChangeSpec := { name := "tableReplay", fn := fun _ => fun
  | [d] => { results := [.lit (.bool true)], args := [d] }
  | _ => none }
def tableReplayRow : OpenClaim := { program := "ytnaanahgflbihaa", sum := "e5332bd9978b4b2b33cda05ad22fda6534455f22eb7de0318b190f8a15327139", func := "horarium/horariumlaw14.TableReplay", spec := "tableReplay", inPlace := ["internal/abi.NoEscape"], unfollowed := true, recurses := true, apart := false }
def TableReplaySaid : Prop := tableReplayRow.holds Try.pinned (OpenSpec.ofChange tableReplaySpec)

/-- ITS FALSE NEIGHBOUR: 'it returns false'. Refute it at one input. -/
def tableReplayWrong : ChangeSpec := { name := "tableReplay", fn := fun _ => fun
  | [d] => { results := [.lit (.bool false)], args := [d] }
  | _ => none }
def TableReplayWrongFalsely : Prop := tableReplayRow.holds Try.pinned (OpenSpec.ofChange tableReplayWrong)

/- THE SECOND FORM. 'bulk': how many values and letters a reading holds, each counted each time it is reached (what is shared counts as often as it is met; a slice's spare places count too). A statement '..UptoSaid' is the law's where the arguments, and the package variables that the reading takes, are together of bulk at most 1048576: NARROWER than '..Said'. Prove '..Said' where nothing that the law and all that it calls make is longer than what came in: it says more and counts as full. Else prove '..UptoSaid'. A law counts once. -/
mutual
def uptoBulk {H : Type} : DataW H → Nat
  | .lit (.string bytes) => bytes.length + 1
  | .lit _ => 1
  | .nil => 1
  | .ptr d => uptoBulk d + 1
  | .slice elems spare => uptoBulkAll elems + uptoBulkAll spare + 1
  | .agg parts => uptoBulkAll parts + 1
  | .iface _ d => uptoBulk d + 1
  | .map entries => uptoBulkEntries entries + 1
  | .held _ => 1
def uptoBulkAll {H : Type} : List (DataW H) → Nat
  | [] => 0
  | d :: r => uptoBulk d + uptoBulkAll r
def uptoBulkEntries {H : Type} : List (Lit × DataW H) → Nat
  | [] => 0
  | x :: r => uptoBulkEntry x + uptoBulkEntries r
def uptoBulkEntry {H : Type} : Lit × DataW H → Nat
  | (.string bytes, d) => bytes.length + uptoBulk d + 1
  | (_, d) => uptoBulk d + 1
 end
def uptoSmall : (H : Type) → List (DataW H) → Bool := fun _ ds => decide (uptoBulkAll ds ≤ 1048576)
def OpenSpec.upto (s : _root_.Go.ChangeSpec) : _root_.Go.OpenSpec := { _root_.Go.OpenSpec.ofChange s with cond := some uptoSmall }

/-- 'horariumlaw14.TableApplies', WHERE WHAT IT READS IS OF BULK AT MOST 1048576: true; the input reads as it did. -/
def tableAppliesUptoRow : OpenClaim := { program := "ytnaanahgflbihaa", sum := "e5332bd9978b4b2b33cda05ad22fda6534455f22eb7de0318b190f8a15327139", func := "horarium/horariumlaw14.TableApplies", spec := "tableApplies", inPlace := ["internal/abi.NoEscape"], unfollowed := true, recurses := true, apart := false, narrowed := true }
def TableAppliesUptoSaid : Prop := tableAppliesUptoRow.holds Try.pinned (OpenSpec.upto tableAppliesSpec)

/-- 'horariumlaw14.TableTells', WHERE WHAT IT READS IS OF BULK AT MOST 1048576: true; the input reads as it did. -/
def tableTellsUptoRow : OpenClaim := { program := "ytnaanahgflbihaa", sum := "e5332bd9978b4b2b33cda05ad22fda6534455f22eb7de0318b190f8a15327139", func := "horarium/horariumlaw14.TableTells", spec := "tableTells", inPlace := ["internal/abi.NoEscape"], unfollowed := true, recurses := true, apart := false, narrowed := true }
def TableTellsUptoSaid : Prop := tableTellsUptoRow.holds Try.pinned (OpenSpec.upto tableTellsSpec)

/-- 'horariumlaw14.TableReads', WHERE WHAT IT READS IS OF BULK AT MOST 1048576: true; the input reads as it did. -/
def tableReadsUptoRow : OpenClaim := { program := "ytnaanahgflbihaa", sum := "e5332bd9978b4b2b33cda05ad22fda6534455f22eb7de0318b190f8a15327139", func := "horarium/horariumlaw14.TableReads", spec := "tableReads", inPlace := ["internal/abi.NoEscape"], unfollowed := true, recurses := true, apart := false, narrowed := true }
def TableReadsUptoSaid : Prop := tableReadsUptoRow.holds Try.pinned (OpenSpec.upto tableReadsSpec)

/-- 'horariumlaw14.TableReplays', WHERE WHAT IT READS IS OF BULK AT MOST 1048576: true; the input reads as it did. -/
def tableReplaysUptoRow : OpenClaim := { program := "ytnaanahgflbihaa", sum := "e5332bd9978b4b2b33cda05ad22fda6534455f22eb7de0318b190f8a15327139", func := "horarium/horariumlaw14.TableReplays", spec := "tableReplays", inPlace := ["internal/abi.NoEscape"], unfollowed := true, recurses := true, apart := false, narrowed := true }
def TableReplaysUptoSaid : Prop := tableReplaysUptoRow.holds Try.pinned (OpenSpec.upto tableReplaysSpec)

/-- 'horariumlaw14.TableBack', WHERE WHAT IT READS IS OF BULK AT MOST 1048576: true; the input reads as it did. -/
def tableBackUptoRow : OpenClaim := { program := "ytnaanahgflbihaa", sum := "e5332bd9978b4b2b33cda05ad22fda6534455f22eb7de0318b190f8a15327139", func := "horarium/horariumlaw14.TableBack", spec := "tableBack", inPlace := ["internal/abi.NoEscape"], unfollowed := true, recurses := true, apart := false, narrowed := true }
def TableBackUptoSaid : Prop := tableBackUptoRow.holds Try.pinned (OpenSpec.upto tableBackSpec)

/-- 'horariumlaw14.TableModes', WHERE WHAT IT READS IS OF BULK AT MOST 1048576: true; the input reads as it did. -/
def tableModesUptoRow : OpenClaim := { program := "ytnaanahgflbihaa", sum := "e5332bd9978b4b2b33cda05ad22fda6534455f22eb7de0318b190f8a15327139", func := "horarium/horariumlaw14.TableModes", spec := "tableModes", inPlace := ["internal/abi.NoEscape"], unfollowed := true, recurses := true, apart := false, narrowed := true }
def TableModesUptoSaid : Prop := tableModesUptoRow.holds Try.pinned (OpenSpec.upto tableModesSpec)

/-- 'horariumlaw14.TableReplay', WHERE WHAT IT READS IS OF BULK AT MOST 1048576: true; the input reads as it did. -/
def tableReplayUptoRow : OpenClaim := { program := "ytnaanahgflbihaa", sum := "e5332bd9978b4b2b33cda05ad22fda6534455f22eb7de0318b190f8a15327139", func := "horarium/horariumlaw14.TableReplay", spec := "tableReplay", inPlace := ["internal/abi.NoEscape"], unfollowed := true, recurses := true, apart := false, narrowed := true }
def TableReplayUptoSaid : Prop := tableReplayUptoRow.holds Try.pinned (OpenSpec.upto tableReplaySpec)

end Rows
end Go.Proofs.Ytnaanahgflbihaa
