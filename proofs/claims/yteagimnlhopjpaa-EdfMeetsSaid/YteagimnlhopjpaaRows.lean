/-
  No cell of these rows narrows 'for every input' (looked for: loops, veiled, ifaces, maps, wideKeys, modest, calm, conditions, laid).
  DERIVED. THE GIVEN ROWS OF THIS SEAT. 4 by the template 'for every input the law returns true; each argument reads behind the call as it read before'; 0 by the template 'total and deterministic' (their statements: YteagimnlhopjpaaTotals.lean).
  GIVEN WITH THE SEED: the statements are not yours to turn. If you find one false, say at which input.
  Laid BY PROGRAM, IN A SANDBOX (cutbox-rows.mjs): the forced cells as the released guide's own fill.sh prints them over the translation 261025c91f47f9b7… (all of the seat's roots in one cut). By AI agents, Wed Nov 11 2026. No macro, syntax, notation, axiom, sorry.
-/
import Derived.Test.YteagimnlhopjpaaChecked
import GoSem.Claim
import GoSem.ClaimJoined
import GoSem.ClaimMapViews
import Derived.JoinedTies
import Derived.KernelRfl
namespace Go.Proofs.Yteagimnlhopjpaa
/- THE CELL 'sum', in the pinned program and in every row, IS THE sha256 OF THE DUMP (.gsa) THAT YteagimnlhopjpaaProg.lean LOADS. Nothing in Lean hashes anything: it is a label: what it is worth is what the hold of that sum in a sandbox is worth. -/
noncomputable def Try.pinned : Pinned := { name := "yteagimnlhopjpaa", sum := "261025c91f47f9b791ef3144b8c42a144619f99daec37a28b704534d8a69d24d", checked := Try.checked }
namespace Rows
def none {H : Type} : Left H := { results := [], args := [] }

/-- 'horariumlaw18.EdfPlays': WHATEVER THE INPUT: true; the input reads as it did. -/
def edfPlaysSpec : ChangeSpec := { name := "edfPlays", fn := fun _ => fun
  | [d1, d2] => { results := [.lit (.bool true)], args := [d1, d2] }
  | _ => none }
def edfPlaysRow : OpenClaim := { program := "yteagimnlhopjpaa", sum := "261025c91f47f9b791ef3144b8c42a144619f99daec37a28b704534d8a69d24d", func := "horarium/horariumlaw18.EdfPlays", spec := "edfPlays", unfollowed := true, recurses := true, apart := false }
def EdfPlaysSaid : Prop := edfPlaysRow.holds Try.pinned (OpenSpec.ofChange edfPlaysSpec)

/-- ITS FALSE NEIGHBOUR: 'it returns false'. Refute it at one input. -/
def edfPlaysWrong : ChangeSpec := { name := "edfPlays", fn := fun _ => fun
  | [d1, d2] => { results := [.lit (.bool false)], args := [d1, d2] }
  | _ => none }
def EdfPlaysWrongFalsely : Prop := edfPlaysRow.holds Try.pinned (OpenSpec.ofChange edfPlaysWrong)

/-- 'horariumlaw18.EdfAll': WHATEVER THE INPUT: true; the input reads as it did. -/
def edfAllSpec : ChangeSpec := { name := "edfAll", fn := fun _ => fun
  | [d] => { results := [.lit (.bool true)], args := [d] }
  | _ => none }
def edfAllRow : OpenClaim := { program := "yteagimnlhopjpaa", sum := "261025c91f47f9b791ef3144b8c42a144619f99daec37a28b704534d8a69d24d", func := "horarium/horariumlaw18.EdfAll", spec := "edfAll", unfollowed := true, recurses := true, apart := false }
def EdfAllSaid : Prop := edfAllRow.holds Try.pinned (OpenSpec.ofChange edfAllSpec)

/-- ITS FALSE NEIGHBOUR: 'it returns false'. Refute it at one input. -/
def edfAllWrong : ChangeSpec := { name := "edfAll", fn := fun _ => fun
  | [d] => { results := [.lit (.bool false)], args := [d] }
  | _ => none }
def EdfAllWrongFalsely : Prop := edfAllRow.holds Try.pinned (OpenSpec.ofChange edfAllWrong)

/-- 'horariumlaw18.EdfMeets': WHATEVER THE INPUT: true; the input reads as it did. -/
def edfMeetsSpec : ChangeSpec := { name := "edfMeets", fn := fun _ => fun
  | [d1, d2, d3] => { results := [.lit (.bool true)], args := [d1, d2, d3] }
  | _ => none }
def edfMeetsRow : OpenClaim := { program := "yteagimnlhopjpaa", sum := "261025c91f47f9b791ef3144b8c42a144619f99daec37a28b704534d8a69d24d", func := "horarium/horariumlaw18.EdfMeets", spec := "edfMeets", unfollowed := true, recurses := true, apart := false }
def EdfMeetsSaid : Prop := edfMeetsRow.holds Try.pinned (OpenSpec.ofChange edfMeetsSpec)

/-- ITS FALSE NEIGHBOUR: 'it returns false'. Refute it at one input. -/
def edfMeetsWrong : ChangeSpec := { name := "edfMeets", fn := fun _ => fun
  | [d1, d2, d3] => { results := [.lit (.bool false)], args := [d1, d2, d3] }
  | _ => none }
def EdfMeetsWrongFalsely : Prop := edfMeetsRow.holds Try.pinned (OpenSpec.ofChange edfMeetsWrong)

/-- 'horariumlaw18.EdfLate': WHATEVER THE INPUT: true; the input reads as it did. -/
def edfLateSpec : ChangeSpec := { name := "edfLate", fn := fun _ => fun
  | [d1, d2] => { results := [.lit (.bool true)], args := [d1, d2] }
  | _ => none }
def edfLateRow : OpenClaim := { program := "yteagimnlhopjpaa", sum := "261025c91f47f9b791ef3144b8c42a144619f99daec37a28b704534d8a69d24d", func := "horarium/horariumlaw18.EdfLate", spec := "edfLate", unfollowed := true, recurses := true, apart := false }
def EdfLateSaid : Prop := edfLateRow.holds Try.pinned (OpenSpec.ofChange edfLateSpec)

/-- ITS FALSE NEIGHBOUR: 'it returns false'. Refute it at one input. -/
def edfLateWrong : ChangeSpec := { name := "edfLate", fn := fun _ => fun
  | [d1, d2] => { results := [.lit (.bool false)], args := [d1, d2] }
  | _ => none }
def EdfLateWrongFalsely : Prop := edfLateRow.holds Try.pinned (OpenSpec.ofChange edfLateWrong)

/- THE SECOND FORM. 'bulk': how many values and letters a reading holds, each counted each time it is reached (what is shared counts as often as it is met; a slice's spare places count too). A statement '..UptoSaid' is the law's where the arguments, and the package variables that the reading takes, are together of bulk at most 1048576: NARROWER than '..Said'. Prove '..Said' where nothing that the law and all that it calls make is longer than what came in: it says more and counts as full. Else prove '..UptoSaid'. A law counts once. -/
mutual
def uptoBulk {H : Type} : DataW H → Nat
  | .lit (.string bytes) => bytes.length + 1
  | .lit _ => 1
  | .nil => 1
  | .ptr d => uptoBulk d + 1
  | .slice elems spare => uptoBulkAll elems + uptoBulkAll spare + 1
  | .agg parts => uptoBulkAll parts + 1
  | .iface _ d => uptoBulk d + 1
  | .map entries => uptoBulkEntries entries + 1
  | .held _ => 1
def uptoBulkAll {H : Type} : List (DataW H) → Nat
  | [] => 0
  | d :: r => uptoBulk d + uptoBulkAll r
def uptoBulkEntries {H : Type} : List (Lit × DataW H) → Nat
  | [] => 0
  | x :: r => uptoBulkEntry x + uptoBulkEntries r
def uptoBulkEntry {H : Type} : Lit × DataW H → Nat
  | (.string bytes, d) => bytes.length + uptoBulk d + 1
  | (_, d) => uptoBulk d + 1
 end
def uptoSmall : (H : Type) → List (DataW H) → Bool := fun _ ds => decide (uptoBulkAll ds ≤ 1048576)
def OpenSpec.upto (s : _root_.Go.ChangeSpec) : _root_.Go.OpenSpec := { _root_.Go.OpenSpec.ofChange s with cond := some uptoSmall }

/-- 'horariumlaw18.EdfPlays', WHERE WHAT IT READS IS OF BULK AT MOST 1048576: true; the input reads as it did. -/
def edfPlaysUptoRow : OpenClaim := { program := "yteagimnlhopjpaa", sum := "261025c91f47f9b791ef3144b8c42a144619f99daec37a28b704534d8a69d24d", func := "horarium/horariumlaw18.EdfPlays", spec := "edfPlays", unfollowed := true, recurses := true, apart := false, narrowed := true }
def EdfPlaysUptoSaid : Prop := edfPlaysUptoRow.holds Try.pinned (OpenSpec.upto edfPlaysSpec)

/-- 'horariumlaw18.EdfAll', WHERE WHAT IT READS IS OF BULK AT MOST 1048576: true; the input reads as it did. -/
def edfAllUptoRow : OpenClaim := { program := "yteagimnlhopjpaa", sum := "261025c91f47f9b791ef3144b8c42a144619f99daec37a28b704534d8a69d24d", func := "horarium/horariumlaw18.EdfAll", spec := "edfAll", unfollowed := true, recurses := true, apart := false, narrowed := true }
def EdfAllUptoSaid : Prop := edfAllUptoRow.holds Try.pinned (OpenSpec.upto edfAllSpec)

/-- 'horariumlaw18.EdfMeets', WHERE WHAT IT READS IS OF BULK AT MOST 1048576: true; the input reads as it did. -/
def edfMeetsUptoRow : OpenClaim := { program := "yteagimnlhopjpaa", sum := "261025c91f47f9b791ef3144b8c42a144619f99daec37a28b704534d8a69d24d", func := "horarium/horariumlaw18.EdfMeets", spec := "edfMeets", unfollowed := true, recurses := true, apart := false, narrowed := true }
def EdfMeetsUptoSaid : Prop := edfMeetsUptoRow.holds Try.pinned (OpenSpec.upto edfMeetsSpec)

/-- 'horariumlaw18.EdfLate', WHERE WHAT IT READS IS OF BULK AT MOST 1048576: true; the input reads as it did. -/
def edfLateUptoRow : OpenClaim := { program := "yteagimnlhopjpaa", sum := "261025c91f47f9b791ef3144b8c42a144619f99daec37a28b704534d8a69d24d", func := "horarium/horariumlaw18.EdfLate", spec := "edfLate", unfollowed := true, recurses := true, apart := false, narrowed := true }
def EdfLateUptoSaid : Prop := edfLateUptoRow.holds Try.pinned (OpenSpec.upto edfLateSpec)

end Rows
end Go.Proofs.Yteagimnlhopjpaa
