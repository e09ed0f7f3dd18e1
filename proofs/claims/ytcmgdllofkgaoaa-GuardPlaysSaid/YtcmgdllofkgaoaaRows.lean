/-
  No cell of these rows narrows 'for every input' (looked for: loops, veiled, ifaces, maps, wideKeys, modest, calm, conditions, laid).
  DERIVED. THE GIVEN ROWS OF THIS SEAT. 4 by the template 'for every input the law returns true; each argument reads behind the call as it read before'; 0 by the template 'total and deterministic' (their statements: YtcmgdllofkgaoaaTotals.lean).
  GIVEN WITH THE SEED: the statements are not yours to turn. If you find one false, say at which input.
  Laid BY PROGRAM, IN A SANDBOX (cutbox-rows.mjs): the forced cells as the released guide's own fill.sh prints them over the translation 23fedd4044077908… (all of the seat's roots in one cut). By AI agents, Wed Nov 11 2026. No macro, syntax, notation, axiom, sorry.
-/
import Derived.Test.YtcmgdllofkgaoaaChecked
import GoSem.Claim
import GoSem.ClaimJoined
import GoSem.ClaimMapViews
import Derived.JoinedTies
import Derived.KernelRfl
namespace Go.Proofs.Ytcmgdllofkgaoaa
/- THE CELL 'sum', in the pinned program and in every row, IS THE sha256 OF THE DUMP (.gsa) THAT YtcmgdllofkgaoaaProg.lean LOADS. Nothing in Lean hashes anything: it is a label: what it is worth is what the hold of that sum in a sandbox is worth. -/
noncomputable def Try.pinned : Pinned := { name := "ytcmgdllofkgaoaa", sum := "23fedd4044077908e6d8ed7225badb8d8e587fa054226ac6e132304e1a4dce05", checked := Try.checked }
namespace Rows
def none {H : Type} : Left H := { results := [], args := [] }

/-- 'horariumlaw17.GuardPlays': WHATEVER THE INPUT: true; the input reads as it did. -/
def guardPlaysSpec : ChangeSpec := { name := "guardPlays", fn := fun _ => fun
  | [d] => { results := [.lit (.bool true)], args := [d] }
  | _ => none }
def guardPlaysRow : OpenClaim := { program := "ytcmgdllofkgaoaa", sum := "23fedd4044077908e6d8ed7225badb8d8e587fa054226ac6e132304e1a4dce05", func := "horarium/horariumlaw17.GuardPlays", spec := "guardPlays", recurses := true, apart := false }
def GuardPlaysSaid : Prop := guardPlaysRow.holds Try.pinned (OpenSpec.ofChange guardPlaysSpec)

/-- ITS FALSE NEIGHBOUR: 'it returns false'. Refute it at one input. -/
def guardPlaysWrong : ChangeSpec := { name := "guardPlays", fn := fun _ => fun
  | [d] => { results := [.lit (.bool false)], args := [d] }
  | _ => none }
def GuardPlaysWrongFalsely : Prop := guardPlaysRow.holds Try.pinned (OpenSpec.ofChange guardPlaysWrong)

/-- 'horariumlaw17.GuardApart': WHATEVER THE INPUT: true; the input reads as it did. -/
def guardApartSpec : ChangeSpec := { name := "guardApart", fn := fun _ => fun
  | [d1, d2] => { results := [.lit (.bool true)], args := [d1, d2] }
  | _ => none }
def guardApartRow : OpenClaim := { program := "ytcmgdllofkgaoaa", sum := "23fedd4044077908e6d8ed7225badb8d8e587fa054226ac6e132304e1a4dce05", func := "horarium/horariumlaw17.GuardApart", spec := "guardApart", apart := false }
def GuardApartSaid : Prop := guardApartRow.holds Try.pinned (OpenSpec.ofChange guardApartSpec)

/-- ITS FALSE NEIGHBOUR: 'it returns false'. Refute it at one input. -/
def guardApartWrong : ChangeSpec := { name := "guardApart", fn := fun _ => fun
  | [d1, d2] => { results := [.lit (.bool false)], args := [d1, d2] }
  | _ => none }
def GuardApartWrongFalsely : Prop := guardApartRow.holds Try.pinned (OpenSpec.ofChange guardApartWrong)

/-- 'horariumlaw17.GuardOwn': WHATEVER THE INPUT: true; the input reads as it did. -/
def guardOwnSpec : ChangeSpec := { name := "guardOwn", fn := fun _ => fun
  | [d1, d2, d3] => { results := [.lit (.bool true)], args := [d1, d2, d3] }
  | _ => none }
def guardOwnRow : OpenClaim := { program := "ytcmgdllofkgaoaa", sum := "23fedd4044077908e6d8ed7225badb8d8e587fa054226ac6e132304e1a4dce05", func := "horarium/horariumlaw17.GuardOwn", spec := "guardOwn", apart := false }
def GuardOwnSaid : Prop := guardOwnRow.holds Try.pinned (OpenSpec.ofChange guardOwnSpec)

/-- ITS FALSE NEIGHBOUR: 'it returns false'. Refute it at one input. -/
def guardOwnWrong : ChangeSpec := { name := "guardOwn", fn := fun _ => fun
  | [d1, d2, d3] => { results := [.lit (.bool false)], args := [d1, d2, d3] }
  | _ => none }
def GuardOwnWrongFalsely : Prop := guardOwnRow.holds Try.pinned (OpenSpec.ofChange guardOwnWrong)

/-- 'horariumlaw17.GuardOrder': WHATEVER THE INPUT: true; the input reads as it did. -/
def guardOrderSpec : ChangeSpec := { name := "guardOrder", fn := fun _ => fun
  | [d] => { results := [.lit (.bool true)], args := [d] }
  | _ => none }
def guardOrderRow : OpenClaim := { program := "ytcmgdllofkgaoaa", sum := "23fedd4044077908e6d8ed7225badb8d8e587fa054226ac6e132304e1a4dce05", func := "horarium/horariumlaw17.GuardOrder", spec := "guardOrder", recurses := true, apart := false }
def GuardOrderSaid : Prop := guardOrderRow.holds Try.pinned (OpenSpec.ofChange guardOrderSpec)

/-- ITS FALSE NEIGHBOUR: 'it returns false'. Refute it at one input. -/
def guardOrderWrong : ChangeSpec := { name := "guardOrder", fn := fun _ => fun
  | [d] => { results := [.lit (.bool false)], args := [d] }
  | _ => none }
def GuardOrderWrongFalsely : Prop := guardOrderRow.holds Try.pinned (OpenSpec.ofChange guardOrderWrong)

/- THE SECOND FORM. 'bulk': how many values and letters a reading holds, each counted each time it is reached (what is shared counts as often as it is met; a slice's spare places count too). A statement '..UptoSaid' is the law's where the arguments, and the package variables that the reading takes, are together of bulk at most 1048576: NARROWER than '..Said'. Prove '..Said' where nothing that the law and all that it calls make is longer than what came in: it says more and counts as full. Else prove '..UptoSaid'. A law counts once. -/
mutual
def uptoBulk {H : Type} : DataW H → Nat
  | .lit (.string bytes) => bytes.length + 1
  | .lit _ => 1
  | .nil => 1
  | .ptr d => uptoBulk d + 1
  | .slice elems spare => uptoBulkAll elems + uptoBulkAll spare + 1
  | .agg parts => uptoBulkAll parts + 1
  | .iface _ d => uptoBulk d + 1
  | .map entries => uptoBulkEntries entries + 1
  | .held _ => 1
def uptoBulkAll {H : Type} : List (DataW H) → Nat
  | [] => 0
  | d :: r => uptoBulk d + uptoBulkAll r
def uptoBulkEntries {H : Type} : List (Lit × DataW H) → Nat
  | [] => 0
  | x :: r => uptoBulkEntry x + uptoBulkEntries r
def uptoBulkEntry {H : Type} : Lit × DataW H → Nat
  | (.string bytes, d) => bytes.length + uptoBulk d + 1
  | (_, d) => uptoBulk d + 1
 end
def uptoSmall : (H : Type) → List (DataW H) → Bool := fun _ ds => decide (uptoBulkAll ds ≤ 1048576)
def OpenSpec.upto (s : _root_.Go.ChangeSpec) : _root_.Go.OpenSpec := { _root_.Go.OpenSpec.ofChange s with cond := some uptoSmall }

/-- 'horariumlaw17.GuardPlays', WHERE WHAT IT READS IS OF BULK AT MOST 1048576: true; the input reads as it did. -/
def guardPlaysUptoRow : OpenClaim := { program := "ytcmgdllofkgaoaa", sum := "23fedd4044077908e6d8ed7225badb8d8e587fa054226ac6e132304e1a4dce05", func := "horarium/horariumlaw17.GuardPlays", spec := "guardPlays", recurses := true, apart := false, narrowed := true }
def GuardPlaysUptoSaid : Prop := guardPlaysUptoRow.holds Try.pinned (OpenSpec.upto guardPlaysSpec)

/-- 'horariumlaw17.GuardApart', WHERE WHAT IT READS IS OF BULK AT MOST 1048576: true; the input reads as it did. -/
def guardApartUptoRow : OpenClaim := { program := "ytcmgdllofkgaoaa", sum := "23fedd4044077908e6d8ed7225badb8d8e587fa054226ac6e132304e1a4dce05", func := "horarium/horariumlaw17.GuardApart", spec := "guardApart", apart := false, narrowed := true }
def GuardApartUptoSaid : Prop := guardApartUptoRow.holds Try.pinned (OpenSpec.upto guardApartSpec)

/-- 'horariumlaw17.GuardOwn', WHERE WHAT IT READS IS OF BULK AT MOST 1048576: true; the input reads as it did. -/
def guardOwnUptoRow : OpenClaim := { program := "ytcmgdllofkgaoaa", sum := "23fedd4044077908e6d8ed7225badb8d8e587fa054226ac6e132304e1a4dce05", func := "horarium/horariumlaw17.GuardOwn", spec := "guardOwn", apart := false, narrowed := true }
def GuardOwnUptoSaid : Prop := guardOwnUptoRow.holds Try.pinned (OpenSpec.upto guardOwnSpec)

/-- 'horariumlaw17.GuardOrder', WHERE WHAT IT READS IS OF BULK AT MOST 1048576: true; the input reads as it did. -/
def guardOrderUptoRow : OpenClaim := { program := "ytcmgdllofkgaoaa", sum := "23fedd4044077908e6d8ed7225badb8d8e587fa054226ac6e132304e1a4dce05", func := "horarium/horariumlaw17.GuardOrder", spec := "guardOrder", recurses := true, apart := false, narrowed := true }
def GuardOrderUptoSaid : Prop := guardOrderUptoRow.holds Try.pinned (OpenSpec.upto guardOrderSpec)

end Rows
end Go.Proofs.Ytcmgdllofkgaoaa
