/-
  No cell of these rows narrows 'for every input' (looked for: loops, veiled, ifaces, maps, wideKeys, modest, calm, conditions, laid).
  DERIVED. THE GIVEN ROWS OF THIS SEAT. 6 by the template 'for every input the law returns true; each argument reads behind the call as it read before'; 0 by the template 'total and deterministic' (their statements: YticehebgkehipaaTotals.lean).
  GIVEN WITH THE SEED: the statements are not yours to turn. If you find one false, say at which input.
  Laid BY PROGRAM, IN A SANDBOX (cutbox-rows.mjs): the forced cells as the released guide's own fill.sh prints them over the translation c724bc8268590ddd… (all of the seat's roots in one cut). By AI agents, Wed Nov 11 2026. No macro, syntax, notation, axiom, sorry.
-/
import Derived.Test.YticehebgkehipaaChecked
import GoSem.Claim
import GoSem.ClaimJoined
import GoSem.ClaimMapViews
import Derived.JoinedTies
import Derived.KernelRfl
namespace Go.Proofs.Yticehebgkehipaa
/- THE CELL 'sum', in the pinned program and in every row, IS THE sha256 OF THE DUMP (.gsa) THAT YticehebgkehipaaProg.lean LOADS. Nothing in Lean hashes anything: it is a label: what it is worth is what the hold of that sum in a sandbox is worth. -/
noncomputable def Try.pinned : Pinned := { name := "yticehebgkehipaa", sum := "c724bc8268590ddda3ae79142fb8bf46cb50a350e1635d36ce790ea8b02dcedc", checked := Try.checked }
namespace Rows
def none {H : Type} : Left H := { results := [], args := [] }

/-- 'horariumlaw13.OpsWrite': WHATEVER THE INPUT: true; the input reads as it did. -/
def opsWriteSpec : ChangeSpec := { name := "opsWrite", fn := fun _ => fun
  | [d1, d2] => { results := [.lit (.bool true)], args := [d1, d2] }
  | _ => none }
def opsWriteRow : OpenClaim := { program := "yticehebgkehipaa", sum := "c724bc8268590ddda3ae79142fb8bf46cb50a350e1635d36ce790ea8b02dcedc", func := "horarium/horariumlaw13.OpsWrite", spec := "opsWrite", inPlace := ["internal/abi.NoEscape"], unfollowed := true, recurses := true, apart := false }
def OpsWriteSaid : Prop := opsWriteRow.holds Try.pinned (OpenSpec.ofChange opsWriteSpec)

/-- ITS FALSE NEIGHBOUR: 'it returns false'. Refute it at one input. -/
def opsWriteWrong : ChangeSpec := { name := "opsWrite", fn := fun _ => fun
  | [d1, d2] => { results := [.lit (.bool false)], args := [d1, d2] }
  | _ => none }
def OpsWriteWrongFalsely : Prop := opsWriteRow.holds Try.pinned (OpenSpec.ofChange opsWriteWrong)

/-- 'horariumlaw13.OpsRead': WHATEVER THE INPUT: true; the input reads as it did. -/
def opsReadSpec : ChangeSpec := { name := "opsRead", fn := fun _ => fun
  | [d1, d2, d3] => { results := [.lit (.bool true)], args := [d1, d2, d3] }
  | _ => none }
def opsReadRow : OpenClaim := { program := "yticehebgkehipaa", sum := "c724bc8268590ddda3ae79142fb8bf46cb50a350e1635d36ce790ea8b02dcedc", func := "horarium/horariumlaw13.OpsRead", spec := "opsRead", inPlace := ["internal/abi.NoEscape"], unfollowed := true, recurses := true, apart := false }
def OpsReadSaid : Prop := opsReadRow.holds Try.pinned (OpenSpec.ofChange opsReadSpec)

/-- ITS FALSE NEIGHBOUR: 'it returns false'. Refute it at one input. -/
def opsReadWrong : ChangeSpec := { name := "opsRead", fn := fun _ => fun
  | [d1, d2, d3] => { results := [.lit (.bool false)], args := [d1, d2, d3] }
  | _ => none }
def OpsReadWrongFalsely : Prop := opsReadRow.holds Try.pinned (OpenSpec.ofChange opsReadWrong)

/-- 'horariumlaw13.OpsBack': WHATEVER THE INPUT: true; the input reads as it did. -/
def opsBackSpec : ChangeSpec := { name := "opsBack", fn := fun _ => fun
  | [d1, d2] => { results := [.lit (.bool true)], args := [d1, d2] }
  | _ => none }
def opsBackRow : OpenClaim := { program := "yticehebgkehipaa", sum := "c724bc8268590ddda3ae79142fb8bf46cb50a350e1635d36ce790ea8b02dcedc", func := "horarium/horariumlaw13.OpsBack", spec := "opsBack", inPlace := ["internal/abi.NoEscape"], unfollowed := true, recurses := true, apart := false }
def OpsBackSaid : Prop := opsBackRow.holds Try.pinned (OpenSpec.ofChange opsBackSpec)

/-- ITS FALSE NEIGHBOUR: 'it returns false'. Refute it at one input. -/
def opsBackWrong : ChangeSpec := { name := "opsBack", fn := fun _ => fun
  | [d1, d2] => { results := [.lit (.bool false)], args := [d1, d2] }
  | _ => none }
def OpsBackWrongFalsely : Prop := opsBackRow.holds Try.pinned (OpenSpec.ofChange opsBackWrong)

/-- 'horariumlaw13.OpsOne': WHATEVER THE INPUT: true; the input reads as it did. -/
def opsOneSpec : ChangeSpec := { name := "opsOne", fn := fun _ => fun
  | [d1, d2] => { results := [.lit (.bool true)], args := [d1, d2] }
  | _ => none }
def opsOneRow : OpenClaim := { program := "yticehebgkehipaa", sum := "c724bc8268590ddda3ae79142fb8bf46cb50a350e1635d36ce790ea8b02dcedc", func := "horarium/horariumlaw13.OpsOne", spec := "opsOne", inPlace := ["internal/abi.NoEscape"], unfollowed := true, recurses := true, apart := false }
def OpsOneSaid : Prop := opsOneRow.holds Try.pinned (OpenSpec.ofChange opsOneSpec)

/-- ITS FALSE NEIGHBOUR: 'it returns false'. Refute it at one input. -/
def opsOneWrong : ChangeSpec := { name := "opsOne", fn := fun _ => fun
  | [d1, d2] => { results := [.lit (.bool false)], args := [d1, d2] }
  | _ => none }
def OpsOneWrongFalsely : Prop := opsOneRow.holds Try.pinned (OpenSpec.ofChange opsOneWrong)

/-- 'horariumlaw13.OpsBare': WHATEVER THE INPUT: true; the input reads as it did. -/
def opsBareSpec : ChangeSpec := { name := "opsBare", fn := fun _ => fun
  | [d] => { results := [.lit (.bool true)], args := [d] }
  | _ => none }
def opsBareRow : OpenClaim := { program := "yticehebgkehipaa", sum := "c724bc8268590ddda3ae79142fb8bf46cb50a350e1635d36ce790ea8b02dcedc", func := "horarium/horariumlaw13.OpsBare", spec := "opsBare", inPlace := ["internal/abi.NoEscape"], unfollowed := true, recurses := true, apart := false }
def OpsBareSaid : Prop := opsBareRow.holds Try.pinned (OpenSpec.ofChange opsBareSpec)

/-- ITS FALSE NEIGHBOUR: 'it returns false'. Refute it at one input. -/
def opsBareWrong : ChangeSpec := { name := "opsBare", fn := fun _ => fun
  | [d] => { results := [.lit (.bool false)], args := [d] }
  | _ => none }
def OpsBareWrongFalsely : Prop := opsBareRow.holds Try.pinned (OpenSpec.ofChange opsBareWrong)

/-- 'horariumlaw13.OpsNames': WHATEVER THE INPUT: true; the input reads as it did. -/
def opsNamesSpec : ChangeSpec := { name := "opsNames", fn := fun _ => fun
  | [d1, d2] => { results := [.lit (.bool true)], args := [d1, d2] }
  | _ => none }
def opsNamesRow : OpenClaim := { program := "yticehebgkehipaa", sum := "c724bc8268590ddda3ae79142fb8bf46cb50a350e1635d36ce790ea8b02dcedc", func := "horarium/horariumlaw13.OpsNames", spec := "opsNames", inPlace := ["internal/abi.NoEscape"], unfollowed := true, recurses := true, apart := false }
def OpsNamesSaid : Prop := opsNamesRow.holds Try.pinned (OpenSpec.ofChange opsNamesSpec)

/-- ITS FALSE NEIGHBOUR: 'it returns false'. Refute it at one input. -/
def opsNamesWrong : ChangeSpec := { name := "opsNames", fn := fun _ => fun
  | [d1, d2] => { results := [.lit (.bool false)], args := [d1, d2] }
  | _ => none }
def OpsNamesWrongFalsely : Prop := opsNamesRow.holds Try.pinned (OpenSpec.ofChange opsNamesWrong)

/- THE SECOND FORM. 'bulk': how many values and letters a reading holds, each counted each time it is reached (what is shared counts as often as it is met; a slice's spare places count too). A statement '..UptoSaid' is the law's where the arguments, and the package variables that the reading takes, are together of bulk at most 1048576: NARROWER than '..Said'. Prove '..Said' where nothing that the law and all that it calls make is longer than what came in: it says more and counts as full. Else prove '..UptoSaid'. A law counts once. -/
mutual
def uptoBulk {H : Type} : DataW H → Nat
  | .lit (.string bytes) => bytes.length + 1
  | .lit _ => 1
  | .nil => 1
  | .ptr d => uptoBulk d + 1
  | .slice elems spare => uptoBulkAll elems + uptoBulkAll spare + 1
  | .agg parts => uptoBulkAll parts + 1
  | .iface _ d => uptoBulk d + 1
  | .map entries => uptoBulkEntries entries + 1
  | .held _ => 1
def uptoBulkAll {H : Type} : List (DataW H) → Nat
  | [] => 0
  | d :: r => uptoBulk d + uptoBulkAll r
def uptoBulkEntries {H : Type} : List (Lit × DataW H) → Nat
  | [] => 0
  | x :: r => uptoBulkEntry x + uptoBulkEntries r
def uptoBulkEntry {H : Type} : Lit × DataW H → Nat
  | (.string bytes, d) => bytes.length + uptoBulk d + 1
  | (_, d) => uptoBulk d + 1
 end
def uptoSmall : (H : Type) → List (DataW H) → Bool := fun _ ds => decide (uptoBulkAll ds ≤ 1048576)
def OpenSpec.upto (s : _root_.Go.ChangeSpec) : _root_.Go.OpenSpec := { _root_.Go.OpenSpec.ofChange s with cond := some uptoSmall }

/-- 'horariumlaw13.OpsWrite', WHERE WHAT IT READS IS OF BULK AT MOST 1048576: true; the input reads as it did. -/
def opsWriteUptoRow : OpenClaim := { program := "yticehebgkehipaa", sum := "c724bc8268590ddda3ae79142fb8bf46cb50a350e1635d36ce790ea8b02dcedc", func := "horarium/horariumlaw13.OpsWrite", spec := "opsWrite", inPlace := ["internal/abi.NoEscape"], unfollowed := true, recurses := true, apart := false, narrowed := true }
def OpsWriteUptoSaid : Prop := opsWriteUptoRow.holds Try.pinned (OpenSpec.upto opsWriteSpec)

/-- 'horariumlaw13.OpsRead', WHERE WHAT IT READS IS OF BULK AT MOST 1048576: true; the input reads as it did. -/
def opsReadUptoRow : OpenClaim := { program := "yticehebgkehipaa", sum := "c724bc8268590ddda3ae79142fb8bf46cb50a350e1635d36ce790ea8b02dcedc", func := "horarium/horariumlaw13.OpsRead", spec := "opsRead", inPlace := ["internal/abi.NoEscape"], unfollowed := true, recurses := true, apart := false, narrowed := true }
def OpsReadUptoSaid : Prop := opsReadUptoRow.holds Try.pinned (OpenSpec.upto opsReadSpec)

/-- 'horariumlaw13.OpsBack', WHERE WHAT IT READS IS OF BULK AT MOST 1048576: true; the input reads as it did. -/
def opsBackUptoRow : OpenClaim := { program := "yticehebgkehipaa", sum := "c724bc8268590ddda3ae79142fb8bf46cb50a350e1635d36ce790ea8b02dcedc", func := "horarium/horariumlaw13.OpsBack", spec := "opsBack", inPlace := ["internal/abi.NoEscape"], unfollowed := true, recurses := true, apart := false, narrowed := true }
def OpsBackUptoSaid : Prop := opsBackUptoRow.holds Try.pinned (OpenSpec.upto opsBackSpec)

/-- 'horariumlaw13.OpsOne', WHERE WHAT IT READS IS OF BULK AT MOST 1048576: true; the input reads as it did. -/
def opsOneUptoRow : OpenClaim := { program := "yticehebgkehipaa", sum := "c724bc8268590ddda3ae79142fb8bf46cb50a350e1635d36ce790ea8b02dcedc", func := "horarium/horariumlaw13.OpsOne", spec := "opsOne", inPlace := ["internal/abi.NoEscape"], unfollowed := true, recurses := true, apart := false, narrowed := true }
def OpsOneUptoSaid : Prop := opsOneUptoRow.holds Try.pinned (OpenSpec.upto opsOneSpec)

/-- 'horariumlaw13.OpsBare', WHERE WHAT IT READS IS OF BULK AT MOST 1048576: true; the input reads as it did. -/
def opsBareUptoRow : OpenClaim := { program := "yticehebgkehipaa", sum := "c724bc8268590ddda3ae79142fb8bf46cb50a350e1635d36ce790ea8b02dcedc", func := "horarium/horariumlaw13.OpsBare", spec := "opsBare", inPlace := ["internal/abi.NoEscape"], unfollowed := true, recurses := true, apart := false, narrowed := true }
def OpsBareUptoSaid : Prop := opsBareUptoRow.holds Try.pinned (OpenSpec.upto opsBareSpec)

/-- 'horariumlaw13.OpsNames', WHERE WHAT IT READS IS OF BULK AT MOST 1048576: true; the input reads as it did. -/
def opsNamesUptoRow : OpenClaim := { program := "yticehebgkehipaa", sum := "c724bc8268590ddda3ae79142fb8bf46cb50a350e1635d36ce790ea8b02dcedc", func := "horarium/horariumlaw13.OpsNames", spec := "opsNames", inPlace := ["internal/abi.NoEscape"], unfollowed := true, recurses := true, apart := false, narrowed := true }
def OpsNamesUptoSaid : Prop := opsNamesUptoRow.holds Try.pinned (OpenSpec.upto opsNamesSpec)

end Rows
end Go.Proofs.Yticehebgkehipaa
