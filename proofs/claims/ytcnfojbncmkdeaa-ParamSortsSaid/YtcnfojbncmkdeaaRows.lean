/-
  No cell of these rows narrows 'for every input' (looked for: loops, veiled, ifaces, maps, wideKeys, modest, calm, conditions, laid).
  DERIVED. THE GIVEN ROWS OF THIS SEAT. 6 by the template 'for every input the law returns true; each argument reads behind the call as it read before'; 0 by the template 'total and deterministic' (their statements: YtcnfojbncmkdeaaTotals.lean).
  GIVEN WITH THE SEED: the statements are not yours to turn. If you find one false, say at which input.
  Laid BY PROGRAM, IN A SANDBOX (cutbox-rows.mjs): the forced cells as the released guide's own fill.sh prints them over the translation 52317aa2e500d3f9… (all of the seat's roots in one cut). By AI agents, Wed Nov 11 2026. No macro, syntax, notation, axiom, sorry.
-/
import Derived.Test.YtcnfojbncmkdeaaChecked
import GoSem.Claim
import GoSem.ClaimJoined
import GoSem.ClaimMapViews
import Derived.JoinedTies
import Derived.KernelRfl
namespace Go.Proofs.Ytcnfojbncmkdeaa
/- THE CELL 'sum', in the pinned program and in every row, IS THE sha256 OF THE DUMP (.gsa) THAT YtcnfojbncmkdeaaProg.lean LOADS. Nothing in Lean hashes anything: it is a label: what it is worth is what the hold of that sum in a sandbox is worth. -/
noncomputable def Try.pinned : Pinned := { name := "ytcnfojbncmkdeaa", sum := "52317aa2e500d3f9c747eb709a0581f5519ebafec4326df8b6e47181f57019f3", checked := Try.checked }
namespace Rows
def none {H : Type} : Left H := { results := [], args := [] }

/-- 'horariumlaw09.ParamTells': WHATEVER THE INPUT: true; the input reads as it did. -/
def paramTellsSpec : ChangeSpec := { name := "paramTells", fn := fun _ => fun
  | [d1, d2] => { results := [.lit (.bool true)], args := [d1, d2] }
  | _ => none }
def paramTellsRow : OpenClaim := { program := "ytcnfojbncmkdeaa", sum := "52317aa2e500d3f9c747eb709a0581f5519ebafec4326df8b6e47181f57019f3", func := "horarium/horariumlaw09.ParamTells", spec := "paramTells", unfollowed := true, recurses := true, apart := false }
def ParamTellsSaid : Prop := paramTellsRow.holds Try.pinned (OpenSpec.ofChange paramTellsSpec)

/-- ITS FALSE NEIGHBOUR: 'it returns false'. Refute it at one input. -/
def paramTellsWrong : ChangeSpec := { name := "paramTells", fn := fun _ => fun
  | [d1, d2] => { results := [.lit (.bool false)], args := [d1, d2] }
  | _ => none }
def ParamTellsWrongFalsely : Prop := paramTellsRow.holds Try.pinned (OpenSpec.ofChange paramTellsWrong)

/-- 'horariumlaw09.ParamGcd': WHATEVER THE INPUT: true; the input reads as it did. -/
def paramGcdSpec : ChangeSpec := { name := "paramGcd", fn := fun _ => fun
  | [d1, d2] => { results := [.lit (.bool true)], args := [d1, d2] }
  | _ => none }
def paramGcdRow : OpenClaim := { program := "ytcnfojbncmkdeaa", sum := "52317aa2e500d3f9c747eb709a0581f5519ebafec4326df8b6e47181f57019f3", func := "horarium/horariumlaw09.ParamGcd", spec := "paramGcd", unfollowed := true, recurses := true, apart := false }
def ParamGcdSaid : Prop := paramGcdRow.holds Try.pinned (OpenSpec.ofChange paramGcdSpec)

/-- ITS FALSE NEIGHBOUR: 'it returns false'. Refute it at one input. -/
def paramGcdWrong : ChangeSpec := { name := "paramGcd", fn := fun _ => fun
  | [d1, d2] => { results := [.lit (.bool false)], args := [d1, d2] }
  | _ => none }
def ParamGcdWrongFalsely : Prop := paramGcdRow.holds Try.pinned (OpenSpec.ofChange paramGcdWrong)

/-- 'horariumlaw09.ParamPeriod': WHATEVER THE INPUT: true; the input reads as it did. -/
def paramPeriodSpec : ChangeSpec := { name := "paramPeriod", fn := fun _ => fun
  | [d] => { results := [.lit (.bool true)], args := [d] }
  | _ => none }
def paramPeriodRow : OpenClaim := { program := "ytcnfojbncmkdeaa", sum := "52317aa2e500d3f9c747eb709a0581f5519ebafec4326df8b6e47181f57019f3", func := "horarium/horariumlaw09.ParamPeriod", spec := "paramPeriod", unfollowed := true, recurses := true, apart := false }
def ParamPeriodSaid : Prop := paramPeriodRow.holds Try.pinned (OpenSpec.ofChange paramPeriodSpec)

/-- ITS FALSE NEIGHBOUR: 'it returns false'. Refute it at one input. -/
def paramPeriodWrong : ChangeSpec := { name := "paramPeriod", fn := fun _ => fun
  | [d] => { results := [.lit (.bool false)], args := [d] }
  | _ => none }
def ParamPeriodWrongFalsely : Prop := paramPeriodRow.holds Try.pinned (OpenSpec.ofChange paramPeriodWrong)

/-- 'horariumlaw09.ParamLoad': WHATEVER THE INPUT: true; the input reads as it did. -/
def paramLoadSpec : ChangeSpec := { name := "paramLoad", fn := fun _ => fun
  | [d1, d2] => { results := [.lit (.bool true)], args := [d1, d2] }
  | _ => none }
def paramLoadRow : OpenClaim := { program := "ytcnfojbncmkdeaa", sum := "52317aa2e500d3f9c747eb709a0581f5519ebafec4326df8b6e47181f57019f3", func := "horarium/horariumlaw09.ParamLoad", spec := "paramLoad", unfollowed := true, recurses := true, apart := false }
def ParamLoadSaid : Prop := paramLoadRow.holds Try.pinned (OpenSpec.ofChange paramLoadSpec)

/-- ITS FALSE NEIGHBOUR: 'it returns false'. Refute it at one input. -/
def paramLoadWrong : ChangeSpec := { name := "paramLoad", fn := fun _ => fun
  | [d1, d2] => { results := [.lit (.bool false)], args := [d1, d2] }
  | _ => none }
def ParamLoadWrongFalsely : Prop := paramLoadRow.holds Try.pinned (OpenSpec.ofChange paramLoadWrong)

/-- 'horariumlaw09.ParamSorts': WHATEVER THE INPUT: true; the input reads as it did. -/
def paramSortsSpec : ChangeSpec := { name := "paramSorts", fn := fun _ => fun
  | [d] => { results := [.lit (.bool true)], args := [d] }
  | _ => none }
def paramSortsRow : OpenClaim := { program := "ytcnfojbncmkdeaa", sum := "52317aa2e500d3f9c747eb709a0581f5519ebafec4326df8b6e47181f57019f3", func := "horarium/horariumlaw09.ParamSorts", spec := "paramSorts", unfollowed := true, recurses := true, apart := false }
def ParamSortsSaid : Prop := paramSortsRow.holds Try.pinned (OpenSpec.ofChange paramSortsSpec)

/-- ITS FALSE NEIGHBOUR: 'it returns false'. Refute it at one input. -/
def paramSortsWrong : ChangeSpec := { name := "paramSorts", fn := fun _ => fun
  | [d] => { results := [.lit (.bool false)], args := [d] }
  | _ => none }
def ParamSortsWrongFalsely : Prop := paramSortsRow.holds Try.pinned (OpenSpec.ofChange paramSortsWrong)

/-- 'horariumlaw09.ParamHeavier': WHATEVER THE INPUT: true; the input reads as it did. -/
def paramHeavierSpec : ChangeSpec := { name := "paramHeavier", fn := fun _ => fun
  | [d1, d2] => { results := [.lit (.bool true)], args := [d1, d2] }
  | _ => none }
def paramHeavierRow : OpenClaim := { program := "ytcnfojbncmkdeaa", sum := "52317aa2e500d3f9c747eb709a0581f5519ebafec4326df8b6e47181f57019f3", func := "horarium/horariumlaw09.ParamHeavier", spec := "paramHeavier", unfollowed := true, recurses := true, apart := false }
def ParamHeavierSaid : Prop := paramHeavierRow.holds Try.pinned (OpenSpec.ofChange paramHeavierSpec)

/-- ITS FALSE NEIGHBOUR: 'it returns false'. Refute it at one input. -/
def paramHeavierWrong : ChangeSpec := { name := "paramHeavier", fn := fun _ => fun
  | [d1, d2] => { results := [.lit (.bool false)], args := [d1, d2] }
  | _ => none }
def ParamHeavierWrongFalsely : Prop := paramHeavierRow.holds Try.pinned (OpenSpec.ofChange paramHeavierWrong)

/- THE SECOND FORM. 'bulk': how many values and letters a reading holds, each counted each time it is reached (what is shared counts as often as it is met; a slice's spare places count too). A statement '..UptoSaid' is the law's where the arguments, and the package variables that the reading takes, are together of bulk at most 1048576: NARROWER than '..Said'. Prove '..Said' where nothing that the law and all that it calls make is longer than what came in: it says more and counts as full. Else prove '..UptoSaid'. A law counts once. -/
mutual
def uptoBulk {H : Type} : DataW H → Nat
  | .lit (.string bytes) => bytes.length + 1
  | .lit _ => 1
  | .nil => 1
  | .ptr d => uptoBulk d + 1
  | .slice elems spare => uptoBulkAll elems + uptoBulkAll spare + 1
  | .agg parts => uptoBulkAll parts + 1
  | .iface _ d => uptoBulk d + 1
  | .map entries => uptoBulkEntries entries + 1
  | .held _ => 1
def uptoBulkAll {H : Type} : List (DataW H) → Nat
  | [] => 0
  | d :: r => uptoBulk d + uptoBulkAll r
def uptoBulkEntries {H : Type} : List (Lit × DataW H) → Nat
  | [] => 0
  | x :: r => uptoBulkEntry x + uptoBulkEntries r
def uptoBulkEntry {H : Type} : Lit × DataW H → Nat
  | (.string bytes, d) => bytes.length + uptoBulk d + 1
  | (_, d) => uptoBulk d + 1
 end
def uptoSmall : (H : Type) → List (DataW H) → Bool := fun _ ds => decide (uptoBulkAll ds ≤ 1048576)
def OpenSpec.upto (s : _root_.Go.ChangeSpec) : _root_.Go.OpenSpec := { _root_.Go.OpenSpec.ofChange s with cond := some uptoSmall }

/-- 'horariumlaw09.ParamTells', WHERE WHAT IT READS IS OF BULK AT MOST 1048576: true; the input reads as it did. -/
def paramTellsUptoRow : OpenClaim := { program := "ytcnfojbncmkdeaa", sum := "52317aa2e500d3f9c747eb709a0581f5519ebafec4326df8b6e47181f57019f3", func := "horarium/horariumlaw09.ParamTells", spec := "paramTells", unfollowed := true, recurses := true, apart := false, narrowed := true }
def ParamTellsUptoSaid : Prop := paramTellsUptoRow.holds Try.pinned (OpenSpec.upto paramTellsSpec)

/-- 'horariumlaw09.ParamGcd', WHERE WHAT IT READS IS OF BULK AT MOST 1048576: true; the input reads as it did. -/
def paramGcdUptoRow : OpenClaim := { program := "ytcnfojbncmkdeaa", sum := "52317aa2e500d3f9c747eb709a0581f5519ebafec4326df8b6e47181f57019f3", func := "horarium/horariumlaw09.ParamGcd", spec := "paramGcd", unfollowed := true, recurses := true, apart := false, narrowed := true }
def ParamGcdUptoSaid : Prop := paramGcdUptoRow.holds Try.pinned (OpenSpec.upto paramGcdSpec)

/-- 'horariumlaw09.ParamPeriod', WHERE WHAT IT READS IS OF BULK AT MOST 1048576: true; the input reads as it did. -/
def paramPeriodUptoRow : OpenClaim := { program := "ytcnfojbncmkdeaa", sum := "52317aa2e500d3f9c747eb709a0581f5519ebafec4326df8b6e47181f57019f3", func := "horarium/horariumlaw09.ParamPeriod", spec := "paramPeriod", unfollowed := true, recurses := true, apart := false, narrowed := true }
def ParamPeriodUptoSaid : Prop := paramPeriodUptoRow.holds Try.pinned (OpenSpec.upto paramPeriodSpec)

/-- 'horariumlaw09.ParamLoad', WHERE WHAT IT READS IS OF BULK AT MOST 1048576: true; the input reads as it did. -/
def paramLoadUptoRow : OpenClaim := { program := "ytcnfojbncmkdeaa", sum := "52317aa2e500d3f9c747eb709a0581f5519ebafec4326df8b6e47181f57019f3", func := "horarium/horariumlaw09.ParamLoad", spec := "paramLoad", unfollowed := true, recurses := true, apart := false, narrowed := true }
def ParamLoadUptoSaid : Prop := paramLoadUptoRow.holds Try.pinned (OpenSpec.upto paramLoadSpec)

/-- 'horariumlaw09.ParamSorts', WHERE WHAT IT READS IS OF BULK AT MOST 1048576: true; the input reads as it did. -/
def paramSortsUptoRow : OpenClaim := { program := "ytcnfojbncmkdeaa", sum := "52317aa2e500d3f9c747eb709a0581f5519ebafec4326df8b6e47181f57019f3", func := "horarium/horariumlaw09.ParamSorts", spec := "paramSorts", unfollowed := true, recurses := true, apart := false, narrowed := true }
def ParamSortsUptoSaid : Prop := paramSortsUptoRow.holds Try.pinned (OpenSpec.upto paramSortsSpec)

/-- 'horariumlaw09.ParamHeavier', WHERE WHAT IT READS IS OF BULK AT MOST 1048576: true; the input reads as it did. -/
def paramHeavierUptoRow : OpenClaim := { program := "ytcnfojbncmkdeaa", sum := "52317aa2e500d3f9c747eb709a0581f5519ebafec4326df8b6e47181f57019f3", func := "horarium/horariumlaw09.ParamHeavier", spec := "paramHeavier", unfollowed := true, recurses := true, apart := false, narrowed := true }
def ParamHeavierUptoSaid : Prop := paramHeavierUptoRow.holds Try.pinned (OpenSpec.upto paramHeavierSpec)

end Rows
end Go.Proofs.Ytcnfojbncmkdeaa
