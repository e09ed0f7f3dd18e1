/-
  No cell of these rows narrows 'for every input' (looked for: loops, veiled, ifaces, maps, wideKeys, modest, calm, conditions, laid).
  DERIVED. THE GIVEN ROWS OF THIS SEAT. 6 by the template 'for every input the law returns true; each argument reads behind the call as it read before'; 0 by the template 'total and deterministic' (their statements: YtldaikpchggogaaTotals.lean).
  GIVEN WITH THE SEED: the statements are not yours to turn. If you find one false, say at which input.
  Laid BY PROGRAM, IN A SANDBOX (cutbox-rows.mjs): the forced cells as the released guide's own fill.sh prints them over the translation b2f5e79b847b643e… (all of the seat's roots in one cut). By AI agents, Wed Nov 11 2026. No macro, syntax, notation, axiom, sorry.
-/
import Derived.Test.YtldaikpchggogaaChecked
import GoSem.Claim
import GoSem.ClaimJoined
import GoSem.ClaimMapViews
import Derived.JoinedTies
import Derived.KernelRfl
namespace Go.Proofs.Ytldaikpchggogaa
/- THE CELL 'sum', in the pinned program and in every row, IS THE sha256 OF THE DUMP (.gsa) THAT YtldaikpchggogaaProg.lean LOADS. Nothing in Lean hashes anything: it is a label: what it is worth is what the hold of that sum in a sandbox is worth. -/
noncomputable def Try.pinned : Pinned := { name := "ytldaikpchggogaa", sum := "b2f5e79b847b643e0561021b91f4e015f8ec2afe39730602f3c6e53b32f6d387", checked := Try.checked }
namespace Rows
def none {H : Type} : Left H := { results := [], args := [] }

/-- 'horariumlaw10.DemandTells': WHATEVER THE INPUT: true; the input reads as it did. -/
def demandTellsSpec : ChangeSpec := { name := "demandTells", fn := fun _ => fun
  | [d1, d2, d3] => { results := [.lit (.bool true)], args := [d1, d2, d3] }
  | _ => none }
def demandTellsRow : OpenClaim := { program := "ytldaikpchggogaa", sum := "b2f5e79b847b643e0561021b91f4e015f8ec2afe39730602f3c6e53b32f6d387", func := "horarium/horariumlaw10.DemandTells", spec := "demandTells", apart := false }
def DemandTellsSaid : Prop := demandTellsRow.holds Try.pinned (OpenSpec.ofChange demandTellsSpec)

/-- ITS FALSE NEIGHBOUR: 'it returns false'. Refute it at one input. -/
def demandTellsWrong : ChangeSpec := { name := "demandTells", fn := fun _ => fun
  | [d1, d2, d3] => { results := [.lit (.bool false)], args := [d1, d2, d3] }
  | _ => none }
def DemandTellsWrongFalsely : Prop := demandTellsRow.holds Try.pinned (OpenSpec.ofChange demandTellsWrong)

/-- 'horariumlaw10.DemandPoints': WHATEVER THE INPUT: true; the input reads as it did. -/
def demandPointsSpec : ChangeSpec := { name := "demandPoints", fn := fun _ => fun
  | [d1, d2, d3] => { results := [.lit (.bool true)], args := [d1, d2, d3] }
  | _ => none }
def demandPointsRow : OpenClaim := { program := "ytldaikpchggogaa", sum := "b2f5e79b847b643e0561021b91f4e015f8ec2afe39730602f3c6e53b32f6d387", func := "horarium/horariumlaw10.DemandPoints", spec := "demandPoints", unfollowed := true, recurses := true, apart := false }
def DemandPointsSaid : Prop := demandPointsRow.holds Try.pinned (OpenSpec.ofChange demandPointsSpec)

/-- ITS FALSE NEIGHBOUR: 'it returns false'. Refute it at one input. -/
def demandPointsWrong : ChangeSpec := { name := "demandPoints", fn := fun _ => fun
  | [d1, d2, d3] => { results := [.lit (.bool false)], args := [d1, d2, d3] }
  | _ => none }
def DemandPointsWrongFalsely : Prop := demandPointsRow.holds Try.pinned (OpenSpec.ofChange demandPointsWrong)

/-- 'horariumlaw10.DemandSteps': WHATEVER THE INPUT: true; the input reads as it did. -/
def demandStepsSpec : ChangeSpec := { name := "demandSteps", fn := fun _ => fun
  | [d1, d2] => { results := [.lit (.bool true)], args := [d1, d2] }
  | _ => none }
def demandStepsRow : OpenClaim := { program := "ytldaikpchggogaa", sum := "b2f5e79b847b643e0561021b91f4e015f8ec2afe39730602f3c6e53b32f6d387", func := "horarium/horariumlaw10.DemandSteps", spec := "demandSteps", apart := false }
def DemandStepsSaid : Prop := demandStepsRow.holds Try.pinned (OpenSpec.ofChange demandStepsSpec)

/-- ITS FALSE NEIGHBOUR: 'it returns false'. Refute it at one input. -/
def demandStepsWrong : ChangeSpec := { name := "demandSteps", fn := fun _ => fun
  | [d1, d2] => { results := [.lit (.bool false)], args := [d1, d2] }
  | _ => none }
def DemandStepsWrongFalsely : Prop := demandStepsRow.holds Try.pinned (OpenSpec.ofChange demandStepsWrong)

/-- 'horariumlaw10.DemandSums': WHATEVER THE INPUT: true; the input reads as it did. -/
def demandSumsSpec : ChangeSpec := { name := "demandSums", fn := fun _ => fun
  | [d1, d2] => { results := [.lit (.bool true)], args := [d1, d2] }
  | _ => none }
def demandSumsRow : OpenClaim := { program := "ytldaikpchggogaa", sum := "b2f5e79b847b643e0561021b91f4e015f8ec2afe39730602f3c6e53b32f6d387", func := "horarium/horariumlaw10.DemandSums", spec := "demandSums", apart := false }
def DemandSumsSaid : Prop := demandSumsRow.holds Try.pinned (OpenSpec.ofChange demandSumsSpec)

/-- ITS FALSE NEIGHBOUR: 'it returns false'. Refute it at one input. -/
def demandSumsWrong : ChangeSpec := { name := "demandSums", fn := fun _ => fun
  | [d1, d2] => { results := [.lit (.bool false)], args := [d1, d2] }
  | _ => none }
def DemandSumsWrongFalsely : Prop := demandSumsRow.holds Try.pinned (OpenSpec.ofChange demandSumsWrong)

/-- 'horariumlaw10.DemandFirst': WHATEVER THE INPUT: true; the input reads as it did. -/
def demandFirstSpec : ChangeSpec := { name := "demandFirst", fn := fun _ => fun
  | [d] => { results := [.lit (.bool true)], args := [d] }
  | _ => none }
def demandFirstRow : OpenClaim := { program := "ytldaikpchggogaa", sum := "b2f5e79b847b643e0561021b91f4e015f8ec2afe39730602f3c6e53b32f6d387", func := "horarium/horariumlaw10.DemandFirst", spec := "demandFirst", unfollowed := true, recurses := true, apart := false }
def DemandFirstSaid : Prop := demandFirstRow.holds Try.pinned (OpenSpec.ofChange demandFirstSpec)

/-- ITS FALSE NEIGHBOUR: 'it returns false'. Refute it at one input. -/
def demandFirstWrong : ChangeSpec := { name := "demandFirst", fn := fun _ => fun
  | [d] => { results := [.lit (.bool false)], args := [d] }
  | _ => none }
def DemandFirstWrongFalsely : Prop := demandFirstRow.holds Try.pinned (OpenSpec.ofChange demandFirstWrong)

/-- 'horariumlaw10.DemandMore': WHATEVER THE INPUT: true; the input reads as it did. -/
def demandMoreSpec : ChangeSpec := { name := "demandMore", fn := fun _ => fun
  | [d1, d2, d3] => { results := [.lit (.bool true)], args := [d1, d2, d3] }
  | _ => none }
def demandMoreRow : OpenClaim := { program := "ytldaikpchggogaa", sum := "b2f5e79b847b643e0561021b91f4e015f8ec2afe39730602f3c6e53b32f6d387", func := "horarium/horariumlaw10.DemandMore", spec := "demandMore", apart := false }
def DemandMoreSaid : Prop := demandMoreRow.holds Try.pinned (OpenSpec.ofChange demandMoreSpec)

/-- ITS FALSE NEIGHBOUR: 'it returns false'. Refute it at one input. -/
def demandMoreWrong : ChangeSpec := { name := "demandMore", fn := fun _ => fun
  | [d1, d2, d3] => { results := [.lit (.bool false)], args := [d1, d2, d3] }
  | _ => none }
def DemandMoreWrongFalsely : Prop := demandMoreRow.holds Try.pinned (OpenSpec.ofChange demandMoreWrong)

/- THE SECOND FORM. 'bulk': how many values and letters a reading holds, each counted each time it is reached (what is shared counts as often as it is met; a slice's spare places count too). A statement '..UptoSaid' is the law's where the arguments, and the package variables that the reading takes, are together of bulk at most 1048576: NARROWER than '..Said'. Prove '..Said' where nothing that the law and all that it calls make is longer than what came in: it says more and counts as full. Else prove '..UptoSaid'. A law counts once. -/
mutual
def uptoBulk {H : Type} : DataW H → Nat
  | .lit (.string bytes) => bytes.length + 1
  | .lit _ => 1
  | .nil => 1
  | .ptr d => uptoBulk d + 1
  | .slice elems spare => uptoBulkAll elems + uptoBulkAll spare + 1
  | .agg parts => uptoBulkAll parts + 1
  | .iface _ d => uptoBulk d + 1
  | .map entries => uptoBulkEntries entries + 1
  | .held _ => 1
def uptoBulkAll {H : Type} : List (DataW H) → Nat
  | [] => 0
  | d :: r => uptoBulk d + uptoBulkAll r
def uptoBulkEntries {H : Type} : List (Lit × DataW H) → Nat
  | [] => 0
  | x :: r => uptoBulkEntry x + uptoBulkEntries r
def uptoBulkEntry {H : Type} : Lit × DataW H → Nat
  | (.string bytes, d) => bytes.length + uptoBulk d + 1
  | (_, d) => uptoBulk d + 1
 end
def uptoSmall : (H : Type) → List (DataW H) → Bool := fun _ ds => decide (uptoBulkAll ds ≤ 1048576)
def OpenSpec.upto (s : _root_.Go.ChangeSpec) : _root_.Go.OpenSpec := { _root_.Go.OpenSpec.ofChange s with cond := some uptoSmall }

/-- 'horariumlaw10.DemandTells', WHERE WHAT IT READS IS OF BULK AT MOST 1048576: true; the input reads as it did. -/
def demandTellsUptoRow : OpenClaim := { program := "ytldaikpchggogaa", sum := "b2f5e79b847b643e0561021b91f4e015f8ec2afe39730602f3c6e53b32f6d387", func := "horarium/horariumlaw10.DemandTells", spec := "demandTells", apart := false, narrowed := true }
def DemandTellsUptoSaid : Prop := demandTellsUptoRow.holds Try.pinned (OpenSpec.upto demandTellsSpec)

/-- 'horariumlaw10.DemandPoints', WHERE WHAT IT READS IS OF BULK AT MOST 1048576: true; the input reads as it did. -/
def demandPointsUptoRow : OpenClaim := { program := "ytldaikpchggogaa", sum := "b2f5e79b847b643e0561021b91f4e015f8ec2afe39730602f3c6e53b32f6d387", func := "horarium/horariumlaw10.DemandPoints", spec := "demandPoints", unfollowed := true, recurses := true, apart := false, narrowed := true }
def DemandPointsUptoSaid : Prop := demandPointsUptoRow.holds Try.pinned (OpenSpec.upto demandPointsSpec)

/-- 'horariumlaw10.DemandSteps', WHERE WHAT IT READS IS OF BULK AT MOST 1048576: true; the input reads as it did. -/
def demandStepsUptoRow : OpenClaim := { program := "ytldaikpchggogaa", sum := "b2f5e79b847b643e0561021b91f4e015f8ec2afe39730602f3c6e53b32f6d387", func := "horarium/horariumlaw10.DemandSteps", spec := "demandSteps", apart := false, narrowed := true }
def DemandStepsUptoSaid : Prop := demandStepsUptoRow.holds Try.pinned (OpenSpec.upto demandStepsSpec)

/-- 'horariumlaw10.DemandSums', WHERE WHAT IT READS IS OF BULK AT MOST 1048576: true; the input reads as it did. -/
def demandSumsUptoRow : OpenClaim := { program := "ytldaikpchggogaa", sum := "b2f5e79b847b643e0561021b91f4e015f8ec2afe39730602f3c6e53b32f6d387", func := "horarium/horariumlaw10.DemandSums", spec := "demandSums", apart := false, narrowed := true }
def DemandSumsUptoSaid : Prop := demandSumsUptoRow.holds Try.pinned (OpenSpec.upto demandSumsSpec)

/-- 'horariumlaw10.DemandFirst', WHERE WHAT IT READS IS OF BULK AT MOST 1048576: true; the input reads as it did. -/
def demandFirstUptoRow : OpenClaim := { program := "ytldaikpchggogaa", sum := "b2f5e79b847b643e0561021b91f4e015f8ec2afe39730602f3c6e53b32f6d387", func := "horarium/horariumlaw10.DemandFirst", spec := "demandFirst", unfollowed := true, recurses := true, apart := false, narrowed := true }
def DemandFirstUptoSaid : Prop := demandFirstUptoRow.holds Try.pinned (OpenSpec.upto demandFirstSpec)

/-- 'horariumlaw10.DemandMore', WHERE WHAT IT READS IS OF BULK AT MOST 1048576: true; the input reads as it did. -/
def demandMoreUptoRow : OpenClaim := { program := "ytldaikpchggogaa", sum := "b2f5e79b847b643e0561021b91f4e015f8ec2afe39730602f3c6e53b32f6d387", func := "horarium/horariumlaw10.DemandMore", spec := "demandMore", apart := false, narrowed := true }
def DemandMoreUptoSaid : Prop := demandMoreUptoRow.holds Try.pinned (OpenSpec.upto demandMoreSpec)

end Rows
end Go.Proofs.Ytldaikpchggogaa
