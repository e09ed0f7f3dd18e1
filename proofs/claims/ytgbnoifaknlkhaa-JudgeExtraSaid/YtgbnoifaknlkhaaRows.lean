/-
  No cell of these rows narrows 'for every input' (looked for: loops, veiled, ifaces, maps, wideKeys, modest, calm, conditions, laid).
  DERIVED. THE GIVEN ROWS OF THIS SEAT. 5 by the template 'for every input the law returns true; each argument reads behind the call as it read before'; 0 by the template 'total and deterministic' (their statements: YtgbnoifaknlkhaaTotals.lean).
  GIVEN WITH THE SEED: the statements are not yours to turn. If you find one false, say at which input.
  Laid BY PROGRAM, IN A SANDBOX (cutbox-rows.mjs): the forced cells as the released guide's own fill.sh prints them over the translation 15752f162b2271d7… (all of the seat's roots in one cut). By AI agents, Wed Nov 11 2026. No macro, syntax, notation, axiom, sorry.
-/
import Derived.Test.YtgbnoifaknlkhaaChecked
import GoSem.Claim
import GoSem.ClaimJoined
import GoSem.ClaimMapViews
import Derived.JoinedTies
import Derived.KernelRfl
namespace Go.Proofs.Ytgbnoifaknlkhaa
/- THE CELL 'sum', in the pinned program and in every row, IS THE sha256 OF THE DUMP (.gsa) THAT YtgbnoifaknlkhaaProg.lean LOADS. Nothing in Lean hashes anything: it is a label: what it is worth is what the hold of that sum in a sandbox is worth. -/
noncomputable def Try.pinned : Pinned := { name := "ytgbnoifaknlkhaa", sum := "15752f162b2271d7c0330adeb6b658949c1a6d098f983f4d3a8a78aeefff2840", checked := Try.checked }
namespace Rows
def none {H : Type} : Left H := { results := [], args := [] }

/-- 'horariumlaw15.JudgeTells': WHATEVER THE INPUT: true; the input reads as it did. -/
def judgeTellsSpec : ChangeSpec := { name := "judgeTells", fn := fun _ => fun
  | [d1, d2, d3] => { results := [.lit (.bool true)], args := [d1, d2, d3] }
  | _ => none }
def judgeTellsRow : OpenClaim := { program := "ytgbnoifaknlkhaa", sum := "15752f162b2271d7c0330adeb6b658949c1a6d098f983f4d3a8a78aeefff2840", func := "horarium/horariumlaw15.JudgeTells", spec := "judgeTells", unfollowed := true, recurses := true, apart := false }
def JudgeTellsSaid : Prop := judgeTellsRow.holds Try.pinned (OpenSpec.ofChange judgeTellsSpec)

/-- ITS FALSE NEIGHBOUR: 'it returns false'. Refute it at one input. -/
def judgeTellsWrong : ChangeSpec := { name := "judgeTells", fn := fun _ => fun
  | [d1, d2, d3] => { results := [.lit (.bool false)], args := [d1, d2, d3] }
  | _ => none }
def JudgeTellsWrongFalsely : Prop := judgeTellsRow.holds Try.pinned (OpenSpec.ofChange judgeTellsWrong)

/-- 'horariumlaw15.JudgeFits': WHATEVER THE INPUT: true; the input reads as it did. -/
def judgeFitsSpec : ChangeSpec := { name := "judgeFits", fn := fun _ => fun
  | [d] => { results := [.lit (.bool true)], args := [d] }
  | _ => none }
def judgeFitsRow : OpenClaim := { program := "ytgbnoifaknlkhaa", sum := "15752f162b2271d7c0330adeb6b658949c1a6d098f983f4d3a8a78aeefff2840", func := "horarium/horariumlaw15.JudgeFits", spec := "judgeFits", unfollowed := true, recurses := true, apart := false }
def JudgeFitsSaid : Prop := judgeFitsRow.holds Try.pinned (OpenSpec.ofChange judgeFitsSpec)

/-- ITS FALSE NEIGHBOUR: 'it returns false'. Refute it at one input. -/
def judgeFitsWrong : ChangeSpec := { name := "judgeFits", fn := fun _ => fun
  | [d] => { results := [.lit (.bool false)], args := [d] }
  | _ => none }
def JudgeFitsWrongFalsely : Prop := judgeFitsRow.holds Try.pinned (OpenSpec.ofChange judgeFitsWrong)

/-- 'horariumlaw15.JudgeLess': WHATEVER THE INPUT: true; the input reads as it did. -/
def judgeLessSpec : ChangeSpec := { name := "judgeLess", fn := fun _ => fun
  | [d1, d2, d3] => { results := [.lit (.bool true)], args := [d1, d2, d3] }
  | _ => none }
def judgeLessRow : OpenClaim := { program := "ytgbnoifaknlkhaa", sum := "15752f162b2271d7c0330adeb6b658949c1a6d098f983f4d3a8a78aeefff2840", func := "horarium/horariumlaw15.JudgeLess", spec := "judgeLess", unfollowed := true, recurses := true, apart := false }
def JudgeLessSaid : Prop := judgeLessRow.holds Try.pinned (OpenSpec.ofChange judgeLessSpec)

/-- ITS FALSE NEIGHBOUR: 'it returns false'. Refute it at one input. -/
def judgeLessWrong : ChangeSpec := { name := "judgeLess", fn := fun _ => fun
  | [d1, d2, d3] => { results := [.lit (.bool false)], args := [d1, d2, d3] }
  | _ => none }
def JudgeLessWrongFalsely : Prop := judgeLessRow.holds Try.pinned (OpenSpec.ofChange judgeLessWrong)

/-- 'horariumlaw15.JudgeExtra': WHATEVER THE INPUT: true; the input reads as it did. -/
def judgeExtraSpec : ChangeSpec := { name := "judgeExtra", fn := fun _ => fun
  | [d1, d2, d3] => { results := [.lit (.bool true)], args := [d1, d2, d3] }
  | _ => none }
def judgeExtraRow : OpenClaim := { program := "ytgbnoifaknlkhaa", sum := "15752f162b2271d7c0330adeb6b658949c1a6d098f983f4d3a8a78aeefff2840", func := "horarium/horariumlaw15.JudgeExtra", spec := "judgeExtra", unfollowed := true, recurses := true, apart := false }
def JudgeExtraSaid : Prop := judgeExtraRow.holds Try.pinned (OpenSpec.ofChange judgeExtraSpec)

/-- ITS FALSE NEIGHBOUR: 'it returns false'. Refute it at one input. -/
def judgeExtraWrong : ChangeSpec := { name := "judgeExtra", fn := fun _ => fun
  | [d1, d2, d3] => { results := [.lit (.bool false)], args := [d1, d2, d3] }
  | _ => none }
def JudgeExtraWrongFalsely : Prop := judgeExtraRow.holds Try.pinned (OpenSpec.ofChange judgeExtraWrong)

/-- 'horariumlaw15.JudgeGone': WHATEVER THE INPUT: true; the input reads as it did. -/
def judgeGoneSpec : ChangeSpec := { name := "judgeGone", fn := fun _ => fun
  | [d1, d2, d3] => { results := [.lit (.bool true)], args := [d1, d2, d3] }
  | _ => none }
def judgeGoneRow : OpenClaim := { program := "ytgbnoifaknlkhaa", sum := "15752f162b2271d7c0330adeb6b658949c1a6d098f983f4d3a8a78aeefff2840", func := "horarium/horariumlaw15.JudgeGone", spec := "judgeGone", unfollowed := true, recurses := true, apart := false }
def JudgeGoneSaid : Prop := judgeGoneRow.holds Try.pinned (OpenSpec.ofChange judgeGoneSpec)

/-- ITS FALSE NEIGHBOUR: 'it returns false'. Refute it at one input. -/
def judgeGoneWrong : ChangeSpec := { name := "judgeGone", fn := fun _ => fun
  | [d1, d2, d3] => { results := [.lit (.bool false)], args := [d1, d2, d3] }
  | _ => none }
def JudgeGoneWrongFalsely : Prop := judgeGoneRow.holds Try.pinned (OpenSpec.ofChange judgeGoneWrong)

/- THE SECOND FORM. 'bulk': how many values and letters a reading holds, each counted each time it is reached (what is shared counts as often as it is met; a slice's spare places count too). A statement '..UptoSaid' is the law's where the arguments, and the package variables that the reading takes, are together of bulk at most 1048576: NARROWER than '..Said'. Prove '..Said' where nothing that the law and all that it calls make is longer than what came in: it says more and counts as full. Else prove '..UptoSaid'. A law counts once. -/
mutual
def uptoBulk {H : Type} : DataW H → Nat
  | .lit (.string bytes) => bytes.length + 1
  | .lit _ => 1
  | .nil => 1
  | .ptr d => uptoBulk d + 1
  | .slice elems spare => uptoBulkAll elems + uptoBulkAll spare + 1
  | .agg parts => uptoBulkAll parts + 1
  | .iface _ d => uptoBulk d + 1
  | .map entries => uptoBulkEntries entries + 1
  | .held _ => 1
def uptoBulkAll {H : Type} : List (DataW H) → Nat
  | [] => 0
  | d :: r => uptoBulk d + uptoBulkAll r
def uptoBulkEntries {H : Type} : List (Lit × DataW H) → Nat
  | [] => 0
  | x :: r => uptoBulkEntry x + uptoBulkEntries r
def uptoBulkEntry {H : Type} : Lit × DataW H → Nat
  | (.string bytes, d) => bytes.length + uptoBulk d + 1
  | (_, d) => uptoBulk d + 1
 end
def uptoSmall : (H : Type) → List (DataW H) → Bool := fun _ ds => decide (uptoBulkAll ds ≤ 1048576)
def OpenSpec.upto (s : _root_.Go.ChangeSpec) : _root_.Go.OpenSpec := { _root_.Go.OpenSpec.ofChange s with cond := some uptoSmall }

/-- 'horariumlaw15.JudgeTells', WHERE WHAT IT READS IS OF BULK AT MOST 1048576: true; the input reads as it did. -/
def judgeTellsUptoRow : OpenClaim := { program := "ytgbnoifaknlkhaa", sum := "15752f162b2271d7c0330adeb6b658949c1a6d098f983f4d3a8a78aeefff2840", func := "horarium/horariumlaw15.JudgeTells", spec := "judgeTells", unfollowed := true, recurses := true, apart := false, narrowed := true }
def JudgeTellsUptoSaid : Prop := judgeTellsUptoRow.holds Try.pinned (OpenSpec.upto judgeTellsSpec)

/-- 'horariumlaw15.JudgeFits', WHERE WHAT IT READS IS OF BULK AT MOST 1048576: true; the input reads as it did. -/
def judgeFitsUptoRow : OpenClaim := { program := "ytgbnoifaknlkhaa", sum := "15752f162b2271d7c0330adeb6b658949c1a6d098f983f4d3a8a78aeefff2840", func := "horarium/horariumlaw15.JudgeFits", spec := "judgeFits", unfollowed := true, recurses := true, apart := false, narrowed := true }
def JudgeFitsUptoSaid : Prop := judgeFitsUptoRow.holds Try.pinned (OpenSpec.upto judgeFitsSpec)

/-- 'horariumlaw15.JudgeLess', WHERE WHAT IT READS IS OF BULK AT MOST 1048576: true; the input reads as it did. -/
def judgeLessUptoRow : OpenClaim := { program := "ytgbnoifaknlkhaa", sum := "15752f162b2271d7c0330adeb6b658949c1a6d098f983f4d3a8a78aeefff2840", func := "horarium/horariumlaw15.JudgeLess", spec := "judgeLess", unfollowed := true, recurses := true, apart := false, narrowed := true }
def JudgeLessUptoSaid : Prop := judgeLessUptoRow.holds Try.pinned (OpenSpec.upto judgeLessSpec)

/-- 'horariumlaw15.JudgeExtra', WHERE WHAT IT READS IS OF BULK AT MOST 1048576: true; the input reads as it did. -/
def judgeExtraUptoRow : OpenClaim := { program := "ytgbnoifaknlkhaa", sum := "15752f162b2271d7c0330adeb6b658949c1a6d098f983f4d3a8a78aeefff2840", func := "horarium/horariumlaw15.JudgeExtra", spec := "judgeExtra", unfollowed := true, recurses := true, apart := false, narrowed := true }
def JudgeExtraUptoSaid : Prop := judgeExtraUptoRow.holds Try.pinned (OpenSpec.upto judgeExtraSpec)

/-- 'horariumlaw15.JudgeGone', WHERE WHAT IT READS IS OF BULK AT MOST 1048576: true; the input reads as it did. -/
def judgeGoneUptoRow : OpenClaim := { program := "ytgbnoifaknlkhaa", sum := "15752f162b2271d7c0330adeb6b658949c1a6d098f983f4d3a8a78aeefff2840", func := "horarium/horariumlaw15.JudgeGone", spec := "judgeGone", unfollowed := true, recurses := true, apart := false, narrowed := true }
def JudgeGoneUptoSaid : Prop := judgeGoneUptoRow.holds Try.pinned (OpenSpec.upto judgeGoneSpec)

end Rows
end Go.Proofs.Ytgbnoifaknlkhaa
