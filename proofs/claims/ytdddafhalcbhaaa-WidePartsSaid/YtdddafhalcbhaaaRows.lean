/-
  No cell of these rows narrows 'for every input' (looked for: loops, veiled, ifaces, maps, wideKeys, modest, calm, conditions, laid).
  DERIVED. THE GIVEN ROWS OF THIS SEAT. 7 by the template 'for every input the law returns true; each argument reads behind the call as it read before'; 0 by the template 'total and deterministic' (their statements: YtdddafhalcbhaaaTotals.lean).
  GIVEN WITH THE SEED: the statements are not yours to turn. If you find one false, say at which input.
  Laid BY PROGRAM, IN A SANDBOX (cutbox-rows.mjs): the forced cells as the released guide's own fill.sh prints them over the translation ce159dad41031abc… (all of the seat's roots in one cut). By AI agents, Wed Nov 11 2026. No macro, syntax, notation, axiom, sorry.
-/
import Derived.Test.YtdddafhalcbhaaaChecked
import GoSem.Claim
import GoSem.ClaimJoined
import GoSem.ClaimMapViews
import Derived.JoinedTies
import Derived.KernelRfl
namespace Go.Proofs.Ytdddafhalcbhaaa
/- THE CELL 'sum', in the pinned program and in every row, IS THE sha256 OF THE DUMP (.gsa) THAT YtdddafhalcbhaaaProg.lean LOADS. Nothing in Lean hashes anything: it is a label: what it is worth is what the hold of that sum in a sandbox is worth. -/
noncomputable def Try.pinned : Pinned := { name := "ytdddafhalcbhaaa", sum := "ce159dad41031abc6bd627a82bbc3051ff0db0208eb5d9b6378829f86c3c1112", checked := Try.checked }
namespace Rows
def none {H : Type} : Left H := { results := [], args := [] }

/-- 'horariumlaw01.WideSums': WHATEVER THE INPUT: true; the input reads as it did. -/
def wideSumsSpec : ChangeSpec := { name := "wideSums", fn := fun _ => fun
  | [d1, d2, d3] => { results := [.lit (.bool true)], args := [d1, d2, d3] }
  | _ => none }
def wideSumsRow : OpenClaim := { program := "ytdddafhalcbhaaa", sum := "ce159dad41031abc6bd627a82bbc3051ff0db0208eb5d9b6378829f86c3c1112", func := "horarium/horariumlaw01.WideSums", spec := "wideSums", unfollowed := true, recurses := true, apart := false }
def WideSumsSaid : Prop := wideSumsRow.holds Try.pinned (OpenSpec.ofChange wideSumsSpec)

/-- ITS FALSE NEIGHBOUR: 'it returns false'. Refute it at one input. -/
def wideSumsWrong : ChangeSpec := { name := "wideSums", fn := fun _ => fun
  | [d1, d2, d3] => { results := [.lit (.bool false)], args := [d1, d2, d3] }
  | _ => none }
def WideSumsWrongFalsely : Prop := wideSumsRow.holds Try.pinned (OpenSpec.ofChange wideSumsWrong)

/-- 'horariumlaw01.WideParts': WHATEVER THE INPUT: true; the input reads as it did. -/
def widePartsSpec : ChangeSpec := { name := "wideParts", fn := fun _ => fun
  | [d1, d2, d3] => { results := [.lit (.bool true)], args := [d1, d2, d3] }
  | _ => none }
def widePartsRow : OpenClaim := { program := "ytdddafhalcbhaaa", sum := "ce159dad41031abc6bd627a82bbc3051ff0db0208eb5d9b6378829f86c3c1112", func := "horarium/horariumlaw01.WideParts", spec := "wideParts", unfollowed := true, recurses := true, apart := false }
def WidePartsSaid : Prop := widePartsRow.holds Try.pinned (OpenSpec.ofChange widePartsSpec)

/-- ITS FALSE NEIGHBOUR: 'it returns false'. Refute it at one input. -/
def widePartsWrong : ChangeSpec := { name := "wideParts", fn := fun _ => fun
  | [d1, d2, d3] => { results := [.lit (.bool false)], args := [d1, d2, d3] }
  | _ => none }
def WidePartsWrongFalsely : Prop := widePartsRow.holds Try.pinned (OpenSpec.ofChange widePartsWrong)

/-- 'horariumlaw01.WideBack': WHATEVER THE INPUT: true; the input reads as it did. -/
def wideBackSpec : ChangeSpec := { name := "wideBack", fn := fun _ => fun
  | [d1, d2, d3] => { results := [.lit (.bool true)], args := [d1, d2, d3] }
  | _ => none }
def wideBackRow : OpenClaim := { program := "ytdddafhalcbhaaa", sum := "ce159dad41031abc6bd627a82bbc3051ff0db0208eb5d9b6378829f86c3c1112", func := "horarium/horariumlaw01.WideBack", spec := "wideBack", unfollowed := true, recurses := true, apart := false }
def WideBackSaid : Prop := wideBackRow.holds Try.pinned (OpenSpec.ofChange wideBackSpec)

/-- ITS FALSE NEIGHBOUR: 'it returns false'. Refute it at one input. -/
def wideBackWrong : ChangeSpec := { name := "wideBack", fn := fun _ => fun
  | [d1, d2, d3] => { results := [.lit (.bool false)], args := [d1, d2, d3] }
  | _ => none }
def WideBackWrongFalsely : Prop := wideBackRow.holds Try.pinned (OpenSpec.ofChange wideBackWrong)

/-- 'horariumlaw01.WideOrder': WHATEVER THE INPUT: true; the input reads as it did. -/
def wideOrderSpec : ChangeSpec := { name := "wideOrder", fn := fun _ => fun
  | [d1, d2] => { results := [.lit (.bool true)], args := [d1, d2] }
  | _ => none }
def wideOrderRow : OpenClaim := { program := "ytdddafhalcbhaaa", sum := "ce159dad41031abc6bd627a82bbc3051ff0db0208eb5d9b6378829f86c3c1112", func := "horarium/horariumlaw01.WideOrder", spec := "wideOrder", unfollowed := true, recurses := true, apart := false }
def WideOrderSaid : Prop := wideOrderRow.holds Try.pinned (OpenSpec.ofChange wideOrderSpec)

/-- ITS FALSE NEIGHBOUR: 'it returns false'. Refute it at one input. -/
def wideOrderWrong : ChangeSpec := { name := "wideOrder", fn := fun _ => fun
  | [d1, d2] => { results := [.lit (.bool false)], args := [d1, d2] }
  | _ => none }
def WideOrderWrongFalsely : Prop := wideOrderRow.holds Try.pinned (OpenSpec.ofChange wideOrderWrong)

/-- 'horariumlaw01.WideFair': WHATEVER THE INPUT: true; the input reads as it did. -/
def wideFairSpec : ChangeSpec := { name := "wideFair", fn := fun _ => fun
  | [d1, d2, d3] => { results := [.lit (.bool true)], args := [d1, d2, d3] }
  | _ => none }
def wideFairRow : OpenClaim := { program := "ytdddafhalcbhaaa", sum := "ce159dad41031abc6bd627a82bbc3051ff0db0208eb5d9b6378829f86c3c1112", func := "horarium/horariumlaw01.WideFair", spec := "wideFair", unfollowed := true, recurses := true, apart := false }
def WideFairSaid : Prop := wideFairRow.holds Try.pinned (OpenSpec.ofChange wideFairSpec)

/-- ITS FALSE NEIGHBOUR: 'it returns false'. Refute it at one input. -/
def wideFairWrong : ChangeSpec := { name := "wideFair", fn := fun _ => fun
  | [d1, d2, d3] => { results := [.lit (.bool false)], args := [d1, d2, d3] }
  | _ => none }
def WideFairWrongFalsely : Prop := wideFairRow.holds Try.pinned (OpenSpec.ofChange wideFairWrong)

/-- 'horariumlaw01.WideText': WHATEVER THE INPUT: true; the input reads as it did. -/
def wideTextSpec : ChangeSpec := { name := "wideText", fn := fun _ => fun
  | [d1, d2] => { results := [.lit (.bool true)], args := [d1, d2] }
  | _ => none }
def wideTextRow : OpenClaim := { program := "ytdddafhalcbhaaa", sum := "ce159dad41031abc6bd627a82bbc3051ff0db0208eb5d9b6378829f86c3c1112", func := "horarium/horariumlaw01.WideText", spec := "wideText", unfollowed := true, recurses := true, apart := false }
def WideTextSaid : Prop := wideTextRow.holds Try.pinned (OpenSpec.ofChange wideTextSpec)

/-- ITS FALSE NEIGHBOUR: 'it returns false'. Refute it at one input. -/
def wideTextWrong : ChangeSpec := { name := "wideText", fn := fun _ => fun
  | [d1, d2] => { results := [.lit (.bool false)], args := [d1, d2] }
  | _ => none }
def WideTextWrongFalsely : Prop := wideTextRow.holds Try.pinned (OpenSpec.ofChange wideTextWrong)

/-- 'horariumlaw01.WideSteps': WHATEVER THE INPUT: true; the input reads as it did. -/
def wideStepsSpec : ChangeSpec := { name := "wideSteps", fn := fun _ => fun
  | [d1, d2, d3] => { results := [.lit (.bool true)], args := [d1, d2, d3] }
  | _ => none }
def wideStepsRow : OpenClaim := { program := "ytdddafhalcbhaaa", sum := "ce159dad41031abc6bd627a82bbc3051ff0db0208eb5d9b6378829f86c3c1112", func := "horarium/horariumlaw01.WideSteps", spec := "wideSteps", unfollowed := true, recurses := true, apart := false }
def WideStepsSaid : Prop := wideStepsRow.holds Try.pinned (OpenSpec.ofChange wideStepsSpec)

/-- ITS FALSE NEIGHBOUR: 'it returns false'. Refute it at one input. -/
def wideStepsWrong : ChangeSpec := { name := "wideSteps", fn := fun _ => fun
  | [d1, d2, d3] => { results := [.lit (.bool false)], args := [d1, d2, d3] }
  | _ => none }
def WideStepsWrongFalsely : Prop := wideStepsRow.holds Try.pinned (OpenSpec.ofChange wideStepsWrong)

/- THE SECOND FORM. 'bulk': how many values and letters a reading holds, each counted each time it is reached (what is shared counts as often as it is met; a slice's spare places count too). A statement '..UptoSaid' is the law's where the arguments, and the package variables that the reading takes, are together of bulk at most 1048576: NARROWER than '..Said'. Prove '..Said' where nothing that the law and all that it calls make is longer than what came in: it says more and counts as full. Else prove '..UptoSaid'. A law counts once. -/
mutual
def uptoBulk {H : Type} : DataW H → Nat
  | .lit (.string bytes) => bytes.length + 1
  | .lit _ => 1
  | .nil => 1
  | .ptr d => uptoBulk d + 1
  | .slice elems spare => uptoBulkAll elems + uptoBulkAll spare + 1
  | .agg parts => uptoBulkAll parts + 1
  | .iface _ d => uptoBulk d + 1
  | .map entries => uptoBulkEntries entries + 1
  | .held _ => 1
def uptoBulkAll {H : Type} : List (DataW H) → Nat
  | [] => 0
  | d :: r => uptoBulk d + uptoBulkAll r
def uptoBulkEntries {H : Type} : List (Lit × DataW H) → Nat
  | [] => 0
  | x :: r => uptoBulkEntry x + uptoBulkEntries r
def uptoBulkEntry {H : Type} : Lit × DataW H → Nat
  | (.string bytes, d) => bytes.length + uptoBulk d + 1
  | (_, d) => uptoBulk d + 1
 end
def uptoSmall : (H : Type) → List (DataW H) → Bool := fun _ ds => decide (uptoBulkAll ds ≤ 1048576)
def OpenSpec.upto (s : _root_.Go.ChangeSpec) : _root_.Go.OpenSpec := { _root_.Go.OpenSpec.ofChange s with cond := some uptoSmall }

/-- 'horariumlaw01.WideSums', WHERE WHAT IT READS IS OF BULK AT MOST 1048576: true; the input reads as it did. -/
def wideSumsUptoRow : OpenClaim := { program := "ytdddafhalcbhaaa", sum := "ce159dad41031abc6bd627a82bbc3051ff0db0208eb5d9b6378829f86c3c1112", func := "horarium/horariumlaw01.WideSums", spec := "wideSums", unfollowed := true, recurses := true, apart := false, narrowed := true }
def WideSumsUptoSaid : Prop := wideSumsUptoRow.holds Try.pinned (OpenSpec.upto wideSumsSpec)

/-- 'horariumlaw01.WideParts', WHERE WHAT IT READS IS OF BULK AT MOST 1048576: true; the input reads as it did. -/
def widePartsUptoRow : OpenClaim := { program := "ytdddafhalcbhaaa", sum := "ce159dad41031abc6bd627a82bbc3051ff0db0208eb5d9b6378829f86c3c1112", func := "horarium/horariumlaw01.WideParts", spec := "wideParts", unfollowed := true, recurses := true, apart := false, narrowed := true }
def WidePartsUptoSaid : Prop := widePartsUptoRow.holds Try.pinned (OpenSpec.upto widePartsSpec)

/-- 'horariumlaw01.WideBack', WHERE WHAT IT READS IS OF BULK AT MOST 1048576: true; the input reads as it did. -/
def wideBackUptoRow : OpenClaim := { program := "ytdddafhalcbhaaa", sum := "ce159dad41031abc6bd627a82bbc3051ff0db0208eb5d9b6378829f86c3c1112", func := "horarium/horariumlaw01.WideBack", spec := "wideBack", unfollowed := true, recurses := true, apart := false, narrowed := true }
def WideBackUptoSaid : Prop := wideBackUptoRow.holds Try.pinned (OpenSpec.upto wideBackSpec)

/-- 'horariumlaw01.WideOrder', WHERE WHAT IT READS IS OF BULK AT MOST 1048576: true; the input reads as it did. -/
def wideOrderUptoRow : OpenClaim := { program := "ytdddafhalcbhaaa", sum := "ce159dad41031abc6bd627a82bbc3051ff0db0208eb5d9b6378829f86c3c1112", func := "horarium/horariumlaw01.WideOrder", spec := "wideOrder", unfollowed := true, recurses := true, apart := false, narrowed := true }
def WideOrderUptoSaid : Prop := wideOrderUptoRow.holds Try.pinned (OpenSpec.upto wideOrderSpec)

/-- 'horariumlaw01.WideFair', WHERE WHAT IT READS IS OF BULK AT MOST 1048576: true; the input reads as it did. -/
def wideFairUptoRow : OpenClaim := { program := "ytdddafhalcbhaaa", sum := "ce159dad41031abc6bd627a82bbc3051ff0db0208eb5d9b6378829f86c3c1112", func := "horarium/horariumlaw01.WideFair", spec := "wideFair", unfollowed := true, recurses := true, apart := false, narrowed := true }
def WideFairUptoSaid : Prop := wideFairUptoRow.holds Try.pinned (OpenSpec.upto wideFairSpec)

/-- 'horariumlaw01.WideText', WHERE WHAT IT READS IS OF BULK AT MOST 1048576: true; the input reads as it did. -/
def wideTextUptoRow : OpenClaim := { program := "ytdddafhalcbhaaa", sum := "ce159dad41031abc6bd627a82bbc3051ff0db0208eb5d9b6378829f86c3c1112", func := "horarium/horariumlaw01.WideText", spec := "wideText", unfollowed := true, recurses := true, apart := false, narrowed := true }
def WideTextUptoSaid : Prop := wideTextUptoRow.holds Try.pinned (OpenSpec.upto wideTextSpec)

/-- 'horariumlaw01.WideSteps', WHERE WHAT IT READS IS OF BULK AT MOST 1048576: true; the input reads as it did. -/
def wideStepsUptoRow : OpenClaim := { program := "ytdddafhalcbhaaa", sum := "ce159dad41031abc6bd627a82bbc3051ff0db0208eb5d9b6378829f86c3c1112", func := "horarium/horariumlaw01.WideSteps", spec := "wideSteps", unfollowed := true, recurses := true, apart := false, narrowed := true }
def WideStepsUptoSaid : Prop := wideStepsUptoRow.holds Try.pinned (OpenSpec.upto wideStepsSpec)

end Rows
end Go.Proofs.Ytdddafhalcbhaaa
