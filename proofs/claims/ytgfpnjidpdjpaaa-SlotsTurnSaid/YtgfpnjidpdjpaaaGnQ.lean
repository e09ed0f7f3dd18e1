/- A region within a round of a range over a function, at the wide fence: by the laws of regions outside of one. Any program. -/
import Derived.Test.YtgfpnjidpdjpaaaSlP
namespace Go.Proofs.Ytgfpnjidpdjpaaa.Sl
open Go.RowKit
set_option maxRecDepth 100000
set_option linter.unusedVariables false
set_option linter.unusedSimpArgs false
section
variable {P : Program} {ops : Array Oper} {Q : Exit → Act → World → Prop} {md : Region.Mode} {l n : Nat}
def defers (o : Oper) : Bool := match o.op with | .defer _ => true | _ => false
theorem not_defer {o : Oper} (h : defers o = false) : ∀ c, o.op ≠ .defer c := fun c e => by
  unfold defers at h; rw [e] at h; cases h
theorem op_in_round {o : Oper} (hd : defers o = false) {a : Act} {w : World} {K : Act → World → Prop} (h : o.wp P a w K Q) : o.wpIn (Fence.wide.inRound l) n P a w K Q := by
  refine ⟨fun f _ => trivial, ?_⟩
  rw [show (Fence.wide.inRound l).round = some l from rfl, Oper.semAt_some l _ _ (not_defer hd)]
  unfold Oper.wp at h
  generalize (execOp a.eval o).run P w = r at h
  cases r with
  | ok x w' =>
    cases x <;> simp only [Oper.upon] at h <;> simp only [Oper.uponIn]
    case value v => exact h
    case skip => exact h
    case defer d => exact h
    case enter f args => exact ⟨fun e => (by cases e), CallsIn.inRound l (callsIn_wide.2 h)⟩
    case row row args =>
      refine ⟨fun e => (by cases e), fun c cs _ => ?_⟩
      obtain ⟨v, w'', hr, hs⟩ := h c cs
      exact ⟨v, w'', hr, stepsIn_wide.2 hs⟩
  | halt x w' =>
    cases x <;> simp only [Oper.upon] at h <;> simp only [Oper.uponIn]
    case panic v => exact h
theorem any_in_round (hd : ops.all (fun o => !defers o) = true) (hL : ¬ LetsOut Q) : ∀ (fuel : Nat) (listed : Array Bool) (a : Act) (w : World), wpAny P md ops Q fuel listed a w → wpAnyIn (Fence.wide.inRound l) n P md ops Q fuel listed a w
  | 0, _, _, _, h => h
  | fuel + 1, listed, a, w, h => ⟨h.1, fun i hi => by
    have h1 := wpOp_mono (fun a' w' => any_in_round hd hL fuel (listed.setIfInBounds i true) a' w') (h.2 i hi)
    unfold wpOp at h1
    unfold wpOpIn
    split at h1
    · rename_i ho
      rw [ho]
      exact h1
    · rename_i o ho
      rw [ho]
      have hdo : defers o = false := by
        obtain ⟨hlt, e⟩ := Array.getElem?_eq_some_iff.1 ho
        have := (Array.all_eq_true.1 hd) i hlt
        rw [e] at this
        simpa using this
      show if Region.wanted o (yielded ops a.tmps) = true then _ else _
      split at h1
      · rename_i hw
        rw [if_pos hw]
        rcases h1 with h1 | ⟨_, h1⟩
        · exact op_in_round hdo h1
        · exact absurd h1 hL
      · rename_i hw
        rw [if_neg hw]
        exact ⟨fun f _ => trivial, h1⟩⟩
end
end Go.Proofs.Ytgfpnjidpdjpaaa.Sl
