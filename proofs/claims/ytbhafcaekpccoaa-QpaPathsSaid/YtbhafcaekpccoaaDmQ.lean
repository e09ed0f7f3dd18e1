/- Contracts of the document's Next, Before of layer 10. -/
import Derived.Test.YtbhafcaekpccoaaDmP
namespace Go.Proofs.Ytbhafcaekpccoaa.Dm
open Go.ChangeShapes Go.WideShapes Go.ChangeAt Go.RowKit Go.Joins
open Pm (Tk chk chk_iff rowB rowB_all rowB_len TkAt Ts TRow chk_any wrap_in below_drewN rrow_any)
set_option maxRecDepth 100000
set_option maxRecDepth 100000
set_option linter.unusedVariables false
set_option linter.unusedSimpArgs false
theorem nxts_snoc {l : List Tk} {t : Tk} {x : Int} : nxts (l ++ [t]) x = match nxts l x with | none => some (nxt t x) | some y => some (if nxt t x < y then nxt t x else y) := by
  induction l with
  | nil => rfl
  | cons a l ih =>
    rw [List.cons_append, nxts, nxts, ih]
    cases nxts l x with
    | none =>
      simp only [Option.some.injEq]
      repeat' split
      all_goals omega
    | some y =>
      simp only [Option.some.injEq]
      repeat' split
      all_goals omega
theorem nxts_take {l : List Tk} {x m : Int} {i : Nat} (h : i < l.length) (hm : nxts (l.take i) x = some m) : nxts (l.take (i + 1)) x = some (if nxt l[i] x < m then nxt l[i] x else m) := by
  rw [List.take_succ_eq_append_getElem h, nxts_snoc, hm]
theorem nxts_first {l : List Tk} {x : Int} (h : 0 < l.length) : nxts (l.take 1) x = some (nxt l[0] x) := by
  cases l with
  | nil => simp at h
  | cons t l => simp [nxts]
theorem nextR_nil {x : Int} : nextR [] x = none := by unfold nextR; split <;> rfl
theorem nextR_some {l : List Tk} {x y : Int} (hr : rowB l = true) (hx : isTime x = true) (h : nxts l x = some y) : nextR l x = if 1099511627776 < y then none else some y := by
  unfold nextR; rw [if_pos ⟨hr, hx⟩, h]
/-- i tasks were looked at, m is the least one -/
def RnRel (l : List Tk) (x : Int) (B : Nat) (w : World) (g : Nat) (s t : Value) (wx : World) : Prop :=
  ∃ (i : Nat) (m : Int), i + g = l.length ∧ 1 ≤ i ∧ s = .int .i64 m ∧ t = .int .i64 (i : Int) ∧ nxts (l.take i) x = some m ∧ Below B w wx
end Go.Proofs.Ytbhafcaekpccoaa.Dm
