/- A reader's Text. -/
import Derived.Test.YtnaanahgflbihaaOcR
import Derived.Lib.BufferWrite
import Derived.Laws.MakeOwn
namespace Go.Proofs.Ytnaanahgflbihaa.Oc
open Go.ChangeShapes Go.WideShapes Go.ChangeAt Go.RowKit Go.Joins
set_option maxRecDepth 100000
set_option linter.unusedVariables false
set_option linter.unusedSimpArgs false
theorem below_setRow {B g : Nat} {w0 w : World} (h : Below B w0 w) (hg : B ≤ g) (Y : Array Value) : Below B w0 (w.setRow g Y) :=
  h.trans ⟨rfl, rfl, rfl, by simp, fun k hk => setRow_other _ _ _ _ (by omega)⟩
theorem int_left {o : St} {most : Int} (hl : left o ≤ 1000000) : left (int o most).2 ≤ 1000000 := by
  unfold int
  split
  · simp [left]
  · cases h : (num o most.toNat).2 with
    | none => simp [left]
    | some r =>
      obtain ⟨l, rfl, hlt, -⟩ := num_shorter h
      simp only [left] at hl ⊢
      omega
end Go.Proofs.Ytnaanahgflbihaa.Oc
