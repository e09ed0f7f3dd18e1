/- How an array of numbers, of whatever kind, is opened. -/
import Derived.Test.YtdlfnmkdidiafaaRows
import Derived.WalkKit
import Derived.ProofKit
import Derived.OpenShut
import Derived.Below
import Derived.Lib.Hide
import Derived.Lib.SmallJoins
import Derived.ChangeOld
import Derived.ShutString
import Derived.Laws.IdiomArrays
namespace Go.Proofs.Ytdlfnmkdidiafaa
open Go.ChangeShapes Go.WideShapes Go.ChangeAt Go.RowKit Go.Joins
set_option linter.unusedVariables false
theorem open_ints {H : Type} {enc : TypeId × Value → H} {W : World} {r : Reach} {b0 base : Nat} {spare : Nat → Bool} {held : Bool} {v : Value} {d : DataW H} {p : List MemPlace} {t e : TypeId} {k : IntKind} {n : Nat} (ht : Try.prog.underlying t = some (.array n e)) (he : Try.prog.underlying e = some (.int k)) (hc : Try.prog.cellsOf t = n) (h1 : Try.prog.cellsOf e = 1)
    (hok : Value.okWide Try.prog W r b0 t v) (h : DataW.Trod enc Try.prog W base spare held t v d p) :
    ∃ zs : Array Int, v = .agg (zs.map (.int k)) ∧ zs.size = n ∧ ∀ i (h : i < zs.size), (Lit.int k zs[i]).wf = true := by
  obtain ⟨cs, rfl, hsz, _⟩ : ∃ cs, v = .agg cs ∧ cs.size = Try.prog.cellsOf t ∧ Row.okWide Try.prog W r b0 t cs := by
    simpa [Value.okWide, ht] using hok
  rw [hc] at hsz
  obtain ⟨fuel, hf⟩ := h
  obtain ⟨xs, m, rfl, -, -, hl, hx⟩ := DataW.trod_array ht hf
  have key : ∀ i (hi : i < cs.size), ∃ z, cs[i] = .int k z ∧ (Lit.int k z).wf = true := by
    intro i hi
    have := hx i (by omega)
    rw [h1, Nat.mul_one, List.getElem?_eq_getElem (by omega)] at this
    obtain ⟨z, e0, -, wz⟩ := DataW.trod_int he this
    refine ⟨z, ?_, wz⟩
    have e1 : (Value.agg cs).cells.toList = cs.toList := by simp [Value.cells]
    rw [e1] at e0
    have e2 : (cs.toList.drop i).take 1 = [cs[i]] := by
      rw [List.drop_eq_getElem_cons (by simpa using hi)]; simp
    rw [e2] at e0
    simpa using e0
  refine ⟨cs.map intOf, ?_, by simpa using hsz, ?_⟩
  · congr 1
    apply Array.ext
    · simp
    · intro i h1 h2
      obtain ⟨z, e, _⟩ := key i h1
      simp [e, intOf]
  · intro i hi
    obtain ⟨z, e, hz⟩ := key i (by simpa using hi)
    simpa [e, intOf] using hz
end Go.Proofs.Ytdlfnmkdidiafaa
