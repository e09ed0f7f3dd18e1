/- How the arguments of the statements of layer 1 are opened: a number of 128 bits; an array of numbers. -/
import Derived.Test.YtdddafhalcbhaaaHwK
import Derived.ChangeOld
import Derived.ShutString
import Derived.Laws.IdiomArrays
namespace Go.Proofs.Ytdddafhalcbhaaa
open Go.ChangeShapes Go.WideShapes Go.ChangeAt Go.RowKit Go.Joins
set_option linter.unusedVariables false
set_option linter.unusedSimpArgs false
theorem own : ownKnob Try.prog.godebug = none := by kernel_rfl
theorem laidOut : laidOutB Try.prog = true := by kernel_rfl
theorem cellsWide : Try.prog.cellsOf 24 = 2 := by kernel_rfl
theorem open_wide {H : Type} {enc : TypeId × Value → H} {W : World} {r : Reach} {b0 base : Nat} {spare : Nat → Bool} {held : Bool} {v : Value} {d : DataW H} {p : List MemPlace} (hok : Value.okWide Try.prog W r b0 24 v) (h : DataW.Trod enc Try.prog W base spare held 24 v d p) :
    ∃ a b : Int, v = .agg #[.int .u64 a, .int .u64 b] ∧ Is64 a ∧ Is64 b := by
  obtain ⟨c0, c1, y0, y1, m, rfl, rfl, rfl, hy0, hy1⟩ := open_agg2 Try.underlying24 (by kernel_rfl) cellsWide hok h
  obtain ⟨a, e0, rfl, wa⟩ := DataW.trod_int Try.underlying22 hy0
  obtain ⟨b, e1, rfl, wb⟩ := DataW.trod_int Try.underlying22 hy1
  simp at e0 e1
  subst e0 e1
  exact ⟨a, b, rfl, is64_wf wa, is64_wf wb⟩
theorem open_arr {H : Type} {enc : TypeId × Value → H} {W : World} {r : Reach} {b0 base : Nat} {spare : Nat → Bool} {held : Bool} {v : Value} {d : DataW H} {p : List MemPlace} {t : TypeId} {n : Nat} (ht : Try.prog.underlying t = some (.array n 22)) (hc : Try.prog.cellsOf t = n)
    (hok : Value.okWide Try.prog W r b0 t v) (h : DataW.Trod enc Try.prog W base spare held t v d p) :
    ∃ zs : Array Int, v = .agg (zs.map (.int .u64)) ∧ zs.size = n ∧ ∀ i (h : i < zs.size), Is64 zs[i] := by
  obtain ⟨cs, rfl, hsz, _⟩ : ∃ cs, v = .agg cs ∧ cs.size = Try.prog.cellsOf t ∧ Row.okWide Try.prog W r b0 t cs := by
    simpa [Value.okWide, ht] using hok
  rw [hc] at hsz
  obtain ⟨fuel, hf⟩ := h
  obtain ⟨xs, m, rfl, -, -, hl, hx⟩ := DataW.trod_array ht hf
  have h1 : Try.prog.cellsOf 22 = 1 := by kernel_rfl
  have key : ∀ i (hi : i < cs.size), ∃ z, cs[i] = .int .u64 z ∧ Is64 z := by
    intro i hi
    have := hx i (by omega)
    rw [h1, Nat.mul_one, List.getElem?_eq_getElem (by omega)] at this
    obtain ⟨z, e0, -, wz⟩ := DataW.trod_int Try.underlying22 this
    refine ⟨z, ?_, is64_wf wz⟩
    have e1 : (Value.agg cs).cells.toList = cs.toList := by simp [Value.cells]
    rw [e1] at e0
    have e2 : (cs.toList.drop i).take 1 = [cs[i]] := by
      rw [List.drop_eq_getElem_cons (by simpa using hi)]; simp
    rw [e2] at e0
    simpa using e0
  refine ⟨cs.map intOf, ?_, by simpa using hsz, ?_⟩
  · congr 1
    apply Array.ext
    · simp
    · intro i h1 h2
      obtain ⟨z, e, _⟩ := key i h1
      simp [e, intOf]
  · intro i hi
    obtain ⟨z, e, hz⟩ := key i (by simpa using hi)
    simpa [e, intOf] using hz
theorem arr2 {zs : Array Int} (h : zs.size = 2) : ∃ a b, zs = #[a, b] := array2 h
end Go.Proofs.Ytdddafhalcbhaaa
