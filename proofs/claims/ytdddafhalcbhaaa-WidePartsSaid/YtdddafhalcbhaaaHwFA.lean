/- Arrays of two, three, four numbers, opened. -/
import Derived.Test.YtdddafhalcbhaaaHwF
namespace Go.Proofs.Ytdddafhalcbhaaa
open Go.ChangeShapes Go.WideShapes Go.ChangeAt Go.RowKit Go.Joins
set_option linter.unusedVariables false
set_option linter.unusedSimpArgs false
theorem open_arr2 {H : Type} {enc : TypeId × Value → H} {W : World} {r : Reach} {b0 base : Nat} {spare : Nat → Bool} {held : Bool} {v : Value} {d : DataW H} {p : List MemPlace} {t : TypeId} (ht : Try.prog.underlying t = some (.array 2 22)) (hc : Try.prog.cellsOf t = 2)
    (hok : Value.okWide Try.prog W r b0 t v) (h : DataW.Trod enc Try.prog W base spare held t v d p) :
    ∃ a b : Int, v = .agg #[.int .u64 a, .int .u64 b] ∧ Is64 a ∧ Is64 b := by
  obtain ⟨zs, rfl, hz, hi⟩ := open_arr ht hc hok h
  obtain ⟨a, b, rfl⟩ := array2 hz
  exact ⟨a, b, by simp, hi 0 (by simp), hi 1 (by simp)⟩
theorem open_arr3 {H : Type} {enc : TypeId × Value → H} {W : World} {r : Reach} {b0 base : Nat} {spare : Nat → Bool} {held : Bool} {v : Value} {d : DataW H} {p : List MemPlace} {t : TypeId} (ht : Try.prog.underlying t = some (.array 3 22)) (hc : Try.prog.cellsOf t = 3)
    (hok : Value.okWide Try.prog W r b0 t v) (h : DataW.Trod enc Try.prog W base spare held t v d p) :
    ∃ a b c : Int, v = .agg #[.int .u64 a, .int .u64 b, .int .u64 c] ∧ Is64 a ∧ Is64 b ∧ Is64 c := by
  obtain ⟨zs, rfl, hz, hi⟩ := open_arr ht hc hok h
  obtain ⟨a, b, c, rfl⟩ := array3 hz
  exact ⟨a, b, c, by simp, hi 0 (by simp), hi 1 (by simp), hi 2 (by simp)⟩
theorem open_arr4 {H : Type} {enc : TypeId × Value → H} {W : World} {r : Reach} {b0 base : Nat} {spare : Nat → Bool} {held : Bool} {v : Value} {d : DataW H} {p : List MemPlace} {t : TypeId} (ht : Try.prog.underlying t = some (.array 4 22)) (hc : Try.prog.cellsOf t = 4)
    (hok : Value.okWide Try.prog W r b0 t v) (h : DataW.Trod enc Try.prog W base spare held t v d p) :
    ∃ a b c d : Int, v = .agg #[.int .u64 a, .int .u64 b, .int .u64 c, .int .u64 d] ∧ Is64 a ∧ Is64 b ∧ Is64 c ∧ Is64 d := by
  obtain ⟨zs, rfl, hz, hi⟩ := open_arr ht hc hok h
  obtain ⟨a, b, c, d, rfl⟩ := array4 hz
  exact ⟨a, b, c, d, by simp, hi 0 (by simp), hi 1 (by simp), hi 2 (by simp), hi 3 (by simp)⟩
end Go.Proofs.Ytdddafhalcbhaaa
