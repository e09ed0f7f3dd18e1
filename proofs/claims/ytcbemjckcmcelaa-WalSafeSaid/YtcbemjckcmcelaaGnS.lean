/- Rows of texts that a call has made: append, and what a later call leaves of them. -/
import Derived.Test.YtcbemjckcmcelaaGnR
import Derived.Laws.AppendOwn
import Derived.Lib.AppendZeros
namespace Go.Proofs.Ytcbemjckcmcelaa
open Go.ChangeShapes Go.WideShapes Go.ChangeAt Go.RowKit Go.Joins
set_option maxRecDepth 100000
set_option linter.unusedVariables false
set_option linter.unusedSimpArgs false
theorem infoStr : (Try.prog.info? 9).map (fun i => (i.zero, i.size, i.bytes)) = some (some (.string ⟨#[]⟩), 1, 16) := by kernel_rfl
/-- v is a row of these texts, in a block from B on -/
def Strs (B : Nat) (w : World) (v : Value) (ds : List (List UInt8)) : Prop := w.ownsRow B 9 1 v ds.length (ds.map fun l => Value.string (mkB l))
theorem strs_nil (B : Nat) (w : World) : Strs B w (.slice none 0 0) [] := World.ownsRow_nil _ _ _ _
theorem Strs.call {B : Nat} {w w' : World} {v : Value} {ds : List (List UInt8)} (h : Strs B w v ds) (hb : Below w.heap.size w w') : Strs B w' v ds := by
  refine ⟨h.1, ?_⟩
  rcases h.2 with hn | ⟨g, cap, cur, rfl, hB, hg, rest⟩
  · exact .inl hn
  · exact .inr ⟨g, cap, cur, rfl, hB, by rw [hb.block g (Array.getElem?_eq_some_iff.1 hg).1]; exact hg, rest⟩
theorem strs_append (B : Nat) (w : World) (v : Value) (ds : List (List UInt8)) (c : List UInt8) (h : Strs B w v ds) (hB : B ≤ w.heap.size) (hn : ds.length ≤ 100000) :
    ∃ v' w', (Builtin.append_ #[36, 36] 36 #[v, .slice (some ⟨w.heap.size, 0, none⟩) 1 1]).run Try.prog (w.alloc (.cells #[.string (mkB c)] 9)) = .ok v' w' ∧ Strs B w' v' (ds ++ [c]) ∧ Below B w w' := by
  obtain ⟨i, hi, hz⟩ := Option.map_eq_some_iff.1 infoStr
  simp only [Prod.mk.injEq] at hz
  obtain ⟨hz, hs, hy⟩ := hz
  have h1 := h.call ((Below.refl _ w).alloc (Nat.le_refl _) (.cells #[.string (mkB c)] 9))
  obtain ⟨v', w', hr, ho, hg, -⟩ := run_append_own (P := Try.prog) (w.alloc (.cells #[.string (mkB c)] 9)) B 36 36 9 i (.string ⟨#[]⟩) 1 16 Try.underlying36 hi hz hs hy rfl (by omega) v ds.length _ h1
    ⟨w.heap.size, 0, none⟩ 1 1 [.string (mkB c)] rfl (fun j u hj => by
      obtain ⟨hj1, rfl⟩ := List.getElem?_eq_some_iff.1 hj
      obtain rfl : j = 0 := by simpa using hj1
      rw [addr_add]
      simp [go_sem]) (fun u hu => by simp at hu; subst hu; rfl) (by unfold maxLen; omega) (by omega) (by simp; omega)
  refine ⟨v', w', hr, ?_, ?_⟩
  · unfold Strs
    rw [List.length_append, List.map_append]
    exact ho
  · exact ((Below.refl B w).alloc hB _).grown hg (by simp; omega) (fun k hk => (h1.lt k hk).1)
/-- its cells -/
theorem Strs.cell {B : Nat} {w : World} {v : Value} {ds : List (List UInt8)} (h : Strs B w v ds) (hne : ds ≠ []) :
    ∃ g cap, v = .slice (some ⟨g, 0, none⟩) ds.length cap ∧ B ≤ g ∧ g < w.heap.size ∧ ∀ j (hj : j < ds.length), w.cell? ⟨g, j, none⟩ = some (.string (mkB ds[j])) := by
  rcases h.2 with ⟨rfl, h0⟩ | ⟨g, cap, cur, rfl, hB, hg, rest⟩
  · exact absurd (List.eq_nil_of_length_eq_zero h0) hne
  · refine ⟨g, cap, rfl, hB, (Array.getElem?_eq_some_iff.1 hg).1, fun j hj => ?_⟩
    have := World.ownsRow.cells h (g := g) rfl j (.string (mkB ds[j])) (by simp [hj])
    rw [addr_add, Nat.zero_add] at this
    exact this
theorem make_strs (B c : Nat) (z : Int) (hz : z = (c : Int)) (hc : c ≤ 1000000) (w : World) (hB : B ≤ w.heap.size) :
    ∃ w', (Instr.makeSlice 36 (.int .i64 0) (.int .i64 z)).run Try.prog w = .ok (.slice (some ⟨w.heap.size, 0, none⟩) 0 c) w' ∧ Strs B w' (.slice (some ⟨w.heap.size, 0, none⟩) 0 c) [] ∧ Below w.heap.size w w' := by
  subst hz
  obtain ⟨i, hi, hz⟩ := Option.map_eq_some_iff.1 infoStr
  simp only [Prod.mk.injEq] at hz
  obtain ⟨hz, hs, hy⟩ := hz
  obtain ⟨w', hr, ho, hg⟩ := run_make_own (P := Try.prog) w B 36 9 i (.string ⟨#[]⟩) 1 Try.underlying36 hi hz hs .i64 .i64 c (by rw [hy]; omega) (by unfold maxLen; omega) hB
  exact ⟨w', hr, ho, (Below.refl _ w).grown hg (Nat.le_refl _) (fun k hk => by cases hk)⟩
end Go.Proofs.Ytcbemjckcmcelaa
