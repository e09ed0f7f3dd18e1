/- Contract of package param's Period. -/
import Derived.Test.YtldaikpchggogaaPmC
namespace Go.Proofs.Ytldaikpchggogaa.Pm
open Go.ChangeShapes Go.WideShapes Go.ChangeAt Go.RowKit Go.Joins
set_option maxRecDepth 100000
set_option maxRecDepth 100000
set_option linter.unusedVariables false
set_option linter.unusedSimpArgs false
/-- all but block b is as it was -/
structure Apart (b : Nat) (w w' : World) : Prop where
  os : w'.os = w.os
  tape : w'.tape = w.tape
  output : w'.output = w.output
  size : w.heap.size ≤ w'.heap.size
  block : ∀ k, k < w.heap.size → k ≠ b → w'.heap[k]? = w.heap[k]?
theorem Apart.below {B b : Nat} {w w' : World} (h : Apart b w w') (hB : B ≤ b) (hs : B ≤ w.heap.size) : Below B w w' :=
  ⟨h.os, h.tape, h.output, h.size, fun k hk => h.block k (by omega) (by omega)⟩
theorem carryf {W w1 : World} {p : Addr} {v : Value} (hb : Below W.heap.size W w1) (h : W.cell? p = some v) (hf : W.frozen? p = false) : w1.frozen? p = false := by
  rw [← hf]
  apply hb.frozen
  rcases Nat.lt_or_ge p.block W.heap.size with h' | h'
  · exact h'
  · exfalso; unfold World.cell? at h; rw [Array.getElem?_eq_none h'] at h; cases h
/-- a number in a box -/
structure NumAt (b : Nat) (z : Int) (w : World) : Prop where
  c : w.cell? ⟨b, 0, none⟩ = some (.int .i64 z)
  f : w.frozen? ⟨b, 0, none⟩ = false
theorem mul_set {B : Nat} {z y : Int} {w w1 : World} (h : NumAt B z w) (hb : Below w.heap.size w w1) : NumAt B y (w1.setCell ⟨B, 0, none⟩ (.int .i64 y)) ∧ Apart B w (w1.setCell ⟨B, 0, none⟩ (.int .i64 y)) := by
  have c1 := carry hb h.c
  have f1 := carryf hb h.c h.f
  have hl := World.block_lt_of_cell? _ _ c1
  refine ⟨⟨by simp [go_sem, hl, c1], by simp [go_sem, hl, f1]⟩, ?_⟩
  have hz := hb.size
  refine ⟨hb.os, hb.tape, hb.output, by simpa [World.setCell] using hz, fun k hk hn => ?_⟩
  rw [Below.heap_setCell w1 ⟨B, 0, none⟩ _ k hn]
  exact hb.block k hk
theorem Apart.drew {B : Nat} {w w' : World} (h : Apart B w w') : Apart B w w'.drew := ⟨h.os, h.tape, h.output, h.size, h.block⟩
theorem NumAt.drew {B : Nat} {z : Int} {w : World} (h : NumAt B z w) : NumAt B z w.drew := ⟨h.c, h.f⟩
theorem num_new (w : World) (T : TypeId) : NumAt w.heap.size 1 (w.alloc (.cells #[.int .i64 1] T)) := ⟨by simp [go_sem], by simp [go_sem]⟩
theorem NumAt.below {b : Nat} {z : Int} {w w' : World} (h : NumAt b z w) (hb : Below w.heap.size w w') : NumAt b z w' := ⟨carry hb h.c, carryf hb h.c h.f⟩
/-- i periods were multiplied: p is their common one -/
def PeRel (l : List Tk) (B : Nat) (w : World) (g : Nat) (s : Value) (wx : World) : Prop :=
  ∃ i p : Nat, i + g = l.length ∧ s = .int .i64 (i : Int) ∧ pers l 1 = pers (l.drop i) p ∧ 0 < p ∧ p ≤ 1048576 ∧ NumAt B (p : Int) wx ∧ Below w.heap.size w wx
theorem pers_next {l : List Tk} {i p : Nat} (h : i < l.length) : pers (l.drop i) p = if 1048576 < Nat.lcm p l[i].t.toNat then none else pers (l.drop (i + 1)) (Nat.lcm p l[i].t.toNat) := by
  rw [List.drop_eq_getElem_cons h, pers]
end Go.Proofs.Ytldaikpchggogaa.Pm
