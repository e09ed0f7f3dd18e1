/- One field of one task of a row, written over. -/
import Derived.Test.YtbhafcaekpccoaaQpO
namespace Go.Proofs.Ytbhafcaekpccoaa.Qp
open Go.ChangeShapes Go.WideShapes Go.ChangeAt Go.RowKit Go.Joins
open Pm (Tk chk TkAt Ts TRow flat flat_cons flat_length)
set_option maxRecDepth 100000
set_option maxRecDepth 100000
set_option linter.unusedVariables false
set_option linter.unusedSimpArgs false
theorem cs_len (x : Tk) : x.cs.length = 5 := rfl
theorem flat_f {y : Tk} {j : Nat} {v : Value} (hj : j < 5) : ∀ {l : List Tk} {i : Nat} {x : Tk}, l[i]? = some x → y.cs = x.cs.set j v → flat (l.set i y) = (flat l).set (i * 5 + j) v := by
  intro l
  induction l with
  | nil => intro i x h; simp at h
  | cons a l ih =>
    intro i x h hy
    cases i with
    | zero =>
      obtain rfl : a = x := by simpa using h
      rw [List.set_cons_zero, flat_cons, flat_cons, hy, Nat.zero_mul, Nat.zero_add, List.set_append_left _ _ (by rw [cs_len]; exact hj)]
    | succ i =>
      rw [List.set_cons_succ, flat_cons, flat_cons, ih (by simpa using h) hy, List.set_append_right _ _ (by rw [cs_len]; omega)]
      congr 2
      rw [cs_len]; omega
theorem trow_f {B : Nat} {w : World} {g cap n : Nat} {l : List Tk} (h : TRow B w (.slice (some ⟨g, 0, none⟩) n cap) l) (hn : n = l.length) {i : Nat} {x : Tk} (hi : l[i]? = some x) {j : Nat} (hj : j < 5) (v : Value) (y : Tk) (hy : y.cs = x.cs.set j v) :
    w.frozen? ⟨g, i * 5 + j, none⟩ = false ∧ TRow B (w.setCell ⟨g, i * 5 + j, none⟩ v) (.slice (some ⟨g, 0, none⟩) n cap) (l.set i y) ∧ B ≤ g := by
  subst hn
  rcases h.2 with ⟨h0, _⟩ | ⟨g', cap', cur, hv, hB, hg, hcap, hm, hsz, ht⟩
  · cases h0
  · cases hv
    have he : (w.setCell ⟨g, i * 5 + j, none⟩ v).heap[g]? = some (.cells (cur.setIfInBounds (i * 5 + j) v) 42 (0, 0)) := by simp [World.setCell, Array.getElem?_modify, hg]
    refine ⟨Lib.frozen_of_heap hg _, ⟨by rw [flat_length], .inr ⟨g, cap, _, by rw [List.length_set], hB, he, by rw [List.length_set]; exact hcap, hm, by simpa using hsz, ?_⟩⟩, hB⟩
    rw [Array.toList_setIfInBounds, List.take_set, List.length_set, ht, flat_f hj hi hy]
/-- the first i are turned by f -/
def mixF {α : Type} (f : α → α) (l : List α) (i : Nat) : List α := (l.take i).map f ++ l.drop i
theorem mixF_zero {α : Type} (f : α → α) (l : List α) : mixF f l 0 = l := by simp [mixF]
theorem mixF_all {α : Type} (f : α → α) (l : List α) : mixF f l l.length = l.map f := by simp [mixF]
theorem mixF_len {α : Type} (f : α → α) (l : List α) (i : Nat) : (mixF f l i).length = l.length := by simp [mixF]; omega
theorem mixF_get {α : Type} {f : α → α} {l : List α} {i : Nat} (h : i < l.length) : (mixF f l i)[i]? = some l[i] := by
  unfold mixF
  rw [List.getElem?_append_right (by simp; omega)]
  simp [Nat.min_eq_left (Nat.le_of_lt h), h]
theorem mixF_set {α : Type} {f : α → α} {l : List α} {i : Nat} (h : i < l.length) : (mixF f l i).set i (f l[i]) = mixF f l (i + 1) := by
  unfold mixF
  rw [List.set_append_right _ _ (by simp; omega), List.take_succ_eq_append_getElem h, List.map_append, List.append_assoc]
  have e : i - ((l.take i).map f).length = 0 := by rw [List.length_map, List.length_take]; omega
  rw [e, List.drop_eq_getElem_cons h, List.set_cons_zero]
  rfl
end Go.Proofs.Ytbhafcaekpccoaa.Qp
