/- Rows of tasks that a call has made: append, what a later call leaves of them, a task of them written over. -/
import Derived.Test.YtbhafcaekpccoaaPmB
import Derived.Laws.AppendOwn
import Derived.Lib.AppendZeros
namespace Go.Proofs.Ytbhafcaekpccoaa.Pm
open Go.ChangeShapes Go.WideShapes Go.ChangeAt Go.RowKit Go.Joins
set_option maxRecDepth 100000
set_option maxRecDepth 100000
set_option linter.unusedVariables false
set_option linter.unusedSimpArgs false
theorem addr_add (b o j : Nat) : (⟨b, o, none⟩ : Addr).add j = ⟨b, o + j, none⟩ := by
  unfold Addr.add
  by_cases h : j = 0 <;> simp [h]
theorem infoTask : (Try.prog.info? 42).map (fun i => (i.zero, i.size, i.bytes)) = some (some (.agg #[.int .i64 0, .int .i64 0, .int .i64 0, .int .i64 0, .int .i64 0]), 5, 40) := by kernel_rfl
/-- a task's cells -/
def Tk.cs (x : Tk) : List Value := [.int .i64 x.id, .int .i64 x.c, .int .i64 x.d, .int .i64 x.t, .int .i64 x.m]
/-- all tasks' cells -/
def flat (l : List Tk) : List Value := l.flatMap Tk.cs
theorem flat_nil : flat [] = [] := rfl
theorem flat_cons (x : Tk) (l : List Tk) : flat (x :: l) = x.cs ++ flat l := rfl
theorem flat_append (a b : List Tk) : flat (a ++ b) = flat a ++ flat b := by simp [flat]
theorem flat_length (l : List Tk) : (flat l).length = l.length * 5 := by
  induction l with
  | nil => rfl
  | cons x l ih => rw [flat_cons, List.length_append, ih, List.length_cons]; simp [Tk.cs]; omega
theorem flat_get {l : List Tk} {i : Nat} {x : Tk} (h : l[i]? = some x) : ∀ j, j < 5 → (flat l)[i * 5 + j]? = x.cs[j]? := by
  induction l generalizing i with
  | nil => simp at h
  | cons y l ih =>
    intro j hj
    rw [flat_cons]
    cases i with
    | zero =>
      obtain rfl : y = x := by simpa using h
      rw [List.getElem?_append_left (by simp [Tk.cs]; omega)]; simp
    | succ i =>
      rw [List.getElem?_append_right (by simp [Tk.cs]; omega)]
      have e : (i + 1) * 5 + j - y.cs.length = i * 5 + j := by simp [Tk.cs]; omega
      rw [e]
      exact ih (by simpa using h) j hj
theorem set_cs (a b c d e : Value) (r : List Value) (y : List Value) (o k : Nat) (v : Value) (h : o = 5 + k) : ([a, b, c, d, e] ++ r).set o v = [a, b, c, d, e] ++ r.set k v := by
  subst h; rw [List.set_append_right _ _ (by simp)]; simp
theorem flat_set (l : List Tk) (y : Tk) : ∀ i, i < l.length → flat (l.set i y) = (((((flat l).set (i * 5) (.int .i64 y.id)).set (i * 5 + 1) (.int .i64 y.c)).set (i * 5 + 2) (.int .i64 y.d)).set (i * 5 + 3) (.int .i64 y.t)).set (i * 5 + 4) (.int .i64 y.m) := by
  induction l with
  | nil => intro i h; simp at h
  | cons x l ih =>
    intro i h
    cases i with
    | zero => simp [flat_cons, Tk.cs]
    | succ i =>
      rw [List.set_cons_succ, flat_cons, flat_cons, ih i (by simpa using h)]
      unfold Tk.cs
      rw [set_cs _ _ _ _ _ _ [] _ (i * 5) _ (by omega), set_cs _ _ _ _ _ _ [] _ (i * 5 + 1) _ (by omega), set_cs _ _ _ _ _ _ [] _ (i * 5 + 2) _ (by omega), set_cs _ _ _ _ _ _ [] _ (i * 5 + 3) _ (by omega), set_cs _ _ _ _ _ _ [] _ (i * 5 + 4) _ (by omega)]
/-- v is a row of these tasks, in a block from B on -/
def TRow (B : Nat) (w : World) (v : Value) (l : List Tk) : Prop := w.ownsRow B 42 5 v l.length (flat l)
theorem trow_nil (B : Nat) (w : World) : TRow B w (.slice none 0 0) [] := World.ownsRow_nil _ _ _ _
theorem TRow.of_blocks {B : Nat} {w w' : World} {v : Value} {l : List Tk} (h : TRow B w v l) (hb : ∀ k, v.ownBlock = some k → w'.heap[k]? = w.heap[k]?) : TRow B w' v l := by
  refine ⟨h.1, ?_⟩
  rcases h.2 with hn | ⟨g, cap, cur, rfl, hB, hg, rest⟩
  · exact .inl hn
  · exact .inr ⟨g, cap, cur, rfl, hB, by rw [hb g rfl]; exact hg, rest⟩
theorem TRow.call {B : Nat} {w w' : World} {v : Value} {l : List Tk} (h : TRow B w v l) (hb : Below w.heap.size w w') : TRow B w' v l := by
  refine ⟨h.1, ?_⟩
  rcases h.2 with hn | ⟨g, cap, cur, rfl, hB, hg, rest⟩
  · exact .inl hn
  · exact .inr ⟨g, cap, cur, rfl, hB, by rw [hb.block g (Array.getElem?_eq_some_iff.1 hg).1]; exact hg, rest⟩
theorem TRow.mono {B C : Nat} {w : World} {v : Value} {l : List Tk} (h : TRow B w v l) (hC : C ≤ B) : TRow C w v l := by
  refine ⟨h.1, ?_⟩
  rcases h.2 with hn | ⟨g, cap, cur, rfl, hB, hg, rest⟩
  · exact .inl hn
  · exact .inr ⟨g, cap, cur, rfl, by omega, hg, rest⟩
theorem TRow.form {B : Nat} {w : World} {v : Value} {l : List Tk} (h : TRow B w v l) : ∃ ao cap, v = .slice ao l.length cap ∧ l.length ≤ cap ∧ Ts ao l w := by
  have hc := fun g (e : v.ownBlock = some g) => World.ownsRow.cells h (g := g) e
  rcases h.2 with ⟨rfl, h0⟩ | ⟨g, cap, cur, rfl, hB, hg, hcap, -⟩
  · refine ⟨none, 0, by rw [h0], by omega, fun h => by omega⟩
  · refine ⟨some ⟨g, 0, none⟩, cap, rfl, hcap, fun h0 => ⟨g, 0, rfl, (Array.getElem?_eq_some_iff.1 hg).1, fun i x hi => ?_⟩⟩
    have key : ∀ j, j < 5 → ∀ u, x.cs[j]? = some u → w.cell? ⟨g, 0 + i * 5 + j, none⟩ = some u := fun j hj u hu => by
      have := hc g rfl (i * 5 + j) u (by rw [flat_get hi j hj]; exact hu)
      rw [addr_add] at this
      rw [show 0 + i * 5 + j = 0 + (i * 5 + j) by omega]; exact this
    exact ⟨key 0 (by omega) _ rfl, key 1 (by omega) _ rfl, key 2 (by omega) _ rfl, key 3 (by omega) _ rfl, key 4 (by omega) _ rfl⟩
theorem trow_append (B : Nat) (w : World) (v : Value) (l : List Tk) (x : Tk) (h : TRow B w v l) (hB : B ≤ w.heap.size) (hn : l.length ≤ 100000) :
    ∃ v' w', (Builtin.append_ #[22, 22] 22 #[v, .slice (some ⟨w.heap.size, 0, none⟩) 1 1]).run Try.prog (w.alloc (.cells x.cs.toArray 42)) = .ok v' w' ∧ TRow B w' v' (l ++ [x]) ∧ Below B w w' := by
  obtain ⟨i, hi, hz⟩ := Option.map_eq_some_iff.1 infoTask
  simp only [Prod.mk.injEq] at hz
  obtain ⟨hz, hs, hy⟩ := hz
  have h1 := h.call ((Below.refl _ w).alloc (Nat.le_refl _) (.cells x.cs.toArray 42))
  obtain ⟨v', w', hr, ho, hg, -⟩ := run_append_own (P := Try.prog) (w.alloc (.cells x.cs.toArray 42)) B 22 22 42 i _ 5 40 Try.underlying22 hi hz hs hy rfl (by omega) v l.length _ h1
    ⟨w.heap.size, 0, none⟩ 1 1 x.cs rfl (fun j u hj => by
      rw [addr_add, Nat.zero_add]
      simp [go_sem, hj]) (fun u hu => by simp [Tk.cs] at hu; rcases hu with rfl | rfl | rfl | rfl | rfl <;> rfl) (by unfold maxLen; omega) (by omega) (by simp; omega)
  refine ⟨v', w', hr, ?_, ?_⟩
  · unfold TRow
    rw [List.length_append, flat_append]
    simpa [flat] using ho
  · exact ((Below.refl B w).alloc hB _).grown hg (by simp; omega) (fun k hk => (h1.lt k hk).1)
/-- a task of the row is written over -/
def put5 (w : World) (g o : Nat) (y : Tk) : World := ((((w.setCell ⟨g, o, none⟩ (.int .i64 y.id)).setCell ⟨g, o + 1, none⟩ (.int .i64 y.c)).setCell ⟨g, o + 2, none⟩ (.int .i64 y.d)).setCell ⟨g, o + 3, none⟩ (.int .i64 y.t)).setCell ⟨g, o + 4, none⟩ (.int .i64 y.m)
theorem put5_other (w : World) (g o : Nat) (y : Tk) (k : Nat) (h : k ≠ g) : (put5 w g o y).heap[k]? = w.heap[k]? := by
  unfold put5
  rw [Below.heap_setCell _ _ _ _ h, Below.heap_setCell _ _ _ _ h, Below.heap_setCell _ _ _ _ h, Below.heap_setCell _ _ _ _ h, Below.heap_setCell _ _ _ _ h]
theorem put5_same {w : World} {g o : Nat} {y : Tk} {cur : Array Value} {T : TypeId} (h : w.heap[g]? = some (.cells cur T (0, 0))) :
    (put5 w g o y).heap[g]? = some (.cells (((((cur.setIfInBounds o (.int .i64 y.id)).setIfInBounds (o + 1) (.int .i64 y.c)).setIfInBounds (o + 2) (.int .i64 y.d)).setIfInBounds (o + 3) (.int .i64 y.t)).setIfInBounds (o + 4) (.int .i64 y.m)) T (0, 0)) := by
  unfold put5
  simp [World.setCell, Array.getElem?_modify, h]
theorem put5_below {B : Nat} {u w : World} {g o : Nat} {y : Tk} (h : Below B u w) (hg : B ≤ g) : Below B u (put5 w g o y) := by
  unfold put5
  exact ((((h.setCell hg _).setCell hg _).setCell hg _).setCell hg _).setCell hg _
theorem TRow.set {B : Nat} {w : World} {g cap : Nat} {l : List Tk} (h : TRow B w (.slice (some ⟨g, 0, none⟩) l.length cap) l) (i : Nat) (hi : i < l.length) (y : Tk) : TRow B (put5 w g (i * 5) y) (.slice (some ⟨g, 0, none⟩) l.length cap) (l.set i y) := by
  refine ⟨by rw [flat_length], ?_⟩
  rcases h.2 with ⟨h0, _⟩ | ⟨g', cap', cur, hv, hB, hg, hcap, hm, hsz, ht⟩
  · cases h0
  · cases hv
    refine .inr ⟨g, cap, _, by rw [List.length_set], hB, put5_same hg, by rw [List.length_set]; exact hcap, hm, by simpa using hsz, ?_⟩
    simp only [Array.toList_setIfInBounds, List.take_set]
    rw [List.length_set, ht, flat_set _ _ _ hi]
end Go.Proofs.Ytbhafcaekpccoaa.Pm
