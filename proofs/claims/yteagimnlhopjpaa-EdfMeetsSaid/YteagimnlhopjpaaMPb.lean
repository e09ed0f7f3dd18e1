/- Rows of tasks that a call has made: append, what a later call leaves of them, a task of them written over. Rows of tasks: a row of none, all of a row behind another one, a task loaded; operations by their run. Contract of package param's Period. Contracts of package param's Load, Over. What the statements of layer 9 are made of: rows of tasks and of numbers that came in, opened; few, made, awake. Contracts of the document's Period, Load. -/
import Derived.Test.YteagimnlhopjpaaMPa
import Derived.Laws.AppendOwn
import Derived.Lib.AppendZeros
import Derived.Deep.MidRow
import Derived.Deep.Slices
import Derived.ChangeSlices
namespace Go.Proofs.Yteagimnlhopjpaa.Pm
open Go.ChangeShapes Go.WideShapes Go.ChangeAt Go.RowKit Go.Joins
set_option maxRecDepth 100000
set_option maxRecDepth 100000
set_option linter.unusedVariables false
set_option linter.unusedSimpArgs false
theorem addr_add (b o j : Nat) : (⟨b, o, none⟩ : Addr).add j = ⟨b, o + j, none⟩ := by
  unfold Addr.add
  by_cases h : j = 0 <;> simp [h]
theorem infoTask : (Try.prog.info? 54).map (fun i => (i.zero, i.size, i.bytes)) = some (some (.agg #[.int .i64 0, .int .i64 0, .int .i64 0, .int .i64 0, .int .i64 0]), 5, 40) := by kernel_rfl
/-- a task's cells -/
def Tk.cs (x : Tk) : List Value := [.int .i64 x.id, .int .i64 x.c, .int .i64 x.d, .int .i64 x.t, .int .i64 x.m]
/-- all tasks' cells -/
def flat (l : List Tk) : List Value := l.flatMap Tk.cs
theorem flat_nil : flat [] = [] := rfl
theorem flat_cons (x : Tk) (l : List Tk) : flat (x :: l) = x.cs ++ flat l := rfl
theorem flat_append (a b : List Tk) : flat (a ++ b) = flat a ++ flat b := by simp [flat]
theorem flat_length (l : List Tk) : (flat l).length = l.length * 5 := by
  induction l with
  | nil => rfl
  | cons x l ih => rw [flat_cons, List.length_append, ih, List.length_cons]; simp [Tk.cs]; omega
theorem flat_get {l : List Tk} {i : Nat} {x : Tk} (h : l[i]? = some x) : ∀ j, j < 5 → (flat l)[i * 5 + j]? = x.cs[j]? := by
  induction l generalizing i with
  | nil => simp at h
  | cons y l ih =>
    intro j hj
    rw [flat_cons]
    cases i with
    | zero =>
      obtain rfl : y = x := by simpa using h
      rw [List.getElem?_append_left (by simp [Tk.cs]; omega)]; simp
    | succ i =>
      rw [List.getElem?_append_right (by simp [Tk.cs]; omega)]
      have e : (i + 1) * 5 + j - y.cs.length = i * 5 + j := by simp [Tk.cs]; omega
      rw [e]
      exact ih (by simpa using h) j hj
theorem set_cs (a b c d e : Value) (r : List Value) (y : List Value) (o k : Nat) (v : Value) (h : o = 5 + k) : ([a, b, c, d, e] ++ r).set o v = [a, b, c, d, e] ++ r.set k v := by
  subst h; rw [List.set_append_right _ _ (by simp)]; simp
theorem flat_set (l : List Tk) (y : Tk) : ∀ i, i < l.length → flat (l.set i y) = (((((flat l).set (i * 5) (.int .i64 y.id)).set (i * 5 + 1) (.int .i64 y.c)).set (i * 5 + 2) (.int .i64 y.d)).set (i * 5 + 3) (.int .i64 y.t)).set (i * 5 + 4) (.int .i64 y.m) := by
  induction l with
  | nil => intro i h; simp at h
  | cons x l ih =>
    intro i h
    cases i with
    | zero => simp [flat_cons, Tk.cs]
    | succ i =>
      rw [List.set_cons_succ, flat_cons, flat_cons, ih i (by simpa using h)]
      unfold Tk.cs
      rw [set_cs _ _ _ _ _ _ [] _ (i * 5) _ (by omega), set_cs _ _ _ _ _ _ [] _ (i * 5 + 1) _ (by omega), set_cs _ _ _ _ _ _ [] _ (i * 5 + 2) _ (by omega), set_cs _ _ _ _ _ _ [] _ (i * 5 + 3) _ (by omega), set_cs _ _ _ _ _ _ [] _ (i * 5 + 4) _ (by omega)]
/-- v is a row of these tasks, in a block from B on -/
def TRow (B : Nat) (w : World) (v : Value) (l : List Tk) : Prop := w.ownsRow B 54 5 v l.length (flat l)
theorem trow_nil (B : Nat) (w : World) : TRow B w (.slice none 0 0) [] := World.ownsRow_nil _ _ _ _
theorem TRow.of_blocks {B : Nat} {w w' : World} {v : Value} {l : List Tk} (h : TRow B w v l) (hb : ∀ k, v.ownBlock = some k → w'.heap[k]? = w.heap[k]?) : TRow B w' v l := by
  refine ⟨h.1, ?_⟩
  rcases h.2 with hn | ⟨g, cap, cur, rfl, hB, hg, rest⟩
  · exact .inl hn
  · exact .inr ⟨g, cap, cur, rfl, hB, by rw [hb g rfl]; exact hg, rest⟩
theorem TRow.call {B : Nat} {w w' : World} {v : Value} {l : List Tk} (h : TRow B w v l) (hb : Below w.heap.size w w') : TRow B w' v l := by
  refine ⟨h.1, ?_⟩
  rcases h.2 with hn | ⟨g, cap, cur, rfl, hB, hg, rest⟩
  · exact .inl hn
  · exact .inr ⟨g, cap, cur, rfl, hB, by rw [hb.block g (Array.getElem?_eq_some_iff.1 hg).1]; exact hg, rest⟩
theorem TRow.mono {B C : Nat} {w : World} {v : Value} {l : List Tk} (h : TRow B w v l) (hC : C ≤ B) : TRow C w v l := by
  refine ⟨h.1, ?_⟩
  rcases h.2 with hn | ⟨g, cap, cur, rfl, hB, hg, rest⟩
  · exact .inl hn
  · exact .inr ⟨g, cap, cur, rfl, by omega, hg, rest⟩
theorem TRow.form {B : Nat} {w : World} {v : Value} {l : List Tk} (h : TRow B w v l) : ∃ ao cap, v = .slice ao l.length cap ∧ l.length ≤ cap ∧ Ts ao l w := by
  have hc := fun g (e : v.ownBlock = some g) => World.ownsRow.cells h (g := g) e
  rcases h.2 with ⟨rfl, h0⟩ | ⟨g, cap, cur, rfl, hB, hg, hcap, -⟩
  · refine ⟨none, 0, by rw [h0], by omega, fun h => by omega⟩
  · refine ⟨some ⟨g, 0, none⟩, cap, rfl, hcap, fun h0 => ⟨g, 0, rfl, (Array.getElem?_eq_some_iff.1 hg).1, fun i x hi => ?_⟩⟩
    have key : ∀ j, j < 5 → ∀ u, x.cs[j]? = some u → w.cell? ⟨g, 0 + i * 5 + j, none⟩ = some u := fun j hj u hu => by
      have := hc g rfl (i * 5 + j) u (by rw [flat_get hi j hj]; exact hu)
      rw [addr_add] at this
      rw [show 0 + i * 5 + j = 0 + (i * 5 + j) by omega]; exact this
    exact ⟨key 0 (by omega) _ rfl, key 1 (by omega) _ rfl, key 2 (by omega) _ rfl, key 3 (by omega) _ rfl, key 4 (by omega) _ rfl⟩
theorem trow_append (B : Nat) (w : World) (v : Value) (l : List Tk) (x : Tk) (h : TRow B w v l) (hB : B ≤ w.heap.size) (hn : l.length ≤ 100000) :
    ∃ v' w', (Builtin.append_ #[50, 50] 50 #[v, .slice (some ⟨w.heap.size, 0, none⟩) 1 1]).run Try.prog (w.alloc (.cells x.cs.toArray 54)) = .ok v' w' ∧ TRow B w' v' (l ++ [x]) ∧ Below B w w' := by
  obtain ⟨i, hi, hz⟩ := Option.map_eq_some_iff.1 infoTask
  simp only [Prod.mk.injEq] at hz
  obtain ⟨hz, hs, hy⟩ := hz
  have h1 := h.call ((Below.refl _ w).alloc (Nat.le_refl _) (.cells x.cs.toArray 54))
  obtain ⟨v', w', hr, ho, hg, -⟩ := run_append_own (P := Try.prog) (w.alloc (.cells x.cs.toArray 54)) B 50 50 54 i _ 5 40 Try.underlying50 hi hz hs hy rfl (by omega) v l.length _ h1
    ⟨w.heap.size, 0, none⟩ 1 1 x.cs rfl (fun j u hj => by
      rw [addr_add, Nat.zero_add]
      simp [go_sem, hj]) (fun u hu => by simp [Tk.cs] at hu; rcases hu with rfl | rfl | rfl | rfl | rfl <;> rfl) (by unfold maxLen; omega) (by omega) (by simp; omega)
  refine ⟨v', w', hr, ?_, ?_⟩
  · unfold TRow
    rw [List.length_append, flat_append]
    simpa [flat] using ho
  · exact ((Below.refl B w).alloc hB _).grown hg (by simp; omega) (fun k hk => (h1.lt k hk).1)
/-- a task of the row is written over -/
def put5 (w : World) (g o : Nat) (y : Tk) : World := ((((w.setCell ⟨g, o, none⟩ (.int .i64 y.id)).setCell ⟨g, o + 1, none⟩ (.int .i64 y.c)).setCell ⟨g, o + 2, none⟩ (.int .i64 y.d)).setCell ⟨g, o + 3, none⟩ (.int .i64 y.t)).setCell ⟨g, o + 4, none⟩ (.int .i64 y.m)
theorem put5_other (w : World) (g o : Nat) (y : Tk) (k : Nat) (h : k ≠ g) : (put5 w g o y).heap[k]? = w.heap[k]? := by
  unfold put5
  rw [Below.heap_setCell _ _ _ _ h, Below.heap_setCell _ _ _ _ h, Below.heap_setCell _ _ _ _ h, Below.heap_setCell _ _ _ _ h, Below.heap_setCell _ _ _ _ h]
theorem put5_same {w : World} {g o : Nat} {y : Tk} {cur : Array Value} {T : TypeId} (h : w.heap[g]? = some (.cells cur T (0, 0))) :
    (put5 w g o y).heap[g]? = some (.cells (((((cur.setIfInBounds o (.int .i64 y.id)).setIfInBounds (o + 1) (.int .i64 y.c)).setIfInBounds (o + 2) (.int .i64 y.d)).setIfInBounds (o + 3) (.int .i64 y.t)).setIfInBounds (o + 4) (.int .i64 y.m)) T (0, 0)) := by
  unfold put5
  simp [World.setCell, Array.getElem?_modify, h]
theorem put5_below {B : Nat} {u w : World} {g o : Nat} {y : Tk} (h : Below B u w) (hg : B ≤ g) : Below B u (put5 w g o y) := by
  unfold put5
  exact ((((h.setCell hg _).setCell hg _).setCell hg _).setCell hg _).setCell hg _
theorem TRow.set {B : Nat} {w : World} {g cap : Nat} {l : List Tk} (h : TRow B w (.slice (some ⟨g, 0, none⟩) l.length cap) l) (i : Nat) (hi : i < l.length) (y : Tk) : TRow B (put5 w g (i * 5) y) (.slice (some ⟨g, 0, none⟩) l.length cap) (l.set i y) := by
  refine ⟨by rw [flat_length], ?_⟩
  rcases h.2 with ⟨h0, _⟩ | ⟨g', cap', cur, hv, hB, hg, hcap, hm, hsz, ht⟩
  · cases h0
  · cases hv
    refine .inr ⟨g, cap, _, by rw [List.length_set], hB, put5_same hg, by rw [List.length_set]; exact hcap, hm, by simpa using hsz, ?_⟩
    simp only [Array.toList_setIfInBounds, List.take_set]
    rw [List.length_set, ht, flat_set _ _ _ hi]
end Go.Proofs.Yteagimnlhopjpaa.Pm
namespace Go.Proofs.Yteagimnlhopjpaa.Pm
open Go.ChangeShapes Go.WideShapes Go.ChangeAt Go.RowKit Go.Joins
set_option maxRecDepth 100000
set_option maxRecDepth 100000
set_option linter.unusedVariables false
set_option linter.unusedSimpArgs false
theorem exec_load1 {P : Program} {w w' : World} {op : Oper} {a : Act} {v : Value} {ty : TypeId} {x : Operand} {q : Addr} (ho : op.op = .load ty x) (hx : a.eval x = .pointer (some q)) (hr : (loadVar ty q).run P w = .ok v w') : (execOp a.eval op).run P w = .ok (.value v) w' := by
  unfold execOp; simp only [ho, hx, Instr.loadAt, Instr.sureAddr, Sem.run_bind, Sem.run_pure, Result.andThen_ok, hr]
theorem exec_build1 {P : Program} {w w' : World} {op : Oper} {a : Act} {v : Value} {ty : TypeId} {n : Nat} {x : Operand} {y : Value} (ho : op.op = .buildSlice ty n #[(0, x)]) (hx : a.eval x = y) (hr : (Instr.buildSlice ty n #[(0, y)]).run P w = .ok v w') : (execOp a.eval op).run P w = .ok (.value v) w' := by
  unfold execOp; simp only [ho, Sem.run_bind, Array.map, List.map_toArray]; simp [hx, hr]
theorem exec_none {P : Program} {w w' : World} {op : Oper} {a : Act} {v : Value} {ty : TypeId} {n : Nat} (ho : op.op = .buildSlice ty n #[]) (hr : (Instr.buildSlice ty n #[]).run P w = .ok v w') : (execOp a.eval op).run P w = .ok (.value v) w' := by
  unfold execOp; simp only [ho, Sem.run_bind]; simp [hr]
theorem wp_val {P : Program} {w w' : World} {op : Oper} {a : Act} {K : Act → World → Prop} {Q : Exit → Act → World → Prop} {v : Value} (hr : (execOp a.eval op).run P w = .ok (.value v) w') (h : K (a.put op.dst v) w') : op.wp P a w K Q := by
  unfold Oper.wp; rw [hr]; exact h
/-- a row of none, made -/
theorem build_none (B : Nat) (w : World) (hB : B ≤ w.heap.size) : ∃ v w', (Instr.buildSlice 50 0 #[]).run Try.prog w = .ok v w' ∧ TRow B w' v [] ∧ Below w.heap.size w w' ∧ v.ownBlock = some w.heap.size ∧ w.heap.size < w'.heap.size := by
  refine ⟨.slice (some ⟨w.heap.size, 0, none⟩) 0 0, w.alloc (.cells #[] 54), by kernel_rfl, ?_, (Below.refl _ _).alloc (Nat.le_refl _) _, rfl, by simp⟩
  exact ⟨rfl, .inr ⟨w.heap.size, 0, #[], rfl, hB, by show (w.heap.push _)[w.heap.size]? = _; rw [Array.getElem?_push_size], Nat.le_refl _, by simp [maxLen], rfl, rfl⟩⟩
theorem append_none {P : Program} (w : World) (t e : TypeId) (i : TypeInfo) (ht : P.underlying t = some (.slice e)) (hi : P.info? e = some i) (a : Option Addr) (n c : Nat) (c2 : Nat) (hn : n ≤ c) :
    (Builtin.append_ #[t, t] t #[.slice a n c, .slice none 0 c2]).run P w = .ok (.slice a n c) w := by
  cases a with
  | none => simp [Builtin.append_, run_underlying ht, sizeOf, typeInfo, hi, Builtin.lenOf, hn, Builtin.firstCells]
  | some a => simp [Builtin.append_, run_underlying ht, sizeOf, typeInfo, hi, Builtin.lenOf, hn, Builtin.firstCells, storeCells]
/-- all of a row behind another one -/
theorem trow_all (B : Nat) (w : World) (v : Value) (l m : List Tk) (ao : Option Addr) (c : Nat) (h : TRow B w v l) (hu : Ts ao m w) (hB : B ≤ w.heap.size) (hn : l.length + m.length ≤ 100000) :
    ∃ v' w', (Builtin.append_ #[50, 50] 50 #[v, .slice ao m.length c]).run Try.prog w = .ok v' w' ∧ TRow B w' v' (l ++ m) ∧ Below B w w' ∧ (∀ k, k < w.heap.size → v.ownBlock ≠ some k → w'.heap[k]? = w.heap[k]?) := by
  obtain ⟨i, hi, hz⟩ := Option.map_eq_some_iff.1 infoTask
  simp only [Prod.mk.injEq] at hz
  obtain ⟨hz, hs, hy⟩ := hz
  by_cases hao : ao = none
  · subst hao
    have h0 : m.length = 0 := by
      rcases Nat.eq_zero_or_pos m.length with h0 | h0
      · exact h0
      · obtain ⟨g, o, e, -⟩ := hu h0; cases e
    obtain rfl : m = [] := List.eq_nil_of_length_eq_zero h0
    obtain ⟨va, vc, rfl, hvc, -⟩ := h.form
    exact ⟨_, w, append_none w _ _ i Try.underlying50 hi va l.length vc c hvc, by rw [List.append_nil]; exact h, Below.refl _ _, fun _ _ _ => rfl⟩
  · obtain ⟨ad, rfl⟩ : ∃ ad, ao = some ad := by cases ao; exact absurd rfl hao; exact ⟨_, rfl⟩
    have key : ∀ j u, (flat m)[j]? = some u → w.cell? (ad.add j) = some u := fun j u hj => by
        have hj1 := (List.getElem?_eq_some_iff.1 hj).1
        rw [flat_length] at hj1
        obtain ⟨g, o, hgo, hg, hc⟩ := hu (by omega)
        cases hgo
        have e : j = j / 5 * 5 + j % 5 := by omega
        have hq : j / 5 < m.length := by omega
        have hx := hc (j / 5) m[j / 5] (List.getElem?_eq_getElem hq)
        have hf := flat_get (List.getElem?_eq_getElem hq) (j % 5) (by omega)
        rw [← e] at hf
        rw [hf] at hj
        rw [addr_add, show o + j = o + j / 5 * 5 + j % 5 by omega]
        have h5 : j % 5 < 5 := by omega
        generalize j % 5 = r at *
        match r, h5, hj with
        | 0, _, hj => simp [Tk.cs] at hj; subst hj; exact hx.c0
        | 1, _, hj => simp [Tk.cs] at hj; subst hj; exact hx.c1
        | 2, _, hj => simp [Tk.cs] at hj; subst hj; exact hx.c2
        | 3, _, hj => simp [Tk.cs] at hj; subst hj; exact hx.c3
        | 4, _, hj => simp [Tk.cs] at hj; subst hj; exact hx.c4
    obtain ⟨v', w', hr, ho, hgr, -⟩ := run_append_own (P := Try.prog) w B 50 50 54 i _ 5 40 Try.underlying50 hi hz hs hy rfl (by omega) v l.length _ h
      ad m.length c (flat m) (by rw [flat_length]) key (fun u hu => by
        simp only [flat, List.mem_flatMap] at hu
        obtain ⟨x, -, hu⟩ := hu
        simp [Tk.cs] at hu; rcases hu with rfl | rfl | rfl | rfl | rfl <;> rfl) (by unfold maxLen; omega) (by omega) hB
    refine ⟨v', w', hr, ?_, ⟨hgr.os, hgr.tape, hgr.output, hgr.size, fun k hk => hgr.block k (by omega) (fun e => ?_)⟩, fun k hk hn => hgr.block k hk (fun e => hn e.symm)⟩
    · unfold TRow
      rw [flat_append, List.length_append]
      exact ho
    · have := (h.lt k e.symm).1; omega
theorem load_tk {b o : Nat} {x : Tk} {w : World} (h : TkAt b o x w) : (loadVar 54 ⟨b, o, none⟩).run Try.prog w = .ok x.v w :=
  run_loadVar_mid w b o 54 x.cs _ (fun j u hj => by
    have h5 : j < 5 := by have := (List.getElem?_eq_some_iff.1 hj).1; simpa [Tk.cs] using this
    match j, h5, hj with
    | 0, _, hj => simp [Tk.cs] at hj; subst hj; exact h.c0
    | 1, _, hj => simp [Tk.cs] at hj; subst hj; exact h.c1
    | 2, _, hj => simp [Tk.cs] at hj; subst hj; exact h.c2
    | 3, _, hj => simp [Tk.cs] at hj; subst hj; exact h.c3
    | 4, _, hj => simp [Tk.cs] at hj; subst hj; exact h.c4) Try.underlying54 rfl (by kernel_rfl)
/-- a row of one task, made -/
theorem build_one (B : Nat) (w : World) (x : Tk) : ∃ q w', (Instr.buildSlice 50 1 #[(0, x.v)]).run Try.prog w = .ok (.slice (some ⟨q, 0, none⟩) 1 1) w' ∧ TkAt q 0 x w' ∧ Below w.heap.size w w' ∧ q = w.heap.size ∧ q < w'.heap.size := by
  refine ⟨w.heap.size, w.alloc (.cells x.cs.toArray 54), ?_, ⟨by simp [go_sem, Tk.cs], by simp [go_sem, Tk.cs], by simp [go_sem, Tk.cs], by simp [go_sem, Tk.cs], by simp [go_sem, Tk.cs]⟩, (Below.refl _ _).alloc (Nat.le_refl _) _, rfl, by simp⟩
  kernel_rfl
theorem tk_ts {q : Nat} {x : Tk} {w : World} (h : TkAt q 0 x w) : Ts (some ⟨q, 0, none⟩) [x] w := fun _ => ⟨q, 0, rfl, h.lt, fun i y hi => by
  match i, hi with
  | 0, hi => obtain rfl : x = y := by simpa using hi
             exact h
  | i + 1, hi => simp at hi⟩
theorem TRow.lt {B : Nat} {w : World} {v : Value} {l : List Tk} (h : TRow B w v l) : ∀ k, v.ownBlock = some k → B ≤ k ∧ k < w.heap.size := World.ownsRow.lt h
end Go.Proofs.Yteagimnlhopjpaa.Pm
namespace Go.Proofs.Yteagimnlhopjpaa.Pm
open Go.ChangeShapes Go.WideShapes Go.ChangeAt Go.RowKit Go.Joins
set_option maxRecDepth 100000
set_option maxRecDepth 100000
set_option linter.unusedVariables false
set_option linter.unusedSimpArgs false
/-- all but block b is as it was -/
structure Apart (b : Nat) (w w' : World) : Prop where
  os : w'.os = w.os
  tape : w'.tape = w.tape
  output : w'.output = w.output
  size : w.heap.size ≤ w'.heap.size
  block : ∀ k, k < w.heap.size → k ≠ b → w'.heap[k]? = w.heap[k]?
theorem Apart.below {B b : Nat} {w w' : World} (h : Apart b w w') (hB : B ≤ b) (hs : B ≤ w.heap.size) : Below B w w' :=
  ⟨h.os, h.tape, h.output, h.size, fun k hk => h.block k (by omega) (by omega)⟩
theorem carryf {W w1 : World} {p : Addr} {v : Value} (hb : Below W.heap.size W w1) (h : W.cell? p = some v) (hf : W.frozen? p = false) : w1.frozen? p = false := by
  rw [← hf]
  apply hb.frozen
  rcases Nat.lt_or_ge p.block W.heap.size with h' | h'
  · exact h'
  · exfalso; unfold World.cell? at h; rw [Array.getElem?_eq_none h'] at h; cases h
/-- a number in a box -/
structure NumAt (b : Nat) (z : Int) (w : World) : Prop where
  c : w.cell? ⟨b, 0, none⟩ = some (.int .i64 z)
  f : w.frozen? ⟨b, 0, none⟩ = false
theorem mul_set {B : Nat} {z y : Int} {w w1 : World} (h : NumAt B z w) (hb : Below w.heap.size w w1) : NumAt B y (w1.setCell ⟨B, 0, none⟩ (.int .i64 y)) ∧ Apart B w (w1.setCell ⟨B, 0, none⟩ (.int .i64 y)) := by
  have c1 := carry hb h.c
  have f1 := carryf hb h.c h.f
  have hl := World.block_lt_of_cell? _ _ c1
  refine ⟨⟨by simp [go_sem, hl, c1], by simp [go_sem, hl, f1]⟩, ?_⟩
  have hz := hb.size
  refine ⟨hb.os, hb.tape, hb.output, by simpa [World.setCell] using hz, fun k hk hn => ?_⟩
  rw [Below.heap_setCell w1 ⟨B, 0, none⟩ _ k hn]
  exact hb.block k hk
theorem Apart.drew {B : Nat} {w w' : World} (h : Apart B w w') : Apart B w w'.drew := ⟨h.os, h.tape, h.output, h.size, h.block⟩
theorem NumAt.drew {B : Nat} {z : Int} {w : World} (h : NumAt B z w) : NumAt B z w.drew := ⟨h.c, h.f⟩
theorem num_new (w : World) (T : TypeId) : NumAt w.heap.size 1 (w.alloc (.cells #[.int .i64 1] T)) := ⟨by simp [go_sem], by simp [go_sem]⟩
theorem NumAt.below {b : Nat} {z : Int} {w w' : World} (h : NumAt b z w) (hb : Below w.heap.size w w') : NumAt b z w' := ⟨carry hb h.c, carryf hb h.c h.f⟩
/-- i periods were multiplied: p is their common one -/
def PeRel (l : List Tk) (B : Nat) (w : World) (g : Nat) (s : Value) (wx : World) : Prop :=
  ∃ i p : Nat, i + g = l.length ∧ s = .int .i64 (i : Int) ∧ pers l 1 = pers (l.drop i) p ∧ 0 < p ∧ p ≤ 1048576 ∧ NumAt B (p : Int) wx ∧ Below w.heap.size w wx
theorem pers_next {l : List Tk} {i p : Nat} (h : i < l.length) : pers (l.drop i) p = if 1048576 < Nat.lcm p l[i].t.toNat then none else pers (l.drop (i + 1)) (Nat.lcm p l[i].t.toNat) := by
  rw [List.drop_eq_getElem_cons h, pers]
end Go.Proofs.Yteagimnlhopjpaa.Pm
namespace Go.Proofs.Yteagimnlhopjpaa.Pm
open Go.ChangeShapes Go.WideShapes Go.ChangeAt Go.RowKit Go.Joins
set_option maxRecDepth 100000
set_option maxRecDepth 100000
set_option linter.unusedVariables false
set_option linter.unusedSimpArgs false
/-- i tasks were counted -/
def LoRel (l : List Tk) (p : Int) (B : Nat) (w : World) (g : Nat) (s t : Value) (wx : World) : Prop :=
  ∃ i : Nat, i + g = l.length ∧ s = .int .i64 (work p (l.take i)) ∧ t = .int .i64 (i : Int) ∧ Below B w wx
theorem load_yes {l : List Tk} (h : (periodR l).2 = 0) : loadR l = ⟨work (periodR l).1 l, (periodR l).1, 0⟩ := by unfold loadR; rw [if_pos h]
theorem load_no {l : List Tk} (h : (periodR l).2 ≠ 0) : loadR l = ⟨0, 0, (periodR l).2⟩ := by unfold loadR; rw [if_neg h]
theorem wrap_in {z : Int} (h0 : -9223372036854775808 ≤ z) (h1 : z ≤ 9223372036854775807) : IntKind.i64.wrap z = z := by rw [IntKind.wrap_i64]; omega
/-- a round's arithmetic -/
structure Step (S x p D M : Int) (t : Int) : Prop where
  d : p / t = D
  d' : p.tdiv t = D
  m : x * D = M
  wd : IntKind.i64.wrap D = D
  wm : IntKind.i64.wrap M = M
  ws : IntKind.i64.wrap (S + M) = S + M
  m0 : 0 ≤ M
  m1 : M ≤ 1048576
  s0 : 0 ≤ S
  s1 : S ≤ 16777216
  z : ¬ t = 0
  zb : (t == 0) = false
  t0 : 0 < t
theorem step_of {l : List Tk} {p : Nat} {i : Nat} (hr : rowB l = true) (hp : p ≤ 1048576) (hlt : i < l.length) :
    ∃ S D M, work p (l.take i) = S ∧ work p (l.take (i + 1)) = S + M ∧ Step S l[i].c p D M l[i].t := by
  have hx := rowB_all hr _ (List.getElem_mem hlt)
  have h1 := term_le hx (p := (p : Int)) (by omega)
  have h2 := work_le (l := l.take i) (p := (p : Int)) (fun x hx => rowB_all hr x (List.mem_of_mem_take hx)) (by omega)
  have hl := rowB_len hr
  have h3 : ((l.take i).length : Int) * (p : Int) ≤ 16 * 1048576 := Int.mul_le_mul (by simp; omega) (by omega) (by omega) (by omega)
  have hc := chk_iff.1 hx
  refine ⟨_, (p : Int) / l[i].t, l[i].c * ((p : Int) / l[i].t), rfl, work_take hlt _, ⟨rfl, ?_, rfl, wrap_in (by omega) (by omega), wrap_in (by omega) (by omega), wrap_in (by omega) (by omega), h1.1, by omega, h2.1, by omega, by omega, by simp; omega, by omega⟩⟩
  exact Int.tdiv_eq_ediv_of_nonneg (by omega)
end Go.Proofs.Yteagimnlhopjpaa.Pm
namespace Go.Proofs.Yteagimnlhopjpaa.Pm
open Go.ChangeShapes Go.WideShapes Go.ChangeAt Go.RowKit Go.Joins
set_option maxRecDepth 100000
set_option maxRecDepth 100000
set_option linter.unusedVariables false
set_option linter.unusedSimpArgs false
instance : Inhabited Tk := ⟨⟨0, 0, 0, 0, 0⟩⟩
theorem one_of {cs : List Value} {j : Nat} (h : j < cs.length) : (cs.drop j).take 1 = [cs[j]] := by
  rw [List.drop_eq_getElem_cons h]; rfl
theorem i64_wf {z : Int} (h : (Lit.int .i64 z).wf = true) : I64 z := by
  have := bounds_i64 h
  unfold I64; omega
theorem open_tasks {H : Type} {enc : TypeId × Value → H} {W : World} {r : Reach} {b0 base : Nat} {spare : Nat → Bool} {held : Bool} {v : Value} {d : DataW H} {p : List MemPlace}
    (hok : Value.okWide Try.prog W r b0 50 v) (h : DataW.Trod enc Try.prog W base spare held 50 v d p) :
    ∃ (ao : Option Addr) (l : List Tk) (cap : Nat), v = .slice ao l.length cap ∧ l.length ≤ 9223372036854775807 ∧ l.length ≤ cap ∧ Ts ao l W ∧ ∀ x ∈ l, x.Ok := by
  obtain ⟨ao, len, cap, rfl⟩ := okWide_slice Try.underlying50 hok
  obtain ⟨fuel, hf⟩ := h
  rcases Go.Deep.open_slice Try.underlying50 hf with ⟨hcs, hx⟩ | ⟨a, len', cap', m, n, D, Pl, hcs, _, hl, hm, hmm, hx, hi⟩
  · simp [Value.cells] at hcs
    obtain ⟨rfl, rfl, rfl⟩ := hcs
    exact ⟨none, [], 0, rfl, by simp, by simp, fun h => by simp at h, by simp⟩
  · simp [Value.cells] at hcs
    obtain ⟨rfl, rfl, rfl⟩ := hcs
    have hml : len ≤ m := by rw [hmm]; split <;> omega
    have hC : Try.prog.cellsOf 54 = 5 := by kernel_rfl
    have ci : Try.prog.cellsOf 3 = 1 := by kernel_rfl
    have cl : Try.prog.cellsOf 2 = 1 := by kernel_rfl
    rw [hC] at hi
    have key : ∀ i, i < len → ∃ x : Tk, (W.cell? (a.add (i * 5)) = some (.int .i64 x.id) ∧ W.cell? ((a.add (i * 5)).add 1) = some (.int .i64 x.c) ∧ W.cell? ((a.add (i * 5)).add 2) = some (.int .i64 x.d) ∧ W.cell? ((a.add (i * 5)).add 3) = some (.int .i64 x.t) ∧ W.cell? ((a.add (i * 5)).add 4) = some (.int .i64 x.m)) ∧ x.Ok := by
      intro i hil
      obtain ⟨cs, hc, ht⟩ := hi i (by omega)
      obtain ⟨_, hcl, hat⟩ := World.cells?_some hc
      obtain ⟨ys, n', hn', hy, hlen, hyl, hfd⟩ := DataW.trod_struct Try.underlying54 ht
      have g0 : DataW.trod enc Try.prog W base spare held n' 3 ((cs.drop 0).take (Try.prog.cellsOf 3)) = ys[0]? := hfd 0 _ rfl
      have g1 : DataW.trod enc Try.prog W base spare held n' 2 ((cs.drop 1).take (Try.prog.cellsOf 2)) = ys[1]? := hfd 1 _ rfl
      have g2 : DataW.trod enc Try.prog W base spare held n' 2 ((cs.drop 2).take (Try.prog.cellsOf 2)) = ys[2]? := hfd 2 _ rfl
      have g3 : DataW.trod enc Try.prog W base spare held n' 2 ((cs.drop 3).take (Try.prog.cellsOf 2)) = ys[3]? := hfd 3 _ rfl
      have g4 : DataW.trod enc Try.prog W base spare held n' 3 ((cs.drop 4).take (Try.prog.cellsOf 3)) = ys[4]? := hfd 4 _ rfl
      have hy5 : ys.length = 5 := by rw [hyl]; rfl
      rw [ci, one_of (j := 0) (by omega), List.getElem?_eq_getElem (by omega)] at g0
      rw [cl, one_of (j := 1) (by omega), List.getElem?_eq_getElem (by omega)] at g1
      rw [cl, one_of (j := 2) (by omega), List.getElem?_eq_getElem (by omega)] at g2
      rw [cl, one_of (j := 3) (by omega), List.getElem?_eq_getElem (by omega)] at g3
      rw [ci, one_of (j := 4) (by omega), List.getElem?_eq_getElem (by omega)] at g4
      obtain ⟨z0, e0, -, w0⟩ := DataW.trod_int Try.underlying3 g0
      obtain ⟨z1, e1, -, w1⟩ := DataW.trod_int Try.underlying2 g1
      obtain ⟨z2, e2, -, w2⟩ := DataW.trod_int Try.underlying2 g2
      obtain ⟨z3, e3, -, w3⟩ := DataW.trod_int Try.underlying2 g3
      obtain ⟨z4, e4, -, w4⟩ := DataW.trod_int Try.underlying3 g4
      have a0 := hat 0 (by omega)
      have a1 := hat 1 (by omega)
      have a2 := hat 2 (by omega)
      have a3 := hat 3 (by omega)
      have a4 := hat 4 (by omega)
      rw [List.getElem?_eq_getElem (by omega)] at a0 a1 a2 a3 a4
      have f0 : cs[0] = .int .i64 z0 := by simpa using e0
      have f1 : cs[1] = .int .i64 z1 := by simpa using e1
      have f2 : cs[2] = .int .i64 z2 := by simpa using e2
      have f3 : cs[3] = .int .i64 z3 := by simpa using e3
      have f4 : cs[4] = .int .i64 z4 := by simpa using e4
      rw [f0] at a0
      rw [f1] at a1
      rw [f2] at a2
      rw [f3] at a3
      rw [f4] at a4
      exact ⟨⟨z0, z1, z2, z3, z4⟩, ⟨by simpa [Addr.add] using a0, a1, a2, a3, a4⟩, ⟨i64_wf w0, i64_wf w1, i64_wf w2, i64_wf w3, i64_wf w4⟩⟩
    obtain ⟨f, hfk⟩ := Go.Deep.choose_lt key
    have hlen : ((List.range len).map f).length = len := by simp
    refine ⟨some a, (List.range len).map f, cap, by rw [hlen], by rw [hlen]; unfold maxLen at hm; omega, by rw [hlen]; exact hl, fun h0 => ?_, ?_⟩
    · obtain ⟨b, off, spot⟩ := a
      have hspot : spot = none := by
        have := (hfk 0 (by omega)).1.1
        simpa [Addr.add] using World.cell?_spot this
      subst hspot
      refine ⟨b, off, rfl, World.block_lt_of_cell? _ _ (hfk 0 (by omega)).1.1, fun i x hix => ?_⟩
      obtain ⟨hi2, rfl⟩ := List.getElem?_eq_some_iff.1 hix
      obtain ⟨⟨h0, h1, h2, h3, h4⟩, -⟩ := hfk i (by omega)
      rw [addr_add] at h0 h1 h2 h3 h4
      rw [addr_add] at h1 h2 h3 h4
      simp only [List.getElem_map, List.getElem_range]
      exact ⟨h0, h1, h2, h3, h4⟩
    · intro x hx
      obtain ⟨i, hi, rfl⟩ := List.mem_map.1 hx
      exact (hfk i (by simpa using hi)).2
/-- three numbers -/
structure Tri where
  a : Int
  b : Int
  c : Int
instance : Inhabited Tri := ⟨⟨0, 0, 0⟩⟩
structure Tri.Ok (x : Tri) : Prop where
  a : I64 x.a
  b : I64 x.b
  c : I64 x.c
/-- three numbers in memory -/
structure TriAt (b o : Nat) (x : Tri) (w : World) : Prop where
  c0 : w.cell? ⟨b, o, none⟩ = some (.int .i64 x.a)
  c1 : w.cell? ⟨b, o + 1, none⟩ = some (.int .i64 x.b)
  c2 : w.cell? ⟨b, o + 2, none⟩ = some (.int .i64 x.c)
theorem TriAt.of_block {b o : Nat} {x : Tri} {w w' : World} (h : TriAt b o x w) (e : w'.heap[b]? = w.heap[b]?) : TriAt b o x w' :=
  ⟨(World.cell?_of_block (w := w) e).trans h.c0, (World.cell?_of_block (w := w) e).trans h.c1, (World.cell?_of_block (w := w) e).trans h.c2⟩
/-- a row of them -/
def Tris (ao : Option Addr) (l : List Tri) (w : World) : Prop := 0 < l.length → ∃ b off, ao = some ⟨b, off, none⟩ ∧ b < w.heap.size ∧ ∀ i x, l[i]? = some x → TriAt b (off + i * 3) x w
theorem Tris.below {ao : Option Addr} {l : List Tri} {w w' : World} (h : Tris ao l w) {B : Nat} (hb : Below B w w') (hB : w.heap.size ≤ B) : Tris ao l w' := fun h0 => by
  obtain ⟨b, off, rfl, hl, hc⟩ := h h0
  have := hb.size
  exact ⟨b, off, rfl, by omega, fun i x hi => (hc i x hi).of_block (hb.block b (by omega))⟩
theorem open_tri {H : Type} {enc : TypeId × Value → H} {W : World} {base : Nat} {spare : Nat → Bool} {held : Bool} {fuel : Nat} {cs : List Value} {x : DataW H × List MemPlace} (h : DataW.trod enc Try.prog W base spare held fuel 52 cs = some x) (hl3 : cs.length = 3) :
    ∃ x : Tri, cs = [.int .i64 x.a, .int .i64 x.b, .int .i64 x.c] ∧ x.Ok := by
  have ht : Try.prog.underlying 52 = some (.array 3 3) := Try.underlying52
  obtain ⟨xs, m, rfl, -, -, hl, hx⟩ := DataW.trod_array ht h
  have h1 : Try.prog.cellsOf 3 = 1 := by kernel_rfl
  have key : ∀ i (hi : i < cs.length), ∃ z, cs[i] = .int .i64 z ∧ I64 z := by
    intro i hi
    have := hx i (by omega)
    rw [h1, Nat.mul_one, one_of hi, List.getElem?_eq_getElem (by omega)] at this
    obtain ⟨z, e0, -, wz⟩ := DataW.trod_int Try.underlying3 this
    exact ⟨z, by simpa using e0, i64_wf wz⟩
  obtain ⟨a, ea, wa⟩ := key 0 (by omega)
  obtain ⟨b, eb, wb⟩ := key 1 (by omega)
  obtain ⟨c, ec, wc⟩ := key 2 (by omega)
  refine ⟨⟨a, b, c⟩, ?_, ⟨wa, wb, wc⟩⟩
  match cs, hl3, ea, eb, ec with
  | [u, v, z], _, ea, eb, ec =>
    simp at ea eb ec
    subst ea eb ec
    rfl
theorem open_tris {H : Type} {enc : TypeId × Value → H} {W : World} {r : Reach} {b0 base : Nat} {spare : Nat → Bool} {held : Bool} {v : Value} {d : DataW H} {p : List MemPlace}
    (hok : Value.okWide Try.prog W r b0 48 v) (h : DataW.Trod enc Try.prog W base spare held 48 v d p) :
    ∃ (ao : Option Addr) (l : List Tri) (cap : Nat), v = .slice ao l.length cap ∧ l.length ≤ 9223372036854775807 ∧ Tris ao l W ∧ ∀ x ∈ l, x.Ok := by
  obtain ⟨ao, len, cap, rfl⟩ := okWide_slice Try.underlying48 hok
  obtain ⟨fuel, hf⟩ := h
  rcases Go.Deep.open_slice Try.underlying48 hf with ⟨hcs, hx⟩ | ⟨a, len', cap', m, n, D, Pl, hcs, _, hl, hm, hmm, hx, hi⟩
  · simp [Value.cells] at hcs
    obtain ⟨rfl, rfl, rfl⟩ := hcs
    exact ⟨none, [], 0, rfl, by simp, fun h => by simp at h, by simp⟩
  · simp [Value.cells] at hcs
    obtain ⟨rfl, rfl, rfl⟩ := hcs
    have hml : len ≤ m := by rw [hmm]; split <;> omega
    have hC : Try.prog.cellsOf 52 = 3 := by kernel_rfl
    rw [hC] at hi
    have key : ∀ i, i < len → ∃ x : Tri, (W.cell? (a.add (i * 3)) = some (.int .i64 x.a) ∧ W.cell? ((a.add (i * 3)).add 1) = some (.int .i64 x.b) ∧ W.cell? ((a.add (i * 3)).add 2) = some (.int .i64 x.c)) ∧ x.Ok := by
      intro i hil
      obtain ⟨cs, hc, ht⟩ := hi i (by omega)
      obtain ⟨_, hcl, hat⟩ := World.cells?_some hc
      obtain ⟨x, rfl, hx⟩ := open_tri ht hcl
      have a0 := hat 0 (by simp)
      have a1 := hat 1 (by simp)
      have a2 := hat 2 (by simp)
      exact ⟨x, ⟨by simpa [Addr.add] using a0, by simpa using a1, by simpa using a2⟩, hx⟩
    obtain ⟨f, hfk⟩ := Go.Deep.choose_lt key
    have hlen : ((List.range len).map f).length = len := by simp
    refine ⟨some a, (List.range len).map f, cap, by rw [hlen], by rw [hlen]; unfold maxLen at hm; omega, fun h0 => ?_, ?_⟩
    · obtain ⟨b, off, spot⟩ := a
      have hspot : spot = none := by
        have := (hfk 0 (by omega)).1.1
        simpa [Addr.add] using World.cell?_spot this
      subst hspot
      refine ⟨b, off, rfl, World.block_lt_of_cell? _ _ (hfk 0 (by omega)).1.1, fun i x hix => ?_⟩
      obtain ⟨hi2, rfl⟩ := List.getElem?_eq_some_iff.1 hix
      obtain ⟨⟨h0, h1, h2⟩, -⟩ := hfk i (by omega)
      rw [addr_add] at h0 h1 h2
      rw [addr_add] at h1 h2
      simp only [List.getElem_map, List.getElem_range]
      exact ⟨h0, h1, h2⟩
    · intro x hx
      obtain ⟨i, hi, rfl⟩ := List.mem_map.1 hx
      exact (hfk i (by simpa using hi)).2
theorem open_tri_v {H : Type} {enc : TypeId × Value → H} {W : World} {r : Reach} {b0 base : Nat} {spare : Nat → Bool} {held : Bool} {v : Value} {d : DataW H} {p : List MemPlace}
    (hok : Value.okWide Try.prog W r b0 52 v) (h : DataW.Trod enc Try.prog W base spare held 52 v d p) :
    ∃ x : Tri, v = .agg #[.int .i64 x.a, .int .i64 x.b, .int .i64 x.c] ∧ x.Ok := by
  have ht : Try.prog.underlying 52 = some (.array 3 3) := Try.underlying52
  obtain ⟨cs, rfl, hsz, _⟩ : ∃ cs, v = .agg cs ∧ cs.size = Try.prog.cellsOf 52 ∧ Row.okWide Try.prog W r b0 52 cs := by
    simpa [Value.okWide, ht] using hok
  have hC : Try.prog.cellsOf 52 = 3 := by kernel_rfl
  rw [hC] at hsz
  obtain ⟨fuel, hf⟩ := h
  obtain ⟨x, hx, ok⟩ := open_tri hf (by simpa [Value.cells] using hsz)
  refine ⟨x, ?_, ok⟩
  congr 1
  apply Array.ext'
  simpa [Value.cells] using hx
end Go.Proofs.Yteagimnlhopjpaa.Pm
namespace Go.Proofs.Yteagimnlhopjpaa.Pm
open Go.ChangeShapes Go.WideShapes Go.ChangeAt Go.RowKit Go.Joins
set_option maxRecDepth 100000
set_option maxRecDepth 100000
set_option linter.unusedVariables false
set_option linter.unusedSimpArgs false
theorem rgcd_any (p n : Nat) (w : World) (hp : p ≤ 1048576) (hn : n ≤ 2147483648) :
    Calls Try.prog 56 #[.int .i64 (p : Int), .int .i64 (n : Int)] w fun e w' => e = .returned (.int .i64 (Nat.gcd p n : Int)) ∧ Below w.heap.size w w' :=
  rgcd_nat n (p : Int) (n : Int) w rfl (by omega) (by omega) (by omega)
/-- i periods were multiplied: p is their common one -/
def RpRel (l : List Tk) (w : World) (g : Nat) (s t : Value) (wx : World) : Prop :=
  ∃ i p : Nat, i + g = l.length ∧ s = .int .i64 (p : Int) ∧ t = .int .i64 (i : Int) ∧ pers l 1 = pers (l.drop i) p ∧ 0 < p ∧ p ≤ 1048576 ∧ Below w.heap.size w wx
set_option maxHeartbeats 4000000 in
theorem rperiod_any (l : List Tk) (ao : Option Addr) (cap : Nat) (w : World) (hT : Ts ao l w) (hl : l.length ≤ 1000000) :
    Calls Try.prog 48 #[.slice ao l.length cap] w fun e w' => e = .returned (.tuple #[.int .i64 (periodR l).1, .int .i64 (periodR l).2]) ∧ Below w.heap.size w w' := by
  have RO := Lib.hid (fun w h => rrow_any l ao cap w h hl)
  have HP : Hid (periodR l = if rowB l then (match pers l 1 with | some p => ((p : Int), 0) | none => (0, (16 : Int))) else (0, 1)) := Lib.hid rfl
  have HC : Hid (rowB l = true → ∀ x ∈ l, chk x = true) := Lib.hid rowB_all
  generalize periodR l = pr at *
  generalize rowB l = rb at *
  have T := Lib.hid hT
  go_enter Try.func48, Try.ntmps48
  go_wp2_with fail
  (with_reducible refine (RO.out _ hT).mono ?_)
  rintro e w1 ⟨rfl, b1⟩
  clear hT
  cases rb
  · have E := Lib.hid HP.out
    clear HP
    go_wp2
    exact bodyPost_ret (v := .tuple #[.int .i64 0, .int .i64 1]) (by simp [results, Try.results48, go_sem]) rfl ⟨by rw [E.out]; rfl, b1⟩
  have K0 := Lib.hid b1
  have HC1 := Lib.hid (HC.out rfl)
  clear HC RO b1
  go_wp2_with fail
  go_loopg [5, 6] l.length (RpRel l w)
  case atStart => exact ⟨0, 1, by omega, rfl, rfl, rfl, by omega, by omega, K0.out⟩
  case round =>
    obtain ⟨i, p, hi, rfl, rfl, hp, hp0, hp1, hB⟩ := hrel
    have TQ := T.out.below hB (Nat.le_refl _)
    by_cases hlt : i < l.length
    · obtain ⟨b, off, rfl, hb, hat⟩ := TQ (by omega)
      have hx := hat i l[i] (List.getElem?_eq_getElem hlt)
      have hck := chk_iff.1 (HC1.out _ (List.getElem_mem hlt))
      rw [pers_next hlt] at hp
      obtain ⟨n, hn⟩ : ∃ n : Nat, l[i].t = (n : Int) := ⟨l[i].t.toNat, by omega⟩
      have hn1 : 0 < n := by omega
      have hn2 : n ≤ 2147483648 := by omega
      have ht : l[i].t.toNat = n := by omega
      rw [ht] at hp
      have G := Lib.hid (fun w => rgcd_any p n w hp1 hn2)
      have hg := Nat.gcd_pos_of_pos_left n hp0
      have hL : p / Nat.gcd p n * n = Nat.lcm p n := lcm_eq'
      have hL2 := lcm_le hp1 hn2
      have HL1 : 0 < Nat.lcm p n := Nat.lcm_pos hp0 hn1
      have hD : p / Nat.gcd p n ≤ p := Nat.div_le_self _ _
      generalize Nat.lcm p n = L at *
      generalize Nat.gcd p n = g at *
      have hd : (p : Int) / (g : Int) = ((p / g : Nat) : Int) := by omega
      generalize p / g = D at *
      have hw : IntKind.i64.wrap (L : Int) = (L : Int) := by rw [IntKind.wrap_i64]; omega
      have hm : (D : Int) * (n : Int) = (L : Int) := by rw [← hL]; simp
      have hg0 : ((g : Int) == 0) = false := by simp; omega
      have HPE := Lib.hid hp
      have HI := Lib.hid hi
      have KB := Lib.hid hB
      have hk0 : 0 < gk := by omega
      clear hp hi hat hck ht TQ hL hn1 hn2
      generalize l[i] = x at *
      obtain ⟨c0, c1, c2, c3, c4⟩ := hx
      obtain ⟨xi, xc, xd, xt, xm⟩ := x
      simp only at hn c0 c1 c2 c3 c4
      subst hn
      have CA := fun w1 (bb : Below wr.heap.size wr w1) => Lib.hid (And.intro (carry bb c3) (And.intro (World.block_lt_of_cell? _ _ (carry bb c3)) (KB.out.trans (bb.mono KB.out.size))))
      have KD := Lib.hid ((Below.refl wr.heap.size wr).drew)
      clear c0 c1 c2 c4
      go_wp2_with fail
      go_region_with (go_at_call 56; refine (G.out _).mono ?_; rintro e w3 ⟨rfl, hb3⟩; obtain ⟨c3', f3, z3⟩ := (CA _ (by first | exact hb3 | exact KD.out.trans hb3)).out)
      all_goals
        have K2 := Lib.hid z3
        clear z3 CA KD KB G
        by_cases hov : 1048576 < L
        · have E : Hid (pr = (0, 16)) := Lib.hid (by rw [HP.out, HPE.out, if_pos hov]; rfl)
          have hov' : (1048576 : Int) < (L : Int) := by omega
          clear hov
          go_wp2
          exact bodyPost_ret (v := .tuple #[.int .i64 0, .int .i64 16]) (by simp [results, Try.results48, go_sem]) rfl ⟨by rw [E.out], K2.out⟩
        · have hov' : (L : Int) ≤ 1048576 := by omega
          have E := Lib.hid (HPE.out.trans (if_neg hov))
          clear hov HPE
          go_wp2
          go_roundg (gk - 1)
          case measure => omega
          case rel => exact ⟨i + 1, L, by have := HI.out; omega, rfl, by go_num, E.out, HL1, by omega, K2.out⟩
    · have hge : (l.length : Int) ≤ (i : Int) := by omega
      rw [List.drop_eq_nil_of_le (by omega), pers] at hp
      have E : Hid (pr = ((p : Int), 0)) := Lib.hid (by rw [HP.out, hp]; rfl)
      have K2 := Lib.hid hB
      clear hp hB TQ hi hlt
      go_wp2
      exact bodyPost_ret (v := .tuple #[.int .i64 (p : Int), .int .i64 0]) (by simp [results, Try.results48, go_sem]) rfl ⟨by rw [E.out], K2.out⟩
/-- what is told, in its own block -/
def Ld.v (x : Ld) : Value := .agg #[.int .i64 x.n, .int .i64 x.p, .int .i64 x.e]
structure Slot3 (b : Nat) (w : World) : Prop where
  c0 : ∃ u, w.cell? ⟨b, 0, none⟩ = some u
  c1 : ∃ u, w.cell? ⟨b, 1, none⟩ = some u
  c2 : ∃ u, w.cell? ⟨b, 2, none⟩ = some u
  f0 : w.frozen? ⟨b, 0, none⟩ = false
  f1 : w.frozen? ⟨b, 1, none⟩ = false
  f2 : w.frozen? ⟨b, 2, none⟩ = false
theorem Slot3.call {b : Nat} {w w' : World} (h : Slot3 b w) (hb : Below w.heap.size w w') : Slot3 b w' := by
  obtain ⟨⟨u0, c0⟩, ⟨u1, c1⟩, ⟨u2, c2⟩, f0, f1, f2⟩ := h
  exact ⟨⟨u0, carry hb c0⟩, ⟨u1, carry hb c1⟩, ⟨u2, carry hb c2⟩, carryf hb c0 f0, carryf hb c1 f1, carryf hb c2 f2⟩
theorem slot3_new (w : World) (a b c : Value) (T : TypeId) : Slot3 w.heap.size (w.alloc (.cells #[a, b, c] T)) :=
  ⟨⟨a, by simp [go_sem]⟩, ⟨b, by simp [go_sem]⟩, ⟨c, by simp [go_sem]⟩, by simp [go_sem], by simp [go_sem], by simp [go_sem]⟩
theorem LoRel.slot {l : List Tk} {p : Int} {B : Nat} {w wx : World} {g : Nat} {s t : Value} (h : LoRel l p B w g s t wx) : Below B w wx := by
  obtain ⟨i, -, -, -, h⟩ := h; exact h
set_option maxHeartbeats 4000000 in
theorem rload_any (l : List Tk) (ao : Option Addr) (cap : Nat) (w : World) (hT : Ts ao l w) (hl : l.length ≤ 1000000) :
    Calls Try.prog 35 #[.slice ao l.length cap] w fun e w' => e = .returned (loadR l).v ∧ Below w.heap.size w w' := by
  have PE := Lib.hid (fun w h => rperiod_any l ao cap w h hl)
  have A0 : Hid (∀ o, Ts ao l (w.alloc o) ∧ Below w.heap.size w (w.alloc o)) := Lib.hid (fun o => ⟨hT.call ((Below.refl _ _).alloc (Nat.le_refl _) o), (Below.refl _ _).alloc (Nat.le_refl _) o⟩)
  have S0 := Lib.hid (fun a b c => slot3_new w a b c 72)
  have T := Lib.hid hT
  have AL : Hid (∀ o, (w.alloc o).heap.size = w.heap.size + 1) := Lib.hid (fun o => by simp)
  by_cases h0 : (periodR l).2 = 0
  · obtain ⟨hr, p, -, hp1, hp0, hp2⟩ := period_ok h0
    rw [h0, hp1] at PE
    have E := Lib.hid (load_yes h0)
    rw [hp1] at E
    have ST := Lib.hid (fun i (hlt : i < l.length) => step_of hr hp2 hlt)
    generalize loadR l = ld at *
    clear h0 hp1 hT
    go_enter Try.func35, Try.ntmps35
    go_wp2_with fail
    (with_reducible refine (PE.out _ (A0.out _).1).mono ?_)
    rintro e w1 ⟨rfl, b1⟩
    have S1 := Lib.hid ((S0.out _ _ _).call b1)
    have K0 := Lib.hid ((A0.out _).2.trans (b1.mono (by rw [AL.out]; omega)))
    have Z1 : Hid (w.heap.size < w1.heap.size) := Lib.hid (by have := b1.size; rw [AL.out] at this; omega)
    clear PE b1 A0 S0 AL
    go_wp2_with fail
    go_loopg [5, 6] l.length (LoRel l p w1.heap.size w1)
    case atStart => exact ⟨0, by omega, by simp [work], rfl, Below.refl _ _⟩
    case round =>
      obtain ⟨i, hi, rfl, rfl, hB⟩ := hrel
      have TQ := (T.out.below K0.out (Nat.le_refl _)).below hB (Nat.le_refl _)
      by_cases hlt : i < l.length
      · obtain ⟨b, off, rfl, hb, hat⟩ := TQ (by omega)
        have hx := hat i l[i] (List.getElem?_eq_getElem hlt)
        obtain ⟨S, D, M, e1, e2, st⟩ := ST.out i hlt
        have HI := Lib.hid hi
        have KB := Lib.hid hB
        have WT2 := Lib.hid e2
        have hg0 : 0 < gk := by omega
        rw [e1]
        clear hi hat TQ hB e1 e2
        generalize l[i] = x at *
        obtain ⟨c0, c1, c2, c3, c4⟩ := hx
        obtain ⟨xi, xc, xd, xt, xm⟩ := x
        simp only at c0 c1 c2 c3 c4 st
        obtain ⟨sd, sd', sm, wd, wm, ws, m0, m1, hs0, hs1, hz, hzb, ht0⟩ := st
        go_wp2_with fail
        go_quiet (fail)
        go_wp2
        go_roundg (gk - 1)
        case measure => omega
        case rel => exact ⟨i + 1, by have := HI.out; omega, by rw [WT2.out], by go_num, KB.out.trans ((below_drewN _ _).mono KB.out.size)⟩
      · have hge : (l.length : Int) ≤ (i : Int) := by omega
        rw [List.take_of_length_le (by omega)]
        have K2 := Lib.hid (K0.out.trans (hB.mono K0.out.size))
        have S2 := Lib.hid (S1.out.call hB)
        obtain ⟨⟨u0, x0⟩, ⟨u1, x1⟩, ⟨u2, x2⟩, f0, f1, f2⟩ := S1.out.call hB
        have hz := World.block_lt_of_cell? _ _ x0
        clear hB TQ hi hlt ST
        go_wp2
        refine bodyPost_ret (v := .agg #[.int .i64 (work p l), .int .i64 (p : Int), .int .i64 0]) (by simp [results, Try.results35, go_sem, x0, x1, x2, hz]) rfl ⟨by rw [E.out]; rfl, ?_⟩
        exact ((K2.out.setCell (by simp) _).setCell (by simp) _).setCell (by simp) _
  · have E := Lib.hid (load_no h0)
    generalize loadR l = ld at *
    generalize (periodR l).1 = pp at *
    generalize (periodR l).2 = pe at *
    have h1 : (pe == 0) = false := by simpa using h0
    have h2 : (pe != 0) = true := by simpa using h0
    clear h0 hT
    go_enter Try.func35, Try.ntmps35
    go_wp2_with fail
    (with_reducible refine (PE.out _ (A0.out _).1).mono ?_)
    rintro e w1 ⟨rfl, b1⟩
    have S1 := Lib.hid ((S0.out _ _ _).call b1)
    have K0 := Lib.hid ((A0.out _).2.trans (b1.mono (by rw [AL.out]; omega)))
    obtain ⟨⟨u0, x0⟩, ⟨u1, x1⟩, ⟨u2, x2⟩, f0, f1, f2⟩ := S1.out
    have hz := World.block_lt_of_cell? _ _ x0
    clear PE b1 A0 S0 AL
    go_wp2
    refine bodyPost_ret (v := .agg #[.int .i64 0, .int .i64 0, .int .i64 pe]) (by simp [results, Try.results35, go_sem, x0, x1, x2, hz]) rfl ⟨by rw [E.out]; rfl, ?_⟩
    exact ((K0.out.setCell (by simp) _).setCell (by simp) _).setCell (by simp) _
end Go.Proofs.Yteagimnlhopjpaa.Pm
