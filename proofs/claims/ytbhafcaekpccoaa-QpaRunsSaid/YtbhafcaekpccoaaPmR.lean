/- Rows of tasks: a row of none, all of a row behind another one, a task loaded; operations by their run. -/
import Derived.Test.YtbhafcaekpccoaaPmO
import Derived.Deep.MidRow
namespace Go.Proofs.Ytbhafcaekpccoaa.Pm
open Go.ChangeShapes Go.WideShapes Go.ChangeAt Go.RowKit Go.Joins
set_option maxRecDepth 100000
set_option maxRecDepth 100000
set_option linter.unusedVariables false
set_option linter.unusedSimpArgs false
theorem exec_load1 {P : Program} {w w' : World} {op : Oper} {a : Act} {v : Value} {ty : TypeId} {x : Operand} {q : Addr} (ho : op.op = .load ty x) (hx : a.eval x = .pointer (some q)) (hr : (loadVar ty q).run P w = .ok v w') : (execOp a.eval op).run P w = .ok (.value v) w' := by
  unfold execOp; simp only [ho, hx, Instr.loadAt, Instr.sureAddr, Sem.run_bind, Sem.run_pure, Result.andThen_ok, hr]
theorem exec_build1 {P : Program} {w w' : World} {op : Oper} {a : Act} {v : Value} {ty : TypeId} {n : Nat} {x : Operand} {y : Value} (ho : op.op = .buildSlice ty n #[(0, x)]) (hx : a.eval x = y) (hr : (Instr.buildSlice ty n #[(0, y)]).run P w = .ok v w') : (execOp a.eval op).run P w = .ok (.value v) w' := by
  unfold execOp; simp only [ho, Sem.run_bind, Array.map, List.map_toArray]; simp [hx, hr]
theorem exec_none {P : Program} {w w' : World} {op : Oper} {a : Act} {v : Value} {ty : TypeId} {n : Nat} (ho : op.op = .buildSlice ty n #[]) (hr : (Instr.buildSlice ty n #[]).run P w = .ok v w') : (execOp a.eval op).run P w = .ok (.value v) w' := by
  unfold execOp; simp only [ho, Sem.run_bind]; simp [hr]
theorem wp_val {P : Program} {w w' : World} {op : Oper} {a : Act} {K : Act → World → Prop} {Q : Exit → Act → World → Prop} {v : Value} (hr : (execOp a.eval op).run P w = .ok (.value v) w') (h : K (a.put op.dst v) w') : op.wp P a w K Q := by
  unfold Oper.wp; rw [hr]; exact h
/-- a row of none, made -/
theorem build_none (B : Nat) (w : World) (hB : B ≤ w.heap.size) : ∃ v w', (Instr.buildSlice 22 0 #[]).run Try.prog w = .ok v w' ∧ TRow B w' v [] ∧ Below w.heap.size w w' ∧ v.ownBlock = some w.heap.size ∧ w.heap.size < w'.heap.size := by
  refine ⟨.slice (some ⟨w.heap.size, 0, none⟩) 0 0, w.alloc (.cells #[] 42), by kernel_rfl, ?_, (Below.refl _ _).alloc (Nat.le_refl _) _, rfl, by simp⟩
  exact ⟨rfl, .inr ⟨w.heap.size, 0, #[], rfl, hB, by show (w.heap.push _)[w.heap.size]? = _; rw [Array.getElem?_push_size], Nat.le_refl _, by simp [maxLen], rfl, rfl⟩⟩
theorem append_none {P : Program} (w : World) (t e : TypeId) (i : TypeInfo) (ht : P.underlying t = some (.slice e)) (hi : P.info? e = some i) (a : Option Addr) (n c : Nat) (c2 : Nat) (hn : n ≤ c) :
    (Builtin.append_ #[t, t] t #[.slice a n c, .slice none 0 c2]).run P w = .ok (.slice a n c) w := by
  cases a with
  | none => simp [Builtin.append_, run_underlying ht, sizeOf, typeInfo, hi, Builtin.lenOf, hn, Builtin.firstCells]
  | some a => simp [Builtin.append_, run_underlying ht, sizeOf, typeInfo, hi, Builtin.lenOf, hn, Builtin.firstCells, storeCells]
/-- all of a row behind another one -/
theorem trow_all (B : Nat) (w : World) (v : Value) (l m : List Tk) (ao : Option Addr) (c : Nat) (h : TRow B w v l) (hu : Ts ao m w) (hB : B ≤ w.heap.size) (hn : l.length + m.length ≤ 100000) :
    ∃ v' w', (Builtin.append_ #[22, 22] 22 #[v, .slice ao m.length c]).run Try.prog w = .ok v' w' ∧ TRow B w' v' (l ++ m) ∧ Below B w w' ∧ (∀ k, k < w.heap.size → v.ownBlock ≠ some k → w'.heap[k]? = w.heap[k]?) := by
  obtain ⟨i, hi, hz⟩ := Option.map_eq_some_iff.1 infoTask
  simp only [Prod.mk.injEq] at hz
  obtain ⟨hz, hs, hy⟩ := hz
  by_cases hao : ao = none
  · subst hao
    have h0 : m.length = 0 := by
      rcases Nat.eq_zero_or_pos m.length with h0 | h0
      · exact h0
      · obtain ⟨g, o, e, -⟩ := hu h0; cases e
    obtain rfl : m = [] := List.eq_nil_of_length_eq_zero h0
    obtain ⟨va, vc, rfl, hvc, -⟩ := h.form
    exact ⟨_, w, append_none w _ _ i Try.underlying22 hi va l.length vc c hvc, by rw [List.append_nil]; exact h, Below.refl _ _, fun _ _ _ => rfl⟩
  · obtain ⟨ad, rfl⟩ : ∃ ad, ao = some ad := by cases ao; exact absurd rfl hao; exact ⟨_, rfl⟩
    have key : ∀ j u, (flat m)[j]? = some u → w.cell? (ad.add j) = some u := fun j u hj => by
        have hj1 := (List.getElem?_eq_some_iff.1 hj).1
        rw [flat_length] at hj1
        obtain ⟨g, o, hgo, hg, hc⟩ := hu (by omega)
        cases hgo
        have e : j = j / 5 * 5 + j % 5 := by omega
        have hq : j / 5 < m.length := by omega
        have hx := hc (j / 5) m[j / 5] (List.getElem?_eq_getElem hq)
        have hf := flat_get (List.getElem?_eq_getElem hq) (j % 5) (by omega)
        rw [← e] at hf
        rw [hf] at hj
        rw [addr_add, show o + j = o + j / 5 * 5 + j % 5 by omega]
        have h5 : j % 5 < 5 := by omega
        generalize j % 5 = r at *
        match r, h5, hj with
        | 0, _, hj => simp [Tk.cs] at hj; subst hj; exact hx.c0
        | 1, _, hj => simp [Tk.cs] at hj; subst hj; exact hx.c1
        | 2, _, hj => simp [Tk.cs] at hj; subst hj; exact hx.c2
        | 3, _, hj => simp [Tk.cs] at hj; subst hj; exact hx.c3
        | 4, _, hj => simp [Tk.cs] at hj; subst hj; exact hx.c4
    obtain ⟨v', w', hr, ho, hgr, -⟩ := run_append_own (P := Try.prog) w B 22 22 42 i _ 5 40 Try.underlying22 hi hz hs hy rfl (by omega) v l.length _ h
      ad m.length c (flat m) (by rw [flat_length]) key (fun u hu => by
        simp only [flat, List.mem_flatMap] at hu
        obtain ⟨x, -, hu⟩ := hu
        simp [Tk.cs] at hu; rcases hu with rfl | rfl | rfl | rfl | rfl <;> rfl) (by unfold maxLen; omega) (by omega) hB
    refine ⟨v', w', hr, ?_, ⟨hgr.os, hgr.tape, hgr.output, hgr.size, fun k hk => hgr.block k (by omega) (fun e => ?_)⟩, fun k hk hn => hgr.block k hk (fun e => hn e.symm)⟩
    · unfold TRow
      rw [flat_append, List.length_append]
      exact ho
    · have := (h.lt k e.symm).1; omega
theorem load_tk {b o : Nat} {x : Tk} {w : World} (h : TkAt b o x w) : (loadVar 42 ⟨b, o, none⟩).run Try.prog w = .ok x.v w :=
  run_loadVar_mid w b o 42 x.cs _ (fun j u hj => by
    have h5 : j < 5 := by have := (List.getElem?_eq_some_iff.1 hj).1; simpa [Tk.cs] using this
    match j, h5, hj with
    | 0, _, hj => simp [Tk.cs] at hj; subst hj; exact h.c0
    | 1, _, hj => simp [Tk.cs] at hj; subst hj; exact h.c1
    | 2, _, hj => simp [Tk.cs] at hj; subst hj; exact h.c2
    | 3, _, hj => simp [Tk.cs] at hj; subst hj; exact h.c3
    | 4, _, hj => simp [Tk.cs] at hj; subst hj; exact h.c4) Try.underlying42 rfl (by kernel_rfl)
/-- a row of one task, made -/
theorem build_one (B : Nat) (w : World) (x : Tk) : ∃ q w', (Instr.buildSlice 22 1 #[(0, x.v)]).run Try.prog w = .ok (.slice (some ⟨q, 0, none⟩) 1 1) w' ∧ TkAt q 0 x w' ∧ Below w.heap.size w w' ∧ q = w.heap.size ∧ q < w'.heap.size := by
  refine ⟨w.heap.size, w.alloc (.cells x.cs.toArray 42), ?_, ⟨by simp [go_sem, Tk.cs], by simp [go_sem, Tk.cs], by simp [go_sem, Tk.cs], by simp [go_sem, Tk.cs], by simp [go_sem, Tk.cs]⟩, (Below.refl _ _).alloc (Nat.le_refl _) _, rfl, by simp⟩
  kernel_rfl
theorem tk_ts {q : Nat} {x : Tk} {w : World} (h : TkAt q 0 x w) : Ts (some ⟨q, 0, none⟩) [x] w := fun _ => ⟨q, 0, rfl, h.lt, fun i y hi => by
  match i, hi with
  | 0, hi => obtain rfl : x = y := by simpa using hi
             exact h
  | i + 1, hi => simp at hi⟩
theorem TRow.lt {B : Nat} {w : World} {v : Value} {l : List Tk} (h : TRow B w v l) : ∀ k, v.ownBlock = some k → B ≤ k ∧ k < w.heap.size := World.ownsRow.lt h
end Go.Proofs.Ytbhafcaekpccoaa.Pm
