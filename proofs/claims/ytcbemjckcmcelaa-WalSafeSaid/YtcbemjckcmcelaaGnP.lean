/- Operations whose run is known, as the walk meets them; a struct of many cells built, and laid into a row of one. Any program. -/
import Derived.Test.YtcbemjckcmcelaaDkN
import Derived.Deep.AppendLies
import Derived.Lib.AppendZeros
import Derived.Deep.RegionHeld3
namespace Go.Proofs.Ytcbemjckcmcelaa.Dk
open Go.ChangeShapes Go.WideShapes Go.ChangeAt Go.RowKit Go.Joins
set_option maxRecDepth 100000
set_option linter.unusedVariables false
set_option linter.unusedSimpArgs false
section
variable {P : Program} {w w' : World} {op : Oper} {a : Act} {K : Act → World → Prop} {Q : Exit → Act → World → Prop} {ops : Array Oper} {rest : List Oper} {v : Value}
theorem wp_value (hr : (execOp a.eval op).run P w = .ok (.value v) w') (h : K (a.put op.dst v) w') : op.wp P a w K Q := by
  unfold Oper.wp; rw [hr]; exact h
theorem wp_skip (hr : (execOp a.eval op).run P w = .ok .skip w') (h : K (a.put op.dst undef) w') : op.wp P a w K Q := by
  unfold Oper.wp; rw [hr]; exact h
theorem wpList_value (hgd : op.guard = none) (hr : (execOp a.eval op).run P w = .ok (.value v) w') (h : wpList P ops Q rest (a.put op.dst v) w') : wpList P ops Q (op :: rest) a w :=
  wpList_plain hgd fun _ hK => wp_value hr (hK _ _ h)
theorem exec_build {ty : TypeId} {ps : Array (Nat × Operand)} (ho : op.op = .build ty ps) (hr : (Instr.build ty (ps.map fun (i, x) => (i, a.eval x))).run P w = .ok v w') : (execOp a.eval op).run P w = .ok (.value v) w' := by
  unfold execOp; simp only [ho, Sem.run_bind, hr]; rfl
theorem exec_buildSlice {ty : TypeId} {n : Nat} {ps : Array (Nat × Operand)} (ho : op.op = .buildSlice ty n ps) (hr : (Instr.buildSlice ty n (ps.map fun (i, x) => (i, a.eval x))).run P w = .ok v w') : (execOp a.eval op).run P w = .ok (.value v) w' := by
  unfold execOp; simp only [ho, Sem.run_bind, hr]; rfl
theorem exec_buildSlice1 {ty : TypeId} {n : Nat} {x : Operand} {y : Value} (ho : op.op = .buildSlice ty n #[(0, x)]) (hx : a.eval x = y) (hr : (Instr.buildSlice ty n #[(0, y)]).run P w = .ok v w') : (execOp a.eval op).run P w = .ok (.value v) w' :=
  exec_buildSlice ho (by simpa [hx] using hr)
theorem exec_makeSlice {ty : TypeId} {x y : Operand} (ho : op.op = .makeSlice ty x y) (hr : (Instr.makeSlice ty (a.eval x) (a.eval y)).run P w = .ok v w') : (execOp a.eval op).run P w = .ok (.value v) w' := by
  unfold execOp; simp only [ho, Sem.run_bind, hr]; rfl
theorem exec_convert {ty tz : TypeId} {x : Operand} (ho : op.op = .convert ty tz x) (hr : (convert ty tz (a.eval x)).run P w = .ok v w') : (execOp a.eval op).run P w = .ok (.value v) w' := by
  unfold execOp; simp only [ho, Sem.run_bind, hr]; rfl
theorem exec_load1 {ty : TypeId} {x : Operand} {q : Addr} (ho : op.op = .load ty x) (hx : a.eval x = .pointer (some q)) (hr : (loadVar ty q).run P w = .ok v w') : (execOp a.eval op).run P w = .ok (.value v) w' := by
  unfold execOp; simp only [ho, hx, Instr.loadAt, Instr.sureAddr, Sem.run_bind, Sem.run_pure, Result.andThen_ok, hr]
/-- a whole value into the block that was made last -/
theorem wpList_store_new {ty : TypeId} {c c' : Array Value} {x y : Operand} (hgd : op.guard = none) (ho : op.op = .store ty x y) (hx : a.eval x = .pointer (some ⟨w.heap.size, 0, none⟩)) (hy : a.eval y = .agg c')
    (hi : (P.info? ty).map (·.size) = some c'.size) (hs : c.size = c'.size) (h1 : c'.all (·.oneCell') = true) (h : wpList P ops Q rest (a.put op.dst undef) (w.alloc (.cells c' ty))) : wpList P ops Q (op :: rest) a (w.alloc (.cells c ty)) :=
  wpList_plain hgd fun _ hK => wp_skip (by unfold execOp; simp only [ho, hx, hy, Sem.run_bind, run_storeAt_new w ty c c' hi hs h1]; rfl) (hK _ _ h)
end
theorem fold_laid (l : List Value) : ∀ (k : Nat) (cells : Array Value), k + l.length ≤ cells.size →
    ((l.zipIdx k).foldl (fun (cs : Array Value) (p : Value × Nat) => cs.setIfInBounds (0 + p.2) p.1) cells) = (cells.toList.take k ++ l ++ cells.toList.drop (k + l.length)).toArray := by
  induction l with
  | nil => intro k cells h; simp
  | cons x l ih =>
    intro k cells h
    rw [List.zipIdx_cons, List.foldl_cons, ih (k + 1) _ (by simp at h ⊢; omega)]
    congr 1
    simp only [Nat.zero_add, Array.toList_setIfInBounds]
    have := list_seg_step cells.toList k x l (by simp at h ⊢; omega)
    rw [List.length_cons]
    rw [this]
theorem fill_whole (c cells : Array Value) (h : c.size = cells.size) : c.zipIdx.foldl (fun cs (p : Value × Nat) => cs.setIfInBounds (0 + p.2) p.1) cells = c := by
  have := fold_laid c.toList 0 cells (by simp [h])
  rw [← Array.foldl_toList, Array.toList_zipIdx, this]
  apply Array.ext'
  simp [h]
/-- a row of one struct -/
theorem run_buildOne {P : Program} (w : World) (t e : TypeId) (z : Value) (size : Nat) (C : Array Value) (ht : P.underlying t = some (.slice e)) (hinfo : (P.info? e).map (fun i => (i.zero, i.size)) = some (some z, size)) (hz : z.cells.size = size) (h0 : 0 < size) (h1 : size ≤ 1000) (hC : C.size = size) :
    (Instr.buildSlice t 1 #[(0, .agg C)]).run P w = .ok (.slice (some ⟨w.heap.size, 0, none⟩) 1 1) (w.alloc (.cells C e)) := by
  obtain ⟨i, hi, hzz⟩ := Option.map_eq_some_iff.1 hinfo
  simp only [Prod.mk.injEq] at hzz
  obtain ⟨hz', hs⟩ := hzz
  have n1 : ¬ size > 2 ^ 24 := by omega
  have n2 : ¬ size = 0 := by omega
  have key : Instr.fill (fun i => some (i * size, size)) ((Array.range size).map (z.cells[· % z.cells.size]!)) [(0, .agg C)] = some C := by
    simp only [Instr.fill, Value.cells, Nat.zero_mul]
    rw [if_neg (by simp [hC])]
    rw [fill_whole C _ (by simp [hC])]
  simp [Instr.buildSlice, run_underlying ht, sizeOf, typeInfo, hi, hs, zeroValue, hz', n1, n2, newRow]
  simp only [key]
  simp [newRow]
end Go.Proofs.Ytcbemjckcmcelaa.Dk
