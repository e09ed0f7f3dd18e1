/- Contracts of package ops' of and of each kind's op; two ops compared. -/
import Derived.Test.YtnaanahgflbihaaPmA
import Derived.Test.YtnaanahgflbihaaOpMath
import Derived.Test.YtnaanahgflbihaaOcF
import Derived.Laws.StructEq
namespace Go.Proofs.Ytnaanahgflbihaa.Ox
open Go.ChangeShapes Go.WideShapes Go.ChangeAt Go.RowKit Go.Joins
open Pm (Tk chk chk_iff below_drewN)
set_option maxRecDepth 100000
set_option maxRecDepth 100000
set_option linter.unusedVariables false
set_option linter.unusedSimpArgs false
def Od.cs (o : Od) : Array Value := #[.int .i64 o.kind, .int .i64 o.task.id, .int .i64 o.task.c, .int .i64 o.task.d, .int .i64 o.task.t, .int .i64 o.task.m, .bool o.server, .int .i64 o.id, .int .i64 o.c, .int .i64 o.mode]
def Od.v (o : Od) : Value := .agg o.cs
/-- what ops of one kind say -/
inductive Fd where
  | admit (t : Tk) (s : Bool)
  | remove (i : Int)
  | resize (i c : Int)
  | mode (m : Int)
  | unknown (k : Int)
def Fd.v : Fd → Value
  | .admit t s => .iface 119 (.agg #[.int .i64 t.id, .int .i64 t.c, .int .i64 t.d, .int .i64 t.t, .int .i64 t.m, .bool s])
  | .remove i => .iface 121 (.agg #[.int .i64 i])
  | .resize i c => .iface 123 (.agg #[.int .i64 i, .int .i64 c])
  | .mode m => .iface 125 (.agg #[.int .i64 m])
  | .unknown k => .iface 132 (.agg #[.int .i64 k])
def ofR (o : Od) : Fd := if o.kind = 1 then .admit o.task o.server else if o.kind = 2 then .remove o.id else if o.kind = 3 then .resize o.id o.c else if o.kind = 4 then .mode o.mode else .unknown o.kind
def opR : Fd → Od
  | .admit t s => ⟨1, t, s, 0, 0, 0⟩
  | .remove i => ⟨2, tk0, false, i, 0, 0⟩
  | .resize i c => ⟨3, tk0, false, i, c, 0⟩
  | .mode m => ⟨4, tk0, false, 0, 0, m⟩
  | .unknown k => ⟨k, tk0, false, 0, 0, 0⟩
def mayF : Fd → Bool
  | .admit t s => chk t && (!s || t.d == t.t)
  | .remove i => decide (0 ≤ i ∧ i ≤ 1023)
  | .resize i c => decide (0 ≤ i ∧ i ≤ 1023 ∧ 1 ≤ c ∧ c ≤ 2147483648)
  | .mode m => decide (0 ≤ m ∧ m ≤ 3)
  | .unknown _ => false
theorem bare_of (o : Od) : opR (ofR o) = bareR o := by
  unfold ofR bareR
  repeat' split
  all_goals rfl
theorem may_of (o : Od) : mayF (ofR o) = mayR o := by
  unfold ofR mayR
  repeat' split
  all_goals rfl
theorem chk_of (o : Od) : (mayF (ofR o) && decide (o = bareR o)) = chkR o := by unfold chkR; rw [may_of, Bool.and_comm]
theorem of_any (o : Od) (w : World) :
    Calls Try.prog 78 #[o.v] w fun e w' => e = .returned (ofR o).v ∧ Below w.heap.size w w' := by
  have b1 := Lib.hid ((Below.refl w.heap.size w).alloc (Nat.le_refl _) (.cells o.cs 29))
  obtain ⟨k, ⟨i, c, d, t, m⟩, s, id, cc, mo⟩ := o
  unfold ofR Od.v
  unfold Od.cs at *
  simp only at *
  by_cases h1 : k = 1
  · subst h1
    go_enter Try.func78, Try.ntmps78
    go_wp2
    go_ret
    exact ⟨rfl, b1.out⟩
  have k1 : (k == 1) = false := by simpa using h1
  rw [if_neg h1]
  by_cases h2 : k = 2
  · subst h2
    clear h1
    go_enter Try.func78, Try.ntmps78
    go_wp2
    go_ret
    exact ⟨rfl, b1.out⟩
  have k2 : (k == 2) = false := by simpa using h2
  rw [if_neg h2]
  by_cases h3 : k = 3
  · subst h3
    clear h1 h2
    go_enter Try.func78, Try.ntmps78
    go_wp2
    go_ret
    exact ⟨rfl, b1.out⟩
  have k3 : (k == 3) = false := by simpa using h3
  rw [if_neg h3]
  by_cases h4 : k = 4
  · subst h4
    clear h1 h2 h3
    go_enter Try.func78, Try.ntmps78
    go_wp2
    go_ret
    exact ⟨rfl, b1.out⟩
  have k4 : (k == 4) = false := by simpa using h4
  rw [if_neg h4]
  go_enter Try.func78, Try.ntmps78
  go_wp2
  go_ret
  exact ⟨rfl, b1.out⟩
/-- the methods of what ops of one kind say -/
theorem op_admit (t : Tk) (s : Bool) (w : World) :
    Calls Try.prog 110 #[.agg #[.int .i64 t.id, .int .i64 t.c, .int .i64 t.d, .int .i64 t.t, .int .i64 t.m, .bool s]] w fun e w' => e = .returned (opR (.admit t s)).v ∧ Below w.heap.size w w' := by
  have F := Lib.hid (fun v x => ((Below.refl w.heap.size w).alloc (Nat.le_refl _) v).alloc (by simp) x)
  go_enter Try.func110, Try.ntmps110
  go_wp2
  refine bodyPost_ret (v := (opR (.admit t s)).v) (by simp [results, Try.results110, go_sem, Od.v, Od.cs, opR, tk0]) rfl ⟨rfl, F.out _ _⟩
theorem m_admit (v : Value) (w : World) : (method 251 119 v "horarium/ops.op").run Try.prog w = .ok (110, v) w := by kernel_rfl
theorem op_remove (i : Int) (w : World) :
    Calls Try.prog 111 #[.agg #[.int .i64 i]] w fun e w' => e = .returned (opR (.remove i)).v ∧ Below w.heap.size w w' := by
  have F := Lib.hid (fun v x => ((Below.refl w.heap.size w).alloc (Nat.le_refl _) v).alloc (by simp) x)
  go_enter Try.func111, Try.ntmps111
  go_wp2
  refine bodyPost_ret (v := (opR (.remove i)).v) (by simp [results, Try.results111, go_sem, Od.v, Od.cs, opR, tk0]) rfl ⟨rfl, F.out _ _⟩
theorem m_remove (v : Value) (w : World) : (method 251 121 v "horarium/ops.op").run Try.prog w = .ok (111, v) w := by kernel_rfl
theorem op_resize (i c : Int) (w : World) :
    Calls Try.prog 112 #[.agg #[.int .i64 i, .int .i64 c]] w fun e w' => e = .returned (opR (.resize i c)).v ∧ Below w.heap.size w w' := by
  have F := Lib.hid (fun v x => ((Below.refl w.heap.size w).alloc (Nat.le_refl _) v).alloc (by simp) x)
  go_enter Try.func112, Try.ntmps112
  go_wp2
  refine bodyPost_ret (v := (opR (.resize i c)).v) (by simp [results, Try.results112, go_sem, Od.v, Od.cs, opR, tk0]) rfl ⟨rfl, F.out _ _⟩
theorem m_resize (v : Value) (w : World) : (method 251 123 v "horarium/ops.op").run Try.prog w = .ok (112, v) w := by kernel_rfl
theorem op_mode (m : Int) (w : World) :
    Calls Try.prog 113 #[.agg #[.int .i64 m]] w fun e w' => e = .returned (opR (.mode m)).v ∧ Below w.heap.size w w' := by
  have F := Lib.hid (fun v x => ((Below.refl w.heap.size w).alloc (Nat.le_refl _) v).alloc (by simp) x)
  go_enter Try.func113, Try.ntmps113
  go_wp2
  refine bodyPost_ret (v := (opR (.mode m)).v) (by simp [results, Try.results113, go_sem, Od.v, Od.cs, opR, tk0]) rfl ⟨rfl, F.out _ _⟩
theorem m_mode (v : Value) (w : World) : (method 251 125 v "horarium/ops.op").run Try.prog w = .ok (113, v) w := by kernel_rfl
theorem op_unknown (k : Int) (w : World) :
    Calls Try.prog 114 #[.agg #[.int .i64 k]] w fun e w' => e = .returned (opR (.unknown k)).v ∧ Below w.heap.size w w' := by
  have F := Lib.hid (fun v x => ((Below.refl w.heap.size w).alloc (Nat.le_refl _) v).alloc (by simp) x)
  go_enter Try.func114, Try.ntmps114
  go_wp2
  refine bodyPost_ret (v := (opR (.unknown k)).v) (by simp [results, Try.results114, go_sem, Od.v, Od.cs, opR, tk0]) rfl ⟨rfl, F.out _ _⟩
theorem m_unknown (v : Value) (w : World) : (method 251 132 v "horarium/ops.op").run Try.prog w = .ok (114, v) w := by kernel_rfl
theorem eq_run (a b : Od) (w : World) (r : Bool → Value) : (if a.kind = b.kind then if a.task.id = b.task.id then if a.task.c = b.task.c then if a.task.d = b.task.d then if a.task.t = b.task.t then if a.task.m = b.task.m then if a.server = b.server then if a.id = b.id then if a.c = b.c then if a.mode = b.mode then Result.ok (r true) w else Result.ok (r false) w else Result.ok (r false) w else Result.ok (r false) w else Result.ok (r false) w else Result.ok (r false) w else Result.ok (r false) w else Result.ok (r false) w else Result.ok (r false) w else Result.ok (r false) w else Result.ok (r false) w) = Result.ok (r (decide (a = b))) w := by
  by_cases h : a = b
  · subst h; simp
  · rw [decide_eq_false h]
    repeat' split
    all_goals first | rfl | (exfalso; apply h; obtain ⟨_, ⟨_, _, _, _, _⟩, _, _, _, _⟩ := a; obtain ⟨_, ⟨_, _, _, _, _⟩, _, _, _, _⟩ := b; simp_all)
theorem eql_op (a b : Od) (w : World) : (binOp .eql 29 a.v b.v).run Try.prog w = .ok (.bool (decide (a = b))) w := by
  unfold Od.v
  rw [run_eql_struct]
  simp [go_sem, Od.cs]
  exact eq_run a b w .bool
theorem neq_op (a b : Od) (w : World) : (binOp .neq 29 a.v b.v).run Try.prog w = .ok (.bool (!decide (a = b))) w := by
  unfold Od.v
  rw [run_neq_struct]
  simp [go_sem, Od.cs]
  exact eq_run a b w (fun x => .bool (!x))
/-- an op in a block -/
def At (w : World) (p : Nat) (o : Od) : Prop := w.heap[p]? = some (.cells o.cs 29 (0, 0))
theorem At.lt {w : World} {p : Nat} {o : Od} (h : At w p o) : p < w.heap.size := (Array.getElem?_eq_some_iff.1 h).1
theorem At.call {w w' : World} {p : Nat} {o : Od} (h : At w p o) (hb : Below w.heap.size w w') : At w' p o := (hb.block p h.lt).trans h
theorem At.fz {w : World} {p : Nat} {o : Od} (h : At w p o) (k : Nat) : w.frozen? ⟨p, k, none⟩ = false := Lib.frozen_of_heap h k
theorem At.cells {w : World} {p : Nat} {o : Od} (h : At w p o) : w.cell? ⟨p, 0, none⟩ = some (.int .i64 o.kind) ∧ w.cell? ⟨p, 1, none⟩ = some (.int .i64 o.task.id) ∧ w.cell? ⟨p, 2, none⟩ = some (.int .i64 o.task.c) ∧ w.cell? ⟨p, 3, none⟩ = some (.int .i64 o.task.d) ∧ w.cell? ⟨p, 4, none⟩ = some (.int .i64 o.task.t) ∧ w.cell? ⟨p, 5, none⟩ = some (.int .i64 o.task.m) ∧ w.cell? ⟨p, 6, none⟩ = some (.bool o.server) ∧ w.cell? ⟨p, 7, none⟩ = some (.int .i64 o.id) ∧ w.cell? ⟨p, 8, none⟩ = some (.int .i64 o.c) ∧ w.cell? ⟨p, 9, none⟩ = some (.int .i64 o.mode) := by
  refine ⟨?_, ?_, ?_, ?_, ?_, ?_, ?_, ?_, ?_, ?_⟩ <;> (rw [Lib.cell_of_heap h]; rfl)
theorem at_new (w : World) (o : Od) : At (w.alloc (.cells o.cs 29)) w.heap.size o := heap_alloc_new _ _
/-- an op over an op in its block -/
def setOp (w : World) (p : Nat) (o : Od) : World := ((((((((((w.setCell ⟨p, 0, none⟩ (.int .i64 o.kind)).setCell ⟨p, 1, none⟩ (.int .i64 o.task.id)).setCell ⟨p, 2, none⟩ (.int .i64 o.task.c)).setCell ⟨p, 3, none⟩ (.int .i64 o.task.d)).setCell ⟨p, 4, none⟩ (.int .i64 o.task.t)).setCell ⟨p, 5, none⟩ (.int .i64 o.task.m)).setCell ⟨p, 6, none⟩ (.bool o.server)).setCell ⟨p, 7, none⟩ (.int .i64 o.id)).setCell ⟨p, 8, none⟩ (.int .i64 o.c)).setCell ⟨p, 9, none⟩ (.int .i64 o.mode))
theorem At.put {w : World} {p : Nat} {o : Od} (h : At w p o) (x : Od) : At (setOp w p x) p x := by
  unfold At at *
  unfold setOp
  simp [World.setCell, Array.getElem?_modify, h, Od.cs]
theorem At.load {w : World} {p : Nat} {o : Od} (h : At w p o) : (loadVar 29 ⟨p, 0, none⟩).run Try.prog w = .ok o.v w := by
  obtain ⟨c0, c1, c2, c3, c4, c5, c6, c7, c8, c9⟩ := h.cells
  simp [go_sem, c0, c1, c2, c3, c4, c5, c6, c7, c8, c9, Od.v, Od.cs]
theorem setOp_below {B : Nat} {u w : World} {p : Nat} (h : Below B u w) (hp : B ≤ p) (x : Od) : Below B u (setOp w p x) :=
  (((((((((h.setCell hp _).setCell hp _).setCell hp _).setCell hp _).setCell hp _).setCell hp _).setCell hp _).setCell hp _).setCell hp _).setCell hp _
end Go.Proofs.Ytnaanahgflbihaa.Ox
