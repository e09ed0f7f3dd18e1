/- A log in memory; contracts of package wal's small functions. -/
import Derived.Test.YtcbemjckcmcelaaSlA
import Derived.Test.YtcbemjckcmcelaaWlMath
import Derived.BigQuiet
namespace Go.Proofs.Ytcbemjckcmcelaa.Wl
open Go.ChangeShapes Go.WideShapes Go.ChangeAt Go.RowKit Go.Joins
open Dk (Dk DS Own Moved ptr)
open Sl (Mv below_drewN)
set_option maxRecDepth 100000
set_option linter.unusedVariables false
set_option linter.unusedSimpArgs false
/-- how a log stands, as a value -/
def stV : Option (Nat × Nat) → Value
  | none => .iface 64 (.agg #[])
  | some (e, c) => .iface 75 (.agg #[.int .u64 (e : Int), .int .i64 (c : Int)])
def cellsOf (b : Nat) (t : WS) : Array Value := #[ptr b, .int .i64 (t.at_ : Int), .int .i64 (t.n : Int), stV t.st]
/-- a log at block q, of the disk at block b -/
def Wl (q b : Nat) (t : WS) (w : World) : Prop := w.heap[q]? = some (.cells (cellsOf b t) 68 (0, 0))
section
variable {q b : Nat} {t : WS} {w w' : World}
theorem Wl.lt (h : Wl q b t w) : q < w.heap.size := Dk.lt_of_heap h
theorem Wl.of_block (h : Wl q b t w) (e : w'.heap[q]? = w.heap[q]?) : Wl q b t w' := by unfold Wl at *; rw [e]; exact h
theorem Wl.call (h : Wl q b t w) (hb : Below w.heap.size w w') : Wl q b t w' := h.of_block (hb.block q h.lt)
theorem Wl.c0 (h : Wl q b t w) : w.cell? ⟨q, 0, none⟩ = some (ptr b) := by rw [Lib.cell_of_heap h]; rfl
theorem Wl.c1 (h : Wl q b t w) : w.cell? ⟨q, 1, none⟩ = some (.int .i64 (t.at_ : Int)) := by rw [Lib.cell_of_heap h]; rfl
theorem Wl.c2 (h : Wl q b t w) : w.cell? ⟨q, 2, none⟩ = some (.int .i64 (t.n : Int)) := by rw [Lib.cell_of_heap h]; rfl
theorem Wl.c3 (h : Wl q b t w) : w.cell? ⟨q, 3, none⟩ = some (stV t.st) := by rw [Lib.cell_of_heap h]; rfl
theorem Wl.fz (h : Wl q b t w) (o : Nat) : w.frozen? ⟨q, o, none⟩ = false := Lib.frozen_of_heap h o
theorem Wl.setSt (h : Wl q b t w) {v : Value} {x : Option (Nat × Nat)} (e : v = stV x) : Wl q b ⟨t.at_, t.n, x⟩ (w.setCell ⟨q, 3, none⟩ v) := by
  subst e; unfold Wl at *; simp [World.setCell, Array.getElem?_modify, h, cellsOf]
/-- its block is none of a disk's -/
theorem Wl.notOwn {B c : Nat} {s : DS} (h : Wl q b t w) (d : Dk B c s w) : ¬ Own w c q := by
  obtain ⟨g, v, d⟩ := d
  exact d.keepT h (by decide) (by decide) (by decide)
theorem Wl.disk {B c : Nat} {s : DS} (h : Wl q b t w) (d : Dk B c s w) (m : Moved c w w') : Wl q b t w' := h.of_block (m.block q h.lt (h.notOwn d))
theorem Wl.ne {B : Nat} {s : DS} (h : Wl q b t w) (d : Dk B b s w) : q ≠ b := fun e => h.notOwn d (.inl e)
end
theorem none_nil (w : World) :
    Calls Try.prog 33 #[.pointer none] w fun e w' => e = .returned (.bool true) ∧ w' = w := by
  go_enter Try.func33, Try.ntmps33
  go_wp2
  go_ret
  exact ⟨rfl, rfl⟩
theorem none_any {q b : Nat} {t : WS} (w : World) (h : Wl q b t w) (hn : 1 ≤ t.n) :
    Calls Try.prog 33 #[ptr q] w fun e w' => e = .returned (.bool false) ∧ w' = w := by
  have c2 := h.c2
  clear h
  have ne : ((t.n : Int) == 0) = false := by simp; omega
  have ne2 : ¬ (t.n : Int) = 0 := by omega
  generalize (t.n : Int) = K at *
  go_enter Try.func33, Try.ntmps33
  go_wp2
  go_ret
  exact ⟨rfl, rfl⟩
theorem left_open (e c : Int) (n : Int) (w : World) (h0 : 0 ≤ c) (h1 : c ≤ n) (h2 : n ≤ 1024) :
    Calls Try.prog 50 #[.agg #[.int .u64 e, .int .i64 c], .int .i64 n] w fun r w' => r = .returned (.int .i64 (n - c)) ∧ Below w.heap.size w w' := by
  have FIN := Lib.hid ((Below.refl w.heap.size w).alloc (Nat.le_refl _) (.cells #[.int .u64 e, .int .i64 c] 75))
  go_enter Try.func50, Try.ntmps50
  go_wp2
  go_ret
  exact ⟨rfl, FIN.out⟩
theorem records_open (e c : Int) (w : World) :
    Calls Try.prog 121 #[.agg #[.int .u64 e, .int .i64 c]] w fun r w' => r = .returned (.int .i64 c) ∧ Below w.heap.size w w' := by
  have FIN := Lib.hid ((Below.refl w.heap.size w).alloc (Nat.le_refl _) (.cells #[.int .u64 e, .int .i64 c] 75))
  go_enter Try.func121, Try.ntmps121
  go_wp2
  go_ret
  exact ⟨rfl, FIN.out⟩
theorem left_shut (n : Int) (w : World) :
    Calls Try.prog 119 #[.agg #[], .int .i64 n] w fun r w' => r = .returned (.int .i64 0) ∧ Below w.heap.size w w' := by
  have FIN := Lib.hid ((Below.refl w.heap.size w).alloc (Nat.le_refl _) (.cells #[] 64))
  go_enter Try.func119, Try.ntmps119
  go_wp2
  go_ret
  exact ⟨rfl, FIN.out⟩
theorem records_shut (w : World) :
    Calls Try.prog 120 #[.agg #[]] w fun r w' => r = .returned (.int .i64 0) ∧ Below w.heap.size w w' := by
  have FIN := Lib.hid ((Below.refl w.heap.size w).alloc (Nat.le_refl _) (.cells #[] 64))
  go_enter Try.func120, Try.ntmps120
  go_wp2
  go_ret
  exact ⟨rfl, FIN.out⟩
end Go.Proofs.Ytcbemjckcmcelaa.Wl
