/- Places of sectors, and what a round of their row keeps. -/
import Derived.RangeFuncNested
import Derived.RangeFuncBound
import Derived.RangeFuncCalls
import Derived.RangeFuncLeaves
import Derived.RangeFuncBox
import Derived.Maps.AppendAt
import Derived.Shelf.Abstract
import Derived.Shelf.RegionOpen
import Derived.OwnWalkIn
import Derived.TacticsInMore
import Derived.LoopNIn
import Derived.LoopIn
import Derived.Stop.RegionWithIn
import Derived.Test.YtgfpnjidpdjpaaaSlC
namespace Go.Proofs.Ytgfpnjidpdjpaaa.Sl
open Go.ChangeShapes Go.WideShapes Go.ChangeAt Go.RowKit Go.Joins Go.Shelf
open Dk (Dk DS Moved ptr)
attribute [local go_sem] Oper.semAt_some
set_option maxRecDepth 100000
set_option linter.unusedVariables false
set_option linter.unusedSimpArgs false
/-- a sector's place: which slot, which number -/
abbrev Pl (k : Nat) : Type := { x : Nat × Nat // x.1 < 2 ∧ x.2 < k }
def plAt {k : Nat} (hk : 1 ≤ k) (j : Nat) : Pl k := ⟨(j / k % 2, j % k), Nat.mod_lt _ (by omega), Nat.mod_lt _ (by omega)⟩
def upto {α : Type} (f : Nat → α) (k : Nat) : List α := (List.range k).map f
theorem upto_succ {α : Type} (f : Nat → α) (k : Nat) : upto f (k + 1) = upto f k ++ [f k] := by simp [upto, List.range_succ]
theorem IntKind.wrap_i64_of {D : Int} (h0 : 0 ≤ D) (h1 : D ≤ 2) : IntKind.i64.wrap D = D := by
  rcases (show D = 0 ∨ D = 1 ∨ D = 2 by omega) with rfl | rfl | rfl <;> decide
theorem upto_length {α : Type} (f : Nat → α) (k : Nat) : (upto f k).length = k := by simp [upto]
/-- what is read between two rounds stays -/
def Kp (X q : Nat) (A B : World) : Prop := B.heap[X]? = A.heap[X]? ∧ B.heap[q]? = A.heap[q]?
theorem Kp.trans {X q : Nat} {A B C : World} (h : Kp X q A B) (k : Kp X q B C) : Kp X q A C := ⟨k.1.trans h.1, k.2.trans h.2⟩
theorem Kp.put {X q : Nat} {w : World} (hX : X < w.heap.size) (hq : q < w.heap.size) (W : World) (l : Nat) (o o' : Obj) (hl : w.heap.size ≤ l) (h : W.heap[l]? = some o) (_ : o.isCells = false) (_ : o.isWalk = false) : Kp X q W (W.putObj l o') :=
  ⟨World.putObj_heap_other (by omega), World.putObj_heap_other (by omega)⟩
def encP {k : Nat} (x : Pl k) : Array Value := #[.int .i64 (x.1.1 : Int), .int .i64 (x.1.2 : Int)]
end Go.Proofs.Ytgfpnjidpdjpaaa.Sl
