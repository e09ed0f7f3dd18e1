/- A writer's builder in memory: what of the memory is its own, and what a call leaves of the rest. -/
import Derived.Test.YtnaanahgflbihaaOcMath
import Derived.WalkKit
import Derived.ProofKit
import Derived.OpenShut
import Derived.Below
import Derived.Lib.Hide
import Derived.Lib.SmallJoins
import Derived.Lib.FrozenHead2
import Derived.Lib.UnsafeStr
import Derived.Lib.AppendStr
import Derived.Lib.Builder
import Derived.Laws.Externs
namespace Go.Proofs.Ytnaanahgflbihaa.Oc
open Go.ChangeShapes Go.WideShapes Go.ChangeAt Go.RowKit Go.Joins
set_option maxRecDepth 100000
set_option linter.unusedVariables false
set_option linter.unusedSimpArgs false
/-- of what was there only block b has turned -/
structure Apart (b : Nat) (w w' : World) : Prop where
  os : w'.os = w.os
  tape : w'.tape = w.tape
  output : w'.output = w.output
  size : w.heap.size ≤ w'.heap.size
  block : ∀ k, k < w.heap.size → k ≠ b → w'.heap[k]? = w.heap[k]?
theorem Apart.refl (b : Nat) (w : World) : Apart b w w := ⟨rfl, rfl, rfl, Nat.le_refl _, fun _ _ _ => rfl⟩
theorem Apart.trans {b : Nat} {u v w : World} (h : Apart b u v) (k : Apart b v w) : Apart b u w :=
  ⟨k.os.trans h.os, k.tape.trans h.tape, k.output.trans h.output, Nat.le_trans h.size k.size, fun i hi hb => (k.block i (Nat.lt_of_lt_of_le hi h.size) hb).trans (h.block i hi hb)⟩
theorem Apart.drew {b : Nat} {u w : World} (h : Apart b u w) : Apart b u w.drew := h.trans ⟨rfl, rfl, rfl, Nat.le_refl _, fun _ _ _ => rfl⟩
theorem Apart.setCell {b : Nat} {u w : World} (h : Apart b u w) (o : Nat) (v : Value) : Apart b u (w.setCell ⟨b, o, none⟩ v) :=
  h.trans ⟨rfl, rfl, rfl, by simp, fun k hk hb => Below.heap_setCell _ _ _ _ hb⟩
theorem Apart.alloc {b : Nat} {u w : World} (h : Apart b u w) (o : Obj) : Apart b u (w.alloc o) :=
  h.trans ⟨rfl, rfl, rfl, by simp, fun k hk hb => Below.heap_alloc _ _ _ hk⟩
theorem Apart.below {b B : Nat} {w w' : World} (h : Apart b w w') (hB : B ≤ b) (hs : B ≤ w.heap.size) : Below B w w' :=
  ⟨h.os, h.tape, h.output, h.size, fun k hk => h.block k (by omega) (by omega)⟩
theorem Apart.of_below {b : Nat} {w w' : World} (h : Below w.heap.size w w') : Apart b w w' :=
  ⟨h.os, h.tape, h.output, h.size, fun k hk _ => h.block k hk⟩
theorem lt_of_heap {w : World} {k : Nat} {o : Obj} (h : w.heap[k]? = some o) : k < w.heap.size := (Array.getElem?_eq_some_iff.1 h).1
/-- the block in which a writer's bytes lie -/
def bufOf (w : World) (b : Nat) : Option Nat := (w.cell? ⟨b, 1, none⟩).bind Value.ownBlock
/-- of what was there only the writer at b has turned: its own block, and the one in which its bytes lie -/
structure Moved (b : Nat) (w w' : World) : Prop where
  os : w'.os = w.os
  tape : w'.tape = w.tape
  output : w'.output = w.output
  size : w.heap.size ≤ w'.heap.size
  block : ∀ k, k < w.heap.size → k ≠ b → bufOf w b ≠ some k → w'.heap[k]? = w.heap[k]?
  own : ∀ k, bufOf w' b = some k → bufOf w b = some k ∨ w.heap.size ≤ k
theorem Moved.refl (b : Nat) (w : World) : Moved b w w := ⟨rfl, rfl, rfl, Nat.le_refl _, fun _ _ _ _ => rfl, fun _ h => .inl h⟩
theorem Moved.trans {b : Nat} {u v w : World} (h : Moved b u v) (k : Moved b v w) : Moved b u w := by
  refine ⟨k.os.trans h.os, k.tape.trans h.tape, k.output.trans h.output, Nat.le_trans h.size k.size, fun i hi hb hn => ?_, fun i hi => ?_⟩
  · rw [k.block i (Nat.lt_of_lt_of_le hi h.size) hb ?_, h.block i hi hb hn]
    intro e
    rcases h.own i e with e | e
    · exact hn e
    · omega
  · rcases k.own i hi with e | e
    · exact h.own i e
    · exact .inr (Nat.le_trans h.size e)
theorem Moved.drew {b : Nat} {u w : World} (h : Moved b u w) : Moved b u w.drew := h.trans ⟨rfl, rfl, rfl, Nat.le_refl _, fun _ _ _ _ => rfl, fun _ h => .inl h⟩
/-- a builder within a writer's block: what its address cell and the writer's home hold, and its bytes -/
def BAt (B b : Nat) (p h : Value) (l : List UInt8) (w : World) : Prop :=
  B ≤ b ∧ ∃ v, w.heap[b]? = some (.cells #[p, v, h] 89 (0, 0)) ∧ w.ownsRowF B 5 1 v l.length (Lib.byteCells l) ∧ (l = [] → v = .slice none 0 0)
theorem BAt.lt {B b : Nat} {p h : Value} {l : List UInt8} {w : World} (k : BAt B b p h l w) : b < w.heap.size := by
  obtain ⟨_, v, hb, _⟩ := k; exact lt_of_heap hb
theorem BAt.drew {B b : Nat} {p h : Value} {l : List UInt8} {w : World} (k : BAt B b p h l w) : BAt B b p h l w.drew := k
theorem bufOf_eq {w : World} {b : Nat} {p v h : Value} {T : TypeId} {fz : Nat × Nat} (hb : w.heap[b]? = some (.cells #[p, v, h] T fz)) : bufOf w b = v.ownBlock := by
  unfold bufOf; rw [Lib.cell_of_heap hb]; rfl
theorem neF {w : World} {B n : Nat} {v : Value} {xs : List Value} {b : Nat} {cs : Array Value} {T : TypeId} {fr : Nat × Nat} (hown : w.ownsRowF B 5 1 v n xs) (hb : w.heap[b]? = some (.cells cs T fr)) (hT : T ≠ 5) : v.ownBlock ≠ some b := Lib.ownBlock_neF hown hb hT
theorem grownBy_setCell (w : World) (b o : Nat) (v : Value) : w.grownBy (w.setCell ⟨b, o, none⟩ v) (some b) :=
  ⟨rfl, rfl, rfl, by simp [World.setCell], fun k _ hk => Below.heap_setCell _ _ _ _ (fun e => hk (by simp [e]))⟩
/-- a store of another value into the address cell -/
theorem BAt.used {B b : Nat} {p h : Value} {l : List UInt8} {w : World} (k : BAt B b p h l w) (q : Value) : BAt B b q h l (w.setCell ⟨b, 0, none⟩ q) := by
  obtain ⟨hB, v, hb, hown, hn⟩ := k
  refine ⟨hB, v, ?_, hown.kept (grownBy_setCell _ _ _ _) (.inr (neF hown hb (by decide))), hn⟩
  simp [World.setCell, Array.getElem?_modify, hb]
/-- .. into the writer's home -/
theorem BAt.homed {B b : Nat} {p h : Value} {l : List UInt8} {w : World} (k : BAt B b p h l w) (q : Value) : BAt B b p q l (w.setCell ⟨b, 2, none⟩ q) := by
  obtain ⟨hB, v, hb, hown, hn⟩ := k
  refine ⟨hB, v, ?_, hown.kept (grownBy_setCell _ _ _ _) (.inr (neF hown hb (by decide))), hn⟩
  simp [World.setCell, Array.getElem?_modify, hb]
/-- a new buffer -/
theorem BAt.put {B b : Nat} {p v v' h : Value} {l : List UInt8} {w : World} (hB : B ≤ b) (hb : w.heap[b]? = some (.cells #[p, v, h] 89 (0, 0))) (hown : w.ownsRowF B 5 1 v' l.length (Lib.byteCells l)) (hn : l = [] → v' = .slice none 0 0) :
    BAt B b p h l (w.setCell ⟨b, 1, none⟩ v') := by
  refine ⟨hB, v', ?_, hown.kept (grownBy_setCell _ _ _ _) (.inr (neF hown hb (by decide))), hn⟩
  simp [World.setCell, Array.getElem?_modify, hb]
theorem Moved.set {b : Nat} {p v h : Value} {w : World} {T : TypeId} {fz : Nat × Nat} (hb : w.heap[b]? = some (.cells #[p, v, h] T fz)) (o : Nat) (q : Value) (hq : o = 1 → ∀ k, q.ownBlock = some k → v.ownBlock = some k ∨ w.heap.size ≤ k) : Moved b w (w.setCell ⟨b, o, none⟩ q) := by
  refine ⟨rfl, rfl, rfl, by simp [World.setCell], fun k _ hk _ => Below.heap_setCell _ _ _ _ hk, fun k hk => ?_⟩
  rw [bufOf_eq hb]
  by_cases e : o = 1
  · subst e
    unfold bufOf at hk
    rw [World.cell?_setCell_same _ _ _ (show w.cell? ⟨b, 1, none⟩ = some v by rw [Lib.cell_of_heap hb]; rfl)] at hk
    exact hq rfl k (by simpa using hk)
  · left
    rw [← bufOf_eq hb]
    unfold bufOf at hk ⊢
    rwa [World.cell?_setCell_other _ _ _ _ (by first | (simp; done) | (simp; omega))] at hk
theorem Moved.below {B b : Nat} {p h : Value} {l : List UInt8} {w w' : World} (m : Moved b w w') (k : BAt B b p h l w) (hs : B ≤ w.heap.size) : Below B w w' := by
  obtain ⟨hB, v, hb, hown, hn⟩ := k
  refine ⟨m.os, m.tape, m.output, m.size, fun i hi => m.block i (by omega) (by omega) ?_⟩
  rw [bufOf_eq hb]
  intro e
  have := (hown.lt i e).1
  omega
/-- a block of another kind than bytes stays, if it is not the writer's own -/
theorem Moved.keep {B b : Nat} {p h : Value} {l : List UInt8} {w w' : World} (m : Moved b w w') (k : BAt B b p h l w) {i : Nat} {cs : Array Value} {T : TypeId} {fz : Nat × Nat} (hi : w.heap[i]? = some (.cells cs T fz)) (hT : T ≠ 5) (hne : i ≠ b) : w'.heap[i]? = some (.cells cs T fz) := by
  obtain ⟨hB, v, hb, hown, hn⟩ := k
  rw [m.block i (lt_of_heap hi) hne ?_, hi]
  rw [bufOf_eq hb]
  exact neF hown hi hT
end Go.Proofs.Ytnaanahgflbihaa.Oc
