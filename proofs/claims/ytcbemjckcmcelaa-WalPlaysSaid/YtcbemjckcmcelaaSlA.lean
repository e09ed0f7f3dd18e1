/- Two slots in memory; contracts of package slots' small functions. -/
import Derived.Test.YtcbemjckcmcelaaMDb
import Derived.Test.YtcbemjckcmcelaaMFr
namespace Go.Proofs.Ytcbemjckcmcelaa.Sl
open Go.ChangeShapes Go.WideShapes Go.ChangeAt Go.RowKit Go.Joins
open Dk (Dk DS Own Moved ptr)
set_option maxRecDepth 100000
set_option linter.unusedVariables false
set_option linter.unusedSimpArgs false
/-- what two slots know: where, how many sectors each, whether they were read, the newest epoch, where the next one goes -/
structure SS where
  at_ : Nat
  k : Nat
  rd : Bool
  nw : Nat
  nx : Nat
def cellsOf (b : Nat) (t : SS) : Array Value := #[ptr b, .int .i64 (t.at_ : Int), .int .i64 (t.k : Int), .bool t.rd, .int .u64 (t.nw : Int), .int .i64 (t.nx : Int)]
variable {q b : Nat} {t : SS} {w w' : World}
/-- of what was there only what disk b owns, and block q, have turned -/
structure Mv (b q : Nat) (w w' : World) : Prop where
  os : w'.os = w.os
  tape : w'.tape = w.tape
  output : w'.output = w.output
  size : w.heap.size ≤ w'.heap.size
  block : ∀ k, k < w.heap.size → ¬ Own w b k → k ≠ q → w'.heap[k]? = w.heap[k]?
  own : ∀ k, Own w' b k → Own w b k ∨ w.heap.size ≤ k
section
variable {b q B : Nat} {u v w w' : World}
theorem Mv.of_moved (m : Moved b w w') : Mv b q w w' := ⟨m.os, m.tape, m.output, m.size, fun k hk hn _ => m.block k hk hn, m.own⟩
theorem Mv.refl (b q : Nat) (w : World) : Mv b q w w := .of_moved (Moved.refl b w)
theorem Mv.trans (h : Mv b q u v) (k : Mv b q v w) : Mv b q u w := by
  refine ⟨k.os.trans h.os, k.tape.trans h.tape, k.output.trans h.output, Nat.le_trans h.size k.size, fun i hi hn hq => ?_, fun i hi => ?_⟩
  · rw [k.block i (Nat.lt_of_lt_of_le hi h.size) ?_ hq, h.block i hi hn hq]
    intro e
    rcases h.own i e with e | e
    · exact hn e
    · omega
  · rcases k.own i hi with e | e
    · exact h.own i e
    · exact .inr (Nat.le_trans h.size e)
theorem Mv.call (h : Mv b q u w) (hb : Below w.heap.size w w') (hl : b < w.heap.size) : Mv b q u w' := h.trans (.of_moved (.of_below hb hl))
theorem Mv.moved (h : Mv b q u w) (m : Moved b w w') : Mv b q u w' := h.trans (.of_moved m)
theorem Mv.drew (h : Mv b q u w) : Mv b q u w.drew := h.trans (.of_moved (Moved.refl b w).drew)
theorem Mv.alloc (h : Mv b q u w) (hl : b < w.heap.size) (o : Obj) : Mv b q u (w.alloc o) := h.trans (.of_moved ((Moved.refl b w).alloc hl o))
/-- a store into block q -/
theorem Mv.set (h : Mv b q u w) (hn : q ≠ b) (o : Nat) (x : Value) : Mv b q u (w.setCell ⟨q, o, none⟩ x) := by
  refine h.trans ⟨rfl, rfl, rfl, by simp [World.setCell], fun k _ _ hk => Below.heap_setCell w ⟨q, o, none⟩ x k hk, fun k hk => .inl (hk.of_block (Below.heap_setCell w ⟨q, o, none⟩ x b (Ne.symm hn)))⟩
/-- a store into a block that is new -/
theorem Mv.setNew (h : Mv b q u w) (hu : b < u.heap.size) {p : Nat} (hp : u.heap.size ≤ p) (o : Nat) (x : Value) : Mv b q u (w.setCell ⟨p, o, none⟩ x) := by
  have hb : b ≠ p := by omega
  refine ⟨h.os, h.tape, h.output, by simpa [World.setCell] using h.size, fun k hk hn hq => ?_, fun k hk => h.own k (hk.of_block (Below.heap_setCell w ⟨p, o, none⟩ x b hb))⟩
  rw [Below.heap_setCell w ⟨p, o, none⟩ x k (by show k ≠ p; omega)]
  exact h.block k hk hn hq
theorem Mv.below (m : Mv b q w w') (h : ∀ k, Own w b k → B ≤ k) (hs : B ≤ w.heap.size) (hq : B ≤ q) : Below B w w' :=
  ⟨m.os, m.tape, m.output, m.size, fun k hk => m.block k (by omega) (fun e => by have := h k e; omega) (by omega)⟩
theorem Mv.belowD {s : DS} (m : Mv b q w w') (h : Dk B b s w) (hq : B ≤ q) : Below B w w' := m.below (fun k hk => (h.ownLt hk).1) h.le hq
theorem Mv.keep {s : DS} {k : Nat} {cs : Array Value} {T : TypeId} {fz : Nat × Nat} (m : Mv b q w w') (h : Dk B b s w) (hk : w.heap[k]? = some (.cells cs T fz)) (hq : k ≠ q) (h1 : T ≠ 62) (h2 : T ≠ 84) (h3 : T ≠ 86) : w'.heap[k]? = some (.cells cs T fz) := by
  obtain ⟨g, v, h⟩ := h
  rw [m.block k (Dk.lt_of_heap hk) (h.keepT hk h1 h2 h3) hq]; exact hk
end
theorem Dk_setOther {B b q o : Nat} {s : DS} {w : World} {v : Value} (h : Dk B b s w) (hq : ¬ Own w b q) : Dk B b s (w.setCell ⟨q, o, none⟩ v) := by
  obtain ⟨g, u, h⟩ := h
  exact ⟨g, u, h.of_blocks fun k hk => Below.heap_setCell w ⟨q, o, none⟩ v k (fun e => hq (by have e' : k = q := e; rw [← e']; exact hk))⟩
theorem below_drewN (w : World) (n : Nat) : Below w.heap.size w (w.drewN n) := ⟨rfl, rfl, rfl, by simp, fun k _ => by simp⟩
/-- where slots may be -/
def May (n : Nat) (a k : Int) : Prop := 0 ≤ a ∧ 1 ≤ k ∧ k ≤ 64 ∧ a ≤ n - 2 * k
instance (n : Nat) (a k : Int) : Decidable (May n a k) := by unfold May; infer_instance
end Go.Proofs.Ytcbemjckcmcelaa.Sl
