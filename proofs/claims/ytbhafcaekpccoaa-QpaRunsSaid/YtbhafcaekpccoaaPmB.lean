/- Tasks in memory: a row of them; contracts of package param's lighter, Heavier, order, Row, the document's Row. -/
import Derived.Test.YtbhafcaekpccoaaPmA
namespace Go.Proofs.Ytbhafcaekpccoaa.Pm
open Go.ChangeShapes Go.WideShapes Go.ChangeAt Go.RowKit Go.Joins
set_option maxRecDepth 100000
set_option maxRecDepth 100000
set_option linter.unusedVariables false
set_option linter.unusedSimpArgs false
/-- a task in memory: its five cells from place o of block b on -/
structure TkAt (b o : Nat) (x : Tk) (w : World) : Prop where
  c0 : w.cell? ⟨b, o, none⟩ = some (.int .i64 x.id)
  c1 : w.cell? ⟨b, o + 1, none⟩ = some (.int .i64 x.c)
  c2 : w.cell? ⟨b, o + 2, none⟩ = some (.int .i64 x.d)
  c3 : w.cell? ⟨b, o + 3, none⟩ = some (.int .i64 x.t)
  c4 : w.cell? ⟨b, o + 4, none⟩ = some (.int .i64 x.m)
theorem TkAt.lt {b o : Nat} {x : Tk} {w : World} (h : TkAt b o x w) : b < w.heap.size := World.block_lt_of_cell? _ _ h.c0
theorem TkAt.of_block {b o : Nat} {x : Tk} {w w' : World} (h : TkAt b o x w) (e : w'.heap[b]? = w.heap[b]?) : TkAt b o x w' :=
  ⟨(World.cell?_of_block (w := w) e).trans h.c0, (World.cell?_of_block (w := w) e).trans h.c1, (World.cell?_of_block (w := w) e).trans h.c2, (World.cell?_of_block (w := w) e).trans h.c3, (World.cell?_of_block (w := w) e).trans h.c4⟩
theorem TkAt.below {b o : Nat} {x : Tk} {w w' : World} (h : TkAt b o x w) {B : Nat} (hb : Below B w w') (hl : b < B) : TkAt b o x w' := h.of_block (hb.block b hl)
theorem TkAt.call {b o : Nat} {x : Tk} {w w' : World} (h : TkAt b o x w) (hb : Below w.heap.size w w') : TkAt b o x w' := h.below hb h.lt
/-- what is known of a world, in the place of how it was made -/
theorem name_world {P : Program} {c : Code} {Q : Exit → Act → World → Prop} {a : Act} {w : World} (R : World → Prop) (h : R w) (k : ∀ W, R W → c.wp P Q a W) : c.wp P Q a w := k w h
/-- two tasks, each in a box of its own, behind what was there -/
structure Two (w : World) (a b : Tk) (w' : World) : Prop where
  a : TkAt w.heap.size 0 a w'
  b : TkAt (w.heap.size + 1) 0 b w'
  bel : Below w.heap.size w w'
theorem two_new (w : World) (a b : Tk) {T : TypeId} : Two w a b ((w.alloc (.cells #[.int .i64 a.id, .int .i64 a.c, .int .i64 a.d, .int .i64 a.t, .int .i64 a.m] T)).alloc (.cells #[.int .i64 b.id, .int .i64 b.c, .int .i64 b.d, .int .i64 b.t, .int .i64 b.m] T)) :=
  ⟨⟨by simp [go_sem], by simp [go_sem], by simp [go_sem], by simp [go_sem], by simp [go_sem]⟩, ⟨by simp [go_sem], by simp [go_sem], by simp [go_sem], by simp [go_sem], by simp [go_sem]⟩, below_alloc2 _ _ _⟩
theorem Two.call {w w1 w2 : World} {a b : Tk} (h : Two w a b w1) (hb : Below w1.heap.size w1 w2) : Two w a b w2 :=
  ⟨h.a.call hb, h.b.call hb, h.bel.trans (hb.mono h.bel.size)⟩
theorem wrap_pos {z : Int} (h : 0 ≤ z) (h2 : z ≤ 9223372036854775807) : IntKind.u64.wrap z = z := by rw [IntKind.wrap_u64]; omega
theorem light_eq (a b : Tk) : lessB a.c a.t b.c b.t = light a b := rfl
/-- of two tasks in boxes each one's cells, as the walk asks for them -/
theorem Two.cells {w w' : World} {a b : Tk} (h : Two w a b w') :
    w'.cell? ⟨w.heap.size, 0, none⟩ = some (.int .i64 a.id) ∧ w'.cell? ⟨w.heap.size, 1, none⟩ = some (.int .i64 a.c) ∧ w'.cell? ⟨w.heap.size, 2, none⟩ = some (.int .i64 a.d) ∧ w'.cell? ⟨w.heap.size, 3, none⟩ = some (.int .i64 a.t) ∧ w'.cell? ⟨w.heap.size, 4, none⟩ = some (.int .i64 a.m) ∧
    w'.cell? ⟨w.heap.size + 1, 0, none⟩ = some (.int .i64 b.id) ∧ w'.cell? ⟨w.heap.size + 1, 1, none⟩ = some (.int .i64 b.c) ∧ w'.cell? ⟨w.heap.size + 1, 2, none⟩ = some (.int .i64 b.d) ∧ w'.cell? ⟨w.heap.size + 1, 3, none⟩ = some (.int .i64 b.t) ∧ w'.cell? ⟨w.heap.size + 1, 4, none⟩ = some (.int .i64 b.m) := by
  have := h.a; have := h.b
  exact ⟨h.a.c0, by simpa using h.a.c1, by simpa using h.a.c2, by simpa using h.a.c3, by simpa using h.a.c4, h.b.c0, by simpa using h.b.c1, by simpa using h.b.c2, by simpa using h.b.c3, by simpa using h.b.c4⟩
/-- how two tasks are ordered -/
def ordR (a b : Tk) : Int := if heavy a b then -1 else if heavy b a then 1 else 0
/-- a row of tasks in memory -/
def Ts (ao : Option Addr) (l : List Tk) (w : World) : Prop := 0 < l.length → ∃ b off, ao = some ⟨b, off, none⟩ ∧ b < w.heap.size ∧ ∀ i x, l[i]? = some x → TkAt b (off + i * 5) x w
theorem Ts.of_blocks {ao : Option Addr} {l : List Tk} {w w' : World} (h : Ts ao l w) (hs : w.heap.size ≤ w'.heap.size) (e : ∀ k off, ao = some ⟨k, off, none⟩ → k < w.heap.size → w'.heap[k]? = w.heap[k]?) : Ts ao l w' := fun h0 => by
  obtain ⟨b, off, rfl, hb, hc⟩ := h h0
  exact ⟨b, off, rfl, by omega, fun i x hi => (hc i x hi).of_block (e b off rfl hb)⟩
theorem Ts.call {ao : Option Addr} {l : List Tk} {w w' : World} (h : Ts ao l w) (hb : Below w.heap.size w w') : Ts ao l w' := h.of_blocks hb.size fun k off _ hk => hb.block k hk
theorem Ts.below {ao : Option Addr} {l : List Tk} {w w' : World} (h : Ts ao l w) {B : Nat} (hb : Below B w w') (hB : w.heap.size ≤ B) : Ts ao l w' := h.call (hb.mono hB)
theorem Ts.take {ao : Option Addr} {l : List Tk} {w : World} (h : Ts ao l w) (n : Nat) : Ts ao (l.take n) w := fun h0 => by
  obtain ⟨b, off, rfl, hb, hc⟩ := h (by simp at h0; omega)
  refine ⟨b, off, rfl, hb, fun i x hi => hc i x ?_⟩
  rw [List.getElem?_take] at hi
  split at hi
  · exact hi
  · cases hi
end Go.Proofs.Ytbhafcaekpccoaa.Pm
