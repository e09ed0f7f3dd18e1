/- A disk in memory: its block, its sectors' block, the row of its open writes. -/
import Derived.Test.YtcbemjckcmcelaaGnO
import Derived.Test.YtcbemjckcmcelaaDkMath
import Derived.Deep.WholeRow
import Derived.Deep.MidRow
import Derived.Lib.BufferWrite
import Derived.Lib.UnsafeStr
import Derived.Lib.Builder
import Derived.Laws.IdiomStrings
import Derived.Deep.OwnRows
import Derived.Deep.LoopGhost
import Derived.Deep.QuietTactic
import Derived.BigQuiet
import Derived.StillTailTactics
import Derived.RegionTactic
import Derived.Laws.BitsAll
import Derived.IntWalk
namespace Go.Proofs.Ytcbemjckcmcelaa.Dk
open Go.ChangeShapes Go.WideShapes Go.ChangeAt Go.RowKit Go.Joins
set_option maxRecDepth 100000
set_option linter.unusedVariables false
set_option linter.unusedSimpArgs false
theorem lt_of_cell {w : World} {p : Addr} {v : Value} (h : w.cell? p = some v) : p.block < w.heap.size := by
  rcases Nat.lt_or_ge p.block w.heap.size with h' | h'
  · exact h'
  · exfalso; unfold World.cell? at h; rw [Array.getElem?_eq_none h'] at h; cases h
theorem addr_add (b o j : Nat) : (⟨b, o, none⟩ : Addr).add j = ⟨b, o + j, none⟩ := by unfold Addr.add; split <;> simp_all
def putCells (p : Nat × List UInt8) : List Value := .int .i64 (p.1 : Int) :: Lib.byteCells p.2
def opnCells (O : List (Nat × List UInt8)) : List Value := (O.map putCells).flatten
theorem byteCells_len (l : List UInt8) : (Lib.byteCells l).length = l.length := by simp [Lib.byteCells]
theorem putCells_len {p : Nat × List UInt8} (h : p.2.length = 64) : (putCells p).length = 65 := by simp [putCells, byteCells_len, h]
theorem byteCells_one (l : List UInt8) : ∀ v ∈ Lib.byteCells l, v.oneCell' = true := by
  intro v hv
  simp only [Lib.byteCells, List.mem_map] at hv
  obtain ⟨x, -, rfl⟩ := hv
  rfl
theorem putCells_one (p : Nat × List UInt8) : ∀ v ∈ putCells p, v.oneCell' = true := by
  intro v hv
  simp only [putCells, List.mem_cons] at hv
  rcases hv with rfl | hv
  · rfl
  · exact byteCells_one _ v hv
theorem opnCells_snoc (O : List (Nat × List UInt8)) (p : Nat × List UInt8) : opnCells (O ++ [p]) = opnCells O ++ putCells p := by simp [opnCells]
/-- block g is a row of these bytes, that may be written -/
def RowB (w : World) (g : Nat) (T : TypeId) (l : List UInt8) : Prop := w.heap[g]? = some (.cells (Lib.byteCells l).toArray T (0, 0))
section
variable {w w' : World} {g : Nat} {T : TypeId} {l : List UInt8}
theorem RowB.lt (h : RowB w g T l) : g < w.heap.size := lt_of_heap h
theorem RowB.cell (h : RowB w g T l) {j : Nat} (hj : j < l.length) : w.cell? ⟨g, j, none⟩ = some (.int .u8 (l[j].toNat : Int)) := by
  rw [Lib.cell_of_heap h, List.getElem?_toArray]; simp [Lib.byteCells, hj]
theorem RowB.frozen (h : RowB w g T l) (j : Nat) : w.frozen? ⟨g, j, none⟩ = false := by unfold RowB at h; simp [World.frozen?, h]
theorem RowB.of_block (h : RowB w g T l) (e : w'.heap[g]? = w.heap[g]?) : RowB w' g T l := by unfold RowB at *; rw [e]; exact h
theorem RowB.call (h : RowB w g T l) (hb : Below w.heap.size w w') : RowB w' g T l := h.of_block (hb.block g h.lt)
theorem RowB.put (h : RowB w g T l) (m : List UInt8) : RowB (w.setRow g (Lib.byteCells m).toArray) g T m := setRow_heap _ _ _ _ _ _ h
theorem RowB.range (h : RowB w g T l) (o n : Nat) (hn : o + n ≤ l.length) : w.rangeAt g o (Lib.byteCells ((l.drop o).take n)) := fun j v hv => by
  have hj : j < n := by have := (List.getElem?_eq_some_iff.1 hv).1; simp [byteCells_len] at this; omega
  rw [h.cell (by omega)]
  simp [Lib.byteCells, hj, show o + j < l.length by omega] at hv
  rw [← hv]
theorem RowB.set (h : RowB w g T l) {j : Nat} {x : Int} {v : UInt8} (e : x = (v.toNat : Int)) : RowB (w.setCell ⟨g, j, none⟩ (.int .u8 x)) g T (l.set j v) := by
  subst e
  rw [setCell_eq_setRow w g j _ T (0, 0) _ h]
  have : (Lib.byteCells l).toArray.setIfInBounds j (.int .u8 (v.toNat : Int)) = (Lib.byteCells (l.set j v)).toArray := by simp [Lib.byteCells, List.map_set]
  rw [this]
  exact h.put _
/-- its bytes as a text -/
theorem RowB.text (h : RowB w g T l) (o n cap : Nat) (hn : o + n ≤ l.length) :
    (convert 55 9 (.slice (some ⟨g, o, none⟩) n cap)).run Try.prog w = .ok (.string (mkB ((l.drop o).take n))) w := by
  have hl : ((l.drop o).take n).length = n := by simp; omega
  have := run_convert_bytes_back (P := Try.prog) w 55 9 5 ⟨g, o, none⟩ cap ((l.drop o).take n) Try.underlying55 Try.underlying5 Try.underlying9 (fun j hj => by
    rw [hl] at hj
    rw [addr_add, h.cell (by omega)]
    simp)
  rw [hl] at this
  exact this
end
theorem rowB_new (w : World) (l : List UInt8) (T : TypeId) : RowB (w.alloc (.cells (Lib.byteCells l).toArray T)) w.heap.size T l := heap_alloc_new _ _
/-- a disk at block b: g its sectors' block, v the row of its open writes -/
structure DkAt (B b g : Nat) (v : Value) (s : DS) (w : World) : Prop where
  ok : s.Ok
  hb : B ≤ b
  hg : B ≤ g
  blk : w.heap[b]? = some (.cells #[.slice (some ⟨g, 0, none⟩) s.sec.length s.sec.length, v, .int .i64 (s.fail : Int), .int .i64 (s.reads : Int)] 62 (0, 0))
  row : RowB w g 84 s.sec.flatten
  own : w.ownsRow B 86 65 v s.opn.length (opnCells s.opn)
def Dk (B b : Nat) (s : DS) (w : World) : Prop := ∃ g v, DkAt B b g v s w
section
variable {B b g : Nat} {v : Value} {s : DS} {w w' : World}
theorem DkAt.lt (h : DkAt B b g v s w) : b < w.heap.size := lt_of_heap h.blk
theorem DkAt.le (h : DkAt B b g v s w) : B ≤ w.heap.size := by have := h.lt; have := h.hb; omega
theorem DkAt.ne (h : DkAt B b g v s w) : g ≠ b := by
  intro e
  have h1 := h.row
  have h2 := h.blk
  unfold RowB at h1
  rw [e, h2] at h1
  simp only [Option.some.injEq, Obj.cells.injEq] at h1
  exact absurd h1.2.1 (by decide)
theorem DkAt.c0 (h : DkAt B b g v s w) : w.cell? ⟨b, 0, none⟩ = some (.slice (some ⟨g, 0, none⟩) s.sec.length s.sec.length) := by rw [Lib.cell_of_heap h.blk]; rfl
theorem DkAt.c1 (h : DkAt B b g v s w) : w.cell? ⟨b, 1, none⟩ = some v := by rw [Lib.cell_of_heap h.blk]; rfl
theorem DkAt.c2 (h : DkAt B b g v s w) : w.cell? ⟨b, 2, none⟩ = some (.int .i64 (s.fail : Int)) := by rw [Lib.cell_of_heap h.blk]; rfl
theorem DkAt.c3 (h : DkAt B b g v s w) : w.cell? ⟨b, 3, none⟩ = some (.int .i64 (s.reads : Int)) := by rw [Lib.cell_of_heap h.blk]; rfl
theorem DkAt.fz (h : DkAt B b g v s w) (o : Nat) : w.frozen? ⟨b, o, none⟩ = false := Lib.frozen_of_heap h.blk o
theorem DkAt.ownBlock (h : DkAt B b g v s w) {k : Nat} (e : v.ownBlock = some k) : ∃ cur, w.heap[k]? = some (.cells cur 86 (0, 0)) := by
  rcases h.own.2 with ⟨rfl, _⟩ | ⟨g', cap, cur, rfl, _, hg, _⟩
  · simp [Value.ownBlock] at e
  · simp [Value.ownBlock] at e; subst e; exact ⟨cur, hg⟩
theorem DkAt.ownNe (h : DkAt B b g v s w) {k : Nat} (e : v.ownBlock = some k) : k ≠ b ∧ k ≠ g := by
  obtain ⟨cur, hk⟩ := h.ownBlock e
  constructor
  · rintro rfl
    have h2 := h.blk
    rw [hk] at h2
    simp only [Option.some.injEq, Obj.cells.injEq] at h2
    exact absurd h2.2.1 (by decide)
  · rintro rfl
    have h2 := h.row
    unfold RowB at h2
    rw [hk] at h2
    simp only [Option.some.injEq, Obj.cells.injEq] at h2
    exact absurd h2.2.1 (by decide)
theorem DkAt.owns (h : DkAt B b g v s w) {k : Nat} : Own w b k ↔ k = b ∨ k = g ∨ v.ownBlock = some k := by
  unfold Own
  rw [h.c0, h.c1]
  simp [Value.ownBlock]
  constructor
  · rintro (h | h | h)
    · exact .inl h
    · exact .inr (.inl h.symm)
    · exact .inr (.inr h)
  · rintro (h | h | h)
    · exact .inl h
    · exact .inr (.inl h.symm)
    · exact .inr (.inr h)
theorem DkAt.ownLt (h : DkAt B b g v s w) {k : Nat} (e : Own w b k) : B ≤ k ∧ k < w.heap.size := by
  rcases h.owns.1 e with rfl | rfl | e
  · exact ⟨h.hb, h.lt⟩
  · exact ⟨h.hg, h.row.lt⟩
  · exact h.own.lt k e
/-- what a call that leaves these blocks leaves of it -/
theorem DkAt.of_blocks (h : DkAt B b g v s w) (e : ∀ k, Own w b k → w'.heap[k]? = w.heap[k]?) : DkAt B b g v s w' := by
  refine ⟨h.ok, h.hb, h.hg, by rw [e b (.inl rfl)]; exact h.blk, h.row.of_block (e g (h.owns.2 (.inr (.inl rfl)))), h.own.1, ?_⟩
  rcases h.own.2 with hn | ⟨g', cap, cur, rfl, hB, hg, rest⟩
  · exact .inl hn
  · exact .inr ⟨g', cap, cur, rfl, hB, by rw [e g' (h.owns.2 (.inr (.inr rfl)))]; exact hg, rest⟩
theorem DkAt.call (h : DkAt B b g v s w) (hb : Below w.heap.size w w') : DkAt B b g v s w' := h.of_blocks fun k hk => hb.block k (h.ownLt hk).2
theorem DkAt.drew (h : DkAt B b g v s w) : DkAt B b g v s w.drew := h.of_blocks fun _ _ => rfl
theorem DkAt.alloc (h : DkAt B b g v s w) (o : Obj) : DkAt B b g v s (w.alloc o) := h.call ((Below.refl _ _).alloc (Nat.le_refl _) _)
theorem Dk.call (h : Dk B b s w) (hb : Below w.heap.size w w') : Dk B b s w' := by obtain ⟨g, v, h⟩ := h; exact ⟨g, v, h.call hb⟩
theorem Dk.lt (h : Dk B b s w) : b < w.heap.size := by obtain ⟨g, v, h⟩ := h; exact h.lt
theorem Dk.ok (h : Dk B b s w) : s.Ok := by obtain ⟨g, v, h⟩ := h; exact h.ok
theorem Dk.le (h : Dk B b s w) : B ≤ w.heap.size := by obtain ⟨g, v, h⟩ := h; exact h.le
theorem Dk.ownLt (h : Dk B b s w) {k : Nat} (e : Own w b k) : B ≤ k ∧ k < w.heap.size := by obtain ⟨g, v, h⟩ := h; exact h.ownLt e
/-- another one's call -/
theorem Dk.moved {c : Nat} (h : Dk B b s w) (m : Moved c w w') (ha : ∀ k, Own w b k → ¬ Own w c k) : Dk B b s w' := by
  obtain ⟨g, v, h⟩ := h
  exact ⟨g, v, h.of_blocks fun k hk => m.block k (h.ownLt hk).2 (ha k hk)⟩
/-- all that lies below B stays -/
theorem Moved.below (m : Moved b w w') (h : ∀ k, Own w b k → B ≤ k) (hs : B ≤ w.heap.size) : Below B w w' :=
  ⟨m.os, m.tape, m.output, m.size, fun k hk => m.block k (by omega) (fun e => by have := h k e; omega)⟩
theorem Dk.below (h : Dk B b s w) (m : Moved b w w') : Below B w w' := m.below (fun k hk => (h.ownLt hk).1) h.le
/-- a block that is none of a disk's stays -/
theorem DkAt.keepT (h : DkAt B b g v s w) {k : Nat} {cs : Array Value} {T : TypeId} {fz : Nat × Nat} (hk : w.heap[k]? = some (.cells cs T fz)) (h1 : T ≠ 62) (h2 : T ≠ 84) (h3 : T ≠ 86) : ¬ Own w b k := by
  intro e
  rcases h.owns.1 e with rfl | rfl | e
  · have := h.blk; rw [hk] at this; simp only [Option.some.injEq, Obj.cells.injEq] at this; exact h1 this.2.1
  · have := h.row; unfold RowB at this; rw [hk] at this; simp only [Option.some.injEq, Obj.cells.injEq] at this; exact h2 this.2.1
  · obtain ⟨cur, hc⟩ := h.ownBlock e; rw [hk] at hc; simp only [Option.some.injEq, Obj.cells.injEq] at hc; exact h3 hc.2.1
theorem Dk.keep (h : Dk B b s w) (m : Moved b w w') {k : Nat} {cs : Array Value} {T : TypeId} {fz : Nat × Nat} (hk : w.heap[k]? = some (.cells cs T fz)) (h1 : T ≠ 62) (h2 : T ≠ 84) (h3 : T ≠ 86) : w'.heap[k]? = some (.cells cs T fz) := by
  obtain ⟨g, v, h⟩ := h
  rw [m.block k (lt_of_heap hk) (h.keepT hk h1 h2 h3)]; exact hk
/-- other numbers in its last two cells -/
theorem DkAt.setFail (h : DkAt B b g v s w) {x : Int} {f : Nat} (e : x = (f : Int)) : DkAt B b g v ⟨s.sec, s.opn, f, s.reads⟩ (w.setCell ⟨b, 2, none⟩ (.int .i64 x)) := by
  subst e
  have hne := h.ne
  refine ⟨h.ok.with _ _, h.hb, h.hg, by simp [World.setCell, Array.getElem?_modify, h.blk], h.row.of_block (Below.heap_setCell _ _ _ _ hne), h.own.kept (row := some b) ⟨rfl, rfl, rfl, by simp [World.setCell], fun k _ hk => Below.heap_setCell _ _ _ _ (fun e => hk (by simp [e]))⟩ ?_⟩
  exact .inr (fun e => (h.ownNe e).1 rfl)
theorem DkAt.setReads (h : DkAt B b g v s w) {x : Int} {f : Nat} (e : x = (f : Int)) : DkAt B b g v ⟨s.sec, s.opn, s.fail, f⟩ (w.setCell ⟨b, 3, none⟩ (.int .i64 x)) := by
  subst e
  have hne := h.ne
  refine ⟨h.ok.with _ _, h.hb, h.hg, by simp [World.setCell, Array.getElem?_modify, h.blk], h.row.of_block (Below.heap_setCell _ _ _ _ hne), h.own.kept (row := some b) ⟨rfl, rfl, rfl, by simp [World.setCell], fun k _ hk => Below.heap_setCell _ _ _ _ (fun e => hk (by simp [e]))⟩ ?_⟩
  exact .inr (fun e => (h.ownNe e).1 rfl)
theorem movedFail (h : DkAt B b g v s w) (x : Int) : Moved b w (w.setCell ⟨b, 2, none⟩ (.int .i64 x)) := (Moved.refl b w).set h.c2 (fun k hk _ => by simp [Value.ownBlock] at hk)
theorem movedReads (h : DkAt B b g v s w) (x : Int) : Moved b w (w.setCell ⟨b, 3, none⟩ (.int .i64 x)) := (Moved.refl b w).set h.c3 (fun k hk _ => by simp [Value.ownBlock] at hk)
/-- a write's cells -/
theorem opn_len (h : s.Ok) : ∀ x ∈ s.opn.map putCells, x.length = 65 := by
  intro x hx
  simp only [List.mem_map] at hx
  obtain ⟨p, hp, rfl⟩ := hx
  exact putCells_len (h.opn p hp).2
theorem DkAt.slice (h : DkAt B b g v s w) (hp : 0 < s.opn.length) : ∃ k cap, v = .slice (some ⟨k, 0, none⟩) s.opn.length cap ∧ s.opn.length ≤ cap ∧ k < w.heap.size := by
  rcases h.own.2 with ⟨_, h0⟩ | ⟨g', cap, cur, rfl, hB, hg, hc, rest⟩
  · omega
  · exact ⟨g', cap, rfl, hc, lt_of_heap hg⟩
theorem DkAt.put (h : DkAt B b g v s w) {k cap : Nat} (e : v = .slice (some ⟨k, 0, none⟩) s.opn.length cap) {i : Nat} (hi : i < s.opn.length) : w.rangeAt k (i * 65) (putCells s.opn[i]) := by
  subst e
  rw [Nat.mul_comm]
  intro j u hu
  have hj : j < 65 := by have := (List.getElem?_eq_some_iff.1 hu).1; rwa [putCells_len (h.ok.opn _ (List.getElem_mem hi)).2] at this
  rw [h.own.cellAt (65 * i + j) (by omega)]
  have := flat_get (opn_len h.ok) (i := i) (j := j) (by simpa using hi) hj
  unfold opnCells
  rw [this]
  simpa using hu
theorem DkAt.sect (h : DkAt B b g v s w) {i : Nat} (hi : i < s.sec.length) : w.rangeAt g (i * 64) (Lib.byteCells s.sec[i]) := by
  rw [Nat.mul_comm]
  have := h.row.range (64 * i) 64 (by rw [flat_len h.ok.sec]; omega)
  rwa [flat_sub h.ok.sec hi] at this
end
end Go.Proofs.Ytcbemjckcmcelaa.Dk
