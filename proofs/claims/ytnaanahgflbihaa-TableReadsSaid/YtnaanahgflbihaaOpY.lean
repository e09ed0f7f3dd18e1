/- A text's bytes as a slice of their own: []byte(s), turned, and a text again; the law's arguments in memory. -/
import Derived.Test.YtnaanahgflbihaaOpX
import Derived.Laws.BitsAll
namespace Go.Proofs.Ytnaanahgflbihaa.Ox
open Go.ChangeShapes Go.WideShapes Go.ChangeAt Go.RowKit Go.Joins
open Oc
open Pm (Tk chk chk_iff I64)
set_option maxRecDepth 100000
set_option maxRecDepth 100000
set_option linter.unusedVariables false
set_option linter.unusedSimpArgs false
/-- the cells of block g, from its beginning on, are these bytes, and may be written -/
def Byt (w : World) (g : Nat) (l : List UInt8) : Prop := ∀ j (h : j < l.length), w.cell? ⟨g, j, none⟩ = some (.int .u8 (l[j].toNat : Int)) ∧ w.frozen? ⟨g, j, none⟩ = false
theorem Byt.of_block {w w' : World} {g : Nat} {l : List UInt8} (h : Byt w g l) (e : w'.heap[g]? = w.heap[g]?) : Byt w' g l := fun j hj =>
  ⟨(World.cell?_of_block (w := w) e).trans (h j hj).1, (World.frozen?_of_block (w := w) e).trans (h j hj).2⟩
theorem Byt.lt {w : World} {g : Nat} {l : List UInt8} (h : Byt w g l) (h0 : 0 < l.length) : g < w.heap.size := World.block_lt_of_cell? _ _ (h 0 h0).1
theorem Byt.call {w w' : World} {g : Nat} {l : List UInt8} (h : Byt w g l) (h0 : 0 < l.length) (hb : Below w.heap.size w w') : Byt w' g l := h.of_block (hb.block g (h.lt h0))
theorem Byt.set {w : World} {g : Nat} {l : List UInt8} (h : Byt w g l) {k : Nat} (hk : k < l.length) {x : Int} {v : UInt8} (e : x = (v.toNat : Int)) : Byt (w.setCell ⟨g, k, none⟩ (.int .u8 x)) g (l.set k v) := by
  subst e
  intro j hj
  rw [List.length_set] at hj
  refine ⟨?_, by simp [(h j hj).2]⟩
  by_cases e : j = k
  · subst e; rw [World.cell?_setCell_same _ _ _ (h j hk).1]; simp
  · rw [World.cell?_setCell_other _ _ _ _ (by first | (simp; done) | (simp; omega)), (h j hj).1, List.getElem_set_ne (by omega)]
theorem Byt.text {w : World} {g : Nat} {l : List UInt8} (h : Byt w g l) (cap n : Nat) (hn : n = l.length) :
    (convert 46 9 (.slice (some ⟨g, 0, none⟩) n cap)).run Try.prog w = .ok (.string (mkB l)) w := by
  subst hn
  exact run_convert_bytes_back (P := Try.prog) w 46 9 5 ⟨g, 0, none⟩ cap l Try.underlying46 Try.underlying5 Try.underlying9 (fun j hj => by
    rw [addr_add, Nat.zero_add]; exact (h j hj).1)
theorem cell_alloc (w : World) (C : Array Value) (e : TypeId) (fr : Nat × Nat) (j : Nat) : (w.drew.alloc (.cells C e fr)).cell? ⟨w.heap.size, j, none⟩ = C[j]? := by
  have : (w.drew.alloc (.cells C e fr)).heap[w.heap.size]? = some (.cells C e fr) := by
    show (w.heap.push (.cells C e fr))[w.heap.size]? = _
    simp
  unfold World.cell?
  rw [this]
  rfl
theorem frozen_alloc {w : World} {C : Array Value} {e : TypeId} {a j : Nat} (h : j < a) : (w.drew.alloc (.cells C e (a, a + 1))).frozen? ⟨w.heap.size, j, none⟩ = false := by
  have : (w.drew.alloc (.cells C e (a, a + 1))).heap[w.heap.size]? = some (.cells C e (a, a + 1)) := by
    show (w.heap.push (.cells C e (a, a + 1)))[w.heap.size]? = _
    simp
  unfold World.frozen?
  rw [this]
  simp
  omega
theorem byt_new (w : World) (s : ByteArray) (cap a : Nat) (e : TypeId) (ha : a = (bytesRow s cap).size) : Byt (w.drew.alloc (.cells (bytesRow s cap) e (a, a + 1))) w.heap.size s.data.toList := by
  intro j hj
  have hj' : j < s.size := by simpa using hj
  refine ⟨?_, frozen_alloc (by rw [ha]; unfold bytesRow; simp; omega)⟩
  rw [cell_alloc]
  unfold bytesRow
  rw [Array.getElem?_append_left (by simpa using hj'), Array.getElem?_map]
  have : s.data[j]? = some s.data[j] := Array.getElem?_eq_getElem hj'
  rw [this]
  rfl
theorem bytes_of (X : ByteArray) (W : World) : (convert 9 46 (.string X)).run Try.prog W = .ok (.slice (some ⟨W.heap.size, 0, none⟩) X.size (grownCap W X.size 0 5)) (W.drew.alloc (.cells (bytesRow X (grownCap W X.size 0 5)) 5 ((bytesRow X (grownCap W X.size 0 5)).size, (bytesRow X (grownCap W X.size 0 5)).size + 1))) :=
  run_bytes_of_string (P := Try.prog) W 9 46 5 X Try.underlying9 Try.underlying46 Try.underlying5

/-- the arguments in memory: an op, and three numbers -/
structure Ar3 (w : World) (cs : Array Value) (a b c : Int) (W : World) : Prop where
  o : W.heap[w.heap.size]? = some (.cells cs 29 (0, 0))
  q : W.heap[w.heap.size + 1]? = some (.cells #[.int .i64 a, .int .i64 b, .int .i64 c] 41 (0, 0))
  bl : Below w.heap.size w W
section
variable {w W W' : World} {cs : Array Value} {a b c : Int}
theorem Ar3.call (h : Ar3 w cs a b c W) (k : Below W.heap.size W W') : Ar3 w cs a b c W' := ⟨(k.block _ (lt_of_heap h.o)).trans h.o, (k.block _ (lt_of_heap h.q)).trans h.q, h.bl.trans (k.mono h.bl.size)⟩
theorem Ar3.lt (h : Ar3 w cs a b c W) : w.heap.size + 1 < W.heap.size := lt_of_heap h.q
theorem Ar3.set {g k : Nat} {v : Value} (h : Ar3 w cs a b c W) (hg : w.heap.size + 1 < g) : Ar3 w cs a b c (W.setCell ⟨g, k, none⟩ v) := by
  have k2 : ∀ i, i ≠ g → (W.setCell ⟨g, k, none⟩ v).heap[i]? = W.heap[i]? := fun i hi => Below.heap_setCell W ⟨g, k, none⟩ v i hi
  exact ⟨(k2 _ (by omega)).trans h.o, (k2 _ (by omega)).trans h.q, h.bl.setCell (by show w.heap.size ≤ g; omega) _⟩
theorem Ar3.q0 (h : Ar3 w cs a b c W) : W.cell? ⟨w.heap.size + 1, 0, none⟩ = some (.int .i64 a) := by rw [Lib.cell_of_heap h.q]; rfl
theorem Ar3.q1 (h : Ar3 w cs a b c W) : W.cell? ⟨w.heap.size + 1, 1, none⟩ = some (.int .i64 b) := by rw [Lib.cell_of_heap h.q]; rfl
theorem Ar3.q2 (h : Ar3 w cs a b c W) : W.cell? ⟨w.heap.size + 1, 2, none⟩ = some (.int .i64 c) := by rw [Lib.cell_of_heap h.q]; rfl
theorem Ar3.oc (h : Ar3 w cs a b c W) (j : Nat) : W.cell? ⟨w.heap.size, j, none⟩ = cs[j]? := by rw [Lib.cell_of_heap h.o]
end
theorem ar3_new (w : World) (cs : Array Value) (a b c : Int) : Ar3 w cs a b c ((w.alloc (.cells cs 29)).alloc (.cells #[.int .i64 a, .int .i64 b, .int .i64 c] 41)) := by
  have h2 : Below (w.alloc (.cells cs 29)).heap.size (w.alloc (.cells cs 29)) ((w.alloc (.cells cs 29)).alloc (.cells #[.int .i64 a, .int .i64 b, .int .i64 c] 41)) := (Below.refl _ _).alloc (Nat.le_refl _) _
  refine ⟨(h2.block _ (by simp)).trans (heap_alloc_new _ _), ?_, ((Below.refl _ _).alloc (Nat.le_refl _) _).alloc (by simp) _⟩
  have := heap_alloc_new (w.alloc (.cells cs 29)) (.cells #[.int .i64 a, .int .i64 b, .int .i64 c] 41)
  rwa [World.size_alloc] at this
theorem rem_pos (a : Int) (m : Int) (hm : 0 < m) : ∃ k : Nat, (a.tmod m + m).tmod m = (k : Int) ∧ (a.tmod m + m) % m = (k : Int) ∧ (k : Int) < m ∧ -m < a.tmod m ∧ a.tmod m < m := by
  have h1 := Int.tmod_lt_of_pos a hm
  have h2 := Int.lt_tmod_of_pos a hm
  have k0 : 0 ≤ (a.tmod m + m) % m := Int.emod_nonneg _ (by omega)
  have k1 : (a.tmod m + m) % m < m := Int.emod_lt_of_pos _ hm
  obtain ⟨k, hk⟩ := Int.eq_ofNat_of_zero_le k0
  exact ⟨k, by rw [Int.tmod_eq_emod_of_nonneg (by omega)]; exact hk, hk, by rw [← hk]; exact k1, h2, h1⟩
theorem encO_pos {o : Od} (h : chkR o = true) : 0 < (encO o).length := by
  rw [← enc_of h, List.length_append]
  have : 0 < (encInt o.kind).length := by unfold encInt enc; simp
  omega
end Go.Proofs.Ytnaanahgflbihaa.Ox
