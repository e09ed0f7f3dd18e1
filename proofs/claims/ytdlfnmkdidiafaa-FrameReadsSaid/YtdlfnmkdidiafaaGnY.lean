/- A text's bytes as a slice of their own: []byte(s), turned, and a text again. -/
import Derived.Test.YtdlfnmkdidiafaaGnR
namespace Go.Proofs.Ytdlfnmkdidiafaa
open Go.ChangeShapes Go.WideShapes Go.ChangeAt Go.RowKit Go.Joins
set_option linter.unusedVariables false
set_option linter.unusedSimpArgs false
/-- the cells of block g, from its beginning on, are these bytes, and may be written -/
def Byt (w : World) (g : Nat) (l : List UInt8) : Prop := ∀ j (h : j < l.length), w.cell? ⟨g, j, none⟩ = some (.int .u8 (l[j].toNat : Int)) ∧ w.frozen? ⟨g, j, none⟩ = false
theorem Byt.of_block {w w' : World} {g : Nat} {l : List UInt8} (h : Byt w g l) (e : w'.heap[g]? = w.heap[g]?) : Byt w' g l := fun j hj =>
  ⟨(World.cell?_of_block (w := w) e).trans (h j hj).1, (World.frozen?_of_block (w := w) e).trans (h j hj).2⟩
theorem Byt.lt {w : World} {g : Nat} {l : List UInt8} (h : Byt w g l) (h0 : 0 < l.length) : g < w.heap.size := lt_of_cell (h 0 h0).1
theorem Byt.call {w w' : World} {g : Nat} {l : List UInt8} (h : Byt w g l) (h0 : 0 < l.length) (hb : Below w.heap.size w w') : Byt w' g l := h.of_block (hb.block g (h.lt h0))
theorem Byt.set {w : World} {g : Nat} {l : List UInt8} (h : Byt w g l) {k : Nat} (hk : k < l.length) {x : Int} {v : UInt8} (e : x = (v.toNat : Int)) : Byt (w.setCell ⟨g, k, none⟩ (.int .u8 x)) g (l.set k v) := by
  subst e
  intro j hj
  rw [List.length_set] at hj
  refine ⟨?_, by simp [(h j hj).2]⟩
  by_cases e : j = k
  · subst e; rw [World.cell?_setCell_same _ _ _ (h j hk).1]; simp
  · rw [World.cell?_setCell_other _ _ _ _ (by first | (simp; done) | (simp; omega)), (h j hj).1, List.getElem_set_ne (by omega)]
theorem Byt.text {w : World} {g : Nat} {l : List UInt8} (h : Byt w g l) (cap n : Nat) (hn : n = l.length) :
    (convert 35 9 (.slice (some ⟨g, 0, none⟩) n cap)).run Try.prog w = .ok (.string (mkB l)) w := by
  subst hn
  exact run_convert_bytes_back (P := Try.prog) w 35 9 5 ⟨g, 0, none⟩ cap l Try.underlying35 Try.underlying5 Try.underlying9 (fun j hj => by
    rw [addr_add, Nat.zero_add]; exact (h j hj).1)
theorem cell_alloc (w : World) (C : Array Value) (e : TypeId) (fr : Nat × Nat) (j : Nat) : (w.drew.alloc (.cells C e fr)).cell? ⟨w.heap.size, j, none⟩ = C[j]? := by
  have : (w.drew.alloc (.cells C e fr)).heap[w.heap.size]? = some (.cells C e fr) := by
    show (w.heap.push (.cells C e fr))[w.heap.size]? = _
    simp
  unfold World.cell?
  rw [this]
  rfl
theorem frozen_alloc {w : World} {C : Array Value} {e : TypeId} {a j : Nat} (h : j < a) : (w.drew.alloc (.cells C e (a, a + 1))).frozen? ⟨w.heap.size, j, none⟩ = false := by
  have : (w.drew.alloc (.cells C e (a, a + 1))).heap[w.heap.size]? = some (.cells C e (a, a + 1)) := by
    show (w.heap.push (.cells C e (a, a + 1)))[w.heap.size]? = _
    simp
  unfold World.frozen?
  rw [this]
  simp
  omega
theorem byt_new (w : World) (s : ByteArray) (cap a : Nat) (e : TypeId) (ha : a = (bytesRow s cap).size) : Byt (w.drew.alloc (.cells (bytesRow s cap) e (a, a + 1))) w.heap.size s.data.toList := by
  intro j hj
  have hj' : j < s.size := by simpa using hj
  refine ⟨?_, frozen_alloc (by rw [ha]; unfold bytesRow; simp; omega)⟩
  rw [cell_alloc]
  unfold bytesRow
  rw [Array.getElem?_append_left (by simpa using hj'), Array.getElem?_map]
  have : s.data[j]? = some s.data[j] := Array.getElem?_eq_getElem hj'
  rw [this]
  rfl
theorem bytes_of (X : ByteArray) (W : World) : (convert 9 35 (.string X)).run Try.prog W = .ok (.slice (some ⟨W.heap.size, 0, none⟩) X.size (grownCap W X.size 0 5)) (W.drew.alloc (.cells (bytesRow X (grownCap W X.size 0 5)) 5 ((bytesRow X (grownCap W X.size 0 5)).size, (bytesRow X (grownCap W X.size 0 5)).size + 1))) :=
  run_bytes_of_string (P := Try.prog) W 9 35 5 X Try.underlying9 Try.underlying35 Try.underlying5
end Go.Proofs.Ytdlfnmkdidiafaa
