/- Rows of bytes in memory: a block whose cells are the bytes of a list. -/
import Derived.Test.YtcbemjckcmcelaaGnB
import Derived.Test.YtcbemjckcmcelaaCcK
import Derived.Lib.BufferWrite
import Derived.Lib.UnsafeStr
import Derived.Lib.Builder
import Derived.Laws.IdiomStrings
import Derived.Deep.OwnRows
import Derived.Laws.MakeOwn
namespace Go.Proofs.Ytcbemjckcmcelaa
open Go.ChangeShapes Go.WideShapes Go.ChangeAt Go.RowKit Go.Joins
set_option maxRecDepth 100000
set_option linter.unusedVariables false
set_option linter.unusedSimpArgs false
theorem infoByte : (Try.prog.info? 5).map (fun i => (i.zero, i.size, i.bytes)) = some (some (.int .u8 0), 1, 1) := by kernel_rfl
theorem sizeByte : (Try.prog.info? 5).map (·.size) = some 1 := by kernel_rfl
theorem cellsByte : Try.prog.cellsOf 5 = 1 := by kernel_rfl
/-- block g is a row of these bytes, that may be written -/
def RowB (w : World) (g : Nat) (T : TypeId) (l : List UInt8) : Prop := w.heap[g]? = some (.cells (Lib.byteCells l).toArray T (0, 0))
theorem byteCells_get {l : List UInt8} {j : Nat} (h : j < l.length) : (Lib.byteCells l)[j]? = some (.int .u8 (l[j].toNat : Int)) := by simp [Lib.byteCells, h]
theorem byteCells_set (l : List UInt8) (j : Nat) (v : UInt8) : Lib.byteCells (l.set j v) = (Lib.byteCells l).set j (.int .u8 (v.toNat : Int)) := by simp [Lib.byteCells, List.map_set]
theorem byteCells_take (l : List UInt8) (j : Nat) : Lib.byteCells (l.take j) = (Lib.byteCells l).take j := by simp [Lib.byteCells]
theorem byteCells_drop (l : List UInt8) (j : Nat) : Lib.byteCells (l.drop j) = (Lib.byteCells l).drop j := by simp [Lib.byteCells]
section
variable {w w' : World} {g : Nat} {T : TypeId} {l : List UInt8}
theorem RowB.lt (h : RowB w g T l) : g < w.heap.size := (Array.getElem?_eq_some_iff.1 h).1
theorem RowB.cell (h : RowB w g T l) {j : Nat} (hj : j < l.length) : w.cell? ⟨g, j, none⟩ = some (.int .u8 (l[j].toNat : Int)) := by
  rw [Lib.cell_of_heap h, List.getElem?_toArray, byteCells_get hj]
theorem RowB.frozen (h : RowB w g T l) (j : Nat) : w.frozen? ⟨g, j, none⟩ = false := by unfold RowB at h; simp [World.frozen?, h]
theorem RowB.of_block (h : RowB w g T l) (e : w'.heap[g]? = w.heap[g]?) : RowB w' g T l := by unfold RowB at *; rw [e]; exact h
theorem RowB.call (h : RowB w g T l) (hb : Below w.heap.size w w') : RowB w' g T l := h.of_block (hb.block g h.lt)
theorem RowB.apart {b : Nat} (h : RowB w g T l) (hb : Apart b w w') (hn : g ≠ b) : RowB w' g T l := h.of_block (hb.block g h.lt hn)
theorem RowB.drew (h : RowB w g T l) : RowB w.drew g T l := h.of_block rfl
theorem RowB.alloc (h : RowB w g T l) (o : Obj) : RowB (w.alloc o) g T l := h.of_block (Below.heap_alloc _ _ _ h.lt)
theorem RowB.setOther {p : Addr} (h : RowB w g T l) (hp : g ≠ p.block) (v : Value) : RowB (w.setCell p v) g T l := h.of_block (Below.heap_setCell _ _ _ _ hp)
theorem RowB.put (h : RowB w g T l) (m : List UInt8) : RowB (w.setRow g (Lib.byteCells m).toArray) g T m := setRow_heap _ _ _ _ _ _ h
theorem RowB.set (h : RowB w g T l) {j : Nat} {x : Int} {v : UInt8} (e : x = (v.toNat : Int)) : RowB (w.setCell ⟨g, j, none⟩ (.int .u8 x)) g T (l.set j v) := by
  subst e
  rw [setCell_eq_setRow w g j _ T (0, 0) _ h]
  have : (Lib.byteCells l).toArray.setIfInBounds j (.int .u8 (v.toNat : Int)) = (Lib.byteCells (l.set j v)).toArray := by rw [byteCells_set]; simp
  rw [this]
  exact h.put _
theorem RowB.apart_put (h : RowB w g T l) (m : List UInt8) : Apart g w (w.setRow g (Lib.byteCells m).toArray) :=
  ⟨rfl, rfl, rfl, by simp, fun k hk hn => setRow_other _ _ _ _ hn, fun o => by rw [(h.put m).frozen, h.frozen]⟩
/-- a text copied over it, from place o on -/
theorem RowB.copy (h : RowB w g T l) (s : ByteArray) (o dLen dCap : Nat) (hle : s.size ≤ dLen) (hfit : o + s.size ≤ l.length) :
    (Builtin.copy_ #[55, 9] 3 #[.slice (some ⟨g, o, none⟩) dLen dCap, .string s]).run Try.prog w = .ok (goInt s.size) (w.setRow g (Lib.byteCells (l.take o ++ s.data.toList ++ l.drop (o + s.size))).toArray) := by
  rw [Lib.run_copy_row_string w 55 9 3 5 g o dLen dCap s _ T Try.underlying55 sizeByte h hle (by simpa [Lib.byteCells_length] using hfit)]
  rw [Lib.byteCells_append, Lib.byteCells_append, byteCells_take, byteCells_drop]
/-- its bytes as a text -/
theorem RowB.text (h : RowB w g T l) (o n cap : Nat) (hn : o + n ≤ l.length) :
    (convert 55 9 (.slice (some ⟨g, o, none⟩) n cap)).run Try.prog w = .ok (.string (mkB ((l.drop o).take n))) w := by
  have hl : ((l.drop o).take n).length = n := by simp; omega
  have := run_convert_bytes_back (P := Try.prog) w 55 9 5 ⟨g, o, none⟩ cap ((l.drop o).take n) Try.underlying55 Try.underlying5 Try.underlying9 (fun j hj => by
    rw [hl] at hj
    rw [addr_add, h.cell (by omega)]
    simp)
  rw [hl] at this
  exact this
end
theorem rowB_new (w : World) (l : List UInt8) (T : TypeId) : RowB (w.alloc (.cells (Lib.byteCells l).toArray T)) w.heap.size T l := heap_alloc_new _ _
theorem made_bytes (n : Nat) : madeCells #[.int .u8 0] n = (Lib.byteCells (List.replicate n 0)).toArray := by
  apply Array.ext
  · simp [size_madeCells, Lib.byteCells]
  · intro i h1 h2
    simp [madeCells, Lib.byteCells, Nat.mod_one]
theorem make_bytes (n : Nat) (h : n ≤ 281474976710656) (w : World) :
    (Instr.makeSlice 55 (.int .i64 (n : Int)) (.int .i64 (n : Int))).run Try.prog w = .ok (.slice (some ⟨w.heap.size, 0, none⟩) n n) (w.alloc (.cells (Lib.byteCells (List.replicate n 0)).toArray 5)) := by
  rw [← made_bytes]
  exact run_make_row' (P := Try.prog) 55 5 (.int .u8 0) 1 Try.underlying55 infoByte rfl .i64 .i64 n (by omega) (by omega) w
end Go.Proofs.Ytcbemjckcmcelaa
