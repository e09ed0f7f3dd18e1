/- The examples stand: awake answers true. -/
import Derived.Test.YtcbemjckcmcelaaCcM
namespace Go.Proofs.Ytcbemjckcmcelaa
open Go.ChangeShapes Go.WideShapes Go.ChangeAt Go.RowKit Go.Joins
set_option maxRecDepth 100000
set_option linter.unusedVariables false
set_option linter.unusedSimpArgs false
theorem carry {w w' : World} (hb : Below w.heap.size w w') {p : Addr} {v : Value} (h : w.cell? p = some v) : w'.cell? p = some v := by
  rw [hb.cell (lt_of_cell h)]; exact h
theorem Full.tbl {w : World} {b : Nat} (h : Full w b) : Tbl w b := Or.inr h
theorem Fresh.tbl {w : World} {b : Nat} (h : Fresh w b) : Tbl w b := Or.inl h
theorem Full.lt {w : World} {b : Nat} (h : Full w b) : b < w.heap.size := lt_of_cell h.done
theorem Fresh.lt {w : World} {b : Nat} (h : Fresh w b) : b < w.heap.size := lt_of_cell h.done
theorem Tbl.lt {w : World} {b : Nat} (h : Tbl w b) : b < w.heap.size := h.elim Fresh.lt Full.lt
theorem Full.of_cells {w w' : World} {b : Nat} (h : Full w b) (e : ∀ o, w'.cell? ⟨b, o, none⟩ = w.cell? ⟨b, o, none⟩) : Full w' b :=
  ⟨by rw [e]; exact h.done, fun j hj => by rw [e]; exact h.places j hj⟩
theorem Fresh.of_cells {w w' : World} {b : Nat} (h : Fresh w b) (e : ∀ o, w'.cell? ⟨b, o, none⟩ = w.cell? ⟨b, o, none⟩) (f : ∀ o, w'.frozen? ⟨b, o, none⟩ = w.frozen? ⟨b, o, none⟩) : Fresh w' b :=
  ⟨by rw [e]; exact h.done, by rw [e]; exact h.lock, by rw [f]; exact h.fdone, by rw [f]; exact h.flock, fun j hj => by rw [e, f]; exact h.places j hj⟩
theorem Tbl.call {w w' : World} {b : Nat} (h : Tbl w b) (hb : Below w.heap.size w w') : Tbl w' b := by
  have hl := h.lt
  rcases h with h | h
  · exact .inl (h.of_cells (fun o => hb.cell (p := ⟨b, o, none⟩) hl) (fun o => hb.frozen (p := ⟨b, o, none⟩) hl))
  · exact .inr (h.of_cells (fun o => hb.cell (p := ⟨b, o, none⟩) hl))
theorem Tbl.apart {w w' : World} {b c : Nat} (h : Tbl w b) (ha : Apart c w w') (hc : b ≠ c) : Tbl w' b := by
  have hl := h.lt
  have hbl := ha.block b hl hc
  rcases h with h | h
  · exact .inl (h.of_cells (fun o => World.cell?_of_block (w := w) hbl) (fun o => World.frozen?_of_block (w := w) hbl))
  · exact .inr (h.of_cells (fun o => World.cell?_of_block (w := w) hbl))
theorem Apart.far {c B : Nat} {w w' : World} (h : Apart c w w') (hc : B ≤ c) (hs : B ≤ w.heap.size) : Below B w w' := h.below hc hs
theorem more_example : more 0 ⟨#[49, 50, 51, 52, 53, 54, 55, 56, 57]⟩ = 3421780262 := by decide +kernel
theorem more_empty (x : Nat) : more x ⟨#[]⟩ = x := by unfold more; simp [fold]; exact xor_ones_ones x
theorem bytes_example : bytesOf 16909060 = ⟨#[1, 2, 3, 4]⟩ := by decide +kernel
end Go.Proofs.Ytcbemjckcmcelaa
