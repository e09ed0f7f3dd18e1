/- The examples stand: awake answers true. -/
import Derived.Test.YtjogdkljimbpcaaCcM
namespace Go.Proofs.Ytjogdkljimbpcaa
open Go.ChangeShapes Go.WideShapes Go.ChangeAt Go.RowKit Go.Joins
set_option linter.unusedVariables false
set_option linter.unusedSimpArgs false
theorem carry {w w' : World} (hb : Below w.heap.size w w') {p : Addr} {v : Value} (h : w.cell? p = some v) : w'.cell? p = some v := by
  rw [hb.cell (lt_of_cell h)]; exact h
theorem Full.tbl {w : World} {b : Nat} (h : Full w b) : Tbl w b := Or.inr h
theorem Fresh.tbl {w : World} {b : Nat} (h : Fresh w b) : Tbl w b := Or.inl h
theorem Full.lt {w : World} {b : Nat} (h : Full w b) : b < w.heap.size := lt_of_cell h.done
theorem Fresh.lt {w : World} {b : Nat} (h : Fresh w b) : b < w.heap.size := lt_of_cell h.done
theorem Tbl.lt {w : World} {b : Nat} (h : Tbl w b) : b < w.heap.size := h.elim Fresh.lt Full.lt
theorem Full.of_cells {w w' : World} {b : Nat} (h : Full w b) (e : ∀ o, w'.cell? ⟨b, o, none⟩ = w.cell? ⟨b, o, none⟩) : Full w' b :=
  ⟨by rw [e]; exact h.done, fun j hj => by rw [e]; exact h.places j hj⟩
theorem Fresh.of_cells {w w' : World} {b : Nat} (h : Fresh w b) (e : ∀ o, w'.cell? ⟨b, o, none⟩ = w.cell? ⟨b, o, none⟩) (f : ∀ o, w'.frozen? ⟨b, o, none⟩ = w.frozen? ⟨b, o, none⟩) : Fresh w' b :=
  ⟨by rw [e]; exact h.done, by rw [e]; exact h.lock, by rw [f]; exact h.fdone, by rw [f]; exact h.flock, fun j hj => by rw [e, f]; exact h.places j hj⟩
theorem Tbl.call {w w' : World} {b : Nat} (h : Tbl w b) (hb : Below w.heap.size w w') : Tbl w' b := by
  have hl := h.lt
  rcases h with h | h
  · exact .inl (h.of_cells (fun o => hb.cell (p := ⟨b, o, none⟩) hl) (fun o => hb.frozen (p := ⟨b, o, none⟩) hl))
  · exact .inr (h.of_cells (fun o => hb.cell (p := ⟨b, o, none⟩) hl))
theorem Tbl.apart {w w' : World} {b c : Nat} (h : Tbl w b) (ha : Apart c w w') (hc : b ≠ c) : Tbl w' b := by
  have hl := h.lt
  have hbl := ha.block b hl hc
  rcases h with h | h
  · exact .inl (h.of_cells (fun o => World.cell?_of_block (w := w) hbl) (fun o => World.frozen?_of_block (w := w) hbl))
  · exact .inr (h.of_cells (fun o => World.cell?_of_block (w := w) hbl))
theorem Apart.far {c B : Nat} {w w' : World} (h : Apart c w w') (hc : B ≤ c) (hs : B ≤ w.heap.size) : Below B w w' := h.below hc hs
theorem more_example : more 0 ⟨#[49, 50, 51, 52, 53, 54, 55, 56, 57]⟩ = 3421780262 := by decide +kernel
theorem more_empty (x : Nat) : more x ⟨#[]⟩ = x := by unfold more; simp [fold]; exact xor_ones_ones x
theorem bytes_example : bytesOf 16909060 = ⟨#[1, 2, 3, 4]⟩ := by decide +kernel
set_option maxRecDepth 100000 in
set_option maxHeartbeats 1600000 in
theorem awake_any (w : World) :
    Calls Try.prog 9 #[] w fun e w' => e = .returned (.bool true) ∧ Below w.heap.size w w' := by
  have NW := Lib.hid (new_any w)
  have S1 := Lib.hid (fun b w ht => sum_any b ⟨#[49, 50, 51, 52, 53, 54, 55, 56, 57]⟩ w ht (by decide))
  have S2 := Lib.hid (fun b w ht => sum_any b ⟨#[]⟩ w ht (by decide))
  have BY : Hid (∀ w : World, Calls Try.prog 19 #[.int .u32 16909060] w fun e w' => e = .returned (.string ⟨#[1, 2, 3, 4]⟩) ∧ Below w.heap.size w w') := Lib.hid (fun w => by
    have := bytes_any 16909060 w (by unfold Is32; omega)
    rw [bytes_example] at this; exact this)
  rw [more_example] at S1
  rw [more_empty] at S2
  go_enter Try.func9, Try.ntmps9
  go_wp2_with fail
  (with_reducible refine NW.out.mono ?_)
  rintro e w1 ⟨rfl, hw⟩
  have t1 : Tbl w1 w.heap.size := by rw [hw]; exact .inl (fresh_new w _)
  have b1 : Below w.heap.size w w1 := by rw [hw]; exact (Below.refl _ _).alloc (Nat.le_refl _) _
  have z1 : w.heap.size ≤ w1.heap.size := b1.size
  clear hw NW
  go_wp2_with fail
  (with_reducible refine (S1.out _ _ t1).mono ?_)
  rintro e w2 ⟨rfl, t2, a2⟩
  have b2 := b1.trans (a2.far (Nat.le_refl _) z1)
  go_wp2_with fail
  (with_reducible refine (S2.out _ _ (Full.tbl t2)).mono ?_)
  rintro e w3 ⟨rfl, t3, a3⟩
  have b3 := b2.trans (a3.far (Nat.le_refl _) b2.size)
  go_wp2_with fail
  (with_reducible refine (BY.out _).mono ?_)
  rintro e w4 ⟨rfl, b4⟩
  have b5 := b3.trans (b4.mono b3.size)
  clear b1 b2 b3 b4 a2 a3 t1 t2 t3 z1
  go_wp2
  go_ret
  exact ⟨rfl, b5⟩
end Go.Proofs.Ytjogdkljimbpcaa
