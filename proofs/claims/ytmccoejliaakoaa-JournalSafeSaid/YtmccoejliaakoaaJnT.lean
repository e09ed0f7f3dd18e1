/- The tries of the statements on journals: how they are opened. -/
import Derived.Test.YtmccoejliaakoaaJnG
import Derived.Test.YtmccoejliaakoaaMDc
namespace Go.Proofs.Ytmccoejliaakoaa.Jn
open Go.ChangeShapes Go.WideShapes Go.ChangeAt Go.RowKit Go.Joins
open Dk (Dk DS Own Moved ptr)
open Dk (Fats In64 in64_wf one_of fates_of addr_add)
set_option maxRecDepth 100000
set_option linter.unusedVariables false
set_option linter.unusedSimpArgs false
/-- a try: whether it snaps, crashes, opens twice; its text; which operation fails; fates -/
def trC (s c t : Bool) (x : ByteArray) (n : Int) (v : Value) : List Value := [.bool s, .bool c, .bool t, .string x, .int .i64 n, v]
structure TrAt (b o : Nat) (s c t : Bool) (x : ByteArray) (n : Int) (fo : Option Addr) (fs : List (Int × Int)) (fc : Nat) (w : World) : Prop where
  c0 : w.cell? ⟨b, o, none⟩ = some (.bool s)
  c1 : w.cell? ⟨b, o + 1, none⟩ = some (.bool c)
  c2 : w.cell? ⟨b, o + 2, none⟩ = some (.bool t)
  c3 : w.cell? ⟨b, o + 3, none⟩ = some (.string x)
  c4 : w.cell? ⟨b, o + 4, none⟩ = some (.int .i64 n)
  c5 : w.cell? ⟨b, o + 5, none⟩ = some (.slice fo fs.length fc)
  i_n : Dk.In64 n
  fats : Fats fo fs w
  len : fs.length ≤ 9223372036854775807
def Tries (ao : Option Addr) (len : Nat) (w : World) : Prop := 0 < len → ∃ b off, ao = some ⟨b, off, none⟩ ∧ b < w.heap.size ∧ ∀ i, i < len → ∃ s c t x n fo fs fc, TrAt b (off + i * 6) s c t x n fo fs fc w
theorem fates_of2 {H : Type} {enc : TypeId × Value → H} {W : World} {base : Nat} {spare : Nat → Bool} {held : Bool} {v : Value} {fuel : Nat} {x : DataW H × List MemPlace}
    (hf : DataW.trod enc Try.prog W base spare held fuel 33 [v] = some x) : ∃ ao fs fc, v = .slice ao (fs : List (Int × Int)).length fc ∧ fs.length ≤ 9223372036854775807 ∧ Fats ao fs W := by
  obtain ⟨ao, len, cap, rfl⟩ : ∃ ao len cap, v = .slice ao len cap := by
    rcases Go.Deep.open_slice Try.underlying33 hf with ⟨hcs, hx⟩ | ⟨a, len', cap', m, n, D, Pl, hcs, _⟩
    · simp at hcs; exact ⟨none, 0, 0, hcs⟩
    · simp at hcs; exact ⟨some a, len', cap', hcs⟩
  obtain ⟨fs, rfl, h1, h2⟩ := fates_of hf
  exact ⟨ao, fs, cap, rfl, h1, h2⟩
theorem open_tries {H : Type} {enc : TypeId × Value → H} {W : World} {r : Reach} {b0 base : Nat} {spare : Nat → Bool} {held : Bool} {v : Value} {d : DataW H} {p : List MemPlace}
    (hok : Value.okWide Try.prog W r b0 22 v) (h : DataW.Trod enc Try.prog W base spare held 22 v d p) :
    ∃ ao len cap, v = .slice ao len cap ∧ len ≤ 9223372036854775807 ∧ Tries ao len W := by
  obtain ⟨ao, len, cap, rfl⟩ := okWide_slice Try.underlying22 hok
  obtain ⟨fuel, hf⟩ := h
  rcases Go.Deep.open_slice Try.underlying22 hf with ⟨hcs, hx⟩ | ⟨a, len', cap', m, n, D, Pl, hcs, _, hl, hm, hmm, hx, hi⟩
  · simp [Value.cells] at hcs
    obtain ⟨rfl, rfl, rfl⟩ := hcs
    exact ⟨none, 0, 0, rfl, by omega, fun h => by omega⟩
  · simp [Value.cells] at hcs
    obtain ⟨rfl, rfl, rfl⟩ := hcs
    have hml : len ≤ m := by rw [hmm]; split <;> omega
    have hC : Try.prog.cellsOf 35 = 6 := by kernel_rfl
    have cb : Try.prog.cellsOf 4 = 1 := by kernel_rfl
    have c3 : Try.prog.cellsOf 3 = 1 := by kernel_rfl
    have c9 : Try.prog.cellsOf 9 = 1 := by kernel_rfl
    have c28 : Try.prog.cellsOf 33 = 1 := by kernel_rfl
    rw [hC] at hi
    refine ⟨some a, len, cap, rfl, by unfold maxLen at hm; omega, fun h0 => ?_⟩
    have key : ∀ i, i < len → ∃ (s c t : Bool) (x : ByteArray) (nn : Int) (fo : Option Addr) (fs : List (Int × Int)) (fc : Nat), (∀ j v, (trC s c t x nn (.slice fo fs.length fc))[j]? = some v → W.cell? ((a.add (i * 6)).add j) = some v) ∧ Dk.In64 nn ∧ Fats fo fs W ∧ fs.length ≤ 9223372036854775807 := by
      intro i hil
      obtain ⟨cs, hc, ht⟩ := hi i (by omega)
      obtain ⟨_, hcl, hat⟩ := World.cells?_some hc
      obtain ⟨ys, n', hn', hy, hlen, hyl, hfd⟩ := DataW.trod_struct Try.underlying35 ht
      have hy4 : ys.length = 6 := by rw [hyl]; rfl
      have g0 : DataW.trod enc Try.prog W base spare held n' 4 ((cs.drop 0).take (Try.prog.cellsOf 4)) = ys[0]? := hfd 0 _ rfl
      have g1 : DataW.trod enc Try.prog W base spare held n' 4 ((cs.drop 1).take (Try.prog.cellsOf 4)) = ys[1]? := hfd 1 _ rfl
      have g2 : DataW.trod enc Try.prog W base spare held n' 4 ((cs.drop 2).take (Try.prog.cellsOf 4)) = ys[2]? := hfd 2 _ rfl
      have g3 : DataW.trod enc Try.prog W base spare held n' 9 ((cs.drop 3).take (Try.prog.cellsOf 9)) = ys[3]? := hfd 3 _ rfl
      have g4 : DataW.trod enc Try.prog W base spare held n' 3 ((cs.drop 4).take (Try.prog.cellsOf 3)) = ys[4]? := hfd 4 _ rfl
      have g5 : DataW.trod enc Try.prog W base spare held n' 33 ((cs.drop 5).take (Try.prog.cellsOf 33)) = ys[5]? := hfd 5 _ rfl
      rw [cb, one_of (j := 0) (by omega), List.getElem?_eq_getElem (by omega)] at g0
      rw [cb, one_of (j := 1) (by omega), List.getElem?_eq_getElem (by omega)] at g1
      rw [cb, one_of (j := 2) (by omega), List.getElem?_eq_getElem (by omega)] at g2
      rw [c9, one_of (j := 3) (by omega), List.getElem?_eq_getElem (by omega)] at g3
      rw [c3, one_of (j := 4) (by omega), List.getElem?_eq_getElem (by omega)] at g4
      rw [c28, one_of (j := 5) (by omega), List.getElem?_eq_getElem (by omega)] at g5
      obtain ⟨s, e0, -⟩ := DataW.trod_bool Try.underlying4 g0
      obtain ⟨c, e1, -⟩ := DataW.trod_bool Try.underlying4 g1
      obtain ⟨t, e2, -⟩ := DataW.trod_bool Try.underlying4 g2
      obtain ⟨x, e3, -, -⟩ := DataW.trod_string Try.underlying9 g3
      obtain ⟨nn, e4, -, wn⟩ := DataW.trod_int Try.underlying3 g4
      obtain ⟨fo, fs, fc, e5, hfl, hfa⟩ := fates_of2 g5
      have ecs : cs = trC s c t x nn (.slice fo fs.length fc) := by
        apply List.ext_getElem
        · rw [hcl]; rfl
        · intro j h1 h2
          have h3 : j < 6 := by rw [hcl] at h1; exact h1
          have : j = 0 ∨ j = 1 ∨ j = 2 ∨ j = 3 ∨ j = 4 ∨ j = 5 := by omega
          rcases this with rfl | rfl | rfl | rfl | rfl | rfl
          · simpa [trC] using e0
          · simpa [trC] using e1
          · simpa [trC] using e2
          · simpa [trC] using e3
          · simpa [trC] using e4
          · simpa [trC] using e5
      refine ⟨s, c, t, x, nn, fo, fs, fc, fun j v hv => ?_, in64_wf wn, hfa, hfl⟩
      rw [← ecs] at hv
      have hj : j < 6 := by have := (List.getElem?_eq_some_iff.1 hv).1; rw [hcl] at this; exact this
      rw [hat j hj]; exact hv
    obtain ⟨b, off, spot⟩ := a
    obtain ⟨s0, c0, t0, x0, n0, fo0, fs0, fc0, h00, _⟩ := key 0 h0
    have h01 := h00 0 _ rfl
    have hspot : spot = none := by simpa [Addr.add] using World.cell?_spot h01
    subst hspot
    refine ⟨b, off, rfl, World.block_lt_of_cell? _ _ h01, fun i hi => ?_⟩
    obtain ⟨s, c, t, x, nn, fo, fs, fc, h1, h2, h3, h4⟩ := key i hi
    have k0 := h1 0 _ rfl
    have k1 := h1 1 _ rfl
    have k2 := h1 2 _ rfl
    have k3 := h1 3 _ rfl
    have k4 := h1 4 _ rfl
    have k5 := h1 5 _ rfl
    rw [addr_add, addr_add] at k0 k1 k2 k3 k4 k5
    exact ⟨s, c, t, x, nn, fo, fs, fc, k0, k1, k2, k3, k4, k5, h2, h3, h4⟩
/-- a try in its block -/
def ObAt (w : World) (p : Nat) (s c t : Bool) (x : ByteArray) (n : Int) (v : Value) : Prop := w.heap[p]? = some (.cells #[.bool s, .bool c, .bool t, .string x, .int .i64 n, v] 35 (0, 0))
section
variable {w w' : World} {p : Nat} {s c t : Bool} {x : ByteArray} {n : Int} {v : Value}
theorem ObAt.c0 (h : ObAt w p s c t x n v) : w.cell? ⟨p, 0, none⟩ = some (.bool s) := by rw [Lib.cell_of_heap h]; rfl
theorem ObAt.c1 (h : ObAt w p s c t x n v) : w.cell? ⟨p, 1, none⟩ = some (.bool c) := by rw [Lib.cell_of_heap h]; rfl
theorem ObAt.c2 (h : ObAt w p s c t x n v) : w.cell? ⟨p, 2, none⟩ = some (.bool t) := by rw [Lib.cell_of_heap h]; rfl
theorem ObAt.c3 (h : ObAt w p s c t x n v) : w.cell? ⟨p, 3, none⟩ = some (.string x) := by rw [Lib.cell_of_heap h]; rfl
theorem ObAt.c4 (h : ObAt w p s c t x n v) : w.cell? ⟨p, 4, none⟩ = some (.int .i64 n) := by rw [Lib.cell_of_heap h]; rfl
theorem ObAt.c5 (h : ObAt w p s c t x n v) : w.cell? ⟨p, 5, none⟩ = some v := by rw [Lib.cell_of_heap h]; rfl
theorem ObAt.kp (h : ObAt w p s c t x n v) (k : Kp w w') : ObAt w' p s c t x n v := k p _ _ _ h (by decide)
theorem obAt_new (w : World) (s c t : Bool) (x : ByteArray) (n : Int) (v : Value) : ObAt (w.alloc (.cells #[.bool s, .bool c, .bool t, .string x, .int .i64 n, v] 35)) w.heap.size s c t x n v := heap_alloc_new _ _
end
/-- all that is no row of texts stays: a journal -/
theorem Jn.rest {B b j l q e : Nat} {tl : Wl.WS} {ts : Sl.SS} {g : Bool} {s : DS} {w0 W W' : World} (h : Jn B b j l q tl ts e g s w0 W) (k : ∀ (k : Nat) (cs : Array Value) (T : TypeId) (fz : Nat × Nat), W.heap[k]? = some (Obj.cells cs T fz) → T ≠ 9 → W'.heap[k]? = W.heap[k]?) (hb : Below B W W') : Jn B b j l q tl ts e g s w0 W' := by
  obtain ⟨g', v, dk⟩ := h.dk
  refine ⟨⟨g', v, dk.of_blocks fun i hi => ?_⟩, h.wl.of_block (k _ _ _ _ h.wl (by decide)), h.sl.of_block (k _ _ _ _ h.sl (by decide)), h.jn.of_block (k _ _ _ _ h.jn (by decide)), h.bel.trans hb, h.hj, h.hl, h.hq⟩
  rcases dk.owns.1 hi with rfl | rfl | hi
  · exact k _ _ _ _ dk.blk (by decide)
  · exact k _ _ _ _ dk.row (by decide)
  · obtain ⟨cur, hc⟩ := dk.ownBlock hi; exact k _ _ _ _ hc (by decide)
end Go.Proofs.Ytmccoejliaakoaa.Jn
