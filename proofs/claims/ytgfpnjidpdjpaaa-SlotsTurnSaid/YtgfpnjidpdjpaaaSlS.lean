/- How the arguments of the statements of layer 6 are opened. -/
import Derived.Test.YtgfpnjidpdjpaaaSlR
import Derived.Test.YtgfpnjidpdjpaaaDkG
import Derived.Deep.Strs
namespace Go.Proofs.Ytgfpnjidpdjpaaa.Sl
open Go.ChangeShapes Go.WideShapes Go.ChangeAt Go.RowKit Go.Joins
open Dk (Fats In64 in64_wf one_of fates_of addr_add)
set_option maxRecDepth 100000
set_option linter.unusedVariables false
set_option linter.unusedSimpArgs false
def trC (t : ByteArray) (n : Int) (v : Value) : List Value := [.string t, .int .i64 n, v]
structure TrAt (b o : Nat) (t : ByteArray) (n : Int) (fo : Option Addr) (fs : List (Int × Int)) (fc : Nat) (w : World) : Prop where
  c0 : w.cell? ⟨b, o, none⟩ = some (.string t)
  c1 : w.cell? ⟨b, o + 1, none⟩ = some (.int .i64 n)
  c2 : w.cell? ⟨b, o + 2, none⟩ = some (.slice fo fs.length fc)
  i_n : Dk.In64 n
  fats : Fats fo fs w
  len : fs.length ≤ 9223372036854775807
def Tries (ao : Option Addr) (len : Nat) (w : World) : Prop := 0 < len → ∃ b off, ao = some ⟨b, off, none⟩ ∧ b < w.heap.size ∧ ∀ i, i < len → ∃ t n fo fs fc, TrAt b (off + i * 3) t n fo fs fc w
theorem fates_of2 {H : Type} {enc : TypeId × Value → H} {W : World} {base : Nat} {spare : Nat → Bool} {held : Bool} {v : Value} {fuel : Nat} {x : DataW H × List MemPlace}
    (hf : DataW.trod enc Try.prog W base spare held fuel 26 [v] = some x) : ∃ ao fs fc, v = .slice ao (fs : List (Int × Int)).length fc ∧ fs.length ≤ 9223372036854775807 ∧ Fats ao fs W := by
  obtain ⟨ao, len, cap, rfl⟩ : ∃ ao len cap, v = .slice ao len cap := by
    rcases Go.Deep.open_slice Try.underlying26 hf with ⟨hcs, hx⟩ | ⟨a, len', cap', m, n, D, Pl, hcs, _⟩
    · simp at hcs; exact ⟨none, 0, 0, hcs⟩
    · simp at hcs; exact ⟨some a, len', cap', hcs⟩
  obtain ⟨fs, rfl, h1, h2⟩ := fates_of hf
  exact ⟨ao, fs, cap, rfl, h1, h2⟩
theorem open_tries {H : Type} {enc : TypeId × Value → H} {W : World} {r : Reach} {b0 base : Nat} {spare : Nat → Bool} {held : Bool} {v : Value} {d : DataW H} {p : List MemPlace}
    (hok : Value.okWide Try.prog W r b0 22 v) (h : DataW.Trod enc Try.prog W base spare held 22 v d p) :
    ∃ ao len cap, v = .slice ao len cap ∧ len ≤ 9223372036854775807 ∧ Tries ao len W := by
  obtain ⟨ao, len, cap, rfl⟩ := okWide_slice Try.underlying22 hok
  obtain ⟨fuel, hf⟩ := h
  rcases Go.Deep.open_slice Try.underlying22 hf with ⟨hcs, hx⟩ | ⟨a, len', cap', m, n, D, Pl, hcs, _, hl, hm, hmm, hx, hi⟩
  · simp [Value.cells] at hcs
    obtain ⟨rfl, rfl, rfl⟩ := hcs
    exact ⟨none, 0, 0, rfl, by omega, fun h => by omega⟩
  · simp [Value.cells] at hcs
    obtain ⟨rfl, rfl, rfl⟩ := hcs
    have hml : len ≤ m := by rw [hmm]; split <;> omega
    have hC : Try.prog.cellsOf 28 = 3 := by kernel_rfl
    have c3 : Try.prog.cellsOf 3 = 1 := by kernel_rfl
    have c9 : Try.prog.cellsOf 9 = 1 := by kernel_rfl
    have c28 : Try.prog.cellsOf 26 = 1 := by kernel_rfl
    rw [hC] at hi
    refine ⟨some a, len, cap, rfl, by unfold maxLen at hm; omega, fun h0 => ?_⟩
    have key : ∀ i, i < len → ∃ (t : ByteArray) (nn : Int) (fo : Option Addr) (fs : List (Int × Int)) (fc : Nat), (∀ j v, (trC t nn (.slice fo fs.length fc))[j]? = some v → W.cell? ((a.add (i * 3)).add j) = some v) ∧ Dk.In64 nn ∧ Fats fo fs W ∧ fs.length ≤ 9223372036854775807 := by
      intro i hil
      obtain ⟨cs, hc, ht⟩ := hi i (by omega)
      obtain ⟨_, hcl, hat⟩ := World.cells?_some hc
      obtain ⟨ys, n', hn', hy, hlen, hyl, hfd⟩ := DataW.trod_struct Try.underlying28 ht
      have hy4 : ys.length = 3 := by rw [hyl]; rfl
      have g0 : DataW.trod enc Try.prog W base spare held n' 9 ((cs.drop 0).take (Try.prog.cellsOf 9)) = ys[0]? := hfd 0 _ rfl
      have g1 : DataW.trod enc Try.prog W base spare held n' 3 ((cs.drop 1).take (Try.prog.cellsOf 3)) = ys[1]? := hfd 1 _ rfl
      have g2 : DataW.trod enc Try.prog W base spare held n' 26 ((cs.drop 2).take (Try.prog.cellsOf 26)) = ys[2]? := hfd 2 _ rfl
      rw [c9, one_of (j := 0) (by omega), List.getElem?_eq_getElem (by omega)] at g0
      rw [c3, one_of (j := 1) (by omega), List.getElem?_eq_getElem (by omega)] at g1
      rw [c28, one_of (j := 2) (by omega), List.getElem?_eq_getElem (by omega)] at g2
      obtain ⟨t, e0, -, -⟩ := DataW.trod_string Try.underlying9 g0
      obtain ⟨nn, e1, -, wn⟩ := DataW.trod_int Try.underlying3 g1
      obtain ⟨fo, fs, fc, e2, hfl, hfa⟩ := fates_of2 g2
      have ecs : cs = trC t nn (.slice fo fs.length fc) := by
        apply List.ext_getElem
        · rw [hcl]; rfl
        · intro j h1 h2
          have h3 : j < 3 := by rw [hcl] at h1; exact h1
          have : j = 0 ∨ j = 1 ∨ j = 2 := by omega
          rcases this with rfl | rfl | rfl
          · simpa [trC] using e0
          · simpa [trC] using e1
          · simpa [trC] using e2
      refine ⟨t, nn, fo, fs, fc, fun j v hv => ?_, in64_wf wn, hfa, hfl⟩
      rw [← ecs] at hv
      have hj : j < 3 := by have := (List.getElem?_eq_some_iff.1 hv).1; rw [hcl] at this; exact this
      rw [hat j hj]; exact hv
    obtain ⟨b, off, spot⟩ := a
    obtain ⟨t0, n0, fo0, fs0, fc0, h00, _⟩ := key 0 h0
    have h01 := h00 0 _ rfl
    have hspot : spot = none := by simpa [Addr.add] using World.cell?_spot h01
    subst hspot
    refine ⟨b, off, rfl, World.block_lt_of_cell? _ _ h01, fun i hi => ?_⟩
    obtain ⟨t, nn, fo, fs, fc, h1, h2, h3, h4⟩ := key i hi
    have k0 := h1 0 _ rfl
    have k1 := h1 1 _ rfl
    have k2 := h1 2 _ rfl
    rw [addr_add, addr_add] at k0 k1 k2
    exact ⟨t, nn, fo, fs, fc, k0, k1, k2, h2, h3, h4⟩
/-- a row of texts that came in -/
def Texts (ao : Option Addr) (len : Nat) (w : World) : Prop := 0 < len → ∃ b off, ao = some ⟨b, off, none⟩ ∧ b < w.heap.size ∧ ∀ i, i < len → ∃ t, w.cell? ⟨b, off + i, none⟩ = some (.string t)
theorem open_texts {H : Type} {enc : TypeId × Value → H} {W : World} {r : Reach} {b0 base : Nat} {spare : Nat → Bool} {held : Bool} {v : Value} {d : DataW H} {p : List MemPlace}
    (hok : Value.okWide Try.prog W r b0 43 v) (h : DataW.Trod enc Try.prog W base spare held 43 v d p) :
    ∃ ao len cap, v = .slice ao len cap ∧ len ≤ 9223372036854775807 ∧ Texts ao len W := by
  obtain ⟨ao, len, cap, rfl⟩ := okWide_slice Try.underlying43 hok
  obtain ⟨fuel, hf⟩ := h
  rcases Go.Deep.open_slice Try.underlying43 hf with ⟨hcs, hx⟩ | ⟨a, len', cap', m, n, D, Pl, hcs, _, hl, hm, hmm, hx, hi⟩
  · simp [Value.cells] at hcs
    obtain ⟨rfl, rfl, rfl⟩ := hcs
    exact ⟨none, 0, 0, rfl, by omega, fun h => by omega⟩
  · simp [Value.cells] at hcs
    obtain ⟨rfl, rfl, rfl⟩ := hcs
    have hml : len ≤ m := by rw [hmm]; split <;> omega
    have hC : Try.prog.cellsOf 9 = 1 := by kernel_rfl
    rw [hC] at hi
    refine ⟨some a, len, cap, rfl, by unfold maxLen at hm; omega, fun h0 => ?_⟩
    have key : ∀ i, i < len → ∃ t : ByteArray, W.cell? (a.add (i * 1)) = some (.string t) := by
      intro i hil
      obtain ⟨cs, hc, ht⟩ := hi i (by omega)
      obtain ⟨_, hcl, hat⟩ := World.cells?_some hc
      obtain ⟨c, rfl⟩ := List.length_eq_one_iff.1 hcl
      obtain ⟨t, e0, -, -⟩ := DataW.trod_string Try.underlying9 ht
      refine ⟨t, ?_⟩
      have := hat 0 (by omega)
      have e : (a.add (i * 1)).add 0 = a.add (i * 1) := by unfold Addr.add; split <;> simp_all
      rw [e] at this
      rw [this]
      first | (simpa using e0) | (simp; exact e0)
    obtain ⟨b, off, spot⟩ := a
    obtain ⟨t0, h01⟩ := key 0 h0
    have hspot : spot = none := by simpa [Addr.add] using World.cell?_spot h01
    subst hspot
    refine ⟨b, off, rfl, World.block_lt_of_cell? _ _ h01, fun i hi => ?_⟩
    obtain ⟨t, h1⟩ := key i hi
    rw [addr_add, Nat.mul_one] at h1
    exact ⟨t, h1⟩
end Go.Proofs.Ytgfpnjidpdjpaaa.Sl
