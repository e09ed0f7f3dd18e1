/- How the arguments of the statements of layer 5 are opened. -/
import Derived.Test.YtcbemjckcmcelaaDkK
import Derived.ChangeOld
import Derived.ShutString
import Derived.ChangeMaps5
import Derived.ChangeSlices
import Derived.Deep.Grids
import Derived.Deep.Slices
namespace Go.Proofs.Ytcbemjckcmcelaa.Dk
open Go.ChangeShapes Go.WideShapes Go.ChangeAt Go.RowKit Go.Joins
set_option maxRecDepth 100000
set_option linter.unusedVariables false
set_option linter.unusedSimpArgs false
theorem own : ownKnob Try.prog.godebug = none := by kernel_rfl
theorem laidOut : laidOutB Try.prog = true := by kernel_rfl
theorem in64_wf {n : Int} (h : (Lit.int .i64 n).wf = true) : In64 n := by
  simp [Lit.wf, IntKind.min, IntKind.max, IntKind.bits, IntKind.signed] at h; unfold In64; omega
/-- a row of values that came in -/
def Vals (ao : Option Addr) (len : Nat) (f : Nat → Value) (w : World) : Prop := 0 < len → ∃ b off, ao = some ⟨b, off, none⟩ ∧ b < w.heap.size ∧ ∀ i, i < len → w.cell? ⟨b, off + i, none⟩ = some (f i)
theorem Vals.below {ao : Option Addr} {len B : Nat} {f : Nat → Value} {w w' : World} (h : Vals ao len f w) (hb : Below w.heap.size w w') : Vals ao len f w' := fun h0 => by
  obtain ⟨b, off, e, hlt, hc⟩ := h h0
  exact ⟨b, off, e, Nat.lt_of_lt_of_le hlt hb.size, fun i hi => by rw [hb.cell (p := ⟨b, off + i, none⟩) hlt]; exact hc i hi⟩
theorem one_of {cs : List Value} {j : Nat} (h : j < cs.length) : (cs.drop j).take 1 = [cs[j]] := by
  rw [List.drop_eq_getElem_cons h]; rfl
/-- fates that came in, of a slice at whatever place -/
theorem fates_of {H : Type} {enc : TypeId × Value → H} {W : World} {base : Nat} {spare : Nat → Bool} {held : Bool} {ao : Option Addr} {len cap fuel : Nat} {x : DataW H × List MemPlace}
    (hf : DataW.trod enc Try.prog W base spare held fuel 33 [.slice ao len cap] = some x) :
    ∃ fs : List (Int × Int), fs.length = len ∧ len ≤ 9223372036854775807 ∧ Fats ao fs W := by
  rcases Go.Deep.open_slice Try.underlying33 hf with ⟨hcs, hx⟩ | ⟨a, len', cap', m, n, D, Pl, hcs, _, hl, hm, hmm, hx, hi⟩
  · simp at hcs
    obtain ⟨rfl, rfl, rfl⟩ := hcs
    exact ⟨[], rfl, by omega, fun p hp => (by cases hp), fun h => by simp at h⟩
  · simp at hcs
    obtain ⟨rfl, rfl, rfl⟩ := hcs
    have hml : len ≤ m := by rw [hmm]; split <;> omega
    have hC : Try.prog.cellsOf 89 = 2 := by kernel_rfl
    have c3 : Try.prog.cellsOf 3 = 1 := by kernel_rfl
    rw [hC] at hi
    have key : ∀ i, i < len → ∃ k q : Int, W.cell? (a.add (i * 2)) = some (.int .i64 k) ∧ W.cell? ((a.add (i * 2)).add 1) = some (.int .i64 q) ∧ In64 k ∧ In64 q := by
      intro i hil
      obtain ⟨cs, hc, ht⟩ := hi i (by omega)
      obtain ⟨_, hcl, hat⟩ := World.cells?_some hc
      obtain ⟨ys, n', hn', hy, hlen, hyl, hfd⟩ := DataW.trod_struct Try.underlying89 ht
      have g0 : DataW.trod enc Try.prog W base spare held n' 3 ((cs.drop 0).take (Try.prog.cellsOf 3)) = ys[0]? := hfd 0 _ rfl
      have g1 : DataW.trod enc Try.prog W base spare held n' 3 ((cs.drop 1).take (Try.prog.cellsOf 3)) = ys[1]? := hfd 1 _ rfl
      have hy4 : ys.length = 2 := by rw [hyl]; rfl
      rw [c3, one_of (j := 0) (by omega), List.getElem?_eq_getElem (by omega)] at g0
      rw [c3, one_of (j := 1) (by omega), List.getElem?_eq_getElem (by omega)] at g1
      obtain ⟨k, e0, -, wk⟩ := DataW.trod_int Try.underlying3 g0
      obtain ⟨q, e1, -, wq⟩ := DataW.trod_int Try.underlying3 g1
      have a0 := hat 0 (by omega)
      have a1 := hat 1 (by omega)
      rw [List.getElem?_eq_getElem (by omega)] at a0 a1
      have f0 : cs[0] = .int .i64 k := by simpa using e0
      have f1 : cs[1] = .int .i64 q := by simpa using e1
      rw [f0] at a0
      rw [f1] at a1
      exact ⟨k, q, by simpa [Addr.add] using a0, a1, in64_wf wk, in64_wf wq⟩
    have choice : ∃ f : Nat → Int × Int, ∀ i, i < len → W.cell? (a.add (i * 2)) = some (.int .i64 (f i).1) ∧ W.cell? ((a.add (i * 2)).add 1) = some (.int .i64 (f i).2) ∧ In64 (f i).1 ∧ In64 (f i).2 := by
      refine ⟨fun i => if h : i < len then (Classical.choose (key i h), Classical.choose (Classical.choose_spec (key i h))) else (0, 0), fun i h => ?_⟩
      simp only [dif_pos h]
      exact Classical.choose_spec (Classical.choose_spec (key i h))
    obtain ⟨f, hfc⟩ := choice
    refine ⟨(List.range len).map f, by simp, by unfold maxLen at hm; omega, fun p hp => ?_, fun h0 => ?_⟩
    · simp only [List.mem_map, List.mem_range] at hp
      obtain ⟨i, hi, rfl⟩ := hp
      exact (hfc i hi).2.2
    · simp at h0
      obtain ⟨b, off, spot⟩ := a
      have hspot : spot = none := by simpa [Addr.add] using World.cell?_spot (hfc 0 h0).1
      subst hspot
      refine ⟨b, off, rfl, World.block_lt_of_cell? _ _ (hfc 0 h0).1, fun i hi => ?_⟩
      simp at hi
      obtain ⟨h1, h2, _⟩ := hfc i hi
      rw [addr_add] at h1 h2
      rw [addr_add] at h2
      simp
      exact ⟨h1, h2⟩
theorem open_fates {H : Type} {enc : TypeId × Value → H} {W : World} {r : Reach} {b0 base : Nat} {spare : Nat → Bool} {held : Bool} {v : Value} {d : DataW H} {p : List MemPlace}
    (hok : Value.okWide Try.prog W r b0 33 v) (h : DataW.Trod enc Try.prog W base spare held 33 v d p) :
    ∃ (ao : Option Addr) (cap : Nat) (fs : List (Int × Int)), v = .slice ao fs.length cap ∧ fs.length ≤ 9223372036854775807 ∧ Fats ao fs W := by
  obtain ⟨ao, len, cap, rfl⟩ := okWide_slice Try.underlying33 hok
  obtain ⟨fuel, hf⟩ := h
  obtain ⟨fs, rfl, h1, h2⟩ := fates_of (by simpa [Value.cells] using hf)
  exact ⟨ao, cap, fs, rfl, h1, h2⟩
end Go.Proofs.Ytcbemjckcmcelaa.Dk
