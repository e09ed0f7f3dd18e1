/- How a row of calls that came in is opened. -/
import Derived.Test.YthmbnnbdphobiaaOcL
import Derived.Deep.Slices
namespace Go.Proofs.Ythmbnnbdphobiaa
open Go.ChangeShapes Go.WideShapes Go.ChangeAt Go.RowKit Go.Joins
set_option linter.unusedVariables false
set_option linter.unusedSimpArgs false
def strOf : Value → ByteArray | .string s => s | _ => ⟨#[]⟩
/-- a call in memory: its four cells from place o of block b on -/
structure CallAt (b o : Nat) (k : Int) (n : Nat) (s : ByteArray) (m : Int) (w : World) : Prop where
  kind : w.cell? ⟨b, o, none⟩ = some (.int .i64 k)
  num : w.cell? ⟨b, o + 1, none⟩ = some (.int .u64 (n : Int))
  str : w.cell? ⟨b, o + 2, none⟩ = some (.string s)
  most : w.cell? ⟨b, o + 3, none⟩ = some (.int .i64 m)
  wk : (Lit.int .i64 k).wf = true
  wn : n < 18446744073709551616
  wm : (Lit.int .i64 m).wf = true
/-- a row of calls that came in -/
def Row (ao : Option Addr) (len : Nat) (w : World) : Prop := 0 < len → ∃ b off, ao = some ⟨b, off, none⟩ ∧ b < w.heap.size ∧ ∀ i, i < len → ∃ k n s m, CallAt b (off + i * 4) k n s m w
theorem one_of {cs : List Value} {j : Nat} (h : j < cs.length) : (cs.drop j).take 1 = [cs[j]] := by
  rw [List.drop_eq_getElem_cons h]; rfl
theorem open_calls {H : Type} {enc : TypeId × Value → H} {W : World} {r : Reach} {b0 base : Nat} {spare : Nat → Bool} {held : Bool} {v : Value} {d : DataW H} {p : List MemPlace}
    (hok : Value.okWide Try.prog W r b0 22 v) (h : DataW.Trod enc Try.prog W base spare held 22 v d p) :
    ∃ ao len cap, v = .slice ao len cap ∧ len ≤ 9223372036854775807 ∧ Row ao len W := by
  obtain ⟨ao, len, cap, rfl⟩ := okWide_slice Try.underlying22 hok
  obtain ⟨fuel, hf⟩ := h
  rcases Go.Deep.open_slice Try.underlying22 hf with ⟨hcs, hx⟩ | ⟨a, len', cap', m, n, D, Pl, hcs, _, hl, hm, hmm, hx, hi⟩
  · simp [Value.cells] at hcs
    obtain ⟨rfl, rfl, rfl⟩ := hcs
    exact ⟨none, 0, 0, rfl, by omega, fun h => by omega⟩
  · simp [Value.cells] at hcs
    obtain ⟨rfl, rfl, rfl⟩ := hcs
    have hml : len ≤ m := by rw [hmm]; split <;> omega
    have hC : Try.prog.cellsOf 33 = 4 := by kernel_rfl
    have c3 : Try.prog.cellsOf 3 = 1 := by kernel_rfl
    have c31 : Try.prog.cellsOf 31 = 1 := by kernel_rfl
    have c9 : Try.prog.cellsOf 9 = 1 := by kernel_rfl
    rw [hC] at hi
    refine ⟨some a, len, cap, rfl, by unfold maxLen at hm; omega, fun h0 => ?_⟩
    have key : ∀ i, i < len → ∃ (k : Int) (n : Nat) (s : ByteArray) (mo : Int), W.cell? (a.add (i * 4)) = some (.int .i64 k) ∧ W.cell? ((a.add (i * 4)).add 1) = some (.int .u64 (n : Int)) ∧ W.cell? ((a.add (i * 4)).add 2) = some (.string s) ∧ W.cell? ((a.add (i * 4)).add 3) = some (.int .i64 mo) ∧ (Lit.int .i64 k).wf = true ∧ n < 18446744073709551616 ∧ (Lit.int .i64 mo).wf = true := by
      intro i hil
      obtain ⟨cs, hc, ht⟩ := hi i (by omega)
      obtain ⟨_, hcl, hat⟩ := World.cells?_some hc
      obtain ⟨ys, n', hn', hy, hlen, hyl, hfd⟩ := DataW.trod_struct Try.underlying33 ht
      have g0 : DataW.trod enc Try.prog W base spare held n' 3 ((cs.drop 0).take (Try.prog.cellsOf 3)) = ys[0]? := hfd 0 _ rfl
      have g1 : DataW.trod enc Try.prog W base spare held n' 31 ((cs.drop 1).take (Try.prog.cellsOf 31)) = ys[1]? := hfd 1 _ rfl
      have g2 : DataW.trod enc Try.prog W base spare held n' 9 ((cs.drop 2).take (Try.prog.cellsOf 9)) = ys[2]? := hfd 2 _ rfl
      have g3 : DataW.trod enc Try.prog W base spare held n' 3 ((cs.drop 3).take (Try.prog.cellsOf 3)) = ys[3]? := hfd 3 _ rfl
      have hy4 : ys.length = 4 := by rw [hyl]; rfl
      rw [c3, one_of (j := 0) (by omega), List.getElem?_eq_getElem (by omega)] at g0
      rw [c31, one_of (j := 1) (by omega), List.getElem?_eq_getElem (by omega)] at g1
      rw [c9, one_of (j := 2) (by omega), List.getElem?_eq_getElem (by omega)] at g2
      rw [c3, one_of (j := 3) (by omega), List.getElem?_eq_getElem (by omega)] at g3
      obtain ⟨k, e0, -, wk⟩ := DataW.trod_int Try.underlying3 g0
      obtain ⟨z, e1, -, wz⟩ := DataW.trod_int Try.underlying31 g1
      obtain ⟨s, e2, -, -⟩ := DataW.trod_string Try.underlying9 g2
      obtain ⟨mo, e3, -, wm⟩ := DataW.trod_int Try.underlying3 g3
      obtain ⟨z, rfl, hz⟩ := is64_nat wz
      have a0 := hat 0 (by omega)
      have a1 := hat 1 (by omega)
      have a2 := hat 2 (by omega)
      have a3 := hat 3 (by omega)
      rw [List.getElem?_eq_getElem (by omega)] at a0 a1 a2 a3
      have f0 : cs[0] = .int .i64 k := by simpa using e0
      have f1 : cs[1] = .int .u64 (z : Int) := by simpa using e1
      have f2 : cs[2] = .string s := by simpa using e2
      have f3 : cs[3] = .int .i64 mo := by simpa using e3
      rw [f0] at a0
      rw [f1] at a1
      rw [f2] at a2
      rw [f3] at a3
      exact ⟨k, z, s, mo, by simpa [Addr.add] using a0, a1, a2, a3, wk, hz, wm⟩
    obtain ⟨b, off, spot⟩ := a
    obtain ⟨k0, n0, s0, m0, h00, _⟩ := key 0 h0
    have hspot : spot = none := by simpa [Addr.add] using World.cell?_spot h00
    subst hspot
    refine ⟨b, off, rfl, World.block_lt_of_cell? _ _ h00, fun i hi => ?_⟩
    obtain ⟨k, n, s, mo, h1, h2, h3, h4, wk, wn, wm⟩ := key i hi
    rw [add_plain] at h1 h2 h3 h4
    rw [add_plain] at h2 h3 h4
    exact ⟨k, n, s, mo, h1, h2, h3, h4, wk, wn, wm⟩
theorem CallAt.below {b o : Nat} {k : Int} {n : Nat} {s : ByteArray} {m : Int} {w w' : World} (h : CallAt b o k n s m w) {B : Nat} (hb : Below B w w') (hl : b < B) : CallAt b o k n s m w' :=
  ⟨by rw [hb.cell (p := ⟨b, o, none⟩) hl]; exact h.kind, by rw [hb.cell (p := ⟨b, o + 1, none⟩) hl]; exact h.num, by rw [hb.cell (p := ⟨b, o + 2, none⟩) hl]; exact h.str, by rw [hb.cell (p := ⟨b, o + 3, none⟩) hl]; exact h.most, h.wk, h.wn, h.wm⟩
theorem Moved.keep_cells {B b : Nat} {l : List UInt8} {w w' : World} (m : Moved b w w') (k : Wr B b l w) {i : Nat} {cs : Array Value} {T : TypeId} {fz : Nat × Nat} (hi : w.heap[i]? = some (.cells cs T fz) ∧ T ≠ 5) (hne : i ≠ b) : w'.heap[i]? = some (.cells cs T fz) := by
  rw [m.block i (lt_of_heap hi.1) hne (k.buf_ne hi.1 hi.2), hi.1]
end Go.Proofs.Ythmbnnbdphobiaa
