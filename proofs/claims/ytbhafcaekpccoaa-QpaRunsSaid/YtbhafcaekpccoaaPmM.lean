/- What the statements of layer 9 are made of: rows of tasks and of numbers that came in, opened; few, made, awake. -/
import Derived.Test.YtbhafcaekpccoaaPmR
import Derived.Test.YtbhafcaekpccoaaPmL
import Derived.Deep.Slices
import Derived.ChangeSlices
namespace Go.Proofs.Ytbhafcaekpccoaa.Pm
open Go.ChangeShapes Go.WideShapes Go.ChangeAt Go.RowKit Go.Joins
set_option maxRecDepth 100000
set_option maxRecDepth 100000
set_option linter.unusedVariables false
set_option linter.unusedSimpArgs false
instance : Inhabited Tk := ⟨⟨0, 0, 0, 0, 0⟩⟩
theorem one_of {cs : List Value} {j : Nat} (h : j < cs.length) : (cs.drop j).take 1 = [cs[j]] := by
  rw [List.drop_eq_getElem_cons h]; rfl
theorem i64_wf {z : Int} (h : (Lit.int .i64 z).wf = true) : I64 z := by
  have := bounds_i64 h
  unfold I64; omega
theorem open_tasks {H : Type} {enc : TypeId × Value → H} {W : World} {r : Reach} {b0 base : Nat} {spare : Nat → Bool} {held : Bool} {v : Value} {d : DataW H} {p : List MemPlace}
    (hok : Value.okWide Try.prog W r b0 22 v) (h : DataW.Trod enc Try.prog W base spare held 22 v d p) :
    ∃ (ao : Option Addr) (l : List Tk) (cap : Nat), v = .slice ao l.length cap ∧ l.length ≤ 9223372036854775807 ∧ l.length ≤ cap ∧ Ts ao l W ∧ ∀ x ∈ l, x.Ok := by
  obtain ⟨ao, len, cap, rfl⟩ := okWide_slice Try.underlying22 hok
  obtain ⟨fuel, hf⟩ := h
  rcases Go.Deep.open_slice Try.underlying22 hf with ⟨hcs, hx⟩ | ⟨a, len', cap', m, n, D, Pl, hcs, _, hl, hm, hmm, hx, hi⟩
  · simp [Value.cells] at hcs
    obtain ⟨rfl, rfl, rfl⟩ := hcs
    exact ⟨none, [], 0, rfl, by simp, by simp, fun h => by simp at h, by simp⟩
  · simp [Value.cells] at hcs
    obtain ⟨rfl, rfl, rfl⟩ := hcs
    have hml : len ≤ m := by rw [hmm]; split <;> omega
    have hC : Try.prog.cellsOf 42 = 5 := by kernel_rfl
    have ci : Try.prog.cellsOf 3 = 1 := by kernel_rfl
    have cl : Try.prog.cellsOf 2 = 1 := by kernel_rfl
    rw [hC] at hi
    have key : ∀ i, i < len → ∃ x : Tk, (W.cell? (a.add (i * 5)) = some (.int .i64 x.id) ∧ W.cell? ((a.add (i * 5)).add 1) = some (.int .i64 x.c) ∧ W.cell? ((a.add (i * 5)).add 2) = some (.int .i64 x.d) ∧ W.cell? ((a.add (i * 5)).add 3) = some (.int .i64 x.t) ∧ W.cell? ((a.add (i * 5)).add 4) = some (.int .i64 x.m)) ∧ x.Ok := by
      intro i hil
      obtain ⟨cs, hc, ht⟩ := hi i (by omega)
      obtain ⟨_, hcl, hat⟩ := World.cells?_some hc
      obtain ⟨ys, n', hn', hy, hlen, hyl, hfd⟩ := DataW.trod_struct Try.underlying42 ht
      have g0 : DataW.trod enc Try.prog W base spare held n' 3 ((cs.drop 0).take (Try.prog.cellsOf 3)) = ys[0]? := hfd 0 _ rfl
      have g1 : DataW.trod enc Try.prog W base spare held n' 2 ((cs.drop 1).take (Try.prog.cellsOf 2)) = ys[1]? := hfd 1 _ rfl
      have g2 : DataW.trod enc Try.prog W base spare held n' 2 ((cs.drop 2).take (Try.prog.cellsOf 2)) = ys[2]? := hfd 2 _ rfl
      have g3 : DataW.trod enc Try.prog W base spare held n' 2 ((cs.drop 3).take (Try.prog.cellsOf 2)) = ys[3]? := hfd 3 _ rfl
      have g4 : DataW.trod enc Try.prog W base spare held n' 3 ((cs.drop 4).take (Try.prog.cellsOf 3)) = ys[4]? := hfd 4 _ rfl
      have hy5 : ys.length = 5 := by rw [hyl]; rfl
      rw [ci, one_of (j := 0) (by omega), List.getElem?_eq_getElem (by omega)] at g0
      rw [cl, one_of (j := 1) (by omega), List.getElem?_eq_getElem (by omega)] at g1
      rw [cl, one_of (j := 2) (by omega), List.getElem?_eq_getElem (by omega)] at g2
      rw [cl, one_of (j := 3) (by omega), List.getElem?_eq_getElem (by omega)] at g3
      rw [ci, one_of (j := 4) (by omega), List.getElem?_eq_getElem (by omega)] at g4
      obtain ⟨z0, e0, -, w0⟩ := DataW.trod_int Try.underlying3 g0
      obtain ⟨z1, e1, -, w1⟩ := DataW.trod_int Try.underlying2 g1
      obtain ⟨z2, e2, -, w2⟩ := DataW.trod_int Try.underlying2 g2
      obtain ⟨z3, e3, -, w3⟩ := DataW.trod_int Try.underlying2 g3
      obtain ⟨z4, e4, -, w4⟩ := DataW.trod_int Try.underlying3 g4
      have a0 := hat 0 (by omega)
      have a1 := hat 1 (by omega)
      have a2 := hat 2 (by omega)
      have a3 := hat 3 (by omega)
      have a4 := hat 4 (by omega)
      rw [List.getElem?_eq_getElem (by omega)] at a0 a1 a2 a3 a4
      have f0 : cs[0] = .int .i64 z0 := by simpa using e0
      have f1 : cs[1] = .int .i64 z1 := by simpa using e1
      have f2 : cs[2] = .int .i64 z2 := by simpa using e2
      have f3 : cs[3] = .int .i64 z3 := by simpa using e3
      have f4 : cs[4] = .int .i64 z4 := by simpa using e4
      rw [f0] at a0
      rw [f1] at a1
      rw [f2] at a2
      rw [f3] at a3
      rw [f4] at a4
      exact ⟨⟨z0, z1, z2, z3, z4⟩, ⟨by simpa [Addr.add] using a0, a1, a2, a3, a4⟩, ⟨i64_wf w0, i64_wf w1, i64_wf w2, i64_wf w3, i64_wf w4⟩⟩
    obtain ⟨f, hfk⟩ := Go.Deep.choose_lt key
    have hlen : ((List.range len).map f).length = len := by simp
    refine ⟨some a, (List.range len).map f, cap, by rw [hlen], by rw [hlen]; unfold maxLen at hm; omega, by rw [hlen]; exact hl, fun h0 => ?_, ?_⟩
    · obtain ⟨b, off, spot⟩ := a
      have hspot : spot = none := by
        have := (hfk 0 (by omega)).1.1
        simpa [Addr.add] using World.cell?_spot this
      subst hspot
      refine ⟨b, off, rfl, World.block_lt_of_cell? _ _ (hfk 0 (by omega)).1.1, fun i x hix => ?_⟩
      obtain ⟨hi2, rfl⟩ := List.getElem?_eq_some_iff.1 hix
      obtain ⟨⟨h0, h1, h2, h3, h4⟩, -⟩ := hfk i (by omega)
      rw [addr_add] at h0 h1 h2 h3 h4
      rw [addr_add] at h1 h2 h3 h4
      simp only [List.getElem_map, List.getElem_range]
      exact ⟨h0, h1, h2, h3, h4⟩
    · intro x hx
      obtain ⟨i, hi, rfl⟩ := List.mem_map.1 hx
      exact (hfk i (by simpa using hi)).2
/-- three numbers -/
structure Tri where
  a : Int
  b : Int
  c : Int
instance : Inhabited Tri := ⟨⟨0, 0, 0⟩⟩
structure Tri.Ok (x : Tri) : Prop where
  a : I64 x.a
  b : I64 x.b
  c : I64 x.c
/-- three numbers in memory -/
structure TriAt (b o : Nat) (x : Tri) (w : World) : Prop where
  c0 : w.cell? ⟨b, o, none⟩ = some (.int .i64 x.a)
  c1 : w.cell? ⟨b, o + 1, none⟩ = some (.int .i64 x.b)
  c2 : w.cell? ⟨b, o + 2, none⟩ = some (.int .i64 x.c)
theorem TriAt.of_block {b o : Nat} {x : Tri} {w w' : World} (h : TriAt b o x w) (e : w'.heap[b]? = w.heap[b]?) : TriAt b o x w' :=
  ⟨(World.cell?_of_block (w := w) e).trans h.c0, (World.cell?_of_block (w := w) e).trans h.c1, (World.cell?_of_block (w := w) e).trans h.c2⟩
/-- a row of them -/
def Tris (ao : Option Addr) (l : List Tri) (w : World) : Prop := 0 < l.length → ∃ b off, ao = some ⟨b, off, none⟩ ∧ b < w.heap.size ∧ ∀ i x, l[i]? = some x → TriAt b (off + i * 3) x w
theorem Tris.below {ao : Option Addr} {l : List Tri} {w w' : World} (h : Tris ao l w) {B : Nat} (hb : Below B w w') (hB : w.heap.size ≤ B) : Tris ao l w' := fun h0 => by
  obtain ⟨b, off, rfl, hl, hc⟩ := h h0
  have := hb.size
  exact ⟨b, off, rfl, by omega, fun i x hi => (hc i x hi).of_block (hb.block b (by omega))⟩
theorem open_tri {H : Type} {enc : TypeId × Value → H} {W : World} {base : Nat} {spare : Nat → Bool} {held : Bool} {fuel : Nat} {cs : List Value} {x : DataW H × List MemPlace} (h : DataW.trod enc Try.prog W base spare held fuel 44 cs = some x) (hl3 : cs.length = 3) :
    ∃ x : Tri, cs = [.int .i64 x.a, .int .i64 x.b, .int .i64 x.c] ∧ x.Ok := by
  have ht : Try.prog.underlying 44 = some (.array 3 3) := Try.underlying44
  obtain ⟨xs, m, rfl, -, -, hl, hx⟩ := DataW.trod_array ht h
  have h1 : Try.prog.cellsOf 3 = 1 := by kernel_rfl
  have key : ∀ i (hi : i < cs.length), ∃ z, cs[i] = .int .i64 z ∧ I64 z := by
    intro i hi
    have := hx i (by omega)
    rw [h1, Nat.mul_one, one_of hi, List.getElem?_eq_getElem (by omega)] at this
    obtain ⟨z, e0, -, wz⟩ := DataW.trod_int Try.underlying3 this
    exact ⟨z, by simpa using e0, i64_wf wz⟩
  obtain ⟨a, ea, wa⟩ := key 0 (by omega)
  obtain ⟨b, eb, wb⟩ := key 1 (by omega)
  obtain ⟨c, ec, wc⟩ := key 2 (by omega)
  refine ⟨⟨a, b, c⟩, ?_, ⟨wa, wb, wc⟩⟩
  match cs, hl3, ea, eb, ec with
  | [u, v, z], _, ea, eb, ec =>
    simp at ea eb ec
    subst ea eb ec
    rfl
theorem open_tris {H : Type} {enc : TypeId × Value → H} {W : World} {r : Reach} {b0 base : Nat} {spare : Nat → Bool} {held : Bool} {v : Value} {d : DataW H} {p : List MemPlace}
    (hok : Value.okWide Try.prog W r b0 23 v) (h : DataW.Trod enc Try.prog W base spare held 23 v d p) :
    ∃ (ao : Option Addr) (l : List Tri) (cap : Nat), v = .slice ao l.length cap ∧ l.length ≤ 9223372036854775807 ∧ Tris ao l W ∧ ∀ x ∈ l, x.Ok := by
  obtain ⟨ao, len, cap, rfl⟩ := okWide_slice Try.underlying23 hok
  obtain ⟨fuel, hf⟩ := h
  rcases Go.Deep.open_slice Try.underlying23 hf with ⟨hcs, hx⟩ | ⟨a, len', cap', m, n, D, Pl, hcs, _, hl, hm, hmm, hx, hi⟩
  · simp [Value.cells] at hcs
    obtain ⟨rfl, rfl, rfl⟩ := hcs
    exact ⟨none, [], 0, rfl, by simp, fun h => by simp at h, by simp⟩
  · simp [Value.cells] at hcs
    obtain ⟨rfl, rfl, rfl⟩ := hcs
    have hml : len ≤ m := by rw [hmm]; split <;> omega
    have hC : Try.prog.cellsOf 44 = 3 := by kernel_rfl
    rw [hC] at hi
    have key : ∀ i, i < len → ∃ x : Tri, (W.cell? (a.add (i * 3)) = some (.int .i64 x.a) ∧ W.cell? ((a.add (i * 3)).add 1) = some (.int .i64 x.b) ∧ W.cell? ((a.add (i * 3)).add 2) = some (.int .i64 x.c)) ∧ x.Ok := by
      intro i hil
      obtain ⟨cs, hc, ht⟩ := hi i (by omega)
      obtain ⟨_, hcl, hat⟩ := World.cells?_some hc
      obtain ⟨x, rfl, hx⟩ := open_tri ht hcl
      have a0 := hat 0 (by simp)
      have a1 := hat 1 (by simp)
      have a2 := hat 2 (by simp)
      exact ⟨x, ⟨by simpa [Addr.add] using a0, by simpa using a1, by simpa using a2⟩, hx⟩
    obtain ⟨f, hfk⟩ := Go.Deep.choose_lt key
    have hlen : ((List.range len).map f).length = len := by simp
    refine ⟨some a, (List.range len).map f, cap, by rw [hlen], by rw [hlen]; unfold maxLen at hm; omega, fun h0 => ?_, ?_⟩
    · obtain ⟨b, off, spot⟩ := a
      have hspot : spot = none := by
        have := (hfk 0 (by omega)).1.1
        simpa [Addr.add] using World.cell?_spot this
      subst hspot
      refine ⟨b, off, rfl, World.block_lt_of_cell? _ _ (hfk 0 (by omega)).1.1, fun i x hix => ?_⟩
      obtain ⟨hi2, rfl⟩ := List.getElem?_eq_some_iff.1 hix
      obtain ⟨⟨h0, h1, h2⟩, -⟩ := hfk i (by omega)
      rw [addr_add] at h0 h1 h2
      rw [addr_add] at h1 h2
      simp only [List.getElem_map, List.getElem_range]
      exact ⟨h0, h1, h2⟩
    · intro x hx
      obtain ⟨i, hi, rfl⟩ := List.mem_map.1 hx
      exact (hfk i (by simpa using hi)).2
theorem open_tri_v {H : Type} {enc : TypeId × Value → H} {W : World} {r : Reach} {b0 base : Nat} {spare : Nat → Bool} {held : Bool} {v : Value} {d : DataW H} {p : List MemPlace}
    (hok : Value.okWide Try.prog W r b0 44 v) (h : DataW.Trod enc Try.prog W base spare held 44 v d p) :
    ∃ x : Tri, v = .agg #[.int .i64 x.a, .int .i64 x.b, .int .i64 x.c] ∧ x.Ok := by
  have ht : Try.prog.underlying 44 = some (.array 3 3) := Try.underlying44
  obtain ⟨cs, rfl, hsz, _⟩ : ∃ cs, v = .agg cs ∧ cs.size = Try.prog.cellsOf 44 ∧ Row.okWide Try.prog W r b0 44 cs := by
    simpa [Value.okWide, ht] using hok
  have hC : Try.prog.cellsOf 44 = 3 := by kernel_rfl
  rw [hC] at hsz
  obtain ⟨fuel, hf⟩ := h
  obtain ⟨x, hx, ok⟩ := open_tri hf (by simpa [Value.cells] using hsz)
  refine ⟨x, ?_, ok⟩
  congr 1
  apply Array.ext'
  simpa [Value.cells] using hx
end Go.Proofs.Ytbhafcaekpccoaa.Pm
