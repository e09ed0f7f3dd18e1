/- How the steps of GuardPlays are opened; the two guards beside each other. -/
import Derived.Test.YtcmgdllofkgaoaaGdQ
import Derived.ChangeOld
import Derived.ShutString
import Derived.ChangeMaps5
namespace Go.Proofs.Ytcmgdllofkgaoaa.Gd
open Go.ChangeShapes Go.WideShapes Go.ChangeAt Go.RowKit Go.Joins
open Ge (El Seen Row)
set_option maxRecDepth 100000
set_option maxRecDepth 100000
set_option linter.unusedVariables false
set_option linter.unusedSimpArgs false
theorem one_of {cs : List Value} {j : Nat} (h : j < cs.length) : (cs.drop j).take 1 = [cs[j]] := by
  rw [List.drop_eq_getElem_cons h]; rfl
/-- a step -/
structure Stp where
  id : Int
  per : Int
  now : Int
  near : Bool
  fo : Bool
def oc (o : Stp) : List Value := [.int .i64 o.id, .int .i64 o.per, .int .i64 o.now, .bool o.near, .bool o.fo]
theorem open_oc {H : Type} {enc : TypeId × Value → H} {W : World} {base : Nat} {spare : Nat → Bool} {held : Bool} {fuel : Nat} {cs : List Value} {x : DataW H × List MemPlace} (hl : cs.length = 5)
    (hf : DataW.trod enc Try.prog W base spare held fuel 31 cs = some x) : ∃ n : Stp, cs = oc n := by
  have ci : Try.prog.cellsOf 3 = 1 := by kernel_rfl
  have c6 : Try.prog.cellsOf 2 = 1 := by kernel_rfl
  have cb : Try.prog.cellsOf 4 = 1 := by kernel_rfl
  obtain ⟨ys, n', hn', hy, hlen, hyl, hfd⟩ := DataW.trod_struct Try.underlying31 hf
  have g0 : DataW.trod enc Try.prog W base spare held n' 3 ((cs.drop 0).take (Try.prog.cellsOf 3)) = ys[0]? := hfd 0 _ rfl
  have g1 : DataW.trod enc Try.prog W base spare held n' 2 ((cs.drop 1).take (Try.prog.cellsOf 2)) = ys[1]? := hfd 1 _ rfl
  have g2 : DataW.trod enc Try.prog W base spare held n' 2 ((cs.drop 2).take (Try.prog.cellsOf 2)) = ys[2]? := hfd 2 _ rfl
  have g3 : DataW.trod enc Try.prog W base spare held n' 4 ((cs.drop 3).take (Try.prog.cellsOf 4)) = ys[3]? := hfd 3 _ rfl
  have g4 : DataW.trod enc Try.prog W base spare held n' 4 ((cs.drop 4).take (Try.prog.cellsOf 4)) = ys[4]? := hfd 4 _ rfl
  have hy5 : ys.length = 5 := by rw [hyl]; rfl
  rw [ci, one_of (j := 0) (by omega), List.getElem?_eq_getElem (by omega)] at g0
  obtain ⟨z0, e0, -, w0⟩ := DataW.trod_int Try.underlying3 g0
  rw [c6, one_of (j := 1) (by omega), List.getElem?_eq_getElem (by omega)] at g1
  obtain ⟨z1, e1, -, w1⟩ := DataW.trod_int Try.underlying2 g1
  rw [c6, one_of (j := 2) (by omega), List.getElem?_eq_getElem (by omega)] at g2
  obtain ⟨z2, e2, -, w2⟩ := DataW.trod_int Try.underlying2 g2
  rw [cb, one_of (j := 3) (by omega), List.getElem?_eq_getElem (by omega)] at g3
  obtain ⟨z3, e3, -⟩ := DataW.trod_bool Try.underlying4 g3
  rw [cb, one_of (j := 4) (by omega), List.getElem?_eq_getElem (by omega)] at g4
  obtain ⟨z4, e4, -⟩ := DataW.trod_bool Try.underlying4 g4
  refine ⟨⟨z0, z1, z2, z3, z4⟩, ?_⟩
  clear hfd hy g0 g1 g2 g3 g4 hf
  match cs, hl, e0, e1, e2, e3, e4 with
  | [u0, u1, u2, u3, u4], _, e0, e1, e2, e3, e4 =>
    simp at e0 e1 e2 e3 e4
    subst e0 e1 e2 e3 e4
    rfl
theorem open_els {α : Type} [Inhabited α] {H : Type} {enc : TypeId × Value → H} {W : World} {base : Nat} {spare : Nat → Bool} {held : Bool} {fuel : Nat} {T ST : TypeId} {n : Nat} {f : α → List Value} {v : Value} {x : DataW H × List MemPlace} (hST : Try.prog.underlying ST = some (.slice T)) (hC : Try.prog.cellsOf T = n) (hn : 0 < n) (hlen : ∀ y, (f y).length = n)
    (hel : ∀ (m : Nat) (cs : List Value) (z : DataW H × List MemPlace), cs.length = n → DataW.trod enc Try.prog W base spare held m T cs = some z → ∃ y, cs = f y)
    (hf : DataW.trod enc Try.prog W base spare held fuel ST [v] = some x) :
    ∃ (ao : Option Addr) (l : List α) (cap : Nat), v = .slice ao l.length cap ∧ l.length ≤ 9223372036854775807 ∧ l.length ≤ cap ∧ (ao = none → cap = 0) ∧ Seen f n ao l W := by
  rcases Go.Deep.open_slice hST hf with ⟨hcs, hx⟩ | ⟨a, len, cap, m, k, D, Pl, hcs, _, hl, hm, hmm, hx, hi⟩
  · simp at hcs
    subst hcs
    exact ⟨none, [], 0, rfl, by simp, by simp, fun _ => rfl, Ge.seen_nil _ _⟩
  · simp at hcs
    subst hcs
    have hml : len ≤ m := by rw [hmm]; split <;> omega
    rw [hC] at hi
    have key : ∀ i, i < len → ∃ y : α, ∀ j u, (f y)[j]? = some u → W.cell? ((a.add (i * n)).add j) = some u := by
      intro i hil
      obtain ⟨cs, hc, ht⟩ := hi i (by omega)
      obtain ⟨_, hcl, hat⟩ := World.cells?_some hc
      obtain ⟨y, rfl⟩ := hel _ cs _ hcl ht
      refine ⟨y, fun j u hj => ?_⟩
      have hjl := (List.getElem?_eq_some_iff.1 hj).1
      have := hat j (by rw [hlen] at hjl; exact hjl)
      rw [hj] at this
      exact this
    obtain ⟨g, hg⟩ := Go.Deep.choose_lt key
    have hlenm : ((List.range len).map g).length = len := by simp
    refine ⟨some a, (List.range len).map g, cap, by rw [hlenm], by rw [hlenm]; unfold maxLen at hm; omega, by rw [hlenm]; exact hl, ⟨fun h => by simp at h, fun h0 => ?_⟩⟩
    rw [hlenm] at h0
    obtain ⟨b, off, spot⟩ := a
    have h00 : (f (g 0))[0]? = some ((f (g 0))[0]'(by rw [hlen]; exact hn)) := List.getElem?_eq_getElem _
    have c0 := hg 0 h0 0 _ h00
    have hspot : spot = none := by simpa [Addr.add] using World.cell?_spot c0
    subst hspot
    refine ⟨b, off, rfl, World.block_lt_of_cell? _ _ (by rw [Ge.addr_add, Ge.addr_add] at c0; exact c0), fun i y hiy j u hj => ?_⟩
    obtain ⟨hi2, rfl⟩ := List.getElem?_eq_some_iff.1 hiy
    simp only [List.getElem_map, List.getElem_range] at hj
    have := hg i (by omega) j u hj
    rw [Ge.addr_add, Ge.addr_add] at this
    exact this
instance : Inhabited Stp := ⟨⟨0, 0, 0, false, false⟩⟩
theorem open_ops {H : Type} {enc : TypeId × Value → H} {W : World} {r : Reach} {b0 base : Nat} {spare : Nat → Bool} {held : Bool} {v : Value} {d : DataW H} {p : List MemPlace}
    (hok : Value.okWide Try.prog W r b0 22 v) (h : DataW.Trod enc Try.prog W base spare held 22 v d p) :
    ∃ (ao : Option Addr) (l : List Stp) (cap : Nat), v = .slice ao l.length cap ∧ l.length ≤ 9223372036854775807 ∧ Seen oc 5 ao l W := by
  obtain ⟨ao, len, cap, rfl⟩ := okWide_slice Try.underlying22 hok
  obtain ⟨fuel, hf⟩ := h
  obtain ⟨ao', l, cap', e, h1, h2, -, h3⟩ := open_els (f := oc) (n := 5) Try.underlying22 (by kernel_rfl) (by omega) (fun _ => rfl) (fun m cs z hl ht => open_oc hl ht) (by simpa [Value.cells] using hf)
  exact ⟨ao', l, cap', e, h1, h3⟩
theorem seen_op {ao : Option Addr} {l : List Stp} {w : World} (h : Seen oc 5 ao l w) {i : Nat} {x : Stp} (hx : l[i]? = some x) : ∃ b off, ao = some ⟨b, off, none⟩ ∧ w.cell? ⟨b, off + i * 5, none⟩ = some (.int .i64 x.id) ∧ w.cell? ⟨b, off + i * 5 + 1, none⟩ = some (.int .i64 x.per) ∧ w.cell? ⟨b, off + i * 5 + 2, none⟩ = some (.int .i64 x.now) ∧
    w.cell? ⟨b, off + i * 5 + 3, none⟩ = some (.bool x.near) ∧ w.cell? ⟨b, off + i * 5 + 4, none⟩ = some (.bool x.fo) := by
  obtain ⟨b, off, e, -, hc⟩ := h (by have := (List.getElem?_eq_some_iff.1 hx).1; omega)
  exact ⟨b, off, e, by simpa using hc i x hx 0 _ rfl, hc i x hx 1 _ rfl, hc i x hx 2 _ rfl, hc i x hx 3 _ rfl, hc i x hx 4 _ rfl⟩
section
variable {B g r : Nat} {mo : Option Nat} {v : Value} {L M : List Kn} {w w' : World}
theorem Rg.ne (k : Rg B w r v M) (h : Gm B w g mo L) : r ≠ g := by
  rintro rfl
  have h1 := h.blk
  rw [k.blk] at h1
  cases h1
theorem Gm.mne (h : Gm B w g mo L) {b : Nat} {cs : Array Value} {T : TypeId} {fz : Nat × Nat} (hb : w.heap[b]? = some (.cells cs T fz)) : mo ≠ some b := fun e => by
  obtain ⟨-, es, clock, h1, -⟩ := h.map b e
  rw [hb] at h1
  cases h1
theorem Rg.vne (k : Rg B w r v M) {b : Nat} {cs : Array Value} {T : TypeId} {fz : Nat × Nat} (hb : w.heap[b]? = some (.cells cs T fz)) (hT : T ≠ 53) : v.ownBlock ≠ some b := fun e => by
  rcases k.row.2 with ⟨rfl, _⟩ | ⟨g, cap, cur, rfl, hB, hg, rest⟩
  · cases e
  · cases e
    rw [hb] at hg
    cases hg
    exact hT rfl
theorem Rg.mono {C : Nat} (k : Rg B w r v M) (hC : C ≤ B) : Rg C w r v M := ⟨by have := k.lb; omega, k.blk, k.row.mono hC⟩
section
variable {ob j : Nat} {cs : Array Value} {T : TypeId} {fz : Nat × Nat}
theorem ob_left (hb : w.heap[ob]? = some (.cells cs T fz)) (hT : T ≠ 47) (h : Gm B w g mo L) (m : Mv g mo w w') : w'.heap[ob]? = some (.cells cs T fz) := by
  rw [m.block ob (lt_of_heap hb) (by rintro rfl; rw [h.blk] at hb; cases hb; exact hT rfl) (h.mne hb)]; exact hb
theorem ob_right (hb : w.heap[ob]? = some (.cells cs T fz)) (hT : T ≠ 29) (k : Rg B w r v M) (m : Mv r none w w') : w'.heap[ob]? = some (.cells cs T fz) := by
  rw [m.block ob (lt_of_heap hb) (by rintro rfl; rw [k.blk] at hb; cases hb; exact hT rfl) (by simp)]; exact hb
theorem ob_set (hb : w.heap[ob]? = some (.cells cs T fz)) (x : Value) : (w.setCell ⟨ob, j, none⟩ x).heap[ob]? = some (.cells (cs.setIfInBounds j x) T fz) := by
  simp [World.setCell, Array.getElem?_modify, hb]
theorem Gm.obs (h : Gm B w g mo L) (hb : w.heap[ob]? = some (.cells cs T fz)) (hT : T ≠ 47) (x : Value) : Gm B (w.setCell ⟨ob, j, none⟩ x) g mo L :=
  h.of_blocks (Below.heap_setCell _ _ _ _ (show g ≠ ob by rintro rfl; rw [h.blk] at hb; cases hb; exact hT rfl)) fun m e => Below.heap_setCell _ _ _ _ (show m ≠ ob by rintro rfl; exact h.mne hb e)
theorem Rg.obs (k : Rg B w r v M) (hb : w.heap[ob]? = some (.cells cs T fz)) (hT : T ≠ 29) (hK : T ≠ 53) (x : Value) : Rg B (w.setCell ⟨ob, j, none⟩ x) r v M :=
  k.of_blocks (Below.heap_setCell _ _ _ _ (show r ≠ ob by rintro rfl; rw [k.blk] at hb; cases hb; exact hT rfl)) fun m e => Below.heap_setCell _ _ _ _ (show m ≠ ob by rintro rfl; exact k.vne hb hK e)
end
/-- the document's guard, when the other one is turned -/
theorem Rg.beside (k : Rg B w r v M) (h : Gm B w g mo L) (m : Mv g mo w w') : Rg B w' r v M :=
  k.of_blocks (m.block r k.lt (k.ne h) (h.mne k.blk)) fun j hj => m.block j (k.row.lt j hj).2 (by rintro rfl; exact k.vne h.blk (by decide) hj) (fun e => by
    obtain ⟨-, es, clock, h1, -⟩ := h.map j e
    rcases k.row.2 with ⟨rfl, _⟩ | ⟨g, cap, cur, rfl, hB, hg, rest⟩
    · cases hj
    · cases hj
      rw [hg] at h1; cases h1)
/-- .. and the other way about -/
theorem Gm.beside (h : Gm B w g mo L) (k : Rg B w r v M) (m : Mv r none w w') : Gm B w' g mo L :=
  h.of_blocks (m.block g h.lt (fun e => k.ne h e.symm) (by simp)) fun j hj => m.block j (h.mlt j hj).2 (by rintro rfl; exact h.mne k.blk hj) (by simp)
end
end Go.Proofs.Ytcmgdllofkgaoaa.Gd
