/- The document's disk in memory. -/
import Derived.Test.YtgjndfkjakbdiaaDkT
namespace Go.Proofs.Ytgjndfkjakbdiaa.Dk
open Go.ChangeShapes Go.WideShapes Go.ChangeAt Go.RowKit Go.Joins
set_option linter.unusedVariables false
set_option linter.unusedSimpArgs false
def secV (S : List (List UInt8)) : List Value := S.map fun l => Value.string (mkB l)
def opnV (O : List (Nat × List UInt8)) : List Value := (O.map fun p => [Value.int .i64 (p.1 : Int), Value.string (mkB p.2)]).flatten
structure RkAt (B b : Nat) (vS vL : Value) (s : DS) (w : World) : Prop where
  ok : s.Ok
  hb : B ≤ b
  blk : w.heap[b]? = some (.cells #[vS, vL, .int .i64 (s.fail : Int), .int .i64 (s.reads : Int)] 43 (0, 0))
  rowS : w.ownsRow B 9 1 vS s.sec.length (secV s.sec)
  rowL : w.ownsRow B 65 2 vL s.opn.length (opnV s.opn)
def Rk (B b : Nat) (s : DS) (w : World) : Prop := ∃ vS vL, RkAt B b vS vL s w
theorem own_block {w : World} {B : Nat} {e : TypeId} {size n : Nat} {v : Value} {xs : List Value} (h : w.ownsRow B e size v n xs) {k : Nat} (hk : v.ownBlock = some k) : ∃ cur, w.heap[k]? = some (.cells cur e (0, 0)) := by
  rcases h.2 with ⟨rfl, _⟩ | ⟨g', cap, cur, rfl, _, hg, _⟩
  · simp [Value.ownBlock] at hk
  · simp [Value.ownBlock] at hk; subst hk; exact ⟨cur, hg⟩
theorem own_of_block {w w' : World} {B : Nat} {e : TypeId} {size n : Nat} {v : Value} {xs : List Value} (h : w.ownsRow B e size v n xs) (hk : ∀ k, v.ownBlock = some k → w'.heap[k]? = w.heap[k]?) : w'.ownsRow B e size v n xs := by
  refine ⟨h.1, ?_⟩
  rcases h.2 with hn | ⟨g, cap, cur, rfl, hB, hg, rest⟩
  · exact .inl hn
  · exact .inr ⟨g, cap, cur, rfl, hB, by rw [hk g rfl]; exact hg, rest⟩
theorem own_form {w : World} {B : Nat} {e : TypeId} {size n : Nat} {v : Value} {xs : List Value} (h : w.ownsRow B e size v n xs) : ∃ p cap, v = .slice p n cap ∧ n ≤ cap ∧ (0 < n → ∃ k, p = some ⟨k, 0, none⟩) := by
  rcases h.2 with ⟨rfl, h0⟩ | ⟨g', cap, cur, rfl, _, _, hc, _⟩
  · exact ⟨none, 0, by rw [h0], by omega, by omega⟩
  · exact ⟨_, cap, rfl, hc, fun _ => ⟨_, rfl⟩⟩
section
variable {B b : Nat} {vS vL : Value} {s : DS} {w w' : World}
theorem RkAt.lt (h : RkAt B b vS vL s w) : b < w.heap.size := lt_of_heap h.blk
theorem RkAt.le (h : RkAt B b vS vL s w) : B ≤ w.heap.size := by have := h.lt; have := h.hb; omega
theorem RkAt.c0 (h : RkAt B b vS vL s w) : w.cell? ⟨b, 0, none⟩ = some vS := by rw [Lib.cell_of_heap h.blk]; rfl
theorem RkAt.c1 (h : RkAt B b vS vL s w) : w.cell? ⟨b, 1, none⟩ = some vL := by rw [Lib.cell_of_heap h.blk]; rfl
theorem RkAt.c2 (h : RkAt B b vS vL s w) : w.cell? ⟨b, 2, none⟩ = some (.int .i64 (s.fail : Int)) := by rw [Lib.cell_of_heap h.blk]; rfl
theorem RkAt.c3 (h : RkAt B b vS vL s w) : w.cell? ⟨b, 3, none⟩ = some (.int .i64 (s.reads : Int)) := by rw [Lib.cell_of_heap h.blk]; rfl
theorem RkAt.fz (h : RkAt B b vS vL s w) (o : Nat) : w.frozen? ⟨b, o, none⟩ = false := Lib.frozen_of_heap h.blk o
theorem blk_ne {w : World} {k b : Nat} {c c' : Array Value} {T T' : TypeId} {f f' : Nat × Nat} (h : w.heap[k]? = some (.cells c T f)) (h' : w.heap[b]? = some (.cells c' T' f')) (hT : T ≠ T') : k ≠ b := by
  rintro rfl
  rw [h] at h'
  simp only [Option.some.injEq, Obj.cells.injEq] at h'
  exact hT h'.2.1
theorem RkAt.nS (h : RkAt B b vS vL s w) {k : Nat} (e : vS.ownBlock = some k) : k ≠ b := by
  obtain ⟨c, hc⟩ := own_block h.rowS e
  exact blk_ne hc h.blk (by decide)
theorem RkAt.nL (h : RkAt B b vS vL s w) {k : Nat} (e : vL.ownBlock = some k) : k ≠ b := by
  obtain ⟨c, hc⟩ := own_block h.rowL e
  exact blk_ne hc h.blk (by decide)
theorem RkAt.nSL (h : RkAt B b vS vL s w) {k j : Nat} (e : vS.ownBlock = some k) (e' : vL.ownBlock = some j) : k ≠ j := by
  obtain ⟨c, hc⟩ := own_block h.rowS e
  obtain ⟨c', hc'⟩ := own_block h.rowL e'
  exact blk_ne hc hc' (by decide)
theorem RkAt.owns (h : RkAt B b vS vL s w) {k : Nat} : Own w b k ↔ k = b ∨ vS.ownBlock = some k ∨ vL.ownBlock = some k := by
  unfold Own
  rw [h.c0, h.c1]
  rfl
theorem RkAt.ownLt (h : RkAt B b vS vL s w) {k : Nat} (e : Own w b k) : B ≤ k ∧ k < w.heap.size := by
  rcases h.owns.1 e with rfl | e | e
  · exact ⟨h.hb, h.lt⟩
  · exact h.rowS.lt k e
  · exact h.rowL.lt k e
theorem RkAt.of_blocks (h : RkAt B b vS vL s w) (e : ∀ k, Own w b k → w'.heap[k]? = w.heap[k]?) : RkAt B b vS vL s w' :=
  ⟨h.ok, h.hb, by rw [e b (.inl rfl)]; exact h.blk, own_of_block h.rowS (fun k hk => e k (h.owns.2 (.inr (.inl hk)))), own_of_block h.rowL (fun k hk => e k (h.owns.2 (.inr (.inr hk))))⟩
theorem RkAt.call (h : RkAt B b vS vL s w) (hb : Below w.heap.size w w') : RkAt B b vS vL s w' := h.of_blocks fun k hk => hb.block k (h.ownLt hk).2
theorem RkAt.drew (h : RkAt B b vS vL s w) : RkAt B b vS vL s w.drew := h.of_blocks fun _ _ => rfl
theorem RkAt.alloc (h : RkAt B b vS vL s w) (o : Obj) : RkAt B b vS vL s (w.alloc o) := h.call ((Below.refl _ _).alloc (Nat.le_refl _) _)
theorem Rk.call (h : Rk B b s w) (hb : Below w.heap.size w w') : Rk B b s w' := by obtain ⟨g, v, h⟩ := h; exact ⟨g, v, h.call hb⟩
theorem Rk.lt (h : Rk B b s w) : b < w.heap.size := by obtain ⟨g, v, h⟩ := h; exact h.lt
theorem Rk.le (h : Rk B b s w) : B ≤ w.heap.size := by obtain ⟨g, v, h⟩ := h; exact h.le
theorem Rk.ok (h : Rk B b s w) : s.Ok := by obtain ⟨g, v, h⟩ := h; exact h.ok
theorem Rk.ownLt (h : Rk B b s w) {k : Nat} (e : Own w b k) : B ≤ k ∧ k < w.heap.size := by obtain ⟨g, v, h⟩ := h; exact h.ownLt e
theorem Rk.moved {c : Nat} (h : Rk B b s w) (m : Moved c w w') (ha : ∀ k, Own w b k → ¬ Own w c k) : Rk B b s w' := by
  obtain ⟨g, v, h⟩ := h
  exact ⟨g, v, h.of_blocks fun k hk => m.block k (h.ownLt hk).2 (ha k hk)⟩
theorem Rk.below (h : Rk B b s w) (m : Moved b w w') : Below B w w' := m.below (fun k hk => (h.ownLt hk).1) h.le
theorem Rk.mono {A : Nat} (h : Rk B b s w) (hA : A ≤ B) : Rk A b s w := by
  obtain ⟨g, v, h⟩ := h
  have mono : ∀ {e size n v xs}, w.ownsRow B e size v n xs → w.ownsRow A e size v n xs := fun h => ⟨h.1, h.2.imp id (fun ⟨g, cap, cur, e, hB, rest⟩ => ⟨g, cap, cur, e, Nat.le_trans hA hB, rest⟩)⟩
  exact ⟨g, v, h.ok, Nat.le_trans hA h.hb, h.blk, mono h.rowS, mono h.rowL⟩
theorem grown_set (w : World) (b o : Nat) (v : Value) : w.grownBy (w.setCell ⟨b, o, none⟩ v) (some b) :=
  ⟨rfl, rfl, rfl, by simp [World.setCell], fun k _ hk => Below.heap_setCell _ _ _ _ (fun e => hk (by simp [e]))⟩
theorem RkAt.setFail (h : RkAt B b vS vL s w) {x : Int} {f : Nat} (e : x = (f : Int)) : RkAt B b vS vL ⟨s.sec, s.opn, f, s.reads⟩ (w.setCell ⟨b, 2, none⟩ (.int .i64 x)) := by
  subst e
  exact ⟨h.ok.with _ _, h.hb, by simp [World.setCell, Array.getElem?_modify, h.blk], h.rowS.kept (grown_set _ _ _ _) (.inr fun e => h.nS e rfl), h.rowL.kept (grown_set _ _ _ _) (.inr fun e => h.nL e rfl)⟩
theorem RkAt.setReads (h : RkAt B b vS vL s w) {x : Int} {f : Nat} (e : x = (f : Int)) : RkAt B b vS vL ⟨s.sec, s.opn, s.fail, f⟩ (w.setCell ⟨b, 3, none⟩ (.int .i64 x)) := by
  subst e
  exact ⟨h.ok.with _ _, h.hb, by simp [World.setCell, Array.getElem?_modify, h.blk], h.rowS.kept (grown_set _ _ _ _) (.inr fun e => h.nS e rfl), h.rowL.kept (grown_set _ _ _ _) (.inr fun e => h.nL e rfl)⟩
theorem rFail (h : RkAt B b vS vL s w) (x : Int) : Moved b w (w.setCell ⟨b, 2, none⟩ (.int .i64 x)) := (Moved.refl b w).set h.c2 (fun k hk _ => by simp [Value.ownBlock] at hk)
theorem rReads (h : RkAt B b vS vL s w) (x : Int) : Moved b w (w.setCell ⟨b, 3, none⟩ (.int .i64 x)) := (Moved.refl b w).set h.c3 (fun k hk _ => by simp [Value.ownBlock] at hk)
/-- no write is open -/
theorem RkAt.shut (h : RkAt B b vS vL s w) : RkAt B b vS (.slice none 0 0) ⟨s.sec, [], s.fail, s.reads⟩ (w.setCell ⟨b, 1, none⟩ (.slice none 0 0)) ∧ Moved b w (w.setCell ⟨b, 1, none⟩ (.slice none 0 0)) :=
  ⟨⟨⟨h.ok.len, h.ok.sec, fun p hp => by cases hp⟩, h.hb, by simp [World.setCell, Array.getElem?_modify, h.blk], h.rowS.kept (grown_set _ _ _ _) (.inr fun e => h.nS e rfl), World.ownsRow_nil _ _ _ _⟩, (Moved.refl b w).set h.c1 (fun k hk _ => by simp [Value.ownBlock] at hk)⟩
/-- a sector told anew -/
theorem RkAt.setSec {g cap : Nat} (h : RkAt B b (.slice (some ⟨g, 0, none⟩) s.sec.length cap) vL s w) (a : Nat) (x : List UInt8) (hx : x.length = 64) :
    RkAt B b (.slice (some ⟨g, 0, none⟩) s.sec.length cap) vL ⟨s.sec.set a x, s.opn, s.fail, s.reads⟩ (w.setCell ⟨g, a, none⟩ (.string (mkB x))) ∧ Moved b w (w.setCell ⟨g, a, none⟩ (.string (mkB x))) := by
  have hne : g ≠ b := h.nS rfl
  have hgL : vL.ownBlock ≠ some g := fun e => h.nSL (k := g) rfl e rfl
  have hg : Own w b g := h.owns.2 (.inr (.inl rfl))
  constructor
  · refine ⟨⟨by simpa using h.ok.len, fun y hy => ?_, fun p hp => by simpa using h.ok.opn p hp⟩, h.hb, ?_, ?_, h.rowL.kept (grown_set _ _ _ _) (.inr hgL)⟩
    · rcases List.mem_or_eq_of_mem_set hy with e | rfl
      · exact h.ok.sec y e
      · exact hx
    · rw [Below.heap_setCell _ _ _ _ (Ne.symm hne)]
      simp only [List.length_set]
      exact h.blk
    · have := (World.ownsRow.stored h.rowS a (.string (mkB x))).1
      simp only [List.length_set]
      unfold secV at *
      rw [List.map_set]
      exact this
  · exact ⟨rfl, rfl, rfl, by simp [World.setCell], fun k hk hn => Below.heap_setCell _ _ _ _ (fun e => hn (by have e' : k = g := e; rw [e']; exact hg)), fun k hk => .inl (hk.of_block (Below.heap_setCell _ _ _ _ (Ne.symm hne)))⟩
/-- a sector's text, an open write -/
theorem RkAt.secAt {g cap : Nat} (h : RkAt B b (.slice (some ⟨g, 0, none⟩) s.sec.length cap) vL s w) {i : Nat} (hi : i < s.sec.length) : w.cell? ⟨g, i, none⟩ = some (.string (mkB s.sec[i])) := by
  rw [World.ownsRow.cellAt h.rowS i (by omega)]
  simp [secV, hi]
theorem RkAt.opnAt {g cap : Nat} (h : RkAt B b vS (.slice (some ⟨g, 0, none⟩) s.opn.length cap) s w) {i : Nat} (hi : i < s.opn.length) : w.cell? ⟨g, i * 2, none⟩ = some (.int .i64 (s.opn[i].1 : Int)) ∧ w.cell? ⟨g, i * 2 + 1, none⟩ = some (.string (mkB s.opn[i].2)) := by
  have hm : ∀ x ∈ s.opn.map (fun p => [Value.int .i64 (p.1 : Int), Value.string (mkB p.2)]), x.length = 2 := by intro x hx; simp at hx; obtain ⟨a, c, -, rfl⟩ := hx; rfl
  have key : ∀ j, j < 2 → w.cell? ⟨g, i * 2 + j, none⟩ = [Value.int .i64 (s.opn[i].1 : Int), Value.string (mkB s.opn[i].2)][j]? := by
    intro j hj
    rw [World.ownsRow.cellAt h.rowL (i * 2 + j) (by omega)]
    unfold opnV
    rw [show i * 2 + j = 2 * i + j by omega, flat_get hm (by simpa using hi) hj]
    simp
  have k0 := key 0 (by omega)
  have k1 := key 1 (by omega)
  simp only [Nat.add_zero] at k0
  exact ⟨by rw [k0]; rfl, by rw [k1]; rfl⟩
end
end Go.Proofs.Ytgjndfkjakbdiaa.Dk
