/- Rows that a call owns: one element more. Any program, any element. -/
import Derived.Test.YtcbemjckcmcelaaGnB
import Derived.Laws.AppendOwn
import Derived.Laws.OwnMore
import Derived.Laws.MakeOwn
import Derived.WalkKit
import Derived.ProofKit
import Derived.OpenShut
import Derived.Below
import Derived.Lib.Hide
import Derived.Lib.SmallJoins
namespace Go.Proofs.Ytcbemjckcmcelaa.Dk
open Go.ChangeShapes Go.WideShapes Go.ChangeAt Go.RowKit Go.Joins
set_option maxRecDepth 100000
set_option linter.unusedVariables false
set_option linter.unusedSimpArgs false
theorem lt_of_heap {w : World} {k : Nat} {o : Obj} (h : w.heap[k]? = some o) : k < w.heap.size := (Array.getElem?_eq_some_iff.1 h).1
/-- one element more: the row is the one that it was, or a new one -/
theorem append_one {P : Program} (w : World) (B : Nat) (t ty e : TypeId) (z : Value) (size bytes : Nat) (ht : P.underlying t = some (.slice e)) (hinfo : (P.info? e).map (fun i => (i.zero, i.size, i.bytes)) = some (some z, size, bytes)) (hzs : z.cells.size = size) (hsz : 0 < size) (hby : bytes ≤ 1000)
    (v : Value) (n : Nat) (xs : List Value) (hown : w.ownsRow B e size v n xs) (a : Addr) (news : List Value) (hl : news.length = size) (hnews : ∀ j u, news[j]? = some u → w.cell? (a.add j) = some u) (h1 : ∀ u ∈ news, u.oneCell' = true) (hlen : n ≤ 1000000) (hB : B ≤ w.heap.size) :
    ∃ g cap w', (Builtin.append_ #[t, t] ty #[v, .slice (some a) 1 1]).run P w = .ok (.slice (some ⟨g, 0, none⟩) (n + 1) cap) w' ∧ w'.ownsRow B e size (.slice (some ⟨g, 0, none⟩) (n + 1) cap) (n + 1) (xs ++ news) ∧ w.grownBy w' v.ownBlock ∧ (v.ownBlock = some g ∨ w.heap.size ≤ g) := by
  obtain ⟨i, hi, hzz⟩ := Option.map_eq_some_iff.1 hinfo
  simp only [Prod.mk.injEq] at hzz
  obtain ⟨hz, hs, hb⟩ := hzz
  have hl1 : news.length = 1 * size := by omega
  have h63 : n + 1 ≤ maxLen := by unfold maxLen; omega
  have hbb : (n + 1) * bytes ≤ 140737488355328 := by
    have := Nat.mul_le_mul (show n + 1 ≤ 1000001 by omega) hby
    omega
  have fin : ∀ {base : Nat} {v' : Value} {w' : World}, w'.ownsRow base e size v' (n + 1) (xs ++ news) → ∃ g cap, v' = .slice (some ⟨g, 0, none⟩) (n + 1) cap := by
    intro base v' w' ho
    rcases ho.2 with ⟨_, h0⟩ | ⟨g, cap, cur, hv, _⟩
    · omega
    · exact ⟨g, cap, hv⟩
  obtain ⟨v', w', hr, hown', hgrow, _⟩ := run_append_own (P := P) w B t ty e i z size bytes ht hi hz hs hb hzs hsz v n xs hown a 1 1 news hl1 hnews h1 h63 hbb hB
  obtain ⟨g, cap, rfl⟩ := fin hown'
  refine ⟨g, cap, w', hr, hown', hgrow, ?_⟩
  rcases hown.2 with ⟨rfl, h0⟩ | ⟨g0, cap0, cur, rfl, hbg, hg, hnc, hcm, hcs, htake⟩
  · obtain ⟨v2, w2, hr2, hown2, _⟩ := run_append_own (P := P) w w.heap.size t ty e i z size bytes ht hi hz hs hb hzs hsz (.slice none 0 0) n xs ⟨hown.1, .inl ⟨rfl, h0⟩⟩ a 1 1 news hl1 hnews h1 h63 hbb (Nat.le_refl _)
    rw [hr] at hr2
    cases hr2
    exact .inr (hown2.lt g rfl).1
  · by_cases hroom : n + 1 ≤ cap0
    · obtain ⟨w2, hr2, -, -⟩ := run_append_fits (P := P) w B t ty e i size ht hi hs g0 n cap0 xs hown a 1 1 news hl1 hnews h1 hroom
      rw [hr] at hr2
      cases hr2
      exact .inl rfl
    · have hr2 := run_append_grow (P := P) w t ty e i z ht hi hz ⟨g0, 0, none⟩ n cap0 xs (by rw [hs]; exact hown.1) (hown.cells (g := g0) rfl) a 1 1 news (by rw [hs]; exact hl1) hnews (by omega) (by omega) (by rw [hb]; exact growslice_fits (by omega) hbb)
      rw [hr] at hr2
      cases hr2
      exact .inr (Nat.le_refl _)
/-- two cells of block b name the blocks in which its rows lie -/
def Own (w : World) (b k : Nat) : Prop := k = b ∨ (w.cell? ⟨b, 0, none⟩).bind Value.ownBlock = some k ∨ (w.cell? ⟨b, 1, none⟩).bind Value.ownBlock = some k
/-- of what was there only what block b owns has turned; what it owns now it owned, or is new -/
structure Moved (b : Nat) (w w' : World) : Prop where
  os : w'.os = w.os
  tape : w'.tape = w.tape
  output : w'.output = w.output
  size : w.heap.size ≤ w'.heap.size
  block : ∀ k, k < w.heap.size → ¬ Own w b k → w'.heap[k]? = w.heap[k]?
  own : ∀ k, Own w' b k → Own w b k ∨ w.heap.size ≤ k
theorem Own.self (w : World) (b : Nat) : Own w b b := .inl rfl
theorem Own.of_block {w w' : World} {b k : Nat} (e : w'.heap[b]? = w.heap[b]?) (h : Own w' b k) : Own w b k := by
  unfold Own at *
  rwa [World.cell?_of_block (w := w) (a := ⟨b, 0, none⟩) e, World.cell?_of_block (w := w) (a := ⟨b, 1, none⟩) e] at h
theorem Moved.refl (b : Nat) (w : World) : Moved b w w := ⟨rfl, rfl, rfl, Nat.le_refl _, fun _ _ _ => rfl, fun _ h => .inl h⟩
theorem Moved.trans {b : Nat} {u v w : World} (h : Moved b u v) (k : Moved b v w) : Moved b u w := by
  refine ⟨k.os.trans h.os, k.tape.trans h.tape, k.output.trans h.output, Nat.le_trans h.size k.size, fun i hi hn => ?_, fun i hi => ?_⟩
  · rw [k.block i (Nat.lt_of_lt_of_le hi h.size) ?_, h.block i hi hn]
    intro e
    rcases h.own i e with e | e
    · exact hn e
    · omega
  · rcases k.own i hi with e | e
    · exact h.own i e
    · exact .inr (Nat.le_trans h.size e)
theorem Moved.of_below {b : Nat} {w w' : World} (h : Below w.heap.size w w') (hb : b < w.heap.size) : Moved b w w' :=
  ⟨h.os, h.tape, h.output, h.size, fun k hk _ => h.block k hk, fun k hk => .inl (hk.of_block (h.block b hb))⟩
theorem Moved.drew {b : Nat} {u w : World} (h : Moved b u w) : Moved b u w.drew := h.trans ⟨rfl, rfl, rfl, Nat.le_refl _, fun _ _ _ => rfl, fun _ h => .inl h⟩
theorem Moved.alloc {b : Nat} {u w : World} (h : Moved b u w) (hb : b < w.heap.size) (o : Obj) : Moved b u (w.alloc o) :=
  h.trans (.of_below ((Below.refl _ _).alloc (Nat.le_refl _) _) hb)
/-- a store into a cell of b that names no row, or whose row is owned, or new -/
theorem Moved.set {b o : Nat} {u w : World} {v x : Value} (h : Moved b u w) (hx : w.cell? ⟨b, o, none⟩ = some x) (hv : ∀ k, v.ownBlock = some k → o ≤ 1 → Own u b k ∨ u.heap.size ≤ k) : Moved b u (w.setCell ⟨b, o, none⟩ v) := by
  refine ⟨h.os, h.tape, h.output, by simpa [World.setCell] using h.size, fun k hk hn => ?_, fun k hk => ?_⟩
  · have hkb : k ≠ b := fun e => hn (.inl e)
    rw [Below.heap_setCell w ⟨b, o, none⟩ v k hkb]
    exact h.block k hk hn
  · rcases hk with rfl | hk | hk
    · exact .inl (Own.self _ _)
    · by_cases e : o = 0
      · subst e
        rw [World.cell?_setCell_same _ _ _ hx] at hk
        exact hv k hk (by omega)
      · rw [World.cell?_setCell_other _ _ _ _ (by first | (simp; done) | (simp; omega))] at hk
        exact h.own k (.inr (.inl hk))
    · by_cases e : o = 1
      · subst e
        rw [World.cell?_setCell_same _ _ _ hx] at hk
        exact hv k hk (by omega)
      · rw [World.cell?_setCell_other _ _ _ _ (by first | (simp; done) | (simp; omega))] at hk
        exact h.own k (.inr (.inr hk))
theorem Moved.grown {b : Nat} {u w w' : World} {row : Option Nat} (h : Moved b u w) (hg : w.grownBy w' row) (hb : b < w.heap.size) (hne : row ≠ some b) (hr : ∀ k, row = some k → Own w b k) : Moved b u w' := by
  refine h.trans ⟨hg.os, hg.tape, hg.output, hg.size, fun k hk hn => hg.block k hk (fun e => hn (hr k e.symm)), fun k hk => .inl (hk.of_block (hg.block b hb (fun e => hne e.symm)))⟩
theorem Moved.row {b g : Nat} {u w : World} (h : Moved b u w) (hn : g ≠ b) (hr : Own w b g) (cs : Array Value) : Moved b u (w.setRow g cs) := by
  refine h.trans ⟨rfl, rfl, rfl, by simp [World.setRow], fun k hk hn' => setRow_other _ _ _ _ (fun e => hn' (e ▸ hr)), fun k hk => .inl (hk.of_block (setRow_other _ _ _ _ (fun e => hn e.symm)))⟩
end Go.Proofs.Ytcbemjckcmcelaa.Dk
