/- Rows of whole numbers in memory (as HpA has them), in namespace Sv. -/
import Derived.Test.YtacgoobkpolcdaaSvMath
import Derived.Laws.AppendOwn
import Derived.Laws.OwnMore
import Derived.Laws.MakeOwn
import Derived.WalkKit
import Derived.ProofKit
import Derived.OpenShut
import Derived.Below
import Derived.Carry
import Derived.Lib.Hide
import Derived.Lib.SmallJoins
import Derived.Lib.FrozenHead2
import Derived.Lib.SliceRun
import Derived.Defers
import Derived.Recover
import Derived.RangeFuncCalls
namespace Go.Proofs.Ytacgoobkpolcdaa.Sv
open Go.ChangeShapes Go.WideShapes Go.ChangeAt Go.RowKit Go.Joins
set_option maxRecDepth 100000
set_option maxRecDepth 100000
set_option linter.unusedVariables false
set_option linter.unusedSimpArgs false
theorem lt_of_heap {w : World} {k : Nat} {o : Obj} (h : w.heap[k]? = some o) : k < w.heap.size := (Array.getElem?_eq_some_iff.1 h).1
theorem addr_add (b o j : Nat) : (⟨b, o, none⟩ : Addr).add j = ⟨b, o + j, none⟩ := by
  unfold Addr.add
  by_cases h : j = 0 <;> simp [h]
/-- the heap is as it was -/
structure Qt (w w' : World) : Prop where
  os : w'.os = w.os
  tape : w'.tape = w.tape
  output : w'.output = w.output
  heap : w'.heap = w.heap
theorem Qt.refl (w : World) : Qt w w := ⟨rfl, rfl, rfl, rfl⟩
theorem Qt.drew (w : World) : Qt w w.drew := ⟨rfl, rfl, rfl, rfl⟩
theorem Qt.trans {a b c : World} (h : Qt a b) (k : Qt b c) : Qt a c := ⟨k.os.trans h.os, k.tape.trans h.tape, k.output.trans h.output, k.heap.trans h.heap⟩
theorem Qt.below {w w' : World} (h : Qt w w') (B : Nat) : Below B w w' := ⟨h.os, h.tape, h.output, by rw [h.heap]; exact Nat.le_refl _, fun k _ => by rw [h.heap]⟩
theorem Qt.cell {w w' : World} (h : Qt w w') (a : Addr) : w'.cell? a = w.cell? a := World.cell?_of_block (by rw [h.heap])
theorem Qt.frozen {w w' : World} (h : Qt w w') (a : Addr) : w'.frozen? a = w.frozen? a := World.frozen?_of_block (by rw [h.heap])
/-- all blocks but b, and but the row r, are as they were -/
structure Mv (b : Nat) (r : Option Nat) (w w' : World) : Prop where
  os : w'.os = w.os
  tape : w'.tape = w.tape
  output : w'.output = w.output
  size : w.heap.size ≤ w'.heap.size
  block : ∀ k, k < w.heap.size → k ≠ b → r ≠ some k → w'.heap[k]? = w.heap[k]?
theorem Mv.refl (b : Nat) (r : Option Nat) (w : World) : Mv b r w w := ⟨rfl, rfl, rfl, Nat.le_refl _, fun _ _ _ _ => rfl⟩
theorem Mv.trans {b : Nat} {r r' : Option Nat} {u v w : World} (h : Mv b r u v) (k : Mv b r' v w) (hr : ∀ j, r' = some j → r = some j ∨ u.heap.size ≤ j) : Mv b r u w :=
  ⟨k.os.trans h.os, k.tape.trans h.tape, k.output.trans h.output, Nat.le_trans h.size k.size, fun i hi hb hn => (k.block i (Nat.lt_of_lt_of_le hi h.size) hb (fun e => by rcases hr i e with e2 | e2; exact hn e2; omega)).trans (h.block i hi hb hn)⟩
theorem Mv.of_below {b : Nat} {r : Option Nat} {w w' : World} (h : Below w.heap.size w w') : Mv b r w w' := ⟨h.os, h.tape, h.output, h.size, fun k hk _ _ => h.block k hk⟩
theorem Mv.qt {b : Nat} {r : Option Nat} {u v w : World} (h : Mv b r u v) (q : Qt v w) : Mv b r u w := ⟨q.os.trans h.os, q.tape.trans h.tape, q.output.trans h.output, by rw [q.heap]; exact h.size, fun k hk hb hn => by rw [q.heap]; exact h.block k hk hb hn⟩
theorem Mv.set {b g o : Nat} {r : Option Nat} {u w : World} (h : Mv b r u w) (x : Value) (hg : g = b ∨ r = some g ∨ u.heap.size ≤ g) : Mv b r u (w.setCell ⟨g, o, none⟩ x) :=
  ⟨h.os, h.tape, h.output, by simp [World.setCell]; exact h.size, fun k hk hb hn => by
    rw [Below.heap_setCell _ _ _ _ (show k ≠ g by rintro rfl; rcases hg with e | e | e; exact hb e; exact hn e; omega)]; exact h.block k hk hb hn⟩
theorem Mv.below {b : Nat} {r : Option Nat} {w w' : World} (h : Mv b r w w') {B : Nat} (hB : B ≤ w.heap.size) (hb : B ≤ b) (hr : ∀ k, r = some k → B ≤ k) : Below B w w' :=
  ⟨h.os, h.tape, h.output, h.size, fun k hk => h.block k (by omega) (by omega) (fun e => by have := hr k e; omega)⟩
/-- v: another row of the same -/
theorem Mv.row {b : Nat} {r r' : Option Nat} {w w' : World} (h : Mv b r w w') (e : r = r') : Mv b r' w w' := e ▸ h
/-- numbers -/
def nums (l : List Int) : List Value := l.map (Value.int .i64)
theorem nums_len (l : List Int) : (nums l).length = l.length := List.length_map _
theorem nums_get (l : List Int) (i : Nat) : (nums l)[i]? = l[i]?.map (Value.int .i64) := List.getElem?_map
theorem nums_set (l : List Int) (i : Nat) (x : Int) : nums (l.set i x) = (nums l).set i (.int .i64 x) := List.map_set
theorem infoI : (Try.prog.info? 3).map (fun i => (i.zero, i.size, i.bytes)) = some (some (.int .i64 0), 1, 8) := by kernel_rfl
/-- numbers in memory, of whomever -/
def Ns (ao : Option Addr) (l : List Int) (w : World) : Prop := 0 < l.length → ∃ b off, ao = some ⟨b, off, none⟩ ∧ b < w.heap.size ∧ ∀ i x, l[i]? = some x → w.cell? ⟨b, off + i, none⟩ = some (.int .i64 x)
theorem ns_nil (ao : Option Addr) (w : World) : Ns ao [] w := fun h => by simp at h
theorem Ns.of_block {ao : Option Addr} {l : List Int} {w w' : World} (h : Ns ao l w) (hs : w.heap.size ≤ w'.heap.size) (hb : ∀ b off, ao = some ⟨b, off, none⟩ → b < w.heap.size → w'.heap[b]? = w.heap[b]?) : Ns ao l w' := fun h0 => by
  obtain ⟨b, off, rfl, hl, hc⟩ := h h0
  exact ⟨b, off, rfl, by omega, fun i x hi => (World.cell?_of_block (w := w) (a := ⟨b, off + i, none⟩) (hb b off rfl hl)).trans (hc i x hi)⟩
theorem Ns.call {ao : Option Addr} {l : List Int} {w w' : World} (h : Ns ao l w) (hb : Below w.heap.size w w') : Ns ao l w' := h.of_block hb.size fun b _ _ hl => hb.block b hl
theorem Ns.below {ao : Option Addr} {l : List Int} {w w' : World} (h : Ns ao l w) {B : Nat} (hb : Below B w w') (hB : w.heap.size ≤ B) : Ns ao l w' := h.call (hb.mono hB)
/-- v is a row of these numbers of a call's own, in a block from B on -/
def NRow (B : Nat) (w : World) (v : Value) (l : List Int) : Prop := w.ownsRow B 3 1 v l.length (nums l)
theorem nrow_nil (B : Nat) (w : World) : NRow B w (.slice none 0 0) [] := World.ownsRow_nil _ _ _ _
theorem NRow.of_blocks {B : Nat} {w w' : World} {v : Value} {l : List Int} (h : NRow B w v l) (hb : ∀ k, v.ownBlock = some k → w'.heap[k]? = w.heap[k]?) : NRow B w' v l := by
  refine ⟨h.1, ?_⟩
  rcases h.2 with hn | ⟨g, cap, cur, rfl, hB, hg, rest⟩
  · exact .inl hn
  · exact .inr ⟨g, cap, cur, rfl, hB, by rw [hb g rfl]; exact hg, rest⟩
theorem NRow.lt {B : Nat} {w : World} {v : Value} {l : List Int} (h : NRow B w v l) : ∀ k, v.ownBlock = some k → B ≤ k ∧ k < w.heap.size := World.ownsRow.lt h
theorem NRow.call {B : Nat} {w w' : World} {v : Value} {l : List Int} (h : NRow B w v l) (hb : Below w.heap.size w w') : NRow B w' v l := h.of_blocks fun k hk => hb.block k (h.lt k hk).2
theorem NRow.qt {B : Nat} {w w' : World} {v : Value} {l : List Int} (h : NRow B w v l) (q : Qt w w') : NRow B w' v l := h.call (q.below _)
theorem NRow.mono {B C : Nat} {w : World} {v : Value} {l : List Int} (h : NRow B w v l) (hC : C ≤ B) : NRow C w v l := by
  refine ⟨h.1, ?_⟩
  rcases h.2 with hn | ⟨g, cap, cur, rfl, hB, hg, rest⟩
  · exact .inl hn
  · exact .inr ⟨g, cap, cur, rfl, by omega, hg, rest⟩
theorem NRow.block {B : Nat} {w : World} {v : Value} {l : List Int} (h : NRow B w v l) : ∀ k, v.ownBlock = some k → ∃ cur, w.heap[k]? = some (.cells cur 3 (0, 0)) := fun k hk => by
  rcases h.2 with ⟨rfl, _⟩ | ⟨g, cap, cur, rfl, hB, hg, rest⟩
  · cases hk
  · cases hk; exact ⟨cur, hg⟩
/-- a block of another type is none of it -/
theorem NRow.apart {B : Nat} {w : World} {v : Value} {l : List Int} (h : NRow B w v l) {b : Nat} {cs : Array Value} {T : TypeId} {fz : Nat × Nat} (hb : w.heap[b]? = some (.cells cs T fz)) (hT : T ≠ 3) : v.ownBlock ≠ some b := fun e => by
  obtain ⟨cur, hc⟩ := h.block b e
  rw [hb] at hc; cases hc; exact hT rfl
/-- a slice, whose numbers are seen -/
theorem NRow.form {B : Nat} {w : World} {v : Value} {l : List Int} (h : NRow B w v l) : ∃ ao cap, v = .slice ao l.length cap ∧ l.length ≤ cap ∧ Ns ao l w := by
  have hc := fun g (e : v.ownBlock = some g) => World.ownsRow.cells h (g := g) e
  rcases h.2 with ⟨rfl, h0⟩ | ⟨g, cap, cur, rfl, hB, hg, hcap, -⟩
  · refine ⟨none, 0, by rw [h0], by omega, fun h => by omega⟩
  · refine ⟨some ⟨g, 0, none⟩, cap, rfl, hcap, fun h0 => ⟨g, 0, rfl, (Array.getElem?_eq_some_iff.1 hg).1, fun i x hi => ?_⟩⟩
    have := hc g rfl i (.int .i64 x) (by rw [nums_get, hi]; rfl)
    rw [addr_add] at this
    exact this
/-- .. in a block, if there is any -/
theorem NRow.inBlock {B : Nat} {w : World} {v : Value} {l : List Int} (h : NRow B w v l) (h0 : 0 < l.length) : ∃ g cap, v = .slice (some ⟨g, 0, none⟩) l.length cap ∧ l.length ≤ cap ∧ B ≤ g ∧ g < w.heap.size := by
  rcases h.2 with ⟨rfl, h1⟩ | ⟨g, cap, cur, rfl, hB, hg, hcap, -⟩
  · omega
  · exact ⟨g, cap, rfl, hcap, hB, lt_of_heap hg⟩
theorem NRow.at {B g n cap : Nat} {w : World} {l : List Int} (h : NRow B w (.slice (some ⟨g, 0, none⟩) n cap) l) {i : Nat} {x : Int} (hi : l[i]? = some x) : w.cell? ⟨g, i, none⟩ = some (.int .i64 x) := by
  obtain ⟨ao, cap', hv, -, hs⟩ := h.form
  cases hv
  obtain ⟨b, off, e, -, hc⟩ := hs (by have := (List.getElem?_eq_some_iff.1 hi).1; omega)
  cases e
  have := hc i x hi
  rwa [Nat.zero_add] at this
theorem NRow.ns {B g n cap : Nat} {w : World} {l : List Int} (h : NRow B w (.slice (some ⟨g, 0, none⟩) n cap) l) : Ns (some ⟨g, 0, none⟩) l w := by
  obtain ⟨ao, cap', hv, -, hs⟩ := h.form
  simp only [Value.slice.injEq] at hv
  rw [hv.1]; exact hs
theorem NRow.free {B g n cap : Nat} {w : World} {l : List Int} (h : NRow B w (.slice (some ⟨g, 0, none⟩) n cap) l) (o : Nat) : w.frozen? ⟨g, o, none⟩ = false := by
  rcases h.2 with ⟨h0, _⟩ | ⟨g', cap', cur, hv, hB, hg, -⟩
  · cases h0
  · cases hv; simp [World.frozen?, hg]
/-- a number written over -/
theorem NRow.set {B g n cap : Nat} {w : World} {l : List Int} (h : NRow B w (.slice (some ⟨g, 0, none⟩) n cap) l) (i : Nat) (x : Int) : NRow B (w.setCell ⟨g, i, none⟩ (.int .i64 x)) (.slice (some ⟨g, 0, none⟩) n cap) (l.set i x) := by
  obtain ⟨ao, cap', hv, -, -⟩ := h.form
  cases hv
  have := (World.ownsRow.stored h i (.int .i64 x)).1
  unfold NRow
  rw [List.length_set, nums_set]
  exact this
/-- the first ones of a row -/
theorem NRow.take {B g n cap : Nat} {w : World} {l : List Int} (h : NRow B w (.slice (some ⟨g, 0, none⟩) n cap) l) {k : Nat} (hk : k ≤ l.length) : NRow B w (.slice (some ⟨g, 0, none⟩) k cap) (l.take k) := by
  have e : (l.take k).length = k := by rw [List.length_take]; omega
  rcases h.2 with ⟨h0, _⟩ | ⟨g', cap', cur, hv, hB, hg, hcap, hm, hsz, ht⟩
  · cases h0
  · cases hv
    refine ⟨by rw [nums_len, Nat.mul_one], .inr ⟨g, cap, cur, by rw [e], hB, hg, by rw [e]; omega, hm, hsz, ?_⟩⟩
    rw [e, nums, List.map_take, ← nums, ← ht, List.take_take]
    congr 1; omega
/-- what is behind the first ones is not asked -/
theorem NRow.past {B g n cap j : Nat} {w : World} {u : Value} {l : List Int} (h : NRow B w (.slice (some ⟨g, 0, none⟩) n cap) l) (hj : l.length ≤ j) : NRow B (w.setCell ⟨g, j, none⟩ u) (.slice (some ⟨g, 0, none⟩) n cap) l := by
  obtain ⟨ao, cap', hv, -, -⟩ := h.form
  cases hv
  have := (World.ownsRow.stored h j u).1
  rw [List.set_eq_of_length_le (by rw [nums_len]; exact hj)] at this
  exact this
/-- one element more: the row is the one that it was, or a new one -/
theorem append_one {P : Program} (w : World) (B : Nat) (t ty e : TypeId) (z : Value) (size bytes : Nat) (ht : P.underlying t = some (.slice e)) (hinfo : (P.info? e).map (fun i => (i.zero, i.size, i.bytes)) = some (some z, size, bytes)) (hzs : z.cells.size = size) (hsz : 0 < size) (hby : bytes ≤ 1000)
    (v : Value) (n : Nat) (xs : List Value) (hown : w.ownsRow B e size v n xs) (a : Addr) (news : List Value) (hl : news.length = size) (hnews : ∀ j u, news[j]? = some u → w.cell? (a.add j) = some u) (h1 : ∀ u ∈ news, u.oneCell' = true) (hlen : n ≤ 1000000) (hB : B ≤ w.heap.size) :
    ∃ g cap w', (Builtin.append_ #[t, t] ty #[v, .slice (some a) 1 1]).run P w = .ok (.slice (some ⟨g, 0, none⟩) (n + 1) cap) w' ∧ w'.ownsRow B e size (.slice (some ⟨g, 0, none⟩) (n + 1) cap) (n + 1) (xs ++ news) ∧ w.grownBy w' v.ownBlock ∧ (v.ownBlock = some g ∨ w.heap.size ≤ g) := by
  obtain ⟨i, hi, hzz⟩ := Option.map_eq_some_iff.1 hinfo
  simp only [Prod.mk.injEq] at hzz
  obtain ⟨hz, hs, hb⟩ := hzz
  have hl1 : news.length = 1 * size := by omega
  have h63 : n + 1 ≤ maxLen := by unfold maxLen; omega
  have hbb : (n + 1) * bytes ≤ 140737488355328 := by
    have := Nat.mul_le_mul (show n + 1 ≤ 1000001 by omega) hby
    omega
  have fin : ∀ {base : Nat} {v' : Value} {w' : World}, w'.ownsRow base e size v' (n + 1) (xs ++ news) → ∃ g cap, v' = .slice (some ⟨g, 0, none⟩) (n + 1) cap := by
    intro base v' w' ho
    rcases ho.2 with ⟨_, h0⟩ | ⟨g, cap, cur, hv, _⟩
    · omega
    · exact ⟨g, cap, hv⟩
  obtain ⟨v', w', hr, hown', hgrow, _⟩ := run_append_own (P := P) w B t ty e i z size bytes ht hi hz hs hb hzs hsz v n xs hown a 1 1 news hl1 hnews h1 h63 hbb hB
  obtain ⟨g, cap, rfl⟩ := fin hown'
  refine ⟨g, cap, w', hr, hown', hgrow, ?_⟩
  rcases hown.2 with ⟨rfl, h0⟩ | ⟨g0, cap0, cur, rfl, hbg, hg, hnc, hcm, hcs, htake⟩
  · obtain ⟨v2, w2, hr2, hown2, _⟩ := run_append_own (P := P) w w.heap.size t ty e i z size bytes ht hi hz hs hb hzs hsz (.slice none 0 0) n xs ⟨hown.1, .inl ⟨rfl, h0⟩⟩ a 1 1 news hl1 hnews h1 h63 hbb (Nat.le_refl _)
    rw [hr] at hr2
    cases hr2
    exact .inr (hown2.lt g rfl).1
  · by_cases hroom : n + 1 ≤ cap0
    · obtain ⟨w2, hr2, -, -⟩ := run_append_fits (P := P) w B t ty e i size ht hi hs g0 n cap0 xs hown a 1 1 news hl1 hnews h1 hroom
      rw [hr] at hr2
      cases hr2
      exact .inl rfl
    · have hr2 := run_append_grow (P := P) w t ty e i z ht hi hz ⟨g0, 0, none⟩ n cap0 xs (by rw [hs]; exact hown.1) (hown.cells (g := g0) rfl) a 1 1 news (by rw [hs]; exact hl1) hnews (by omega) (by omega) (by rw [hb]; exact growslice_fits (by omega) hbb)
      rw [hr] at hr2
      cases hr2
      exact .inr (Nat.le_refl _)
theorem nrow_append (B : Nat) (w : World) (v : Value) (l : List Int) (x : Int) (h : NRow B w v l) (hB : B ≤ w.heap.size) (hn : l.length ≤ 900000) :
    ∃ g cap w', (Builtin.append_ #[37, 37] 37 #[v, .slice (some ⟨w.heap.size, 0, none⟩) 1 1]).run Try.prog (w.alloc (.cells #[.int .i64 x] 3)) = .ok (.slice (some ⟨g, 0, none⟩) (l.length + 1) cap) w' ∧ NRow B w' (.slice (some ⟨g, 0, none⟩) (l.length + 1) cap) (l ++ [x]) ∧ Below B w w' ∧ (∀ k, k < w.heap.size → v.ownBlock ≠ some k → w'.heap[k]? = w.heap[k]?) ∧ w.heap.size ≤ w'.heap.size ∧ (v.ownBlock = some g ∨ w.heap.size ≤ g) := by
  have h1 := h.call ((Below.refl _ w).alloc (Nat.le_refl _) (.cells #[.int .i64 x] 3))
  have asz : (w.alloc (.cells #[.int .i64 x] 3)).heap.size = w.heap.size + 1 := by simp
  obtain ⟨g, cap, w', hr, ho, hg, hnew⟩ := append_one (P := Try.prog) (w.alloc (.cells #[.int .i64 x] 3)) B 37 37 3 _ 1 8 Try.underlying37 infoI rfl (by omega) (by omega) v l.length _ h1
    ⟨w.heap.size, 0, none⟩ [.int .i64 x] rfl (fun j u hj => by
      match j, hj with
      | 0, hj => simp at hj; subst hj; simp [go_sem, Addr.add]
      | j + 1, hj => simp at hj) (fun u hu => by simp at hu; subst hu; rfl) (by omega) (by omega)
  have gs := hg.size
  refine ⟨g, cap, w', hr, ?_, ?_, fun k hk hne => ?_, by omega, by rcases hnew with e | e; exact .inl e; exact .inr (by omega)⟩
  · unfold NRow
    rw [List.length_append]
    simpa [nums] using ho
  · exact ((Below.refl B w).alloc hB _).grown hg (by simp; omega) (fun k hk => (h1.lt k hk).1)
  · rw [hg.block k (by omega) (fun e => hne e.symm)]
    exact ((Below.refl w.heap.size w).alloc (Nat.le_refl _) _).block k hk
/-- a call by a pointer of a call's own -/
theorem carry {w w' : World} {p : Addr} {v : Value} (hb : Below w.heap.size w w') (h : w.cell? p = some v) : w'.cell? p = some v := by
  have := World.block_lt_of_cell? _ _ h
  rw [hb.cell this]; exact h
end Go.Proofs.Ytacgoobkpolcdaa.Sv
