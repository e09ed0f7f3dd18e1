/- Rows of jobs in memory; package heap's parent and ends; who goes ahead. (HpA of jobs.) -/
import Derived.Test.YteagimnlhopjpaaHpPath
import Derived.Test.YteagimnlhopjpaaEdJob
import Derived.Test.YteagimnlhopjpaaGnE
import Derived.WalkKit
import Derived.ProofKit
import Derived.OpenShut
import Derived.Below
import Derived.Carry
import Derived.Lib.Hide
import Derived.Lib.SmallJoins
import Derived.Lib.FrozenHead2
import Derived.Lib.SliceRun
import Derived.Defers
import Derived.Recover
import Derived.RangeFuncCalls
namespace Go.Proofs.Yteagimnlhopjpaa.Hj
open Go.ChangeShapes Go.WideShapes Go.ChangeAt Go.RowKit Go.Joins
open Hp (Wk An Srt le ins sort Down settleR liftR Anc upR Ups)
open Ed (Jo wk Own own_an)
open Ge (El Seen Row)
set_option maxRecDepth 100000
set_option maxRecDepth 100000
set_option linter.unusedVariables false
set_option linter.unusedSimpArgs false
theorem lt_of_heap {w : World} {k : Nat} {o : Obj} (h : w.heap[k]? = some o) : k < w.heap.size := (Array.getElem?_eq_some_iff.1 h).1
theorem addr_add (b o j : Nat) : (⟨b, o, none⟩ : Addr).add j = ⟨b, o + j, none⟩ := by
  unfold Addr.add
  by_cases h : j = 0 <;> simp [h]
/-- the heap is as it was -/
structure Qt (w w' : World) : Prop where
  os : w'.os = w.os
  tape : w'.tape = w.tape
  output : w'.output = w.output
  heap : w'.heap = w.heap
theorem Qt.refl (w : World) : Qt w w := ⟨rfl, rfl, rfl, rfl⟩
theorem Qt.drew (w : World) : Qt w w.drew := ⟨rfl, rfl, rfl, rfl⟩
theorem Qt.trans {a b c : World} (h : Qt a b) (k : Qt b c) : Qt a c := ⟨k.os.trans h.os, k.tape.trans h.tape, k.output.trans h.output, k.heap.trans h.heap⟩
theorem Qt.below {w w' : World} (h : Qt w w') (B : Nat) : Below B w w' := ⟨h.os, h.tape, h.output, by rw [h.heap]; exact Nat.le_refl _, fun k _ => by rw [h.heap]⟩
theorem Qt.cell {w w' : World} (h : Qt w w') (a : Addr) : w'.cell? a = w.cell? a := World.cell?_of_block (by rw [h.heap])
theorem Qt.frozen {w w' : World} (h : Qt w w') (a : Addr) : w'.frozen? a = w.frozen? a := World.frozen?_of_block (by rw [h.heap])
/-- all blocks but b, and but the row r, are as they were -/
structure Mv (b : Nat) (r : Option Nat) (w w' : World) : Prop where
  os : w'.os = w.os
  tape : w'.tape = w.tape
  output : w'.output = w.output
  size : w.heap.size ≤ w'.heap.size
  block : ∀ k, k < w.heap.size → k ≠ b → r ≠ some k → w'.heap[k]? = w.heap[k]?
theorem Mv.refl (b : Nat) (r : Option Nat) (w : World) : Mv b r w w := ⟨rfl, rfl, rfl, Nat.le_refl _, fun _ _ _ _ => rfl⟩
theorem Mv.trans {b : Nat} {r r' : Option Nat} {u v w : World} (h : Mv b r u v) (k : Mv b r' v w) (hr : ∀ j, r' = some j → r = some j ∨ u.heap.size ≤ j) : Mv b r u w :=
  ⟨k.os.trans h.os, k.tape.trans h.tape, k.output.trans h.output, Nat.le_trans h.size k.size, fun i hi hb hn => (k.block i (Nat.lt_of_lt_of_le hi h.size) hb (fun e => by rcases hr i e with e2 | e2; exact hn e2; omega)).trans (h.block i hi hb hn)⟩
theorem Mv.of_below {b : Nat} {r : Option Nat} {w w' : World} (h : Below w.heap.size w w') : Mv b r w w' := ⟨h.os, h.tape, h.output, h.size, fun k hk _ _ => h.block k hk⟩
theorem Mv.qt {b : Nat} {r : Option Nat} {u v w : World} (h : Mv b r u v) (q : Qt v w) : Mv b r u w := ⟨q.os.trans h.os, q.tape.trans h.tape, q.output.trans h.output, by rw [q.heap]; exact h.size, fun k hk hb hn => by rw [q.heap]; exact h.block k hk hb hn⟩
theorem Mv.set {b g o : Nat} {r : Option Nat} {u w : World} (h : Mv b r u w) (x : Value) (hg : g = b ∨ r = some g ∨ u.heap.size ≤ g) : Mv b r u (w.setCell ⟨g, o, none⟩ x) :=
  ⟨h.os, h.tape, h.output, by simp [World.setCell]; exact h.size, fun k hk hb hn => by
    rw [Below.heap_setCell _ _ _ _ (show k ≠ g by rintro rfl; rcases hg with e | e | e; exact hb e; exact hn e; omega)]; exact h.block k hk hb hn⟩
theorem Mv.below {b : Nat} {r : Option Nat} {w w' : World} (h : Mv b r w w') {B : Nat} (hB : B ≤ w.heap.size) (hb : B ≤ b) (hr : ∀ k, r = some k → B ≤ k) : Below B w w' :=
  ⟨h.os, h.tape, h.output, h.size, fun k hk => h.block k (by omega) (by omega) (fun e => by have := hr k e; omega)⟩
/-- v: another row of the same -/
theorem Mv.row {b : Nat} {r r' : Option Nat} {w w' : World} (h : Mv b r w w') (e : r = r') : Mv b r' w w' := e ▸ h
/-- a job's cells -/
def jc (j : Jo) : List Value := [.int .i64 j.id, .int .i64 j.rel, .int .i64 j.dl, .int .i64 j.le]
theorem jc_len (j : Jo) : (jc j).length = 4 := rfl
theorem elJ : El Try.prog 31 27 4 32 (.agg #[.int .i64 0, .int .i64 0, .int .i64 0, .int .i64 0]) jc where
  sl := Try.underlying27
  info := by kernel_rfl
  zs := rfl
  pos := by omega
  by_ := by omega
  len := jc_len
  one := fun x u hu => by simp [jc] at hu; rcases hu with rfl | rfl | rfl | rfl <;> rfl
/-- a job in memory -/
def At4 (w : World) (b o : Nat) (x : Jo) : Prop := w.cell? ⟨b, o, none⟩ = some (.int .i64 x.id) ∧ w.cell? ⟨b, o + 1, none⟩ = some (.int .i64 x.rel) ∧ w.cell? ⟨b, o + 2, none⟩ = some (.int .i64 x.dl) ∧ w.cell? ⟨b, o + 3, none⟩ = some (.int .i64 x.le)
theorem At4.of_block {w w' : World} {b o : Nat} {x : Jo} (h : At4 w b o x) (hb : w'.heap[b]? = w.heap[b]?) : At4 w' b o x := by
  have e : ∀ a, w'.cell? ⟨b, a, none⟩ = w.cell? ⟨b, a, none⟩ := fun a => World.cell?_of_block (by exact hb)
  unfold At4
  rw [e, e, e, e]; exact h
theorem At4.lt {w : World} {b o : Nat} {x : Jo} (h : At4 w b o x) : b < w.heap.size := World.block_lt_of_cell? _ _ h.1
theorem At4.qt {w w' : World} {b o : Nat} {x : Jo} (h : At4 w b o x) (q : Qt w w') : At4 w' b o x := h.of_block (by rw [q.heap])
theorem At4.call {w w' : World} {b o : Nat} {x : Jo} (h : At4 w b o x) (hb : Below w.heap.size w w') : At4 w' b o x := h.of_block (hb.block b h.lt)
/-- jobs in memory, of whomever -/
def Ns (ao : Option Addr) (l : List Jo) (w : World) : Prop := Seen jc 4 ao l w
theorem ns_nil (ao : Option Addr) (w : World) : Ns ao [] w := Ge.seen_nil ao w
theorem Ns.of_block {ao : Option Addr} {l : List Jo} {w w' : World} (h : Ns ao l w) (hs : w.heap.size ≤ w'.heap.size) (hb : ∀ b off, ao = some ⟨b, off, none⟩ → b < w.heap.size → w'.heap[b]? = w.heap[b]?) : Ns ao l w' := Seen.of_block h hs hb
theorem Ns.call {ao : Option Addr} {l : List Jo} {w w' : World} (h : Ns ao l w) (hb : Below w.heap.size w w') : Ns ao l w' := Seen.call h hb
theorem Ns.below {ao : Option Addr} {l : List Jo} {w w' : World} (h : Ns ao l w) {B : Nat} (hb : Below B w w') (hB : w.heap.size ≤ B) : Ns ao l w' := Seen.below h hb hB
theorem Ns.at {ao : Option Addr} {l : List Jo} {w : World} (h : Ns ao l w) (h0 : 0 < l.length) : ∃ b off, ao = some ⟨b, off, none⟩ ∧ b < w.heap.size ∧ ∀ i x, l[i]? = some x → At4 w b (off + i * 4) x := by
  obtain ⟨b, off, e, hl, hc⟩ := h h0
  exact ⟨b, off, e, hl, fun i x hi => ⟨by simpa using hc i x hi 0 _ rfl, hc i x hi 1 _ rfl, hc i x hi 2 _ rfl, hc i x hi 3 _ rfl⟩⟩
/-- v is a row of these jobs of a call's own, in a block from B on -/
def NRow (B : Nat) (w : World) (v : Value) (l : List Jo) : Prop := Row jc 4 31 B w v l
theorem nrow_nil (B : Nat) (w : World) : NRow B w (.slice none 0 0) [] := Ge.row_nil _ _
theorem NRow.of_blocks {B : Nat} {w w' : World} {v : Value} {l : List Jo} (h : NRow B w v l) (hb : ∀ k, v.ownBlock = some k → w'.heap[k]? = w.heap[k]?) : NRow B w' v l := Row.of_blocks h hb
theorem NRow.lt {B : Nat} {w : World} {v : Value} {l : List Jo} (h : NRow B w v l) : ∀ k, v.ownBlock = some k → B ≤ k ∧ k < w.heap.size := Row.lt h
theorem NRow.call {B : Nat} {w w' : World} {v : Value} {l : List Jo} (h : NRow B w v l) (hb : Below w.heap.size w w') : NRow B w' v l := Row.call h hb
theorem NRow.qt {B : Nat} {w w' : World} {v : Value} {l : List Jo} (h : NRow B w v l) (q : Qt w w') : NRow B w' v l := h.call (q.below _)
theorem NRow.mono {B C : Nat} {w : World} {v : Value} {l : List Jo} (h : NRow B w v l) (hC : C ≤ B) : NRow C w v l := Row.mono h hC
theorem NRow.block {B : Nat} {w : World} {v : Value} {l : List Jo} (h : NRow B w v l) : ∀ k, v.ownBlock = some k → ∃ cur, w.heap[k]? = some (.cells cur 31 (0, 0)) := fun k hk => by
  rcases h.2 with ⟨rfl, _⟩ | ⟨g, cap, cur, rfl, hB, hg, rest⟩
  · cases hk
  · cases hk; exact ⟨cur, hg⟩
/-- a block of another type is none of it -/
theorem NRow.apart {B : Nat} {w : World} {v : Value} {l : List Jo} (h : NRow B w v l) {b : Nat} {cs : Array Value} {T : TypeId} {fz : Nat × Nat} (hb : w.heap[b]? = some (.cells cs T fz)) (hT : T ≠ 31) : v.ownBlock ≠ some b := fun e => by
  obtain ⟨cur, hc⟩ := h.block b e
  rw [hb] at hc; cases hc; exact hT rfl
/-- a slice, whose jobs are seen -/
theorem NRow.form {B : Nat} {w : World} {v : Value} {l : List Jo} (h : NRow B w v l) : ∃ ao cap, v = .slice ao l.length cap ∧ l.length ≤ cap ∧ Ns ao l w := by
  obtain ⟨ao, cap, e, h1, h2, -⟩ := Row.form jc_len h
  exact ⟨ao, cap, e, h1, h2⟩
/-- .. in a block, if there is any -/
theorem NRow.inBlock {B : Nat} {w : World} {v : Value} {l : List Jo} (h : NRow B w v l) (h0 : 0 < l.length) : ∃ g cap, v = .slice (some ⟨g, 0, none⟩) l.length cap ∧ l.length ≤ cap ∧ B ≤ g ∧ g < w.heap.size := by
  rcases h.2 with ⟨rfl, h1⟩ | ⟨g, cap, cur, rfl, hB, hg, hcap, -⟩
  · omega
  · exact ⟨g, cap, rfl, hcap, hB, lt_of_heap hg⟩
theorem NRow.ns {B g n cap : Nat} {w : World} {l : List Jo} (h : NRow B w (.slice (some ⟨g, 0, none⟩) n cap) l) : Ns (some ⟨g, 0, none⟩) l w := by
  obtain ⟨ao, cap', hv, -, hs⟩ := h.form
  simp only [Value.slice.injEq] at hv
  rw [hv.1]; exact hs
theorem NRow.at {B g n cap : Nat} {w : World} {l : List Jo} (h : NRow B w (.slice (some ⟨g, 0, none⟩) n cap) l) {i : Nat} {x : Jo} (hi : l[i]? = some x) : At4 w g (i * 4) x := by
  obtain ⟨b, off, e, -, hc⟩ := h.ns.at (by have := (List.getElem?_eq_some_iff.1 hi).1; omega)
  cases e
  have := hc i x hi
  rwa [Nat.zero_add] at this
theorem NRow.free {B g n cap : Nat} {w : World} {l : List Jo} (h : NRow B w (.slice (some ⟨g, 0, none⟩) n cap) l) (o : Nat) : w.frozen? ⟨g, o, none⟩ = false := by
  rcases h.2 with ⟨h0, _⟩ | ⟨g', cap', cur, hv, hB, hg, -⟩
  · cases h0
  · cases hv; simp [World.frozen?, hg]
/-- four stores -/
def put4 (w : World) (g o : Nat) (y : Jo) : World := (((w.setCell ⟨g, o, none⟩ (.int .i64 y.id)).setCell ⟨g, o + 1, none⟩ (.int .i64 y.rel)).setCell ⟨g, o + 2, none⟩ (.int .i64 y.dl)).setCell ⟨g, o + 3, none⟩ (.int .i64 y.le)
theorem put4_other (w : World) (g o : Nat) (y : Jo) (k : Nat) (h : k ≠ g) : (put4 w g o y).heap[k]? = w.heap[k]? := by
  unfold put4
  rw [Below.heap_setCell _ _ _ _ h, Below.heap_setCell _ _ _ _ h, Below.heap_setCell _ _ _ _ h, Below.heap_setCell _ _ _ _ h]
theorem put4_size (w : World) (g o : Nat) (y : Jo) : (put4 w g o y).heap.size = w.heap.size := by simp [put4, World.setCell]
theorem Mv.set4 {b g o : Nat} {r : Option Nat} {u w : World} (h : Mv b r u w) (x : Jo) (hg : g = b ∨ r = some g ∨ u.heap.size ≤ g) : Mv b r u (put4 w g o x) :=
  (((h.set _ hg).set _ hg).set _ hg).set _ hg
theorem set4 {l : List Value} {a b c d : Value} {o : Nat} (h : ∃ p q r s, l = [p, q, r, s]) : (((l.set 0 a).set 1 b).set 2 c).set 3 d = [a, b, c, d] := by
  obtain ⟨p, q, r, s, rfl⟩ := h; rfl
/-- a job written over -/
theorem NRow.set {B g n cap : Nat} {w : World} {l : List Jo} (h : NRow B w (.slice (some ⟨g, 0, none⟩) n cap) l) (i : Nat) (hi : i < l.length) (y : Jo) : NRow B (put4 w g (i * 4) y) (.slice (some ⟨g, 0, none⟩) n cap) (l.set i y) := by
  have hn : n = l.length := by
    obtain ⟨ao, cap', hv, -, -⟩ := h.form
    simp only [Value.slice.injEq] at hv; exact hv.2.1
  have e1 := List.getElem?_eq_getElem hi
  obtain ⟨x, hx⟩ : ∃ x, x = l[i] := ⟨_, rfl⟩
  rw [← hx] at e1
  have h1 := (Ge.row_f jc_len h hn e1 (j := 0) (by omega) (.int .i64 y.id) { x with id := y.id } rfl).2.1
  have e2 : (l.set i { x with id := y.id })[i]? = some { x with id := y.id } := by rw [List.getElem?_set_self hi]
  have h2 := (Ge.row_f jc_len h1 (by rw [List.length_set]; exact hn) e2 (j := 1) (by omega) (.int .i64 y.rel) { x with id := y.id, rel := y.rel } rfl).2.1
  rw [List.set_set] at h2
  have e3 : (l.set i { x with id := y.id, rel := y.rel })[i]? = some { x with id := y.id, rel := y.rel } := by rw [List.getElem?_set_self hi]
  have h3 := (Ge.row_f jc_len h2 (by rw [List.length_set]; exact hn) e3 (j := 2) (by omega) (.int .i64 y.dl) { x with id := y.id, rel := y.rel, dl := y.dl } rfl).2.1
  rw [List.set_set] at h3
  have e4 : (l.set i { x with id := y.id, rel := y.rel, dl := y.dl })[i]? = some { x with id := y.id, rel := y.rel, dl := y.dl } := by rw [List.getElem?_set_self hi]
  have h4 := (Ge.row_f jc_len h3 (by rw [List.length_set]; exact hn) e4 (j := 3) (by omega) (.int .i64 y.le) y rfl).2.1
  rw [List.set_set] at h4
  exact h4
/-- the first ones of a row -/
theorem NRow.take {B g n cap : Nat} {w : World} {l : List Jo} (h : NRow B w (.slice (some ⟨g, 0, none⟩) n cap) l) {k : Nat} (hk : k ≤ l.length) : NRow B w (.slice (some ⟨g, 0, none⟩) k cap) (l.take k) := by
  have hn : n = l.length := by
    obtain ⟨ao, cap', hv, -, -⟩ := h.form
    simp only [Value.slice.injEq] at hv; exact hv.2.1
  exact Ge.row_take jc_len h hn (by omega)
/-- what is behind the first ones is not asked -/
theorem NRow.past1 {B g n cap j : Nat} {w : World} {u : Value} {l : List Jo} (h : NRow B w (.slice (some ⟨g, 0, none⟩) n cap) l) (hj : l.length * 4 ≤ j) : NRow B (w.setCell ⟨g, j, none⟩ u) (.slice (some ⟨g, 0, none⟩) n cap) l := by
  obtain ⟨ao, cap', hv, -, -⟩ := h.form
  cases hv
  have := (World.ownsRow.stored h j u).1
  rw [List.set_eq_of_length_le (by rw [Ge.flat_length jc_len]; exact hj)] at this
  exact this
theorem NRow.past {B g n cap j : Nat} {w : World} {u : Jo} {l : List Jo} (h : NRow B w (.slice (some ⟨g, 0, none⟩) n cap) l) (hj : l.length ≤ j) : NRow B (put4 w g (j * 4) u) (.slice (some ⟨g, 0, none⟩) n cap) l :=
  (((h.past1 (by omega)).past1 (by omega)).past1 (by omega)).past1 (by omega)
/-- one element more: the row is the one that it was, or a new one -/
theorem append_one {P : Program} (w : World) (B : Nat) (t ty e : TypeId) (z : Value) (size bytes : Nat) (ht : P.underlying t = some (.slice e)) (hinfo : (P.info? e).map (fun i => (i.zero, i.size, i.bytes)) = some (some z, size, bytes)) (hzs : z.cells.size = size) (hsz : 0 < size) (hby : bytes ≤ 1000)
    (v : Value) (n : Nat) (xs : List Value) (hown : w.ownsRow B e size v n xs) (a : Addr) (news : List Value) (hl : news.length = size) (hnews : ∀ j u, news[j]? = some u → w.cell? (a.add j) = some u) (h1 : ∀ u ∈ news, u.oneCell' = true) (hlen : n ≤ 1000000) (hB : B ≤ w.heap.size) :
    ∃ g cap w', (Builtin.append_ #[t, t] ty #[v, .slice (some a) 1 1]).run P w = .ok (.slice (some ⟨g, 0, none⟩) (n + 1) cap) w' ∧ w'.ownsRow B e size (.slice (some ⟨g, 0, none⟩) (n + 1) cap) (n + 1) (xs ++ news) ∧ w.grownBy w' v.ownBlock ∧ (v.ownBlock = some g ∨ w.heap.size ≤ g) := by
  obtain ⟨i, hi, hzz⟩ := Option.map_eq_some_iff.1 hinfo
  simp only [Prod.mk.injEq] at hzz
  obtain ⟨hz, hs, hb⟩ := hzz
  have hl1 : news.length = 1 * size := by omega
  have h63 : n + 1 ≤ maxLen := by unfold maxLen; omega
  have hbb : (n + 1) * bytes ≤ 140737488355328 := by
    have := Nat.mul_le_mul (show n + 1 ≤ 1000001 by omega) hby
    omega
  have fin : ∀ {base : Nat} {v' : Value} {w' : World}, w'.ownsRow base e size v' (n + 1) (xs ++ news) → ∃ g cap, v' = .slice (some ⟨g, 0, none⟩) (n + 1) cap := by
    intro base v' w' ho
    rcases ho.2 with ⟨_, h0⟩ | ⟨g, cap, cur, hv, _⟩
    · omega
    · exact ⟨g, cap, hv⟩
  obtain ⟨v', w', hr, hown', hgrow, _⟩ := run_append_own (P := P) w B t ty e i z size bytes ht hi hz hs hb hzs hsz v n xs hown a 1 1 news hl1 hnews h1 h63 hbb hB
  obtain ⟨g, cap, rfl⟩ := fin hown'
  refine ⟨g, cap, w', hr, hown', hgrow, ?_⟩
  rcases hown.2 with ⟨rfl, h0⟩ | ⟨g0, cap0, cur, rfl, hbg, hg, hnc, hcm, hcs, htake⟩
  · obtain ⟨v2, w2, hr2, hown2, _⟩ := run_append_own (P := P) w w.heap.size t ty e i z size bytes ht hi hz hs hb hzs hsz (.slice none 0 0) n xs ⟨hown.1, .inl ⟨rfl, h0⟩⟩ a 1 1 news hl1 hnews h1 h63 hbb (Nat.le_refl _)
    rw [hr] at hr2
    cases hr2
    exact .inr (hown2.lt g rfl).1
  · by_cases hroom : n + 1 ≤ cap0
    · obtain ⟨w2, hr2, -, -⟩ := run_append_fits (P := P) w B t ty e i size ht hi hs g0 n cap0 xs hown a 1 1 news hl1 hnews h1 hroom
      rw [hr] at hr2
      cases hr2
      exact .inl rfl
    · have hr2 := run_append_grow (P := P) w t ty e i z ht hi hz ⟨g0, 0, none⟩ n cap0 xs (by rw [hs]; exact hown.1) (hown.cells (g := g0) rfl) a 1 1 news (by rw [hs]; exact hl1) hnews (by omega) (by omega) (by rw [hb]; exact growslice_fits (by omega) hbb)
      rw [hr] at hr2
      cases hr2
      exact .inr (Nat.le_refl _)
theorem nrow_append (B : Nat) (w : World) (v : Value) (l : List Jo) (x : Jo) (h : NRow B w v l) (hB : B ≤ w.heap.size) (hn : l.length ≤ 900000) :
    ∃ g cap w', (Builtin.append_ #[27, 27] 27 #[v, .slice (some ⟨w.heap.size, 0, none⟩) 1 1]).run Try.prog (w.alloc (.cells #[.int .i64 x.id, .int .i64 x.rel, .int .i64 x.dl, .int .i64 x.le] 31)) = .ok (.slice (some ⟨g, 0, none⟩) (l.length + 1) cap) w' ∧ NRow B w' (.slice (some ⟨g, 0, none⟩) (l.length + 1) cap) (l ++ [x]) ∧ Below B w w' ∧ (∀ k, k < w.heap.size → v.ownBlock ≠ some k → w'.heap[k]? = w.heap[k]?) ∧ w.heap.size ≤ w'.heap.size ∧ (v.ownBlock = some g ∨ w.heap.size ≤ g) := by
  have h1 := h.call ((Below.refl _ w).alloc (Nat.le_refl _) (.cells #[.int .i64 x.id, .int .i64 x.rel, .int .i64 x.dl, .int .i64 x.le] 31))
  have asz : (w.alloc (.cells #[.int .i64 x.id, .int .i64 x.rel, .int .i64 x.dl, .int .i64 x.le] 31)).heap.size = w.heap.size + 1 := by simp
  obtain ⟨g, cap, w', hr, ho, hg, hnew⟩ := append_one (P := Try.prog) (w.alloc (.cells #[.int .i64 x.id, .int .i64 x.rel, .int .i64 x.dl, .int .i64 x.le] 31)) B 27 27 31 _ 4 32 Try.underlying27 elJ.info rfl (by omega) (by omega) v l.length _ h1
    ⟨w.heap.size, 0, none⟩ (jc x) rfl (fun j u hj => by
      rw [addr_add, Nat.zero_add]
      simp only [World.cell?, heap_alloc_new]
      simpa [jc] using hj) (elJ.one x) (by omega) (by omega)
  have gs := hg.size
  refine ⟨g, cap, w', hr, ?_, ?_, fun k hk hne => ?_, by omega, by rcases hnew with e | e; exact .inl e; exact .inr (by omega)⟩
  · unfold NRow Row
    rw [List.length_append, Ge.flat_append, Ge.flat_one]
    exact ho
  · exact ((Below.refl B w).alloc hB _).grown hg (by simp; omega) (fun k hk => (h1.lt k hk).1)
  · rw [hg.block k (by omega) (fun e => hne e.symm)]
    exact ((Below.refl w.heap.size w).alloc (Nat.le_refl _) _).block k hk
/-- a call by a pointer of a call's own -/
theorem carry {w w' : World} {p : Addr} {v : Value} (hb : Below w.heap.size w w') (h : w.cell? p = some v) : w'.cell? p = some v := by
  have := World.block_lt_of_cell? _ _ h
  rw [hb.cell this]; exact h
theorem parent_any (i : Nat) (hi : 0 < i) (hl : i ≤ 4000000) (w : World) :
    Calls Try.prog 53 #[.int .i64 (i : Int)] w fun e w' => e = .returned (.int .i64 (((i - 1) / 2 : Nat) : Int)) ∧ w' = w := by
  obtain ⟨k, rfl⟩ : ∃ k, i = k + 1 := ⟨i - 1, by omega⟩
  have e1 : IntKind.i64.wrap ((k : Int) + 1 - 1) = (k : Int) := by rw [IntKind.wrap_i64]; omega
  have e2 : (k : Int).tdiv 2 = ((k / 2 : Nat) : Int) := by rw [Int.tdiv_eq_ediv_of_nonneg (by omega)]; omega
  have e3 : IntKind.i64.wrap ((k / 2 : Nat) : Int) = ((k / 2 : Nat) : Int) := by rw [IntKind.wrap_i64]; omega
  rw [Nat.add_sub_cancel]
  generalize k / 2 = m at *
  go_enter Try.func53, Try.ntmps53
  go_wp2
  go_ret
  exact ⟨rfl, rfl⟩
theorem less_any (a b : Jo) (w : World) :
    Calls Try.prog 42 #[.agg #[.int .i64 a.id, .int .i64 a.rel, .int .i64 a.dl, .int .i64 a.le], .agg #[.int .i64 b.id, .int .i64 b.rel, .int .i64 b.dl, .int .i64 b.le]] w fun e w' => e = .returned (.bool (Ed.ahead a b)) ∧ Below w.heap.size w w' := by
  cases h1 : decide (a.dl < b.dl) with
  | true =>
    have e : Ed.ahead a b = true := by unfold Ed.ahead; rw [h1]; rfl
    have EE := Lib.hid e
    have h2 := of_decide_eq_true h1
    clear e
    go_enter Try.func42, Try.ntmps42
    go_wp2
    go_ret
    exact ⟨by rw [EE.out]; rfl, ((Below.refl _ w).alloc (Nat.le_refl _) _).alloc (by simp) _⟩
  | false =>
    have e : Ed.ahead a b = (decide (a.dl = b.dl) && decide (a.id < b.id)) := by unfold Ed.ahead; rw [h1]; rfl
    have EE := Lib.hid e
    have h2 := of_decide_eq_false h1
    clear e
    cases h3 : decide (a.dl = b.dl) with
    | true =>
      have h4 := of_decide_eq_true h3
      have h5 : (a.dl == b.dl) = true := by simp [h4]
      clear h4
      go_enter Try.func42, Try.ntmps42
      go_wp2
      go_ret
      exact ⟨by rw [EE.out, h3]; rfl, ((Below.refl _ w).alloc (Nat.le_refl _) _).alloc (by simp) _⟩
    | false =>
      have h4 := of_decide_eq_false h3
      have h5 : (a.dl == b.dl) = false := by simp [h4]
      clear h4
      go_enter Try.func42, Try.ntmps42
      go_wp2
      go_ret
      exact ⟨by rw [EE.out, h3]; rfl, ((Below.refl _ w).alloc (Nat.le_refl _) _).alloc (by simp) _⟩
theorem none_any (x : Jo) (w : World) :
    Calls Try.prog 47 #[.agg #[.int .i64 x.id, .int .i64 x.rel, .int .i64 x.dl, .int .i64 x.le]] w fun e w' => e = .returned (.bool false) ∧ Below w.heap.size w w' := by
  go_enter Try.func47, Try.ntmps47
  go_wp2
  go_ret
  exact ⟨rfl, (Below.refl _ w).alloc (Nat.le_refl _) _⟩
theorem calm_any (w : World) : CallsD Try.prog 50 #[] .returning w fun e u' w' => e = .returned (.tuple #[]) ∧ u' = .returning ∧ w' = w := by
  refine callsD_of_wpS Try.func50 rfl fun c₀ cs hu => ?_
  apply wpS_region
  simp [wpOpsS, go_sem, recoverD, hu, Try.ntmps50, Exit.thenS, bodyPostS, results, Try.results50]
  cases c₀
  simp_all
/-- what ends by itself ends so under recover -/
theorem ends_any (F : Nat) (first cap : Array Value) (w : World) (Q : World → Prop) (eg : ∀ args w, (callFunc F args).run Try.prog w = .ok (.enter F args) w)
    (h : Calls Try.prog F (first ++ cap) w fun e w' => e = .returned (.tuple #[]) ∧ Q w') :
    Calls Try.prog 37 #[.func (.func F) first cap] w fun e w' => e = .returned (.bool true) ∧ Q w' := by
  have H := Lib.hid h
  clear h
  go_enter_defers Try.func37, Try.ntmps37
  go_wp2_with fail
  (with_reducible refine H.out.mono ?_)
  rintro e w1 ⟨rfl, hq⟩
  have HQ := Lib.hid hq
  clear hq H
  go_wp2
  refine leaves_cons (f := 50) (args := #[]) (by simp) (by simp [go_sem]) ?_
  refine (calm_any _).mono ?_
  rintro e u' w'' ⟨rfl, rfl, rfl⟩
  have hq := HQ.out
  simp [Leaves, settle, results, Try.results37, go_sem, hq]
end Go.Proofs.Yteagimnlhopjpaa.Hj
