/- Rows of elements of so many cells each, any program, any element: what a call owns of them, what it sees of others'. -/
import Derived.Laws.AppendOwn
import Derived.Laws.OwnMore
import Derived.Laws.MakeOwn
import Derived.Lib.AppendZeros
import Derived.Deep.MidRow
import Derived.WalkKit
import Derived.ProofKit
import Derived.OpenShut
import Derived.Below
import Derived.Lib.Hide
import Derived.Lib.SmallJoins
import Derived.Lib.FrozenHead2
namespace Go.Proofs.Ytacgoobkpolcdaa.Ge
open Go.ChangeShapes Go.WideShapes Go.ChangeAt Go.RowKit Go.Joins
set_option maxRecDepth 100000
set_option linter.unusedVariables false
set_option linter.unusedSimpArgs false
theorem addr_add (b o j : Nat) : (⟨b, o, none⟩ : Addr).add j = ⟨b, o + j, none⟩ := by
  unfold Addr.add
  by_cases h : j = 0 <;> simp [h]
/-- elements of type T, of n cells, written f -/
structure El {α : Type} (P : Program) (T ST : TypeId) (n bytes : Nat) (z : Value) (f : α → List Value) : Prop where
  sl : P.underlying ST = some (.slice T)
  info : (P.info? T).map (fun i => (i.zero, i.size, i.bytes)) = some (some z, n, bytes)
  zs : z.cells.size = n
  pos : 0 < n
  by_ : bytes ≤ 1000
  len : ∀ x, (f x).length = n
  one : ∀ x, ∀ u ∈ f x, u.oneCell' = true
section
variable {α : Type} {P : Program} {T ST : TypeId} {n bytes : Nat} {z : Value} {f : α → List Value}
/-- all elements' cells -/
def flat (f : α → List Value) (l : List α) : List Value := l.flatMap f
theorem flat_nil : flat f [] = [] := rfl
theorem flat_cons (x : α) (l : List α) : flat f (x :: l) = f x ++ flat f l := rfl
theorem flat_append (a b : List α) : flat f (a ++ b) = flat f a ++ flat f b := by simp [flat]
theorem flat_one (x : α) : flat f [x] = f x := by simp [flat]
theorem flat_length (hn : ∀ x, (f x).length = n) (l : List α) : (flat f l).length = l.length * n := by
  induction l with
  | nil => simp [flat]
  | cons x l ih => rw [flat_cons, List.length_append, ih, List.length_cons, hn, Nat.add_mul]; omega
theorem flat_get (hn : ∀ x, (f x).length = n) {l : List α} {i : Nat} {x : α} (h : l[i]? = some x) : ∀ j, j < n → (flat f l)[i * n + j]? = (f x)[j]? := by
  induction l generalizing i with
  | nil => simp at h
  | cons y l ih =>
    intro j hj
    rw [flat_cons]
    cases i with
    | zero =>
      obtain rfl : y = x := by simpa using h
      rw [List.getElem?_append_left (by rw [hn]; omega)]; simp
    | succ i =>
      rw [List.getElem?_append_right (by rw [hn, Nat.add_mul]; omega)]
      have e : (i + 1) * n + j - (f y).length = i * n + j := by rw [hn, Nat.add_mul]; omega
      rw [e]
      exact ih (by simpa using h) j hj
theorem flat_take (hn : ∀ x, (f x).length = n) : ∀ (l : List α) (k : Nat), flat f (l.take k) = (flat f l).take (k * n) := by
  intro l
  induction l with
  | nil => intro k; simp [flat]
  | cons x l ih =>
    intro k
    cases k with
    | zero => simp [flat]
    | succ k =>
      rw [List.take_succ_cons, flat_cons, flat_cons, ih, List.take_append, hn]
      have e1 : (f x).take ((k + 1) * n) = f x := List.take_of_length_le (by rw [hn, Nat.add_mul]; omega)
      have e2 : (k + 1) * n - n = k * n := by rw [Nat.add_mul]; omega
      rw [e1, e2]
theorem flat_f (hn : ∀ x, (f x).length = n) {y : α} {j : Nat} {v : Value} (hj : j < n) : ∀ {l : List α} {i : Nat} {x : α}, l[i]? = some x → f y = (f x).set j v → flat f (l.set i y) = (flat f l).set (i * n + j) v := by
  intro l
  induction l with
  | nil => intro i x h; simp at h
  | cons a l ih =>
    intro i x h hy
    cases i with
    | zero =>
      obtain rfl : a = x := by simpa using h
      rw [List.set_cons_zero, flat_cons, flat_cons, hy, Nat.zero_mul, Nat.zero_add, List.set_append_left _ _ (by rw [hn]; exact hj)]
    | succ i =>
      rw [List.set_cons_succ, flat_cons, flat_cons, ih (by simpa using h) hy, List.set_append_right _ _ (by rw [hn, Nat.add_mul]; omega)]
      congr 2
      rw [hn, Nat.add_mul]; omega
/-- which element, and which of its cells -/
theorem flat_where (hn : ∀ x, (f x).length = n) {l : List α} {j : Nat} {u : Value} (h : (flat f l)[j]? = some u) : ∃ i x r, l[i]? = some x ∧ r < n ∧ j = i * n + r ∧ (f x)[r]? = some u := by
  induction l generalizing j with
  | nil => simp [flat] at h
  | cons y l ih =>
    rw [flat_cons] at h
    by_cases hj : j < n
    · rw [List.getElem?_append_left (by rw [hn]; exact hj)] at h
      exact ⟨0, y, j, rfl, hj, by omega, h⟩
    · rw [List.getElem?_append_right (by rw [hn]; omega), hn] at h
      obtain ⟨i, x, r, h1, h2, h3, h4⟩ := ih h
      exact ⟨i + 1, x, r, by simpa using h1, h2, by rw [Nat.add_mul]; omega, h4⟩
/-- elements in memory, of whomever -/
def Seen (f : α → List Value) (n : Nat) (ao : Option Addr) (l : List α) (w : World) : Prop := 0 < l.length → ∃ b off, ao = some ⟨b, off, none⟩ ∧ b < w.heap.size ∧ ∀ i x, l[i]? = some x → ∀ j u, (f x)[j]? = some u → w.cell? ⟨b, off + i * n + j, none⟩ = some u
theorem seen_nil (ao : Option Addr) (w : World) : Seen f n ao [] w := fun h => by simp at h
theorem Seen.of_block {ao : Option Addr} {l : List α} {w w' : World} (h : Seen f n ao l w) (hs : w.heap.size ≤ w'.heap.size) (hb : ∀ b off, ao = some ⟨b, off, none⟩ → b < w.heap.size → w'.heap[b]? = w.heap[b]?) : Seen f n ao l w' := fun h0 => by
  obtain ⟨b, off, rfl, hl, hc⟩ := h h0
  exact ⟨b, off, rfl, by omega, fun i x hi j u hj => (World.cell?_of_block (w := w) (a := ⟨b, off + i * n + j, none⟩) (hb b off rfl hl)).trans (hc i x hi j u hj)⟩
theorem Seen.call {ao : Option Addr} {l : List α} {w w' : World} (h : Seen f n ao l w) (hb : Below w.heap.size w w') : Seen f n ao l w' := h.of_block hb.size fun b _ _ hl => hb.block b hl
theorem Seen.below {B : Nat} {ao : Option Addr} {l : List α} {w w' : World} (h : Seen f n ao l w) (hb : Below B w w') (hB : w.heap.size ≤ B) : Seen f n ao l w' := h.call (hb.mono hB)
theorem Seen.take {ao : Option Addr} {l : List α} {w : World} (h : Seen f n ao l w) (k : Nat) : Seen f n ao (l.take k) w := fun h0 => by
  obtain ⟨b, off, rfl, hl, hc⟩ := h (by rw [List.length_take] at h0; omega)
  refine ⟨b, off, rfl, hl, fun i x hi j u hj => hc i x ?_ j u hj⟩
  rw [List.getElem?_take] at hi
  split at hi
  · exact hi
  · cases hi
theorem Seen.drop {b off : Nat} {l : List α} {w : World} (h : Seen f n (some ⟨b, off, none⟩) l w) (k : Nat) : Seen f n (some ⟨b, off + k * n, none⟩) (l.drop k) w := fun h0 => by
  obtain ⟨b', off', e, hl, hc⟩ := h (by rw [List.length_drop] at h0; omega)
  cases e
  refine ⟨b, off + k * n, rfl, hl, fun i x hi j u hj => ?_⟩
  rw [List.getElem?_drop] at hi
  have := hc (k + i) x hi j u hj
  rw [Nat.add_mul] at this
  rw [show off + k * n + i * n + j = off + (k * n + i * n) + j by omega]
  exact this
theorem Seen.cells {ad : Addr} {l : List α} {w : World} (hn : ∀ x, (f x).length = n) (h : Seen f n (some ad) l w) : ∀ j u, (flat f l)[j]? = some u → w.cell? (ad.add j) = some u := fun j u hj => by
  obtain ⟨i, x, r, h1, h2, rfl, h4⟩ := flat_where hn hj
  obtain ⟨b, off, e, -, hc⟩ := h (by have := (List.getElem?_eq_some_iff.1 h1).1; omega)
  cases e
  rw [addr_add, show off + (i * n + r) = off + i * n + r by omega]
  exact hc i x h1 r u h4
/-- v is a row of these elements of a call's own, in a block from B on -/
def Row (f : α → List Value) (n : Nat) (T : TypeId) (B : Nat) (w : World) (v : Value) (l : List α) : Prop := w.ownsRow B T n v l.length (flat f l)
theorem row_nil (B : Nat) (w : World) : Row f n T B w (.slice none 0 0) [] := World.ownsRow_nil _ _ _ _
theorem Row.of_blocks {B : Nat} {w w' : World} {v : Value} {l : List α} (h : Row f n T B w v l) (hb : ∀ k, v.ownBlock = some k → w'.heap[k]? = w.heap[k]?) : Row f n T B w' v l := by
  refine ⟨h.1, ?_⟩
  rcases h.2 with hn | ⟨g, cap, cur, rfl, hB, hg, rest⟩
  · exact .inl hn
  · exact .inr ⟨g, cap, cur, rfl, hB, by rw [hb g rfl]; exact hg, rest⟩
theorem Row.lt {B : Nat} {w : World} {v : Value} {l : List α} (h : Row f n T B w v l) : ∀ k, v.ownBlock = some k → B ≤ k ∧ k < w.heap.size := World.ownsRow.lt h
theorem Row.call {B : Nat} {w w' : World} {v : Value} {l : List α} (h : Row f n T B w v l) (hb : Below w.heap.size w w') : Row f n T B w' v l := h.of_blocks fun k hk => hb.block k (h.lt k hk).2
theorem Row.mono {B C : Nat} {w : World} {v : Value} {l : List α} (h : Row f n T B w v l) (hC : C ≤ B) : Row f n T C w v l := by
  refine ⟨h.1, ?_⟩
  rcases h.2 with hn | ⟨g, cap, cur, rfl, hB, hg, rest⟩
  · exact .inl hn
  · exact .inr ⟨g, cap, cur, rfl, by omega, hg, rest⟩
/-- a slice, whose elements are seen -/
theorem Row.form {B : Nat} {w : World} {v : Value} {l : List α} (hn : ∀ x, (f x).length = n) (h : Row f n T B w v l) : ∃ ao cap, v = .slice ao l.length cap ∧ l.length ≤ cap ∧ Seen f n ao l w ∧ (∀ b off, ao = some ⟨b, off, none⟩ → off = 0) := by
  have hc := fun g (e : v.ownBlock = some g) => World.ownsRow.cells h (g := g) e
  rcases h.2 with ⟨rfl, h0⟩ | ⟨g, cap, cur, rfl, hB, hg, hcap, -⟩
  · exact ⟨none, 0, by rw [h0], by omega, fun h => by omega, fun b off e => by cases e⟩
  · refine ⟨some ⟨g, 0, none⟩, cap, rfl, hcap, fun h0 => ⟨g, 0, rfl, (Array.getElem?_eq_some_iff.1 hg).1, fun i x hi j u hj => ?_⟩, fun b off e => by cases e; rfl⟩
    have hjn : j < n := by have := (List.getElem?_eq_some_iff.1 hj).1; rw [hn] at this; exact this
    have := hc g rfl (i * n + j) u (by rw [flat_get hn hi j hjn]; exact hj)
    rw [addr_add] at this
    rw [show 0 + i * n + j = 0 + (i * n + j) by omega]; exact this
/-- elements seen, behind a row of one's own -/
theorem row_all (E : El P T ST n bytes z f) {B : Nat} {w : World} {v : Value} {l m : List α} {ad : Addr} {c : Nat} {ty : TypeId} (h : Row f n T B w v l) (hu : Seen f n (some ad) m w) (hB : B ≤ w.heap.size) (hl : l.length + m.length ≤ 100000) :
    ∃ v' w', (Builtin.append_ #[ST, ST] ty #[v, .slice (some ad) m.length c]).run P w = .ok v' w' ∧ Row f n T B w' v' (l ++ m) ∧ Below B w w' ∧ w.grownBy w' v.ownBlock := by
  obtain ⟨i, hi, hz⟩ := Option.map_eq_some_iff.1 E.info
  simp only [Prod.mk.injEq] at hz
  obtain ⟨hz, hs, hy⟩ := hz
  have hb : (l.length + m.length) * bytes ≤ 140737488355328 := by
    have := Nat.mul_le_mul hl E.by_
    omega
  obtain ⟨v', w', hr, ho, hg, -⟩ := run_append_own (P := P) w B ST ty T i z n bytes E.sl hi hz hs hy E.zs E.pos v l.length _ h
    ad m.length c (flat f m) (flat_length E.len m) (hu.cells E.len) (fun u hu => by
      simp only [flat, List.mem_flatMap] at hu
      obtain ⟨x, -, hu⟩ := hu
      exact E.one x u hu) (by unfold maxLen; omega) hb hB
  refine ⟨v', w', hr, ?_, ⟨hg.os, hg.tape, hg.output, hg.size, fun k hk => hg.block k (by omega) (fun e => ?_)⟩, hg⟩
  · unfold Row
    rw [List.length_append, flat_append]
    exact ho
  · have := (h.lt k e.symm).1; omega
/-- one element, seen somewhere, behind a row of one's own -/
theorem row_one (E : El P T ST n bytes z f) {B : Nat} {w : World} {v : Value} {l : List α} {x : α} {b o c : Nat} {ty : TypeId} (h : Row f n T B w v l) (hx : ∀ j u, (f x)[j]? = some u → w.cell? ⟨b, o + j, none⟩ = some u) (hB : B ≤ w.heap.size) (hl : l.length ≤ 99999) :
    ∃ v' w', (Builtin.append_ #[ST, ST] ty #[v, .slice (some ⟨b, o, none⟩) 1 c]).run P w = .ok v' w' ∧ Row f n T B w' v' (l ++ [x]) ∧ Below B w w' ∧ w.grownBy w' v.ownBlock := by
  have hb : b < w.heap.size := by
    have h0 : 0 < (f x).length := by rw [E.len]; exact E.pos
    exact World.block_lt_of_cell? _ _ (hx 0 _ (List.getElem?_eq_getElem h0))
  exact row_all E (m := [x]) h (fun _ => ⟨b, o, rfl, hb, fun i y hi j u hj => by
    match i, hi with
    | 0, hi =>
      obtain rfl : x = y := by simpa using hi
      rw [Nat.zero_mul, Nat.add_zero]; exact hx j u hj
    | i + 1, hi => simp at hi⟩) hB (by simpa using (by omega : l.length + 1 ≤ 100000))
/-- .. as the block that was just made for it -/
theorem row_new (E : El P T ST n bytes z f) {B : Nat} {w : World} {v : Value} {l : List α} (x : α) {c : Nat} {ty : TypeId} (h : Row f n T B w v l) (hB : B ≤ w.heap.size) (hl : l.length ≤ 99999) (T' : TypeId) :
    ∃ v' w', (Builtin.append_ #[ST, ST] ty #[v, .slice (some ⟨w.heap.size, 0, none⟩) 1 c]).run P (w.alloc (.cells (f x).toArray T')) = .ok v' w' ∧ Row f n T B w' v' (l ++ [x]) ∧ Below B w w' := by
  have ba : Below w.heap.size w (w.alloc (.cells (f x).toArray T')) := (Below.refl _ w).alloc (Nat.le_refl _) _
  obtain ⟨v', w', hr, ho, hb, -⟩ := row_one E (x := x) (b := w.heap.size) (o := 0) (c := c) (ty := ty) (h.call ba) (fun j u hj => by
    rw [Nat.zero_add]
    simp [go_sem, hj]) (by simp; omega) hl
  exact ⟨v', w', hr, ho, (ba.mono hB).trans hb⟩
/-- nothing, behind whatever there is -/
theorem all_none (E : El P T ST n bytes z f) (w : World) (ty : TypeId) (a b : Option Addr) (k c c2 : Nat) (hk : k ≤ c) : (Builtin.append_ #[ST, ST] ty #[.slice a k c, .slice b 0 c2]).run P w = .ok (.slice a k c) w := by
  obtain ⟨i, hi, hz⟩ := Option.map_eq_some_iff.1 E.info
  cases a with
  | none => cases b <;> simp [Builtin.append_, run_underlying E.sl, sizeOf, typeInfo, hi, Builtin.lenOf, hk, Builtin.firstCells, loadCells, loadCellsFrom]
  | some a => cases b <;> simp [Builtin.append_, run_underlying E.sl, sizeOf, typeInfo, hi, Builtin.lenOf, hk, Builtin.firstCells, storeCells, loadCells, loadCellsFrom]
/-- elements behind others that end where their room ends: a new row of one's own -/
theorem full_all (E : El P T ST n bytes z f) {w : World} {l m : List α} {ao : Option Addr} {ad : Addr} {c cl : Nat} {ty : TypeId} (h : Seen f n ao l w) (hao : ao = none → cl = 0) (hcl : l.length ≤ cl) (hu : Seen f n (some ad) m w) (hm : cl < l.length + m.length) (hl : l.length + m.length ≤ 100000) :
    ∃ v' w', (Builtin.append_ #[ST, ST] ty #[.slice ao l.length cl, .slice (some ad) m.length c]).run P w = .ok v' w' ∧ Row f n T w.heap.size w' v' (l ++ m) ∧ Below w.heap.size w w' := by
  cases ao with
  | none =>
    have h0 : l = [] := by
      rcases Nat.eq_zero_or_pos l.length with e | e
      · exact List.eq_nil_of_length_eq_zero e
      · obtain ⟨b, off, e, -⟩ := h e; cases e
    subst h0
    rw [hao rfl]
    obtain ⟨v', w', h1, h2, h3, -⟩ := row_all E (c := c) (ty := ty) (row_nil (f := f) (n := n) (T := T) w.heap.size w) hu (Nat.le_refl _) hl
    exact ⟨v', w', h1, h2, h3⟩
  | some ab =>
    obtain ⟨i, hi, hz⟩ := Option.map_eq_some_iff.1 E.info
    simp only [Prod.mk.injEq] at hz
    obtain ⟨hz, rfl, rfl⟩ := hz
    have hb : (l.length + m.length) * i.bytes ≤ 140737488355328 := by
      have := Nat.mul_le_mul hl E.by_
      omega
    have hr := run_append_grow (P := P) w ST ty T i z E.sl hi hz ab l.length cl (flat f l) (flat_length E.len l) (h.cells E.len) ad m.length c (flat f m) (flat_length E.len m) (hu.cells E.len) hm (by omega) (growslice_fits hm hb)
    refine ⟨_, _, hr, ?_, (Below.refl _ _).drew.alloc (Nat.le_refl _) _⟩
    have hge := grownCap_ge w (l.length + m.length) cl T
    have hcm : grownCap w (l.length + m.length) cl T ≤ maxLen := grownCap_le_maxLen w (l.length + m.length) cl T (by unfold maxLen; omega)
    have hlen : (flat f l ++ flat f m).length = (l.length + m.length) * i.size := by rw [List.length_append, flat_length E.len, flat_length E.len, Nat.add_mul]
    unfold Row
    rw [List.length_append, flat_append]
    refine ⟨hlen, .inr ⟨w.heap.size, _, _, rfl, Nat.le_refl _, heap_alloc_new w.drew _, hge, hcm, ?_, ?_⟩⟩
    · simp only [Array.size_append, List.size_toArray, size_zeroCells, E.zs, flat_length E.len, ← Nat.add_mul]
      congr 1
      omega
    · simp only [Array.toList_append, List.append_assoc]
      rw [← List.append_assoc, ← hlen]
      exact List.take_left
/-- the first ones of a row -/
theorem row_take (hn : ∀ x, (f x).length = n) {B : Nat} {w : World} {g cap k' : Nat} {l : List α} (h : Row f n T B w (.slice (some ⟨g, 0, none⟩) k' cap) l) (hk' : k' = l.length) {k : Nat} (hk : k ≤ k') : Row f n T B w (.slice (some ⟨g, 0, none⟩) k cap) (l.take k) := by
  subst hk'
  have e : (l.take k).length = k := by rw [List.length_take]; omega
  rcases h.2 with ⟨h0, _⟩ | ⟨g', cap', cur, hv, hB, hg, hcap, hm, hsz, ht⟩
  · cases h0
  · cases hv
    refine ⟨by rw [flat_length hn], .inr ⟨g, cap, cur, by rw [e], hB, hg, by rw [e]; omega, hm, hsz, ?_⟩⟩
    rw [e, flat_take hn, ← ht, List.take_take]
    congr 1
    exact (Nat.min_eq_left (Nat.mul_le_mul_right n hk)).symm
/-- one cell of one element of a row, written over -/
theorem row_f (hn : ∀ x, (f x).length = n) {B : Nat} {w : World} {g cap k : Nat} {l : List α} (h : Row f n T B w (.slice (some ⟨g, 0, none⟩) k cap) l) (hk : k = l.length) {i : Nat} {x : α} (hi : l[i]? = some x) {j : Nat} (hj : j < n) (v : Value) (y : α) (hy : f y = (f x).set j v) :
    w.frozen? ⟨g, i * n + j, none⟩ = false ∧ Row f n T B (w.setCell ⟨g, i * n + j, none⟩ v) (.slice (some ⟨g, 0, none⟩) k cap) (l.set i y) ∧ B ≤ g := by
  subst hk
  rcases h.2 with ⟨h0, _⟩ | ⟨g', cap', cur, hv, hB, hg, hcap, hm, hsz, ht⟩
  · cases h0
  · cases hv
    have he : (w.setCell ⟨g, i * n + j, none⟩ v).heap[g]? = some (.cells (cur.setIfInBounds (i * n + j) v) T (0, 0)) := by simp [World.setCell, Array.getElem?_modify, hg]
    refine ⟨Lib.frozen_of_heap hg _, ⟨by rw [flat_length hn], .inr ⟨g, cap, _, by rw [List.length_set], hB, he, by rw [List.length_set]; exact hcap, hm, by simpa using hsz, ?_⟩⟩, hB⟩
    rw [Array.toList_setIfInBounds, List.take_set, List.length_set, ht, flat_f hn hj hi hy]
end
end Go.Proofs.Ytacgoobkpolcdaa.Ge
