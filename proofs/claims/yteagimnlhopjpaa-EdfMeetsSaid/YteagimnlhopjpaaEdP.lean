/- Package edf's executive in memory: Xq LB w x K s: in block x, of these jobs in order, which it keeps in the blocks K (its heap, the row of the heap's jobs, the map of their IDs). -/
import Derived.Test.YteagimnlhopjpaaHjG
import Derived.Test.YteagimnlhopjpaaErC
import Derived.Maps.OwnSet
import Derived.Maps.OwnOps
namespace Go.Proofs.Yteagimnlhopjpaa.Hj
open Go.ChangeShapes Go.WideShapes Go.ChangeAt Go.RowKit Go.Joins
open Ed (Jo wk own_an hasR lateR leftR addR runR mayJ)
set_option maxRecDepth 100000
set_option maxRecDepth 100000
set_option linter.unusedVariables false
set_option linter.unusedSimpArgs false
/-- all blocks but these are as they were -/
structure MvK (K : List Nat) (w w' : World) : Prop where
  os : w'.os = w.os
  tape : w'.tape = w.tape
  output : w'.output = w.output
  size : w.heap.size ≤ w'.heap.size
  block : ∀ k, k < w.heap.size → k ∉ K → w'.heap[k]? = w.heap[k]?
/-- its blocks: those that were its own, or new ones -/
def NwK (w : World) (K K' : List Nat) : Prop := ∀ k ∈ K', k ∈ K ∨ w.heap.size ≤ k
theorem MvK.of_below {K : List Nat} {w w' : World} (hb : Below w.heap.size w w') : MvK K w w' := ⟨hb.os, hb.tape, hb.output, hb.size, fun k hk _ => hb.block k hk⟩
theorem MvK.trans {K K' : List Nat} {u v w : World} (h : MvK K u v) (g : MvK K' v w) (n : NwK u K K') : MvK K u w :=
  ⟨g.os.trans h.os, g.tape.trans h.tape, g.output.trans h.output, Nat.le_trans h.size g.size, fun k hk hn =>
    (g.block k (by have := h.size; omega) (fun hm => by rcases n k hm with e | e; exact hn e; omega)).trans (h.block k hk hn)⟩
theorem MvK.of_mv {K : List Nat} {b : Nat} {r : Option Nat} {w w' : World} (h : Mv b r w w') (hb : b ∈ K) (hr : ∀ k, r = some k → k ∈ K) : MvK K w w' :=
  ⟨h.os, h.tape, h.output, h.size, fun k hk hn => h.block k hk (fun e => hn (e ▸ hb)) (fun e => hn (hr k e))⟩
theorem MvK.of_grown {K : List Nat} {m : Nat} {w w' : World} (h : w.grownBy w' (some m)) (hm : m ∈ K) : MvK K w w' :=
  ⟨h.os, h.tape, h.output, h.size, fun k hk hn => h.block k hk (fun e => hn (by cases e; exact hm))⟩
theorem NwK.refl (w : World) (K : List Nat) : NwK w K K := fun k hk => .inl hk
/-- a number of 64 bits -/
def I64 (i : Int) : Prop := -9223372036854775808 ≤ i ∧ i ≤ 9223372036854775807
theorem I64.wf {i : Int} (h : I64 i) : (Lit.int .i64 i).wf = true := WalkArith.wf_i64 h
theorem law : Go.Maps.Keyed Try.prog 3 := Go.Maps.int_keyed Try.underlying3
theorem zeroU (w : World) : (zeroValue 67).run Try.prog w = .ok (.agg #[]) w := by kernel_rfl
/-- block m is a map whose keys are the IDs of these -/
def Ki (w : World) (m : Nat) (s : List Jo) : Prop := ∃ D : DataW Unit, w.ownsMap Try.prog 3 unitElem m s.length D ∧ Maps.size D = s.length ∧ ∀ i, Maps.has D (.int .i64 i) = hasR s i
theorem ki_of {w : World} {m n : Nat} {s : List Jo} {D : DataW Unit} (h : w.ownsMap Try.prog 3 unitElem m n D) (hs : Maps.size D = s.length) (hh : ∀ i, Maps.has D (.int .i64 i) = hasR s i) : Ki w m s := by
  refine ⟨D, ?_, hs, hh⟩
  obtain ⟨es, clock, hb, F, hn, hD⟩ := h
  refine ⟨es, clock, hb, F, ?_, hD⟩
  have := congrArg Maps.size hD
  simp only [Maps.size, length_sorted, List.length_map, Array.length_toList] at this
  have h2 : Maps.size D = es.size := by rw [← this]; rfl
  omega
theorem lit_ne {a b : Int} (h : a ≠ b) : Lit.int .i64 a ≠ Lit.int .i64 b := fun e => h (by cases e; rfl)
theorem has_cons (j : Jo) (s : List Jo) (i : Int) : hasR (j :: s) i = (decide (j.id = i) || hasR s i) := by
  unfold hasR
  rw [List.any_cons]
  congr 1
theorem has_perm {l m : List Jo} (h : l.Perm m) (i : Int) : hasR l i = hasR m i := by
  unfold hasR
  exact h.any_eq
theorem has_ins (j : Jo) (s : List Jo) (i : Int) : hasR (Hp.ins Ed.ahead j s) i = (decide (j.id = i) || hasR s i) := by
  rw [has_perm (Hp.ins_perm j s), has_cons]
section
variable {w w' : World} {m : Nat} {s : List Jo}
theorem Ki.mapped (h : Ki w m s) : ∃ es clock, w.heap[m]? = some (.map es clock) := by
  obtain ⟨D, ⟨es, clock, hb, -⟩, -⟩ := h
  exact ⟨es, clock, hb⟩
theorem Ki.lt (h : Ki w m s) : m < w.heap.size := by
  obtain ⟨D, h, -⟩ := h
  exact World.ownsMap.lt h
theorem Ki.of_block (h : Ki w m s) (hb : w'.heap[m]? = w.heap[m]?) : Ki w' m s := by
  obtain ⟨D, ⟨es, clock, h1, rest⟩, h2⟩ := h
  exact ⟨D, ⟨es, clock, by rw [hb]; exact h1, rest⟩, h2⟩
/-- one has been put there -/
theorem ki_put {n : Nat} {D : DataW Unit} (j : Jo) (hD : w.ownsMap Try.prog 3 unitElem m s.length D) (hs : Maps.size D = s.length) (hh : ∀ i, Maps.has D (.int .i64 i) = hasR s i)
    (hj : I64 j.id) (hn : hasR s j.id = false) (h : w'.ownsMap Try.prog 3 unitElem m n (D.put (.int .i64 j.id) (.agg []))) : Ki w' m (Hp.ins Ed.ahead j s) := by
  refine ki_of h ?_ fun i => ?_
  · rw [Maps.size_put (hD.tidy law), hh, hn, Hp.ins_len, hs]; rfl
  · rw [has_ins]
    by_cases e : i = j.id
    · subst e
      rw [Maps.has_put_same hD.isMap (show WideAt.IsKeyLit (.int .i64 j.id) from trivial)]
      simp
    · rw [Maps.has_put_other (lit_ne e), hh, decide_eq_false (fun q => e q.symm), Bool.false_or]
/-- the first one has been struck -/
theorem ki_del {n : Nat} {D : DataW Unit} (j : Jo) (hD : w.ownsMap Try.prog 3 unitElem m (j :: s).length D) (hs : Maps.size D = (j :: s).length) (hh : ∀ i, Maps.has D (.int .i64 i) = hasR (j :: s) i)
    (ho : Ed.Own (j :: s)) (h : w'.ownsMap Try.prog 3 unitElem m n (D.del (.int .i64 j.id))) : Ki w' m s := by
  have hn : hasR s j.id = false := by
    cases e : hasR s j.id
    · rfl
    · obtain ⟨q, hq, e⟩ := Ed.has_iff.1 e
      exact absurd (List.mem_map.2 ⟨q, hq, e⟩) (List.nodup_cons.1 ho).1
  refine ki_of h ?_ fun i => ?_
  · have := Maps.size_del (hD.tidy law) (k := .int .i64 j.id)
    rw [hh, has_cons, decide_eq_true rfl, Bool.true_or, if_pos rfl, hs, List.length_cons] at this
    omega
  · by_cases e : i = j.id
    · subst e
      rw [Maps.has_del_same, hn]
    · rw [Maps.has_del_other (lit_ne e), hh, has_cons, decide_eq_false (fun q => e q.symm), Bool.false_or]
/-- the first one has less left -/
theorem Ki.same {s' : List Jo} (h : Ki w m s) (he : s'.map (·.id) = s.map (·.id)) : Ki w m s' := by
  have hl : s'.length = s.length := by have := congrArg List.length he; simpa using this
  have hh : ∀ i, hasR s' i = hasR s i := by
    intro i
    have key : ∀ l : List Jo, hasR l i = (l.map (·.id)).any (fun q => q == i) := fun l => by unfold hasR; rw [List.any_map]; rfl
    rw [key, key, he]
  obtain ⟨D, h1, h2, h3⟩ := h
  exact ⟨D, by rw [hl]; exact h1, by rw [hl]; exact h2, fun i => by rw [hh]; exact h3 i⟩
end
/-- an executive that has had no job -/
def X0 (LB : Nat) (w : World) (x : Nat) : Prop := LB ≤ x ∧ w.heap[x]? = some (.cells #[.pointer none, .map none] 62 (0, 0))
/-- one that has had jobs -/
structure X1 (LB : Nat) (w : World) (x b m : Nat) (r : Option Nat) (s : List Jo) : Prop where
  lb : LB ≤ x
  mlb : LB ≤ m
  blk : w.heap[x]? = some (.cells #[.pointer (some ⟨b, 0, none⟩), .map (some m)] 62 (0, 0))
  hq : Hq LB w b r s
  ki : Ki w m s
  ids : ∀ j ∈ s, I64 j.id
  good : Ed.Good s
def Xq (LB : Nat) (w : World) (x : Nat) (K : List Nat) (s : List Jo) : Prop :=
  (K = [x] ∧ s = [] ∧ X0 LB w x) ∨ ∃ b m r, K = x :: b :: m :: r.toList ∧ X1 LB w x b m r s
section
variable {LB x b m : Nat} {r : Option Nat} {K K' : List Nat} {s : List Jo} {u w w' : World}
theorem X1.ne (h : X1 LB w x b m r s) : x ≠ b ∧ x ≠ m ∧ b ≠ m ∧ r ≠ some x ∧ r ≠ some m ∧ r ≠ some b := by
  have hx := h.blk
  obtain ⟨cs, hb⟩ := h.hq.head
  obtain ⟨es, clock, hm⟩ := h.ki.mapped
  refine ⟨?_, ?_, ?_, ?_, ?_, ?_⟩
  · rintro rfl; rw [hx] at hb; simp at hb
  · rintro rfl; rw [hx] at hm; simp at hm
  · rintro rfl; rw [hb] at hm; simp at hm
  · intro e; obtain ⟨ds, hr⟩ := h.hq.row _ e; rw [hx] at hr; simp at hr
  · intro e; obtain ⟨ds, hr⟩ := h.hq.row _ e; rw [hm] at hr; simp at hr
  · intro e; obtain ⟨ds, hr⟩ := h.hq.row _ e; rw [hb] at hr; simp at hr
theorem X1.of_blocks (h : X1 LB w x b m r s) (hx : w'.heap[x]? = w.heap[x]?) (hb : w'.heap[b]? = w.heap[b]?) (hm : w'.heap[m]? = w.heap[m]?) (hr : ∀ k, r = some k → w'.heap[k]? = w.heap[k]?) : X1 LB w' x b m r s :=
  ⟨h.lb, h.mlb, hx.trans h.blk, h.hq.of_blocks hb hr, h.ki.of_block hm, h.ids, h.good⟩
theorem X1.call (h : X1 LB w x b m r s) (hb : Below w.heap.size w w') : X1 LB w' x b m r s :=
  h.of_blocks (hb.block x (lt_of_heap h.blk)) (hb.block b h.hq.lt) (hb.block m h.ki.lt) (fun k hk => hb.block k (h.hq.rlt k hk).2)
theorem X1.c0 (h : X1 LB w x b m r s) : w.cell? ⟨x, 0, none⟩ = some (.pointer (some ⟨b, 0, none⟩)) := (Lib.cell_of_heap h.blk 0).trans rfl
theorem X1.c1 (h : X1 LB w x b m r s) : w.cell? ⟨x, 1, none⟩ = some (.map (some m)) := (Lib.cell_of_heap h.blk 1).trans rfl
theorem X0.c0 (h : X0 LB w x) : w.cell? ⟨x, 0, none⟩ = some (.pointer none) := (Lib.cell_of_heap h.2 0).trans rfl
theorem X0.c1 (h : X0 LB w x) : w.cell? ⟨x, 1, none⟩ = some (.map none) := (Lib.cell_of_heap h.2 1).trans rfl
theorem X0.call (h : X0 LB w x) (hb : Below w.heap.size w w') : X0 LB w' x := ⟨h.1, (hb.block x (lt_of_heap h.2)).trans h.2⟩
theorem Xq.of_x1 (h : X1 LB w x b m r s) : Xq LB w x (x :: b :: m :: r.toList) s := .inr ⟨b, m, r, rfl, h⟩
theorem Xq.lt (h : Xq LB w x K s) : ∀ k ∈ K, LB ≤ k ∧ k < w.heap.size := by
  intro k hk
  rcases h with ⟨rfl, rfl, h⟩ | ⟨b, m, r, rfl, h⟩
  · obtain rfl := List.mem_singleton.1 hk
    exact ⟨h.1, lt_of_heap h.2⟩
  · simp only [List.mem_cons, Option.mem_toList] at hk
    rcases hk with rfl | rfl | rfl | hk
    · exact ⟨h.lb, lt_of_heap h.blk⟩
    · exact ⟨h.hq.lb, h.hq.lt⟩
    · exact ⟨h.mlb, h.ki.lt⟩
    · exact h.hq.rlt k hk
theorem Xq.of_blocks (h : Xq LB w x K s) (hb : ∀ k ∈ K, w'.heap[k]? = w.heap[k]?) : Xq LB w' x K s := by
  rcases h with ⟨rfl, rfl, h⟩ | ⟨b, m, r, rfl, h⟩
  · exact .inl ⟨rfl, rfl, h.1, (hb x (by simp)).trans h.2⟩
  · exact .inr ⟨b, m, r, rfl, h.of_blocks (hb x (by simp)) (hb b (by simp)) (hb m (by simp)) (fun k hk => hb k (by simp [hk]))⟩
theorem Xq.good (h : Xq LB w x K s) : Ed.Good s := by
  rcases h with ⟨rfl, rfl, h⟩ | ⟨b, m, r, rfl, h⟩
  · exact Ed.good_nil
  · exact h.good
theorem Xq.call (h : Xq LB w x K s) (hb : Below w.heap.size w w') : Xq LB w' x K s := h.of_blocks fun k hk => hb.block k (h.lt k hk).2
theorem Xq.base (h : Xq LB w x K s) : LB ≤ w.heap.size ∧ x ∈ K := by
  have hx : x ∈ K := by rcases h with ⟨rfl, -⟩ | ⟨b, m, r, rfl, -⟩ <;> simp
  have := h.lt x hx
  exact ⟨by omega, hx⟩
theorem X1.mono {B : Nat} (h : X1 LB w x b m r s) (hB : B ≤ LB) : X1 B w x b m r s := by
  obtain ⟨v, l, ht, h4⟩ := h.hq
  exact ⟨by have := h.lb; omega, by have := h.mlb; omega, h.blk, ⟨v, l, ⟨ht.head, ht.row.mono hB, by have := ht.lb; omega⟩, h4⟩, h.ki, h.ids, h.good⟩
theorem Xq.mono {B : Nat} (h : Xq LB w x K s) (hB : B ≤ LB) : Xq B w x K s := by
  rcases h with ⟨rfl, rfl, h⟩ | ⟨b, m, r, rfl, h⟩
  · exact .inl ⟨rfl, rfl, by have := h.1; omega, h.2⟩
  · exact .inr ⟨b, m, r, rfl, h.mono hB⟩
theorem MvK.below (m : MvK K w w') (h : Xq LB w x K s) (hb : Below LB u w) : Below LB u w' :=
  hb.trans ⟨m.os, m.tape, m.output, m.size, fun k hk => m.block k (by have := h.base.1; omega) (fun hm => by have := (h.lt k hm).1; omega)⟩
end
end Go.Proofs.Yteagimnlhopjpaa.Hj
