/- Two executives beside each other, and the block of a step. -/
import Derived.Test.YteagimnlhopjpaaEdK
namespace Go.Proofs.Yteagimnlhopjpaa.Hj
open Go.ChangeShapes Go.WideShapes Go.ChangeAt Go.RowKit Go.Joins
open Ed (Jo wk own_an hasR lateR leftR addR runR mayJ)
open Ge (El Seen Row)
set_option maxRecDepth 100000
set_option maxRecDepth 100000
set_option linter.unusedVariables false
set_option linter.unusedSimpArgs false
/-- two executives beside each other -/
structure Bo (LB : Nat) (w : World) (x : Nat) (K : List Nat) (c : Nat) (ao : Option Addr) (s t : List Jo) : Prop where
  fst : Xq LB w x K s
  snd : Rx LB w c ao t
  ne : c ∉ K
  off : ∀ a, ao = some a → a.block ∉ K
/-- the step's block beside them -/
structure Ob (w : World) (K : List Nat) (c ob : Nat) (o : Stp) : Prop where
  at_ : w.heap[ob]? = some (.cells #[.int .i64 o.kind, .int .i64 o.job.id, .int .i64 o.job.rel, .int .i64 o.job.dl, .int .i64 o.job.le, .bool o.near, .bool o.drops] 33 (0, 0))
  out : ob ∉ K
  ne : ob ≠ c
section
variable {LB x c ob : Nat} {K K' : List Nat} {ao ao' : Option Addr} {s t s' t' : List Jo} {o : Stp} {w w' : World}
theorem Bo.call (h : Bo LB w x K c ao s t) (hb : Below w.heap.size w w') : Bo LB w' x K c ao s t := ⟨h.fst.call hb, h.snd.call hb, h.ne, h.off⟩
theorem Ob.call (h : Ob w K c ob o) (hb : Below w.heap.size w w') : Ob w' K c ob o := ⟨(hb.block ob (lt_of_heap h.at_)).trans h.at_, h.out, h.ne⟩
theorem nw_out (n : NwK w K K') {k : Nat} (hk : k < w.heap.size) (h : k ∉ K) : k ∉ K' := fun hm => by
  rcases n k hm with e | e
  · exact h e
  · omega
theorem Bo.left (h : Bo LB w x K c ao s t) (hx : Xq LB w' x K' s') (m : MvK K w w') (n : NwK w K K') : Bo LB w' x K' c ao s' t :=
  ⟨hx, h.snd.of_blocks m.size (m.block c h.snd.lt h.ne) fun a e => m.block _ (h.snd.at_ a e).2.1 (h.off a e), nw_out n h.snd.lt h.ne, fun a e => nw_out n (h.snd.at_ a e).2.1 (h.off a e)⟩
theorem Ob.left (h : Ob w K c ob o) (m : MvK K w w') (n : NwK w K K') : Ob w' K' c ob o := ⟨(m.block ob (lt_of_heap h.at_) h.out).trans h.at_, nw_out n (lt_of_heap h.at_) h.out, h.ne⟩
theorem Bo.right (h : Bo LB w x K c ao s t) (hr : Rx LB w' c ao' t') (m : Mv c none w w') (n : ∀ a, ao' = some a → ao = some a ∨ w.heap.size ≤ a.block) : Bo LB w' x K c ao' s t' :=
  ⟨h.fst.of_blocks fun k hk => m.block k (h.fst.lt k hk).2 (by rintro rfl; exact h.ne hk) (by simp), hr, h.ne, fun a e hm => by
    rcases n a e with e2 | e2
    · exact h.off a e2 hm
    · have := (h.fst.lt _ hm).2; omega⟩
theorem Ob.right (h : Ob w K c ob o) (m : Mv c none w w') : Ob w' K c ob o := ⟨(m.block ob (lt_of_heap h.at_) h.ne (by simp)).trans h.at_, h.out, h.ne⟩
theorem Ob.cells (h : Ob w K c ob o) : w.cell? ⟨ob, 0, none⟩ = some (.int .i64 o.kind) ∧ w.cell? ⟨ob, 1, none⟩ = some (.int .i64 o.job.id) ∧ w.cell? ⟨ob, 2, none⟩ = some (.int .i64 o.job.rel) ∧ w.cell? ⟨ob, 3, none⟩ = some (.int .i64 o.job.dl) ∧ w.cell? ⟨ob, 4, none⟩ = some (.int .i64 o.job.le) ∧ w.cell? ⟨ob, 5, none⟩ = some (.bool o.near) ∧ w.cell? ⟨ob, 6, none⟩ = some (.bool o.drops) := by
  refine ⟨?_, ?_, ?_, ?_, ?_, ?_, ?_⟩ <;> (rw [Lib.cell_of_heap h.at_]; rfl)
end
theorem Rx.seen_mv {LB c : Nat} {ao : Option Addr} {t : List Jo} {w w' : World} (h : Rx LB w c ao t) (m : Mv c none w w') : Ns ao t w' :=
  h.seen.of_block m.size fun b off e hb => m.block b hb (h.at_ _ e).2.2 (by simp)
theorem Mv.rx {LB c : Nat} {ao : Option Addr} {t : List Jo} {u w w' : World} (m : Mv c none w w') (h : Rx LB w c ao t) (hb : Below LB u w) : Below LB u w' :=
  hb.trans (m.below (by have := h.lb; have := h.lt; omega) h.lb (fun k hk => by cases hk))
theorem run_len (s : List Jo) : (runR s).1.length ≤ s.length := by
  cases s with
  | nil => simp [runR]
  | cons a t => rw [Ed.run_cons]; split <;> simp
theorem add_len (s : List Jo) (j : Jo) : (addR s j).1.length ≤ s.length + 1 := by
  unfold addR
  split
  · simp
  · split
    · simp
    · rw [show (Hp.ins Ed.ahead j s, (0 : Int)).1 = Hp.ins Ed.ahead j s from rfl, Hp.ins_len]; omega
theorem Xq.les {LB x : Nat} {K : List Nat} {s : List Jo} {w : World} (h : Xq LB w x K s) : ∀ j ∈ s, 1 ≤ j.le ∧ j.le ≤ 2147483648 := fun j hj => Ed.may_left (h.good.may j hj)
end Go.Proofs.Yteagimnlhopjpaa.Hj
