/- EdfAll's two rows of eight numbers, beside an executive. -/
import Derived.Test.YteagimnlhopjpaaEdK
import Derived.Test.YteagimnlhopjpaaEdAll
namespace Go.Proofs.Yteagimnlhopjpaa.Hj
open Go.ChangeShapes Go.WideShapes Go.ChangeAt Go.RowKit Go.Joins
open Ed (Jo upd upd_same upd_ne Eight addR runR leftR)
set_option maxRecDepth 100000
set_option maxRecDepth 100000
set_option linter.unusedVariables false
set_option linter.unusedSimpArgs false
/-- eight numbers in block b, by IDs -/
structure Ar8 (b : Nat) (f : Int → Int) (w : World) : Prop where
  c : ∀ j : Nat, j < 8 → w.cell? ⟨b, j, none⟩ = some (.int .i64 (f (j : Int)))
  z : ∀ j : Nat, j < 8 → w.frozen? ⟨b, j, none⟩ = false
section
variable {b : Nat} {f : Int → Int} {w w' : World}
theorem Ar8.lt (h : Ar8 b f w) : b < w.heap.size := World.block_lt_of_cell? _ _ (h.c 0 (by omega))
theorem Ar8.of_block (h : Ar8 b f w) (hb : w'.heap[b]? = w.heap[b]?) : Ar8 b f w' :=
  ⟨fun j hj => (World.cell?_of_block (by exact hb)).trans (h.c j hj), fun j hj => (World.frozen?_of_block (by exact hb)).trans (h.z j hj)⟩
theorem Ar8.call (h : Ar8 b f w) (hb : Below w.heap.size w w') : Ar8 b f w' := h.of_block (hb.block b h.lt)
theorem Ar8.set (h : Ar8 b f w) (i : Nat) (v : Int) : Ar8 b (upd f (i : Int) v) (w.setCell ⟨b, i, none⟩ (.int .i64 v)) :=
  ⟨fun j hj => by
    by_cases hji : j = i
    · subst hji; rw [upd_same]; simp [go_sem, h.c j hj]
    · have hij : ¬ i = j := fun e => hji e.symm
      rw [upd_ne (by omega)]
      simp [go_sem, hji, hij, h.c j hj], fun j hj => by simp [go_sem, h.z j hj]⟩
theorem Ar8.other {g o : Nat} {v : Value} (h : Ar8 b f w) (hne : ¬ g = b) : Ar8 b f (w.setCell ⟨g, o, none⟩ v) :=
  h.of_block (Below.heap_setCell _ _ _ _ (fun e => hne e.symm))
end
def z8 : Obj := .cells #[.int .i64 0, .int .i64 0, .int .i64 0, .int .i64 0, .int .i64 0, .int .i64 0, .int .i64 0, .int .i64 0] 46
/-- both rows -/
structure Tw8 (w : World) (K : List Nat) (c : Nat) (lf du : Int → Int) : Prop where
  le : Ar8 c lf w
  du : Ar8 (c + 1) du w
  out : c ∉ K
  out1 : c + 1 ∉ K
section
variable {LB x c : Nat} {K K' : List Nat} {s : List Jo} {lf du : Int → Int} {w w' : World}
theorem Tw8.call (h : Tw8 w K c lf du) (hb : Below w.heap.size w w') : Tw8 w' K c lf du := ⟨h.le.call hb, h.du.call hb, h.out, h.out1⟩
theorem nw_out8 (n : NwK w K K') {k : Nat} (hk : k < w.heap.size) (h : k ∉ K) : k ∉ K' := fun hm => by
  rcases n k hm with e | e
  · exact h e
  · omega
theorem Tw8.left (h : Tw8 w K c lf du) (m : MvK K w w') (n : NwK w K K') : Tw8 w' K' c lf du :=
  ⟨h.le.of_block (m.block c h.le.lt h.out), h.du.of_block (m.block _ h.du.lt h.out1), nw_out8 n h.le.lt h.out, nw_out8 n h.du.lt h.out1⟩
theorem Tw8.put (h : Tw8 w K c lf du) (i : Nat) (v d : Int) : Tw8 ((w.setCell ⟨c, i, none⟩ (.int .i64 v)).setCell ⟨c + 1, i, none⟩ (.int .i64 d)) K c (upd lf (i : Int) v) (upd du (i : Int) d) :=
  ⟨(h.le.set i v).other (by omega), (h.du.other (by omega)).set i d, h.out, h.out1⟩
theorem Tw8.dec (h : Tw8 w K c lf du) (i : Nat) (v : Int) : Tw8 (w.setCell ⟨c, i, none⟩ (.int .i64 v)) K c (upd lf (i : Int) v) du :=
  ⟨h.le.set i v, h.du.other (by omega), h.out, h.out1⟩
theorem Xq.put8 (h : Xq LB w x K s) {o : Nat} (v : Value) (ho : c ∉ K) : Xq LB (w.setCell ⟨c, o, none⟩ v) x K s :=
  h.of_blocks fun k hk => Below.heap_setCell _ _ _ _ (by rintro rfl; exact ho hk)
theorem ar8_new (w : World) : Ar8 w.heap.size (fun _ => 0) (w.alloc z8) := by
  have key : ∀ j, j < 8 → j = 0 ∨ j = 1 ∨ j = 2 ∨ j = 3 ∨ j = 4 ∨ j = 5 ∨ j = 6 ∨ j = 7 := fun j h => by omega
  unfold z8
  refine ⟨fun j hj => ?_, fun j hj => ?_⟩ <;> rcases key j hj with rfl | rfl | rfl | rfl | rfl | rfl | rfl | rfl <;> simp [go_sem]
theorem tw8_new (w : World) (hk : ∀ k ∈ K, k < w.heap.size) : Tw8 ((w.alloc z8).alloc z8) K w.heap.size (fun _ => 0) (fun _ => 0) := by
  have e : (w.alloc z8).heap.size = w.heap.size + 1 := by simp
  refine ⟨(ar8_new w).call ((Below.refl _ _).alloc (Nat.le_refl _) _), ?_, fun h => by have := hk _ h; omega, fun h => by have := hk _ h; omega⟩
  rw [← e]; exact ar8_new _
theorem run_len8 (s : List Jo) : (runR s).1.length ≤ s.length := by
  cases s with
  | nil => simp [runR]
  | cons a t => rw [Ed.run_cons]; split <;> simp
end
end Go.Proofs.Yteagimnlhopjpaa.Hj
