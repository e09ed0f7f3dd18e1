/- A range over a function that keeps things of its own in memory, and writes them between the rounds; every round goes on. -/
import Derived.Test.YteagimnlhopjpaaHjD
namespace Go.Proofs.Yteagimnlhopjpaa.Hj
open Go.ChangeShapes Go.WideShapes Go.ChangeAt Go.RowKit Go.Joins Go.Shelf
open Hp (Wk An Srt le ins sort sort_len sort_min sort_srt sort_ins sort_eq hp_nil hp_min hp_head)
open Ed (Jo wk own_an)
set_option maxRecDepth 100000
set_option maxRecDepth 100000
set_option linter.unusedVariables false
set_option linter.unusedSimpArgs false
/-- J: what is said between the rounds; Q, R: the blocks that the function has of its own -/
structure Between (N : Nat) (w : World) (J : Nat → Option Nat → List Jo → World → Prop) : Prop where
  start : ∀ A Q R, Below w.heap.size w A → w.heap.size ≤ Q → (∀ k, R = some k → w.heap.size ≤ k) → J Q R [] A
  own : ∀ Q R pre A A', J Q R pre A → w.heap.size ≤ Q → (∀ k, R = some k → w.heap.size ≤ k) → Mv Q R A A' → J Q R pre A'
/-- the function's contract: it hands over these, one by one -/
def Hands (P : Program) (n : Nat) (gf : Nat) (lb : Array Value) (xs : List Jo) (w : World) : Prop :=
  ∀ (Y : Nat) (J : Nat → Option Nat → List Jo → World → Prop) (W : World), Below w.heap.size w W → Between xs.length W J →
    (∀ Q R pre x A, J Q R pre A → Mine Q R A → pre.length < xs.length → YieldAt Fence.wide (n - 1) P Y #[.agg #[.int .i64 x.id, .int .i64 x.rel, .int .i64 x.dl, .int .i64 x.le]] A fun e A' => e = .returned (.bool true) ∧ J Q R (pre ++ [x]) A' ∧ Keeps Q R A A') →
    CallsIn Fence.wide n P gf (#[.func (.yield Y) #[] #[]] ++ lb) W fun e A' => (∃ v, e = .returned v) ∧ ∃ Q R, J Q R xs A'
/-- what is no cells stays -/
def Stays (B : Nat) (A A' : World) : Prop := ∀ (k : Nat) (o : Obj), B ≤ k → A.heap[k]? = some o → o.isCells = false → A'.heap[k]? = some o
/-- what is said of cells alone is not turned by what is no cells -/
def Cellwise (B : Nat) (I : Nat → Option Nat → List Jo → World → Prop) : Prop := ∀ Q R pre A l o o', I Q R pre A → B ≤ l → A.heap[l]? = some o → o.isCells = false → I Q R pre (A.putObj l o')
theorem mine_put {Q l : Nat} {R : Option Nat} {A : World} {o : Obj} (o' : Obj) (h : Mine Q R A) (hl : A.heap[l]? = some o) (hc : o.isCells = false) : Mine Q R (A.putObj l o') := by
  refine ⟨?_, fun k hk => ?_⟩
  · obtain ⟨cs, e⟩ := h.head
    refine ⟨cs, (World.putObj_heap_other (by rintro rfl; rw [hl] at e; cases e; cases hc)).trans e⟩
  · obtain ⟨cs, e⟩ := h.row k hk
    refine ⟨cs, (World.putObj_heap_other (by rintro rfl; rw [hl] at e; cases e; cases hc)).trans e⟩
theorem keeps_put {Q l : Nat} {R : Option Nat} {A : World} {o : Obj} (o' : Obj) (h : Mine Q R A) (hl : A.heap[l]? = some o) (hc : o.isCells = false) : Keeps Q R A (A.putObj l o') := by
  refine ⟨by simp [World.putObj], ?_, fun k hk => ?_⟩
  · obtain ⟨cs, e⟩ := h.head
    exact World.putObj_heap_other (by rintro rfl; rw [hl] at e; cases e; cases hc)
  · obtain ⟨cs, e⟩ := h.row k hk
    exact World.putObj_heap_other (by rintro rfl; rw [hl] at e; cases e; cases hc)
theorem Mine.keeps {Q : Nat} {R : Option Nat} {A A' : World} (h : Mine Q R A) (k : Keeps Q R A A') : Mine Q R A' :=
  ⟨by obtain ⟨cs, e⟩ := h.head; exact ⟨cs, k.2.1.trans e⟩, fun j hj => by obtain ⟨cs, e⟩ := h.row j hj; exact ⟨cs, (k.2.2 j hj).trans e⟩⟩
theorem Keeps.trans {Q : Nat} {R : Option Nat} {A B C : World} (h : Keeps Q R A B) (k : Keeps Q R B C) : Keeps Q R A C := ⟨Nat.le_trans h.1 k.1, k.2.1.trans h.2.1, fun j hj => (k.2.2 j hj).trans (h.2.2 j hj)⟩
section
variable {P : Program}
theorem range_all {n : Nat} (hn : 1 ≤ n) {g : Operand} {ps : Array Tmp} {assign body : Code} {Z : Exit → Act → World → Prop} {a : Act} {w : World} {gf : Nat} {lb : Array Value} (hg : a.eval g = .func (.func gf) #[] lb)
    (eg : ∀ args w, (callFunc gf args).run P w = .ok (.enter gf args) w) (hps : ps.size = 1) {xs : List Jo} (hh : Hands P (n - 1) gf lb xs w)
    (I : Nat → Option Nat → List Jo → World → Prop) (hI : Between xs.length w I) (hC : Cellwise w.heap.size I) (a₁ : Jo → Nat → Act)
    (hA : ∀ (Q : Nat) (R : Option Nat) (pre : List Jo) (A A' : World), I Q R pre A → Below A.heap.size A A' → I Q R pre A')
    (hassign : ∀ (l : Nat) (x : Jo) (W : World) (K : Act → World → Prop), K (a₁ x W.heap.size) (W.alloc (.cells #[.int .i64 x.id, .int .i64 x.rel, .int .i64 x.dl, .int .i64 x.le] 31)) → assign.wpIn (Fence.wide.inRound l) (n - 1 - 1) P (Exit.then K (fun _ _ _ => False)) { tmps := (ps.zip #[.agg #[.int .i64 x.id, .int .i64 x.rel, .int .i64 x.dl, .int .i64 x.le]]).foldl (fun t (p, v) => t.setIfInBounds p v) a.tmps, defers := [] } W)
    (hbody : ∀ (l Q : Nat) (R : Option Nat) (pre : List Jo) (x : Jo) (A : World) (X : Nat), w.heap.size ≤ l → I Q R pre A → Mine Q R A → Bx A X x → w.heap.size + 2 ≤ X → pre.length < xs.length →
      body.wpIn (Fence.wide.inRound l) (n - 1 - 1) P (fun e _ A' => e = .normal ∧ I Q R (pre ++ [x]) A' ∧ Keeps Q R A A' ∧ Stays w.heap.size A A') (a₁ x X) A)
    (hdone : ∀ (D Q : Nat) (R : Option Nat) (W : World), w.heap.size ≤ D → I Q R xs W → W.heap[D]? = some (.deferred (some [])) → Z .normal { a with defers := { target := .collected D, args := #[] } :: a.defers } W) :
    (Code.rangeFunc g ps assign body).wpIn Fence.wide n P Z a w := by
  refine wpIn_rangeFunc ?_
  intro fn hfn
  obtain ⟨rec, hrec⟩ : ∃ rec : LoopState → Loop, rec = fun st => { state := st, pending := none, fn, tmps := a.tmps, params := ps, assign, body, defers := w.heap.size } := ⟨_, rfl⟩
  obtain ⟨W1, hW1⟩ : ∃ W1, (w.alloc (.deferred (some []))).alloc (.loop (rec .ready)) = W1 := ⟨_, rfl⟩
  have hD1 : W1.heap[w.heap.size]? = some (.deferred (some [])) := by
    rw [← hW1]; exact (Below.heap_alloc _ _ _ (by simp)).trans (World.alloc_heap_new w _)
  have hL1 : W1.heap[w.heap.size + 1]? = some (.loop (rec .ready)) := by
    have := World.alloc_heap_new (w.alloc (.deferred (some []))) (.loop (rec .ready))
    rw [World.size_alloc, hW1] at this; exact this
  have hs1 : W1.heap.size = w.heap.size + 2 := by rw [← hW1]; simp
  have hB1 : Below w.heap.size w W1 := by
    rw [← hW1]; exact ((Below.refl _ w).alloc (Nat.le_refl _) _).alloc (by simp) _
  refine ⟨w.heap.size + 1, [{ target := .collected w.heap.size, args := #[] }], W1, { target := .fn (.func gf) lb, args := #[.func (.yield (w.heap.size + 1)) #[] #[]] }, W1, gf,
    #[.func (.yield (w.heap.size + 1)) #[] #[]] ++ lb, W1, ?_, ?_, fun _ _ => trivial, ?_, fun _ => hn, ?_⟩
  · have := run_enterLoop_outer (P := P) (w := w) fn a.tmps ps assign body
    rw [← hW1, hrec]; exact this
  · simp only [resolve, hg]
    simp [go_sem]
  · simp [invoke, go_sem, eg]
  · refine (hh (w.heap.size + 1) (fun Q R pre A => I Q R pre A ∧ A.heap[w.heap.size + 1]? = some (.loop (rec .ready)) ∧ A.heap[w.heap.size]? = some (.deferred (some []))) W1 hB1 ⟨?_, ?_⟩ ?_).mono ?_
    · intro A Q R hA hQ hR
      exact ⟨hI.start A Q R (hB1.trans (hA.mono (by omega))) (by omega) (fun k hk => by have := hR k hk; omega), (hA.block _ (by omega)).trans hL1, (hA.block _ (by omega)).trans hD1⟩
    · rintro Q R pre A A' ⟨hi, hl, hd⟩ hQ hR hm
      have ne : ∀ k, k < W1.heap.size → R ≠ some k := fun k hk e => by have := hR k e; omega
      exact ⟨hI.own Q R pre A A' hi (by omega) (fun k hk => by have := hR k hk; omega) hm, (hm.block _ (Array.getElem?_eq_some_iff.1 hl).1 (by omega) (ne _ (by omega))).trans hl, (hm.block _ (Array.getElem?_eq_some_iff.1 hd).1 (by omega) (ne _ (by omega))).trans hd⟩
    · rintro Q R pre x A ⟨hi, hl, hd⟩ hmine hlen
      have hy := run_yield (P := P) (args := #[.agg #[.int .i64 x.id, .int .i64 x.rel, .int .i64 x.dl, .int .i64 x.le]]) hl (by rw [hrec]; exact hps.symm)
      rw [hrec] at hy
      refine ⟨fn, _, assign, body, hy, roundIn_of_wpIn hfn (hassign _ x A _ ?_)⟩
      have hlt0 : w.heap.size + 1 < A.heap.size := (Array.getElem?_eq_some_iff.1 hl).1
      have bA : Below A.heap.size A (A.alloc (.cells #[.int .i64 x.id, .int .i64 x.rel, .int .i64 x.dl, .int .i64 x.le] 31)) := (Below.refl _ A).alloc (Nat.le_refl _) _
      have kA : Keeps Q R A (A.alloc (.cells #[.int .i64 x.id, .int .i64 x.rel, .int .i64 x.dl, .int .i64 x.le] 31)) := ⟨bA.size, by obtain ⟨cs, e⟩ := hmine.head; exact bA.block Q (Array.getElem?_eq_some_iff.1 e).1, fun k hk => by obtain ⟨cs, e⟩ := hmine.row k hk; exact bA.block k (Array.getElem?_eq_some_iff.1 e).1⟩
      have hX := bx_new A x
      obtain ⟨X, hXe⟩ : ∃ X, X = A.heap.size := ⟨_, rfl⟩
      rw [← hXe] at hX
      rw [← hXe]
      replace hi := hA _ _ _ _ _ hi bA
      replace hl := (bA.block _ hlt0).trans hl
      replace hd := (bA.block _ (by omega)).trans hd
      replace hmine := hmine.keeps kA
      have hX2 : w.heap.size + 2 ≤ X := by omega
      generalize A.alloc (.cells #[.int .i64 x.id, .int .i64 x.rel, .int .i64 x.dl, .int .i64 x.le] 31) = A1 at *
      have hlt : w.heap.size + 1 < A1.heap.size := (Array.getElem?_eq_some_iff.1 hl).1
      refine ⟨_, run_beginRound hl (by rw [hrec]), ?_⟩
      have hl2 : (A1.putObj (w.heap.size + 1) (.loop { rec .ready with state := .busy })).heap[w.heap.size + 1]? = some (.loop { rec .ready with state := .busy }) := World.putObj_heap_same hlt
      have hd2 : (A1.putObj (w.heap.size + 1) (.loop { rec .ready with state := .busy })).heap[w.heap.size]? = some (.deferred (some [])) := (World.putObj_heap_other (by omega)).trans hd
      have k2 := keeps_put (.loop { rec .ready with state := .busy }) hmine hl rfl
      refine wpIn_mono (hbody (w.heap.size + 1) Q R pre x _ X (by omega) (hC _ _ _ _ _ _ _ hi (by omega) hl rfl) (mine_put _ hmine hl rfl) (hX.of_block (World.putObj_heap_other (by omega))) hX2 hlen) ?_
      rintro e a3 W3 ⟨rfl, hi3, hk3, hs3⟩
      have hl3 := hs3 _ _ (by omega) hl2 rfl
      have hd3 := hs3 _ _ (Nat.le_refl _) hd2 rfl
      have hm3 := (mine_put _ hmine hl rfl).keeps hk3
      refine ⟨_, _, run_endRound none hl3, rfl, ⟨hC _ _ _ _ _ _ _ hi3 (by omega) hl3 rfl, ?_, (World.putObj_heap_other (by omega)).trans hd3⟩, kA.trans (k2.trans (hk3.trans (keeps_put _ hm3 hl3 rfl)))⟩
      rw [World.putObj_heap_same (Array.getElem?_eq_some_iff.1 hl3).1, hrec]
      rfl
    · rintro e W2 ⟨⟨v, rfl⟩, Q, R, hi, hl, hd⟩
      have := run_endLoop (P := P) hl (by rw [hrec]; simp)
      rw [hrec] at this
      exact ⟨none, _, this, hdone _ Q R _ (Nat.le_refl _) (hC _ _ _ _ _ _ _ hi (by omega) hl rfl) ((World.putObj_heap_other (by omega)).trans hd)⟩
end
end Go.Proofs.Yteagimnlhopjpaa.Hj
