/- The document's pool (layer 19): two rows of 1024 numbers in one block; its calls. -/
import Derived.Test.YtacgoobkpolcdaaSvB
import Derived.BigRegion
namespace Go.Proofs.Ytacgoobkpolcdaa.Sv
open Go.ChangeShapes Go.WideShapes Go.ChangeAt Go.RowKit Go.Joins
set_option maxRecDepth 100000
set_option maxRecDepth 100000
set_option linter.unusedVariables false
set_option linter.unusedSimpArgs false
theorem zeroP (w : World) : (zeroValue 29).run Try.prog w = .ok (.agg (Array.replicate 2048 (.int .i64 0))) w := by kernel_rfl
/-- the document's pool in block r -/
structure Rq (B : Nat) (w : World) (r : Nat) (L T : List Kn) : Prop where
  lb : B ≤ r
  blk : ∃ cs, w.heap[r]? = some (.cells cs 29 (0, 0))
  c : ∀ j : Nat, j < 1024 → w.cell? ⟨r, j, none⟩ = some (.int .i64 (vof L (j : Int)))
  d : ∀ j : Nat, j < 1024 → w.cell? ⟨r, 1024 + j, none⟩ = some (.int .i64 (vof T (j : Int)))
def poolR : Obj := .cells (Array.replicate 2048 (.int .i64 0)) 29
theorem rq_new (w : World) : Rq w.heap.size (w.alloc poolR) w.heap.size [] [] := by
  have hb : (w.alloc poolR).heap[w.heap.size]? = some (.cells (Array.replicate 2048 (.int .i64 0)) 29 (0, 0)) := heap_alloc_new w _
  refine ⟨Nat.le_refl _, ⟨_, hb⟩, fun j hj => ?_, fun j hj => ?_⟩
  · rw [Lib.cell_of_heap hb]
    rw [Array.getElem?_replicate, if_pos (by omega)]; rfl
  · rw [Lib.cell_of_heap hb]
    rw [Array.getElem?_replicate, if_pos (by omega)]; rfl
section
variable {B r : Nat} {L T L' T' : List Kn} {u w w' : World}
theorem Rq.lt (h : Rq B w r L T) : r < w.heap.size := by obtain ⟨cs, hb⟩ := h.blk; exact lt_of_heap hb
theorem Rq.of_block (h : Rq B w r L T) (hb : w'.heap[r]? = w.heap[r]?) : Rq B w' r L T := by
  obtain ⟨cs, h2⟩ := h.blk
  exact ⟨h.lb, ⟨cs, hb.trans h2⟩, fun j hj => (World.cell?_of_block (by exact hb)).trans (h.c j hj), fun j hj => (World.cell?_of_block (by exact hb)).trans (h.d j hj)⟩
theorem Rq.call (h : Rq B w r L T) (hb : Below w.heap.size w w') : Rq B w' r L T := h.of_block (hb.block r h.lt)
theorem Rq.mono {C : Nat} (h : Rq B w r L T) (hC : C ≤ B) : Rq C w r L T := ⟨by have := h.lb; omega, h.blk, h.c, h.d⟩
theorem Rq.fz (h : Rq B w r L T) (o : Nat) : w.frozen? ⟨r, o, none⟩ = false := by obtain ⟨cs, hb⟩ := h.blk; exact Lib.frozen_of_heap hb o
theorem Rq.setL (h : Rq B w r L T) {i : Nat} {x : Int} (hv : ∀ j : Int, vof L' j = if j = (i : Int) then x else vof L j) (hi : i < 1024) : Rq B (w.setCell ⟨r, i, none⟩ (.int .i64 x)) r L' T := by
  obtain ⟨cs, hb⟩ := h.blk
  refine ⟨h.lb, ⟨cs.setIfInBounds i (.int .i64 x), by simp [World.setCell, Array.getElem?_modify, hb]⟩, fun j hj => ?_, fun j hj => ?_⟩
  · rw [hv]
    by_cases hji : j = i
    · subst hji; simp [go_sem, h.c j hj]
    · have hij : ¬ i = j := fun e => hji e.symm
      rw [if_neg (by omega)]
      simp [go_sem, hji, hij, h.c j hj]
  · have hij : ¬ i = 1024 + j := by omega
    have hij2 : ¬ 1024 + j = i := by omega
    simp [go_sem, hij, hij2, h.d j hj]
theorem Rq.setT (h : Rq B w r L T) {i : Nat} {x : Int} (hv : ∀ j : Int, vof T' j = if j = (i : Int) then x else vof T j) (hi : i < 1024) : Rq B (w.setCell ⟨r, 1024 + i, none⟩ (.int .i64 x)) r L T' := by
  obtain ⟨cs, hb⟩ := h.blk
  refine ⟨h.lb, ⟨cs.setIfInBounds (1024 + i) (.int .i64 x), by simp [World.setCell, Array.getElem?_modify, hb]⟩, fun j hj => ?_, fun j hj => ?_⟩
  · have hij : ¬ 1024 + i = j := by omega
    have hij2 : ¬ j = 1024 + i := by omega
    simp [go_sem, hij, hij2, h.c j hj]
  · rw [hv]
    by_cases hji : j = i
    · subst hji; simp [go_sem, h.d j hj]
    · have hij : ¬ 1024 + i = 1024 + j := by omega
      have hij2 : ¬ 1024 + j = 1024 + i := by omega
      have hij3 : ¬ i = j := by omega
      rw [if_neg (by omega)]
      simp [go_sem, hji, hij, hij2, hij3, h.d j hj]
theorem MvK.rq (m : MvK [r] w w') (h : Rq B w r L T) (hb : Below B u w) : Below B u w' :=
  hb.trans ⟨m.os, m.tape, m.output, m.size, fun k hk => m.block k (by have := h.lb; have := h.lt; omega) (fun hm => by have := h.lb; simp at hm; omega)⟩
end
/-! ### what waits, and was taken, number by number -/
theorem ask_val {L : List Kn} {i n : Int} (h1 : mayA i n = true) (h2 : ¬ 1099511627776 < vof L i + n) (j : Int) : vof (askL L i n) j = if j = i then vof L i + n else vof L j := by
  unfold askL
  rw [h1, if_neg (by simp), if_neg h2, vof_put]
  by_cases e : i = j
  · rw [if_pos e, if_pos e.symm]
  · rw [if_neg e, if_neg (fun q => e q.symm)]
theorem tak_val {L : List Kn} (h : Ok L) {i m : Int} (hm : 0 ≤ m) (j : Int) : vof (takL L i m) j = if j = i then vof L i - min (vof L i) m else vof L j := by
  have hb := h.bnd i
  unfold takL
  by_cases h1 : min (vof L i) m < 1
  · rw [if_pos h1]
    by_cases e : j = i
    · rw [if_pos e, e]; omega
    · rw [if_neg e]
  · rw [if_neg h1]
    by_cases h2 : min (vof L i) m = vof L i
    · rw [if_pos h2, vof_cut]
      by_cases e : j = i
      · rw [if_pos e, if_pos e.symm]; omega
      · rw [if_neg e, if_neg (fun q => e q.symm)]
    · rw [if_neg h2, vof_put]
      by_cases e : j = i
      · rw [if_pos e, if_pos e.symm]
      · rw [if_neg e, if_neg (fun q => e q.symm)]
theorem takT_val {L T : List Kn} (h : Ok L) (ht : OkT T) {i m : Int} (hm : 0 ≤ m) (j : Int) : vof (takT L T i m) j = if j = i then IntKind.i64.wrap (vof T i + min (vof L i) m) else vof T j := by
  have hb := h.bnd i
  have hc := ht.bnd i
  unfold takT
  by_cases h1 : min (vof L i) m < 1
  · rw [if_pos h1]
    by_cases e : j = i
    · rw [if_pos e, e, IntWalk.i64_in _ (by omega)]; omega
    · rw [if_neg e]
  · rw [if_neg h1, vof_put]
    by_cases e : j = i
    · rw [if_pos e, if_pos e.symm]
    · rw [if_neg e, if_neg (fun q => e q.symm)]
theorem cut_val (L : List Kn) (i j : Int) : vof (cut L i) j = if j = i then 0 else vof L j := by
  rw [vof_cut]
  by_cases e : j = i
  · rw [if_pos e, if_pos e.symm]
  · rw [if_neg e, if_neg (fun q => e q.symm)]
/-- the same numbers: the same pool -/
theorem Rq.same {B r : Nat} {L T L' T' : List Kn} {w : World} (h : Rq B w r L T) (h1 : ∀ j : Int, vof L' j = vof L j) (h2 : ∀ j : Int, vof T' j = vof T j) : Rq B w r L' T' :=
  ⟨h.lb, h.blk, fun j hj => by rw [h1]; exact h.c j hj, fun j hj => by rw [h2]; exact h.d j hj⟩
def isId (n : Int) : Bool := decide (0 ≤ n) && decide (n ≤ 1023)
theorem id_any (n : Int) (w : World) : Calls Try.prog 21 #[.int .i64 n] w fun e w' => e = .returned (.bool (isId n)) ∧ w' = w := by
  have key : ∀ B, isId n = B → Calls Try.prog 21 #[.int .i64 n] w fun e w' => e = .returned (.bool B) ∧ w' = w := by
    intro B hB
    go_enter Try.func21, Try.ntmps21
    by_cases h1 : 0 ≤ n
    · by_cases h2 : n ≤ 1023
      · have e : B = true := by rw [← hB]; unfold isId; rw [decide_eq_true h1, decide_eq_true h2]; rfl
        clear hB
        go_wp2
        go_ret
        exact ⟨by first | rfl | (rw [e]; rfl), rfl⟩
      · have e : B = false := by rw [← hB]; unfold isId; rw [decide_eq_true h1, decide_eq_false h2]; rfl
        have h9 : decide (n ≤ 1023) = false := decide_eq_false h2
        clear hB
        go_wp2
        go_ret
        exact ⟨by first | rfl | (rw [e]; rfl), rfl⟩
    · have e : B = false := by rw [← hB]; unfold isId; rw [decide_eq_false h1]; rfl
      have h9 : decide (0 ≤ n) = false := decide_eq_false h1
      clear hB
      go_wp2
      go_ret
      exact ⟨by first | rfl | (rw [e]; rfl), rfl⟩
  exact key _ rfl
theorem isId_yes {n : Int} (h : isId n = true) : ∃ j : Nat, n = (j : Int) ∧ j < 1024 := by
  unfold isId at h
  simp at h
  exact ⟨n.toNat, by omega, by omega⟩
theorem isId_no {n : Int} (h : isId n = false) : n < 0 ∨ 1023 < n := by
  unfold isId at h
  simp at h
  omega
section
variable (B r : Nat) (L T : List Kn)
theorem rbacklog_any (hL : Ok L) (i : Int) (w : World) (h : Rq B w r L T) :
    Calls Try.prog 18 #[.pointer (some ⟨r, 0, none⟩), .int .i64 i] w fun e w' => e = .returned (.int .i64 (vof L i)) ∧ w' = w := by
  have ID := Lib.hid (id_any i w)
  cases hi : isId i with
  | false =>
    have hv := out_val hL.ids (isId_no hi)
    rw [hi] at ID
    rw [hv]
    clear h hi hL hv
    go_enter Try.func18, Try.ntmps18
    go_wp2_with fail
    (with_reducible refine ID.out.mono ?_)
    rintro e w1 ⟨rfl, rfl⟩
    go_wp2
    go_ret
    exact ⟨rfl, rfl⟩
  | true =>
    obtain ⟨j, rfl, hj⟩ := isId_yes hi
    rw [hi] at ID
    have hc := h.c j hj
    have h1 : (0 : Int) ≤ (j : Int) := by omega
    have h2 : (j : Int) < 1024 := by omega
    clear h hi hL
    go_enter Try.func18, Try.ntmps18
    go_wp2_with fail
    (with_reducible refine ID.out.mono ?_)
    rintro e w1 ⟨rfl, rfl⟩
    go_wp2
    go_ret
    exact ⟨rfl, rfl⟩
theorem rmany_any (hT : OkT T) (i : Int) (w : World) (h : Rq B w r L T) :
    Calls Try.prog 20 #[.pointer (some ⟨r, 0, none⟩), .int .i64 i] w fun e w' => e = .returned (.int .i64 (vof T i)) ∧ w' = w := by
  have ID := Lib.hid (id_any i w)
  cases hi : isId i with
  | false =>
    have hv := out_val hT.ids (isId_no hi)
    rw [hi] at ID
    rw [hv]
    clear h hi hT hv
    go_enter Try.func20, Try.ntmps20
    go_wp2_with fail
    (with_reducible refine ID.out.mono ?_)
    rintro e w1 ⟨rfl, rfl⟩
    go_wp2
    go_ret
    exact ⟨rfl, rfl⟩
  | true =>
    obtain ⟨j, rfl, hj⟩ := isId_yes hi
    rw [hi] at ID
    have hc := h.d j hj
    have h1 : (0 : Int) ≤ (j : Int) := by omega
    have h2 : (j : Int) < 1024 := by omega
    clear h hi hT
    go_enter Try.func20, Try.ntmps20
    go_wp2_with fail
    (with_reducible refine ID.out.mono ?_)
    rintro e w1 ⟨rfl, rfl⟩
    go_wp2
    go_ret
    exact ⟨rfl, rfl⟩
theorem rdrop_any (hL : Ok L) (hT : OkT T) (i : Int) (w : World) (h : Rq B w r L T) :
    Calls Try.prog 11 #[.pointer (some ⟨r, 0, none⟩), .int .i64 i] w fun e w' => e = .returned (.int .i64 (vof L i)) ∧ Rq B w' r (cut L i) (cut T i) ∧ MvK [r] w w' := by
  have ID := Lib.hid (id_any i w)
  have BA := Lib.hid (rbacklog_any B r L T hL i w h)
  cases hi : isId i with
  | false =>
    have hv := out_val hL.ids (isId_no hi)
    have hv2 := out_val hT.ids (isId_no hi)
    have FN : Hid (Rq B w r (cut L i) (cut T i)) := Lib.hid (h.same (fun j => by rw [cut_val]; split; rename_i e; rw [e, hv]; rfl) (fun j => by rw [cut_val]; split; rename_i e; rw [e, hv2]; rfl))
    rw [hi] at ID
    clear h hi hL hT hv hv2
    go_enter Try.func11, Try.ntmps11
    go_wp2_with fail
    (with_reducible refine BA.out.mono ?_)
    rintro e w1 ⟨rfl, rfl⟩
    go_wp2_with fail
    (with_reducible refine ID.out.mono ?_)
    rintro e w2 ⟨rfl, rfl⟩
    go_wp2
    go_ret
    exact ⟨rfl, FN.out, MvK.refl _ _⟩
  | true =>
    obtain ⟨j, rfl, hj⟩ := isId_yes hi
    rw [hi] at ID
    have FN := Lib.hid ((h.setL (cut_val L (j : Int)) hj).setT (cut_val T (j : Int)) hj)
    have FM := Lib.hid (((MvK.refl [r] w).set (g := r) (o := j) (.int .i64 0) (.inl (by simp))).set (g := r) (o := 1024 + j) (.int .i64 0) (.inl (by simp)))
    have hc := h.c j hj
    have hd := h.d j hj
    have hf := h.fz j
    have hg := h.fz (1024 + j)
    have h1 : (0 : Int) ≤ (j : Int) := by omega
    have h2 : (j : Int) < 1024 := by omega
    clear h hi hL hT
    go_enter Try.func11, Try.ntmps11
    go_wp2_with fail
    (with_reducible refine BA.out.mono ?_)
    rintro e w1 ⟨rfl, rfl⟩
    go_wp2_with fail
    (with_reducible refine ID.out.mono ?_)
    rintro e w2 ⟨rfl, rfl⟩
    go_wp2
    go_ret
    exact ⟨rfl, FN.out, FM.out⟩
end
end Go.Proofs.Ytacgoobkpolcdaa.Sv
