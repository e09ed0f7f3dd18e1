/- Contract of package busy's Length. -/
import Derived.Sort.CutIn
import Derived.Test.YtbhafcaekpccoaaBsF
import Derived.Test.YtbhafcaekpccoaaPmL
namespace Go.Proofs.Ytbhafcaekpccoaa.Bs
open Go.ChangeShapes Go.WideShapes Go.ChangeAt Go.RowKit Go.Joins Go.Shelf
open Pm (Tk chk chk_iff rowB rowB_all rowB_len TkAt Ts TRow loadR over_any)
open Dm (isTime isTime_iff)
attribute [local go_sem] Oper.semAt_some
set_option maxRecDepth 100000
set_option maxRecDepth 100000
set_option linter.unusedVariables false
set_option linter.unusedSimpArgs false
/-- tasks that have a length -/
def Good (l : List Tk) (m : Int) : Prop := 0 ≤ m ∧ m ≤ 1048576 ∧ ((l = [] ∧ m = 0) ∨ (l ≠ [] ∧ rowB l = true ∧ Len l m))
theorem lastI_two {r : List Int} (h : r ≠ []) (x y : Int) : lastI x r = lastI y r := by
  cases r with
  | nil => exact absurd rfl h
  | cons z r => rfl
theorem good_next {l : List Tk} {m : Int} (h : Good l m) {pre : List Int} {x : Int} (hc : chainW l 1 (pre ++ [x])) (h1 : (pre.length : Int) ≤ lastI 0 pre) (h2 : lastI 0 pre ≤ m) :
    (x = lastI 0 pre ∧ lastI 0 pre = m) ∨ (x ≠ lastI 0 pre ∧ lastI 0 pre < x ∧ x ≤ m) := by
  obtain ⟨m0, m1, ⟨rfl, rfl⟩ | ⟨hne, hr, hm⟩⟩ := h
  · have hx := (chainW_snoc.1 hc).2
    have e0 : workR [] (lastI 1 pre) = 0 := by unfold workR; split <;> rfl
    left
    constructor <;> omega
  · have hx := (chainW_snoc.1 hc).2
    have hl : ∀ t ∈ l, 0 < t.t ∧ 1 ≤ t.c := fun t ht => by have := chk_iff.1 (rowB_all hr t ht); omega
    have hl0 : ∀ t ∈ l, 0 < t.t ∧ 0 ≤ t.c := fun t ht => by have := hl t ht; omega
    cases pre with
    | nil =>
      right
      have := hm.start hl hne
      simp only [lastI] at *
      rw [workR_yes hr (by decide)] at hx
      omega
    | cons z r =>
      have e := lastI_two (r := z :: r) (by simp) 1 0
      rw [e] at hx
      simp only [List.length_cons] at h1
      rw [workR_yes hr (isTime_iff.2 ⟨by omega, by omega⟩)] at hx
      rcases hm.step hl0 (x := lastI 0 (z :: r)) (by omega) h2 with ⟨h3, h4⟩ | ⟨h3, h4, h5⟩
      · left; exact ⟨by omega, h3⟩
      · right; omega
/-- what Length tells, by what Load tells -/
theorem good_of {l : List Tk} (h : (loadR l).e = 0) (h2 : (loadR l).n ≤ (loadR l).p) : ∃ m, Good l m ∧ lengthR l = ⟨m, 0⟩ := by
  cases hl : l with
  | nil => exact ⟨0, ⟨by omega, by omega, .inl ⟨rfl, rfl⟩⟩, lengthR_nil⟩
  | cons t r =>
    rw [← hl]
    have hne : l ≠ [] := by rw [hl]; simp
    obtain ⟨hr, p0, p1, -, m, hm, hmp⟩ := len_load h h2 hne
    exact ⟨m, ⟨by have := hm.pos; omega, by omega, .inr ⟨hne, hr, hm⟩⟩, lengthR_len h h2 hne hm hmp⟩
/-- Length's own block holds the step that was told last -/
structure LnI (w : World) (Lb : Nat) (m : Int) (pre : List Int) (W : World) : Prop where
  num : W.heap[Lb]? = some (.cells #[.int .i64 (lastI 0 pre)] 2 (0, 0))
  bel : Below w.heap.size w W
  h1 : (pre.length : Int) ≤ lastI 0 pre
  h2 : lastI 0 pre ≤ m
def LnX (id : Nat) (w : World) (Lb : Nat) (m : Int) (c : Code) (pre : List Int) (W : World) : Prop :=
  c = .exit id ∧ W.heap[Lb]? = some (.cells #[.int .i64 m] 2 (0, 0)) ∧ Below w.heap.size w W
theorem Off.at {lo hi k : Nat} {A B : World} {o : Obj} (h : Off lo hi A B) (hk : k < lo) (ho : A.heap[k]? = some o) : B.heap[k]? = some o := (h.block k (Array.getElem?_eq_some_iff.1 ho).1 (.inl hk)).trans ho
theorem lnI_off {w : World} {Lb lo hi : Nat} {m : Int} (h1 : Lb < lo) (h2 : w.heap.size ≤ lo) (pre : List Int) (A B : World) (h : LnI w Lb m pre A) (o : Off lo hi A B) : LnI w Lb m pre B :=
  ⟨o.at h1 h.num, o.below h2 h.bel (Nat.le_refl _), h.h1, h.h2⟩
theorem lnX_off {id : Nat} {w : World} {Lb lo hi : Nat} {m : Int} (h1 : Lb < lo) (h2 : w.heap.size ≤ lo) (c : Code) (pre : List Int) (A B : World) (h : LnX id w Lb m c pre A) (o : Off lo hi A B) : LnX id w Lb m c pre B :=
  ⟨h.1, o.at h1 h.2.1, o.below h2 h.2.2 (Nat.le_refl _)⟩
set_option maxHeartbeats 4000000 in
theorem length_any (l : List Tk) (ao : Option Addr) (cap : Nat) (w : World) (hT : Ts ao l w) (hl : l.length ≤ 1000000) :
    Calls Try.prog 29 #[.slice ao l.length cap] w fun e w' => e = .returned (.tuple #[.int .i64 (lengthR l).n, .int .i64 (lengthR l).e]) ∧ Below w.heap.size w w' := by
  have OV := Lib.hid (over_any l ao cap w hT hl)
  have SS := Lib.hid (fun w => steps_any ao l.length cap w)
  by_cases he : (loadR l).e = 0
  · by_cases ho : (loadR l).p < (loadR l).n
    · have E := Lib.hid (lengthR_over he ho)
      have ho' : decide ((loadR l).p < (loadR l).n) = true := by simpa using ho
      rw [he, ho'] at OV
      generalize lengthR l = r at *
      clear he ho ho' SS
      go_enter Try.func29, Try.ntmps29
      go_wp2_with fail
      go_step3
      go_wp2_with fail
      (with_reducible refine OV.out.mono ?_)
      rintro e w1 ⟨rfl, b1⟩
      have K1 := Lib.hid b1
      clear b1 hT
      go_wp2
      try simp only [Exit.noGoto]
      exact bodyPost_ret (v := .tuple #[.int .i64 0, .int .i64 17]) (by simp [results, Try.results29, go_sem]) rfl ⟨by rw [E.out], K1.out⟩
    · obtain ⟨m, hg, hE⟩ := good_of he (by omega)
      have E := Lib.hid hE
      have ho' : decide ((loadR l).p < (loadR l).n) = false := by simpa using ho
      rw [he, ho'] at OV
      clear he ho ho' hE
      generalize lengthR l = r at *
      refine (callsIn_wide (n := 3)).1 ?_
      refine callsIn_of_wp_marks Try.func29 rfl trivial ?_ rfl
      simp only [Try.ntmps29, List.size_toArray, List.length_cons, List.length_nil, Nat.reduceAdd, Nat.reduceSub, Array.replicate_succ, Array.replicate_zero, List.push_toArray, List.append_toArray, List.nil_append, List.cons_append]
      refine wpIn_wide.2 ?_
      go_wp2_with fail
      go_step3
      go_wp2_with fail
      (with_reducible refine OV.out.mono ?_)
      rintro e w1 ⟨rfl, b1⟩
      have T1 := hT.call b1
      have K1 := b1
      have z1 := b1.size
      clear b1 OV
      go_wp2_with fail
      go_step3
      go_wp2_with fail
      (with_reducible refine (SS.out _).mono ?_)
      rintro e w2 ⟨rfl, e2⟩
      clear SS
      have b2 : Below w1.heap.size w1 w2 := by rw [e2]; exact ((Below.refl _ _).alloc (Nat.le_refl _) _).alloc (by simp) _
      have lay : w2.heap[w1.heap.size]? = some (.cells #[.int .i64 0] 2 (0, 0)) ∧ w2.heap[w1.heap.size + 1]? = some (.cells #[.slice ao l.length cap] 22 (0, 0)) ∧ w2.heap.size = w1.heap.size + 2 := by
        rw [e2]
        refine ⟨?_, ?_, by simp⟩
        all_goals simp only [World.alloc, Array.getElem?_push, Array.size_push]
        · rw [if_neg (by omega), if_pos trivial]
        · rw [if_pos trivial]
      have he2 : (w1.alloc (.cells #[.int .i64 0] 2)).heap.size = w1.heap.size + 1 := by simp
      simp only [he2]
      clear e2 he2
      obtain ⟨y1, y2, z2⟩ := lay
      have T2 := T1.call b2
      have K2 := K1.trans (b2.mono z1)
      obtain ⟨b, hb, hbo⟩ : ∃ b, (b < w.heap.size ∨ b = w1.heap.size + 1) ∧ (0 < l.length → ∀ k off, ao = some ⟨k, off, none⟩ → k = b) := by
        by_cases h0 : 0 < l.length
        · obtain ⟨g, off, rfl, hg, -⟩ := hT h0
          exact ⟨g, .inl hg, fun _ k o e => by cases e; rfl⟩
        · exact ⟨w1.heap.size + 1, .inr rfl, fun h => absurd h h0⟩
      clear T1 K1 b2 hT
      have GN := Lib.hid (fun (pre : List Int) (x : Int) hc h1 h2 => good_next hg (pre := pre) (x := x) hc h1 h2)
      have cX : w2.cell? ⟨w1.heap.size + 1, 0, none⟩ = some (.slice ao l.length cap) := by rw [Lib.cell_of_heap y2]; rfl
      have I0 : LnI w w1.heap.size m [] w2 := ⟨y1, K2, by simp [lastI], hg.1⟩
      have m1 := hg.2.1
      clear hg y1 y2 K2
      generalize w1.heap.size = Lb at *
      go_wp2_with fail
      refine (wpIn_wide (n := 3)).1 ?_
      refine range_steps 3 (by omega) l ao cap (Lb + 1) b 1048576 (by omega) hbo rfl rfl cX T2 (by omega)
        (LnI w Lb m) (LnX 1 w Lb m) (lnI_off (by omega) (by omega)) (lnX_off (by omega) (by omega)) (fun pre A h => by have := h.h1; have := h.h2; omega) I0
        (fun x => { tmps := #[.slice ao l.length cap, undef, .int .i64 0, .int .i64 0, .bool false, .int .i64 0, .pointer (some ⟨Lb, 0, none⟩), .int .i64 x, .tuple #[.bool false, .int .i64 0], .slice ao l.length cap, .tuple #[.bool false, .int .i64 0], .bool false, .int .i64 0, .bool false, .int .i64 0, .bool false, undef, .bool false, .bool false, .slice ao l.length cap, .func (.func 53) #[] #[.pointer (some ⟨Lb + 1, 0, none⟩)], .int .i64 x, undef, undef, undef, undef, undef], defers := [] }) ?assign ?body ?stop
      case assign =>
        intro Y x W K hK
        simp only [encS]
        gi_wp2
        exact hK
      case body =>
        rintro Y pre x W hz hi hc
        have c6 : W.cell? ⟨Lb, 0, none⟩ = some (.int .i64 (lastI 0 pre)) := by rw [Lib.cell_of_heap hi.num]; rfl
        have f6 : W.frozen? ⟨Lb, 0, none⟩ = false := Lib.frozen_of_heap hi.num 0
        rcases GN.out pre x hc hi.h1 hi.h2 with ⟨h3, h4⟩ | ⟨h3, h4, h5⟩
        · have FIN : Hid (LnX 1 w Lb m (.exit 1) (pre ++ [x]) W) := Lib.hid ⟨rfl, by rw [← h4]; exact hi.num, hi.bel⟩
          subst h3
          clear hc h4 hi T2 I0 cX f6
          generalize lastI 0 pre = c at *
          gi_wp2
          exact ⟨KeepsFrom.refl _ _, FIN.out⟩
        · have other : ∀ k, k ≠ Lb → (W.setCell ⟨Lb, 0, none⟩ (.int .i64 x)).heap[k]? = W.heap[k]? := fun k hn => Below.heap_setCell _ _ _ _ hn
          have FIN : Hid (KeepsFrom w2.heap.size W (W.setCell ⟨Lb, 0, none⟩ (.int .i64 x)) ∧ Kq b (w2.heap.size + 2) W (W.setCell ⟨Lb, 0, none⟩ (.int .i64 x)) ∧ LnI w Lb m (pre ++ [x]) (W.setCell ⟨Lb, 0, none⟩ (.int .i64 x))) := Lib.hid (by
            have sz : (W.setCell ⟨Lb, 0, none⟩ (.int .i64 x)).heap.size = W.heap.size := by simp [World.setCell]
            refine ⟨⟨by omega, fun k o hk ho _ => (other k (by omega)).trans ho⟩, ⟨other _ (by omega), other _ (by omega), other _ (by omega), by omega⟩, ⟨?_, hi.bel.setCell (by simp; omega) _, ?_, ?_⟩⟩
            · rw [lastI_snoc]; simp [World.setCell, Array.getElem?_modify, hi.num]
            · rw [lastI_snoc]; have := hi.h1; simp only [List.length_append, List.length_singleton]; omega
            · rw [lastI_snoc]; exact h5)
          have e4 : (x == lastI 0 pre) = false := by simpa using h3
          clear hc h4 h5 hi T2 I0 cX other
          generalize lastI 0 pre = c at *
          gi_wp2
          exact FIN.out
      case stop =>
        rintro c pre W hc ⟨rfl, hn, hB⟩ hD
        have c6 : W.cell? ⟨Lb, 0, none⟩ = some (.int .i64 m) := by rw [Lib.cell_of_heap hn]; rfl
        have HD := Lib.hid hD
        have HB := Lib.hid ((Off.put (lo := w2.heap.size) (hi := w2.heap.size + 4) (k := w2.heap.size) W (.deferred none) (Nat.le_refl _) (by omega)).below (by omega) hB (Nat.le_refl _))
        refine wpIn_wide.2 ?_
        clear hc hn hB hD T2 I0 cX
        go_wp2
        simp only [Exit.noGoto]
        refine ⟨by simp, .inl ⟨_, _, rfl, run_takeDeferred HD.out, ?_⟩⟩
        exact ⟨.tuple #[.int .i64 m, .int .i64 0], by simp [results, Try.results29, go_sem], by rw [E.out], HB.out⟩
  · have E := Lib.hid (lengthR_bad he)
    generalize lengthR l = r at *
    generalize (loadR l).e = e0 at *
    generalize decide ((loadR l).p < (loadR l).n) = ob at *
    have h1 : (e0 == 0) = false := by simpa using he
    have h2 : (e0 != 0) = true := by simpa using he
    clear he SS
    go_enter Try.func29, Try.ntmps29
    go_wp2_with fail
    go_step3
    go_wp2_with fail
    (with_reducible refine OV.out.mono ?_)
    rintro e w1 ⟨rfl, b1⟩
    have K1 := Lib.hid b1
    clear b1 hT
    go_wp2
    try simp only [Exit.noGoto]
    exact bodyPost_ret (v := .tuple #[.int .i64 0, .int .i64 e0]) (by simp [results, Try.results29, go_sem]) rfl ⟨by rw [E.out], K1.out⟩
end Go.Proofs.Ytbhafcaekpccoaa.Bs
