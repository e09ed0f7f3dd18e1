/- How long without a pause: the mathematics. No dump is imported. Contracts of package busy's isTime, released, Work. The steps, one by one: contracts of package busy's stepping, of the closure that makes them, and of the function over which they are gone: it has no end of its own. The law of 'for x := range steps(l)': the body alone ends it, behind at most M rounds; it knows which steps have come. Contract of package busy's Length. -/
import Derived.Test.YteagimnlhopjpaaMDm
import Derived.Test.YteagimnlhopjpaaMPb
import Derived.Deep.RegionHeld3
import Derived.RangeFuncNested
import Derived.RangeFuncBound
import Derived.RangeFuncCalls
import Derived.RangeFuncLeaves
import Derived.RangeFuncBox
import Derived.Maps.AppendAt
import Derived.Shelf.Abstract
import Derived.Shelf.RegionOpen
import Derived.OwnWalkIn
import Derived.TacticsInMore
import Derived.LoopNIn
import Derived.LoopIn
import Derived.Stop.RegionWithIn
import Derived.Lib.Builder
import Derived.RangeFuncWrites
import Derived.Sort.CutIn
namespace Go.Proofs.Yteagimnlhopjpaa.Bs
open Pm (Tk chk chk_iff rowB rowB_all rowB_len pers pers_pos periodR period_ok work work_le Ld loadR)
open Dm (isTime cnt parts div_of cnt_lt cnt_ge one)
set_option maxRecDepth 100000
set_option linter.unusedVariables false
/-- how many releases of t are below x -/
def rel (t : Tk) (x : Int) : Int := if x ≤ 0 then 0 else (x - 1) / t.t + 1
/-- the work that was released below x -/
def wk : List Tk → Int → Int
  | [], _ => 0
  | t :: l, x => t.c * rel t x + wk l x
def workR (l : List Tk) (x : Int) : Int := if rowB l = true ∧ isTime x = true then wk l x else 0
def idleR (l : List Tk) (x : Int) : Bool := rowB l && isTime x && decide (wk l x ≤ x)
/-- the least D, and m -/
def leastD (m : Int) : List Tk → Int
  | [] => m
  | t :: l => leastD (if t.d < m then t.d else m) l
def leastR (l : List Tk) : Int := match l with
  | [] => 0
  | t :: r => if rowB (t :: r) = true then leastD t.d (t :: r) else 0
theorem rel_zero {t : Tk} {x : Int} (h : x ≤ 0) : rel t x = 0 := by unfold rel; rw [if_pos h]
theorem rel_pos {t : Tk} {x : Int} (h : 1 ≤ x) : rel t x = (x - 1) / t.t + 1 := by unfold rel; rw [if_neg (by omega)]
theorem rel_one {t : Tk} (ht : 0 < t.t) : rel t 1 = 1 := by rw [rel_pos (by omega)]; simp
theorem rel_nonneg {t : Tk} {x : Int} (ht : 0 < t.t) : 0 ≤ rel t x := by
  by_cases h : x ≤ 0
  · rw [rel_zero h]; omega
  · rw [rel_pos (by omega)]
    have := Int.ediv_nonneg (show 0 ≤ x - 1 by omega) (show 0 ≤ t.t by omega)
    omega
theorem rel_mono {t : Tk} {x y : Int} (ht : 0 < t.t) (h : x ≤ y) : rel t x ≤ rel t y := by
  by_cases hx : x ≤ 0
  · rw [rel_zero hx]; exact rel_nonneg ht
  · rw [rel_pos (by omega), rel_pos (by omega)]
    have := Int.ediv_le_ediv ht (show x - 1 ≤ y - 1 by omega)
    omega
/-- a period later there is one more -/
theorem rel_period {t : Tk} {x : Int} (ht : 0 < t.t) (hx : 0 ≤ x) : rel t (x + t.t) = rel t x + 1 := by
  by_cases h : x ≤ 0
  · obtain rfl : x = 0 := by omega
    rw [show rel t 0 = 0 from rel_zero (by omega), rel_pos (x := 0 + t.t) (by omega), (div_of (a := 0 + t.t - 1) (b := t.t) (q := 0) (r := t.t - 1) ht (by omega) (by omega) (by omega)).1]
  · rw [rel_pos (by omega), rel_pos (by omega)]
    rw [show x + t.t - 1 = (x - 1) + t.t by omega, Int.add_ediv_of_dvd_right (Int.dvd_refl _), Int.ediv_self (by omega)]
/-- at least what must be done by then -/
theorem cnt_rel {t : Tk} {x : Int} (ht : 0 < t.t) (hd : 1 ≤ t.d) : cnt t x ≤ rel t x := by
  by_cases h : x < t.d
  · rw [cnt_lt h]; exact rel_nonneg ht
  · rw [cnt_ge (by omega), rel_pos (by omega)]
    have := Int.ediv_le_ediv ht (show x - t.d ≤ x - 1 by omega)
    omega
/-- up to its period a task releases once -/
theorem rel_once {t : Tk} {x : Int} (h1 : 1 ≤ x) (h2 : x ≤ t.t) : rel t x = 1 := by
  rw [rel_pos h1, Int.ediv_eq_zero_of_lt (by omega) (by omega)]; rfl
/-- at a multiple of the period -/
theorem rel_mul {t : Tk} {p : Int} (ht : 0 < t.t) (hp : 0 < p) (h : p % t.t = 0) : rel t p = p / t.t := by
  obtain ⟨k, rfl⟩ := Int.dvd_of_emod_eq_zero h
  have hk : 1 ≤ k := by
    rcases Int.lt_or_le k 1 with h1 | h1
    · have := Int.mul_nonneg (show 0 ≤ t.t by omega) (show 0 ≤ -k by omega)
      rw [Int.mul_neg] at this
      omega
    · exact h1
  rw [rel_pos (by omega), Int.mul_ediv_cancel_left _ (by omega)]
  have e : t.t * k = t.t * (k - 1) + t.t := by rw [Int.mul_sub]; omega
  rw [(div_of (a := t.t * k - 1) (b := t.t) (q := k - 1) (r := t.t - 1) ht (by omega) (by omega) (by omega)).1]
  omega
theorem rel_le {t : Tk} {x : Int} (ht : 0 < t.t) (hx : 0 ≤ x) : t.t * rel t x ≤ x + t.t - 1 ∨ x = 0 := by
  by_cases h : x ≤ 0
  · right; omega
  · left
    rw [rel_pos (by omega), Int.mul_add]
    have := Int.mul_ediv_self_le (x := x - 1) (k := t.t) (by omega)
    omega
theorem wk_zero (l : List Tk) {x : Int} (h : x ≤ 0) : wk l x = 0 := by
  induction l with
  | nil => rfl
  | cons t l ih => rw [wk, ih, rel_zero h]; simp
theorem wk_mono {l : List Tk} {x y : Int} (hl : ∀ t ∈ l, 0 < t.t ∧ 0 ≤ t.c) (h : x ≤ y) : wk l x ≤ wk l y := by
  induction l with
  | nil => simp [wk]
  | cons t l ih =>
    have ht := hl t (by simp)
    rw [wk, wk]
    have h1 := ih (fun a ha => hl a (by simp [ha]))
    have h2 := Int.mul_le_mul_of_nonneg_left (rel_mono ht.1 h) ht.2
    omega
theorem wk_append {l m : List Tk} {x : Int} : wk (l ++ m) x = wk l x + wk m x := by
  induction l with
  | nil => simp [wk]
  | cons t l ih => rw [List.cons_append, wk, wk, ih]; omega
theorem wk_take {l : List Tk} {i : Nat} (h : i < l.length) (x : Int) : wk (l.take (i + 1)) x = wk (l.take i) x + l[i].c * rel l[i] x := by
  rw [List.take_succ_eq_append_getElem h, wk_append]; simp [wk]
/-- no number of these is too great -/
theorem term_le {t : Tk} {x : Int} (h : chk t = true) (hx : 0 ≤ x) : 0 ≤ t.c * rel t x ∧ t.c * rel t x ≤ x + 2147483648 := by
  obtain ⟨-, -, h1, h2, h3, h4, -⟩ := chk_iff.1 h
  have h0 := rel_nonneg (t := t) (x := x) (by omega)
  refine ⟨Int.mul_nonneg (by omega) h0, ?_⟩
  have h5 := Int.mul_le_mul_of_nonneg_right (show t.c ≤ t.t by omega) h0
  rcases rel_le (t := t) (by omega) hx with h6 | h6
  · omega
  · subst h6; rw [rel_zero (by omega)]; simp
theorem wk_le {l : List Tk} {x : Int} (hl : ∀ t ∈ l, chk t = true) (hx : 0 ≤ x) : 0 ≤ wk l x ∧ wk l x ≤ l.length * (x + 2147483648) := by
  induction l with
  | nil => simp [wk]
  | cons t l ih =>
    have h1 := term_le (hl t (by simp)) hx
    have h2 := ih (fun a ha => hl a (by simp [ha]))
    simp only [wk, List.length_cons]
    have : ((l.length + 1 : Nat) : Int) * (x + 2147483648) = l.length * (x + 2147483648) + (x + 2147483648) := by rw [Int.natCast_add, Int.add_mul]; simp
    omega
/-- at the period it is the load -/
theorem wk_period {l : List Tk} {p : Int} (hp : 0 < p) (hl : ∀ t ∈ l, 0 < t.t ∧ p % t.t = 0) : wk l p = work p l := by
  induction l with
  | nil => rfl
  | cons t l ih =>
    have ht := hl t (by simp)
    rw [wk, work, ih (fun a ha => hl a (by simp [ha])), rel_mul ht.1 hp ht.2]
/-- the sum of all C -/
theorem wk_first {l : List Tk} (hl : ∀ t ∈ l, 0 < t.t) : wk l 1 = (l.map (·.c)).sum := by
  induction l with
  | nil => rfl
  | cons t l ih =>
    rw [wk, List.map_cons, List.sum_cons, ih (fun a ha => hl a (by simp [ha])), rel_one (hl t (by simp))]; omega
theorem wk_pos {l : List Tk} (hl : ∀ t ∈ l, 0 < t.t ∧ 1 ≤ t.c) (hne : l ≠ []) {x : Int} (hx : 1 ≤ x) : 1 ≤ wk l x := by
  cases l with
  | nil => exact absurd rfl hne
  | cons t l =>
    have ht := hl t (by simp)
    have h1 := wk_mono (l := t :: l) (x := 1) (y := x) (fun a ha => ⟨(hl a ha).1, by have := (hl a ha).2; omega⟩) hx
    have h2 := wk_mono (l := l) (x := 0) (y := 1) (fun a ha => ⟨(hl a (by simp [ha])).1, by have := (hl a (by simp [ha])).2; omega⟩) (by omega)
    rw [wk_zero l (Int.le_refl 0)] at h2
    rw [wk, rel_one ht.1] at h1
    omega
/-- the length of l: the least time from 1 on at which work is just as much, up to n of them from x on (m if there is none) -/
def seek (l : List Tk) : Nat → Int → Int
  | 0, x => x
  | n + 1, x => if wk l x = x then x else seek l n (x + 1)
/-- a length: work is just as much, and ahead of it there is more work than time -/
structure Len (l : List Tk) (n : Int) : Prop where
  pos : 1 ≤ n
  fix : wk l n = n
  more : ∀ k, 1 ≤ k → k < n → k < wk l k
theorem Len.uniq {l : List Tk} {n m : Int} (h : Len l n) (k : Len l m) : n = m := by
  rcases Int.lt_trichotomy n m with h1 | h1 | h1
  · have := k.more n h.pos h1; have := h.fix; omega
  · exact h1
  · have := h.more m k.pos h1; have := k.fix; omega
/-- where work is not above time at p, there is a length, up to p -/
theorem len_of {l : List Tk} (hl : ∀ t ∈ l, 0 < t.t ∧ 1 ≤ t.c) (hne : l ≠ []) {p : Int} (hp : 1 ≤ p) (hw : wk l p ≤ p) : ∃ n, Len l n ∧ n ≤ p := by
  have key : ∀ (d : Nat) (x : Int), 1 ≤ x → x + d = p → (∀ k, 1 ≤ k → k < x → k < wk l k) → ∃ n, Len l n ∧ n ≤ p := by
    intro d
    induction d with
    | zero =>
      intro x hx he hk
      have : x = p := by omega
      subst this
      refine ⟨x, ⟨hx, ?_, hk⟩, Int.le_refl _⟩
      rcases Int.lt_or_le x 2 with h2 | h2
      · have := wk_pos hl hne hx; omega
      · have h3 := hk (x - 1) (by omega) (by omega)
        have h4 := wk_mono (l := l) (x := x - 1) (y := x) (fun a ha => ⟨(hl a ha).1, by have := (hl a ha).2; omega⟩) (by omega)
        omega
    | succ d ih =>
      intro x hx he hk
      by_cases hlt : x < wk l x
      · exact ih (x + 1) (by omega) (by omega) (fun k h1 h2 => by
          by_cases h3 : k = x
          · subst h3; exact hlt
          · exact hk k h1 (by omega))
      · refine ⟨x, ⟨hx, ?_, hk⟩, by omega⟩
        rcases Int.lt_or_le x 2 with h2 | h2
        · have := wk_pos hl hne hx; omega
        · have h3 := hk (x - 1) (by omega) (by omega)
          have h4 := wk_mono (l := l) (x := x - 1) (y := x) (fun a ha => ⟨(hl a ha).1, by have := (hl a ha).2; omega⟩) (by omega)
          omega
  exact key (p - 1).toNat 1 (by omega) (by omega) (fun k h1 h2 => by omega)
/-- it is the first time at which work is just as much -/
theorem Len.first {l : List Tk} {n : Int} (h : Len l n) : ∀ k, 1 ≤ k → k < n → wk l k ≠ k := fun k h1 h2 => by have := h.more k h1 h2; omega
/-- from any time from 1 up to it, work is not above it -/
theorem Len.under {l : List Tk} {n x : Int} (hl : ∀ t ∈ l, 0 < t.t ∧ 0 ≤ t.c) (h : Len l n) (hx : x ≤ n) : wk l x ≤ n := by
  have := wk_mono hl hx; have := h.fix; omega
/-- a step ahead of the length rises, and not above it -/
theorem Len.step {l : List Tk} {n x : Int} (hl : ∀ t ∈ l, 0 < t.t ∧ 0 ≤ t.c) (h : Len l n) (h1 : 1 ≤ x) (h2 : x ≤ n) : (x = n ∧ wk l x = x) ∨ (x < n ∧ x < wk l x ∧ wk l x ≤ n) := by
  by_cases e : x = n
  · left; subst e; exact ⟨rfl, h.fix⟩
  · right; exact ⟨by omega, h.more x h1 (by omega), h.under hl h2⟩
/-- the first step is one of them -/
theorem Len.start {l : List Tk} {n : Int} (hl : ∀ t ∈ l, 0 < t.t ∧ 1 ≤ t.c) (hne : l ≠ []) (h : Len l n) : 1 ≤ wk l 1 ∧ wk l 1 ≤ n :=
  ⟨wk_pos hl hne (Int.le_refl 1), h.under (fun a ha => ⟨(hl a ha).1, by have := (hl a ha).2; omega⟩) h.pos⟩
/-- the steps, at most n of them from x on, up to and with the length -/
def stepsR (l : List Tk) : Nat → Int → List Int
  | 0, _ => []
  | n + 1, x => x :: (if wk l x = x then [] else stepsR l n (wk l x))
/-- one task more: not shorter -/
theorem Len.more_of {l m : List Tk} {n k : Int} (h : Len l n) (h2 : Len m k) (hle : ∀ x, 1 ≤ x → wk l x ≤ wk m x) : n ≤ k := by
  rcases Int.lt_or_le k n with h1 | h1
  · have h3 := h.more k h2.pos h1
    have h4 := hle k h2.pos
    have := h2.fix
    omega
  · exact h1
/-- a task alone works just its C -/
theorem len_one {t : Tk} (h1 : 1 ≤ t.c) (h2 : t.c ≤ t.t) : Len [t] t.c := by
  refine ⟨h1, ?_, fun k hk hk2 => ?_⟩
  · simp only [wk]; rw [rel_once h1 h2]; omega
  · simp only [wk]; rw [rel_once hk (by omega)]; omega
/-- what Length tells -/
structure LenR where
  n : Int
  e : Int
def lengthR (l : List Tk) : LenR :=
  if (loadR l).e ≠ 0 then ⟨0, (loadR l).e⟩ else if (loadR l).p < (loadR l).n then ⟨0, 17⟩ else if l.length = 0 then ⟨0, 0⟩ else ⟨seek l (loadR l).p.toNat 1, 0⟩
theorem seek_len {l : List Tk} {n : Int} (h : Len l n) : ∀ (d : Nat) (x : Int), 1 ≤ x → x ≤ n → n - x ≤ d → seek l d x = n := by
  intro d
  induction d with
  | zero => intro x h1 h2 h3; show x = n; omega
  | succ d ih =>
    intro x h1 h2 h3
    rw [seek]
    by_cases hw : wk l x = x
    · rw [if_pos hw]
      rcases Int.lt_or_le x n with h4 | h4
      · exact absurd hw (h.first x h1 h4)
      · omega
    · rw [if_neg hw]
      have : x ≠ n := fun e => by subst e; exact hw h.fix
      exact ih (x + 1) (by omega) (by omega) (by omega)
theorem lengthR_bad {l : List Tk} (h : (loadR l).e ≠ 0) : lengthR l = ⟨0, (loadR l).e⟩ := by unfold lengthR; rw [if_pos h]
theorem lengthR_over {l : List Tk} (h : (loadR l).e = 0) (h2 : (loadR l).p < (loadR l).n) : lengthR l = ⟨0, 17⟩ := by unfold lengthR; rw [if_neg (by omega), if_pos h2]
theorem lengthR_len {l : List Tk} {n : Int} (h : (loadR l).e = 0) (h2 : (loadR l).n ≤ (loadR l).p) (hne : l ≠ []) (hn : Len l n) (hp : n ≤ (loadR l).p) : lengthR l = ⟨n, 0⟩ := by
  unfold lengthR
  rw [if_neg (by omega), if_neg (by omega), if_neg (fun e => hne (List.eq_nil_of_length_eq_zero e)), seek_len hn _ _ (by omega) hn.pos (by have := hn.pos; omega)]
theorem lengthR_nil : lengthR [] = ⟨0, 0⟩ := by
  have e1 : (loadR []).e = 0 := by decide +kernel
  have e2 : ¬ (loadR []).p < (loadR []).n := by decide +kernel
  unfold lengthR
  rw [if_neg (by omega), if_neg e2]; rfl
/-- where the load is not above 1 there is a length, up to the period -/
theorem len_load {l : List Tk} (h : (loadR l).e = 0) (h2 : (loadR l).n ≤ (loadR l).p) (hne : l ≠ []) : rowB l = true ∧ 0 < (loadR l).p ∧ (loadR l).p ≤ 1048576 ∧ wk l (loadR l).p = (loadR l).n ∧ ∃ n, Len l n ∧ n ≤ (loadR l).p := by
  unfold loadR at h h2 ⊢
  by_cases h0 : (periodR l).2 = 0
  · rw [if_pos h0] at h h2 ⊢
    simp only at *
    obtain ⟨hr, p, hp, hp1, hp0, hp2⟩ := period_ok h0
    have hl := rowB_all hr
    obtain ⟨-, -, -, hdv⟩ := pers_pos (by omega) (by omega) hl hp
    rw [hp1] at h2 ⊢
    have hw : wk l (p : Int) = work (p : Int) l := wk_period (by omega) (fun t ht => by
      have h1 := chk_iff.1 (hl t ht)
      have h3 := hdv t ht
      have h4 : t.t = ((t.t.toNat : Nat) : Int) := by omega
      refine ⟨by omega, ?_⟩
      rw [h4, ← Int.natCast_emod, Nat.mod_eq_zero_of_dvd h3]; rfl)
    refine ⟨hr, by omega, by omega, hw, len_of (fun t ht => by have := chk_iff.1 (hl t ht); omega) hne (by omega) (by omega)⟩
  · rw [if_neg h0] at h
    exact absurd h h0
end Go.Proofs.Yteagimnlhopjpaa.Bs
namespace Go.Proofs.Yteagimnlhopjpaa.Bs
open Go.ChangeShapes Go.WideShapes Go.ChangeAt Go.RowKit Go.Joins
open Pm (Tk chk chk_iff rowB rowB_all rowB_len TkAt Ts TRow wrap_in rrow_any below_drewN)
open Dm (isTime isTime_iff Quo quo_of Bx bx_new)
set_option maxRecDepth 100000
set_option maxRecDepth 100000
set_option linter.unusedVariables false
set_option linter.unusedSimpArgs false
theorem rel_code {t : Tk} {x : Int} (ht : 1 ≤ t.t) (hx : 0 ≤ x) : (x + t.t - 1) / t.t = rel t x := by
  by_cases h : x ≤ 0
  · obtain rfl : x = 0 := by omega
    rw [rel_zero (by omega), Int.ediv_eq_zero_of_lt (by omega) (by omega)]
  · rw [rel_pos (by omega), show x + t.t - 1 = (x - 1) + t.t by omega, Int.add_ediv_of_dvd_right (Int.dvd_refl _), Int.ediv_self (by omega)]
theorem workR_yes {l : List Tk} {x : Int} (h : rowB l = true) (hx : isTime x = true) : workR l x = wk l x := by unfold workR; rw [if_pos ⟨h, hx⟩]
theorem workR_no {l : List Tk} {x : Int} (h : rowB l = false) : workR l x = 0 := by unfold workR; rw [if_neg (by rw [h]; simp)]
theorem workR_no2 {l : List Tk} {x : Int} (h : isTime x = false) : workR l x = 0 := by unfold workR; rw [if_neg (by rw [h]; simp)]
/-- i tasks were counted -/
def WkRel (l : List Tk) (x : Int) (B : Nat) (w : World) (g : Nat) (s t : Value) (wx : World) : Prop :=
  ∃ i : Nat, i + g = l.length ∧ s = .int .i64 (wk (l.take i) x) ∧ t = .int .i64 (i : Int) ∧ Below B w wx
/-- a round's numbers -/
structure Rnd (S R c M : Int) : Prop where
  m : c * R = M
  wm : IntKind.i64.wrap M = M
  ws : IntKind.i64.wrap (S + M) = S + M
  r0 : 0 ≤ R
  m0 : 0 ≤ M
  m1 : M ≤ 1101659111424
  s0 : 0 ≤ S
  s1 : S ≤ 17626545782784
theorem rnd_of {l : List Tk} {x : Int} {i : Nat} (hr : rowB l = true) (hx : isTime x = true) (hlt : i < l.length) :
    ∃ S R M, wk (l.take i) x = S ∧ rel l[i] x = R ∧ wk (l.take (i + 1)) x = S + M ∧ Rnd S R l[i].c M := by
  obtain ⟨h0, h1⟩ := isTime_iff.1 hx
  have hc := rowB_all hr _ (List.getElem_mem hlt)
  have h2 := term_le hc h0
  have h3 := wk_le (l := l.take i) (x := x) (fun t ht => rowB_all hr t (List.mem_of_mem_take ht)) h0
  have hl := rowB_len hr
  have h4 : ((l.take i).length : Int) * (x + 2147483648) ≤ 16 * (1099511627776 + 2147483648) := Int.mul_le_mul (by simp; omega) (by omega) (by omega) (by omega)
  have hk := chk_iff.1 hc
  refine ⟨_, _, _, rfl, rfl, wk_take hlt x, ⟨rfl, wrap_in (by omega) (by omega), wrap_in (by omega) (by omega), rel_nonneg (by omega), h2.1, by omega, h3.1, by omega⟩⟩
theorem bx_cells {b : Nat} {w w' : World} {t : Tk} (h : Bx b w t w') : Bx b w t w' ∧ w'.cell? ⟨b, 0, none⟩ = some (.int .i64 t.id) ∧ w'.cell? ⟨b, 1, none⟩ = some (.int .i64 t.c) ∧ w'.cell? ⟨b, 2, none⟩ = some (.int .i64 t.d) ∧ w'.cell? ⟨b, 3, none⟩ = some (.int .i64 t.t) ∧ w'.cell? ⟨b, 4, none⟩ = some (.int .i64 t.m) := ⟨h, h.c0, h.c1, h.c2, h.c3, h.c4⟩
end Go.Proofs.Yteagimnlhopjpaa.Bs
namespace Go.Proofs.Yteagimnlhopjpaa.Bs
open Go.ChangeShapes Go.WideShapes Go.ChangeAt Go.RowKit Go.Joins Go.Shelf
open Pm (Tk chk chk_iff rowB rowB_all rowB_len TkAt Ts TRow)
attribute [local go_sem] Oper.semAt_some
set_option maxRecDepth 100000
set_option maxRecDepth 100000
set_option linter.unusedVariables false
set_option linter.unusedSimpArgs false
/-- each one is the work of the one ahead of it -/
def chainW (l : List Tk) : Int → List Int → Prop
  | _, [] => True
  | x, y :: r => y = workR l x ∧ chainW l y r
def lastI (x : Int) : List Int → Int
  | [] => x
  | y :: r => lastI y r
theorem lastI_snoc (x y : Int) (r : List Int) : lastI x (r ++ [y]) = y := by
  induction r generalizing x with
  | nil => rfl
  | cons z r ih => exact ih z
theorem chainW_snoc {l : List Tk} : ∀ {r : List Int} {x y : Int}, chainW l x (r ++ [y]) ↔ chainW l x r ∧ y = workR l (lastI x r) := by
  intro r
  induction r with
  | nil => intro x y; exact ⟨fun h => ⟨trivial, h.1⟩, fun h => ⟨h.2, trivial⟩⟩
  | cons z r ih => intro x y; exact ⟨fun h => ⟨⟨h.1, (ih.1 h.2).1⟩, (ih.1 h.2).2⟩, fun h => ⟨h.1.1, ih.2 ⟨h.1.2, h.2⟩⟩⟩
/-- but for the blocks from lo up to hi nothing has turned -/
structure Off (lo hi : Nat) (A B : World) : Prop where
  os : B.os = A.os
  tape : B.tape = A.tape
  output : B.output = A.output
  size : A.heap.size ≤ B.heap.size
  block : ∀ k, k < A.heap.size → (k < lo ∨ hi ≤ k) → B.heap[k]? = A.heap[k]?
theorem Off.of_below {lo hi : Nat} {A B : World} (h : Below A.heap.size A B) : Off lo hi A B := ⟨h.os, h.tape, h.output, h.size, fun k hk _ => h.block k hk⟩
theorem Off.mono {lo hi lo' hi' : Nat} {A B : World} (h : Off lo hi A B) (h1 : lo' ≤ lo) (h2 : hi ≤ hi') : Off lo' hi' A B := ⟨h.os, h.tape, h.output, h.size, fun k hk ho => h.block k hk (by omega)⟩
theorem Off.put {lo hi k : Nat} (A : World) (o : Obj) (h1 : lo ≤ k) (h2 : k < hi) : Off lo hi A (A.putObj k o) := ⟨rfl, rfl, rfl, by simp [World.putObj], fun j hj ho => World.putObj_heap_other (by omega)⟩
theorem Off.below {lo hi N : Nat} {A B W : World} (h : Off lo hi A B) (h1 : N ≤ lo) (hb : Below N W A) (h2 : N ≤ W.heap.size) : Below N W B :=
  ⟨h.os.trans hb.os, h.tape.trans hb.tape, h.output.trans hb.output, Nat.le_trans hb.size h.size, fun k hk => (h.block k (by have := hb.size; omega) (by omega)).trans (hb.block k hk)⟩
theorem Ts.of_block {b : Nat} {ao : Option Addr} {l : List Tk} {A B : World} (hT : Ts ao l A) (hbo : 0 < l.length → ∀ k off, ao = some ⟨k, off, none⟩ → k = b) (hs : A.heap.size ≤ B.heap.size) (h : B.heap[b]? = A.heap[b]?) : Ts ao l B := fun h0 => by
  obtain ⟨g, off, rfl, hl, hc⟩ := hT h0
  obtain rfl := hbo h0 g off rfl
  exact ⟨g, off, rfl, by omega, fun i x hi => (hc i x hi).of_block h⟩
/-- the closure's own blocks: the tasks, and the step that was told last -/
structure St (B b : Nat) (ao : Option Addr) (l : List Tk) (cap : Nat) (x : Int) (w : World) : Prop where
  box : w.heap[B]? = some (.cells #[.slice ao l.length cap] 50 (0, 0))
  num : w.heap[B + 1]? = some (.cells #[.int .i64 x] 2 (0, 0))
  row : Ts ao l w
/-- what the body of a round keeps -/
def Kq (b N : Nat) (A B : World) : Prop := B.heap[b]? = A.heap[b]? ∧ B.heap[N]? = A.heap[N]? ∧ B.heap[N + 1]? = A.heap[N + 1]? ∧ A.heap.size ≤ B.heap.size
theorem Kq.trans {b N : Nat} {A B C : World} (h : Kq b N A B) (k : Kq b N B C) : Kq b N A C := ⟨k.1.trans h.1, k.2.1.trans h.2.1, k.2.2.1.trans h.2.2.1, Nat.le_trans h.2.2.2 k.2.2.2⟩
theorem Kq.put {b N k : Nat} (A : World) (o : Obj) (h1 : k ≠ b) (h2 : k < N) : Kq b N A (A.putObj k o) := ⟨World.putObj_heap_other (Ne.symm h1), World.putObj_heap_other (by omega), World.putObj_heap_other (by omega), by simp [World.putObj]⟩
theorem Kq.st {b N : Nat} {A B : World} {ao : Option Addr} {l : List Tk} {cap : Nat} {x : Int} (hbo : 0 < l.length → ∀ k off, ao = some ⟨k, off, none⟩ → k = b) (h : Kq b N A B) (s : St N b ao l cap x A) : St N b ao l cap x B :=
  ⟨h.2.1.trans s.box, h.2.2.1.trans s.num, Ts.of_block s.row hbo h.2.2.2 h.1⟩
def encS (x : Int) : Array Value := #[.int .i64 x]
/-- at most g rounds are to come -/
def SgRel (M N b : Nat) (ao : Option Addr) (l : List Tk) (cap : Nat) (J : List Int → World → Prop) (g : Nat) (wr : World) : Prop :=
  ∃ pre, pre.length + g = M ∧ chainW l 1 pre ∧ J pre wr ∧ St N b ao l cap (lastI 1 pre) wr
end Go.Proofs.Yteagimnlhopjpaa.Bs
namespace Go.Proofs.Yteagimnlhopjpaa.Bs
open Go.ChangeShapes Go.WideShapes Go.ChangeAt Go.RowKit Go.Joins Go.Shelf
open Pm (Tk chk chk_iff rowB rowB_all rowB_len TkAt Ts TRow)
set_option maxRecDepth 100000
set_option maxRecDepth 100000
set_option linter.unusedVariables false
set_option linter.unusedSimpArgs false
/-- the loop's record, of whatever state -/
def recOf (fn : FuncId) (a : Act) (ps : Array Tmp) (assign body : Code) (D : Nat) (st : LoopState) (pe : Option Code) : Obj :=
  .loop { state := st, pending := pe, fn := fn, tmps := a.tmps, params := ps, assign := assign, body := body, defers := D }
end Go.Proofs.Yteagimnlhopjpaa.Bs
namespace Go.Proofs.Yteagimnlhopjpaa.Bs
open Go.ChangeShapes Go.WideShapes Go.ChangeAt Go.RowKit Go.Joins Go.Shelf
open Pm (Tk chk chk_iff rowB rowB_all rowB_len TkAt Ts TRow loadR)
open Dm (isTime isTime_iff)
attribute [local go_sem] Oper.semAt_some
set_option maxRecDepth 100000
set_option maxRecDepth 100000
set_option linter.unusedVariables false
set_option linter.unusedSimpArgs false
/-- tasks that have a length -/
def Good (l : List Tk) (m : Int) : Prop := 0 ≤ m ∧ m ≤ 1048576 ∧ ((l = [] ∧ m = 0) ∨ (l ≠ [] ∧ rowB l = true ∧ Len l m))
theorem lastI_two {r : List Int} (h : r ≠ []) (x y : Int) : lastI x r = lastI y r := by
  cases r with
  | nil => exact absurd rfl h
  | cons z r => rfl
theorem good_next {l : List Tk} {m : Int} (h : Good l m) {pre : List Int} {x : Int} (hc : chainW l 1 (pre ++ [x])) (h1 : (pre.length : Int) ≤ lastI 0 pre) (h2 : lastI 0 pre ≤ m) :
    (x = lastI 0 pre ∧ lastI 0 pre = m) ∨ (x ≠ lastI 0 pre ∧ lastI 0 pre < x ∧ x ≤ m) := by
  obtain ⟨m0, m1, ⟨rfl, rfl⟩ | ⟨hne, hr, hm⟩⟩ := h
  · have hx := (chainW_snoc.1 hc).2
    have e0 : workR [] (lastI 1 pre) = 0 := by unfold workR; split <;> rfl
    left
    constructor <;> omega
  · have hx := (chainW_snoc.1 hc).2
    have hl : ∀ t ∈ l, 0 < t.t ∧ 1 ≤ t.c := fun t ht => by have := chk_iff.1 (rowB_all hr t ht); omega
    have hl0 : ∀ t ∈ l, 0 < t.t ∧ 0 ≤ t.c := fun t ht => by have := hl t ht; omega
    cases pre with
    | nil =>
      right
      have := hm.start hl hne
      simp only [lastI] at *
      rw [workR_yes hr (by decide)] at hx
      omega
    | cons z r =>
      have e := lastI_two (r := z :: r) (by simp) 1 0
      rw [e] at hx
      simp only [List.length_cons] at h1
      rw [workR_yes hr (isTime_iff.2 ⟨by omega, by omega⟩)] at hx
      rcases hm.step hl0 (x := lastI 0 (z :: r)) (by omega) h2 with ⟨h3, h4⟩ | ⟨h3, h4, h5⟩
      · left; exact ⟨by omega, h3⟩
      · right; omega
/-- what Length tells, by what Load tells -/
theorem good_of {l : List Tk} (h : (loadR l).e = 0) (h2 : (loadR l).n ≤ (loadR l).p) : ∃ m, Good l m ∧ lengthR l = ⟨m, 0⟩ := by
  cases hl : l with
  | nil => exact ⟨0, ⟨by omega, by omega, .inl ⟨rfl, rfl⟩⟩, lengthR_nil⟩
  | cons t r =>
    rw [← hl]
    have hne : l ≠ [] := by rw [hl]; simp
    obtain ⟨hr, p0, p1, -, m, hm, hmp⟩ := len_load h h2 hne
    exact ⟨m, ⟨by have := hm.pos; omega, by omega, .inr ⟨hne, hr, hm⟩⟩, lengthR_len h h2 hne hm hmp⟩
/-- Length's own block holds the step that was told last -/
structure LnI (w : World) (Lb : Nat) (m : Int) (pre : List Int) (W : World) : Prop where
  num : W.heap[Lb]? = some (.cells #[.int .i64 (lastI 0 pre)] 2 (0, 0))
  bel : Below w.heap.size w W
  h1 : (pre.length : Int) ≤ lastI 0 pre
  h2 : lastI 0 pre ≤ m
def LnX (id : Nat) (w : World) (Lb : Nat) (m : Int) (c : Code) (pre : List Int) (W : World) : Prop :=
  c = .exit id ∧ W.heap[Lb]? = some (.cells #[.int .i64 m] 2 (0, 0)) ∧ Below w.heap.size w W
theorem Off.at {lo hi k : Nat} {A B : World} {o : Obj} (h : Off lo hi A B) (hk : k < lo) (ho : A.heap[k]? = some o) : B.heap[k]? = some o := (h.block k (Array.getElem?_eq_some_iff.1 ho).1 (.inl hk)).trans ho
theorem lnI_off {w : World} {Lb lo hi : Nat} {m : Int} (h1 : Lb < lo) (h2 : w.heap.size ≤ lo) (pre : List Int) (A B : World) (h : LnI w Lb m pre A) (o : Off lo hi A B) : LnI w Lb m pre B :=
  ⟨o.at h1 h.num, o.below h2 h.bel (Nat.le_refl _), h.h1, h.h2⟩
theorem lnX_off {id : Nat} {w : World} {Lb lo hi : Nat} {m : Int} (h1 : Lb < lo) (h2 : w.heap.size ≤ lo) (c : Code) (pre : List Int) (A B : World) (h : LnX id w Lb m c pre A) (o : Off lo hi A B) : LnX id w Lb m c pre B :=
  ⟨h.1, o.at h1 h.2.1, o.below h2 h.2.2 (Nat.le_refl _)⟩
end Go.Proofs.Yteagimnlhopjpaa.Bs
