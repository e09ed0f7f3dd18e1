/- How long without a pause: the mathematics. No dump is imported. -/
import Derived.Test.YtbhafcaekpccoaaDmMath
namespace Go.Proofs.Ytbhafcaekpccoaa.Bs
open Pm (Tk chk chk_iff rowB rowB_all rowB_len pers pers_pos periodR period_ok work work_le Ld loadR)
open Dm (isTime cnt parts div_of cnt_lt cnt_ge one)
set_option maxRecDepth 100000
set_option linter.unusedVariables false
/-- how many releases of t are below x -/
def rel (t : Tk) (x : Int) : Int := if x ≤ 0 then 0 else (x - 1) / t.t + 1
/-- the work that was released below x -/
def wk : List Tk → Int → Int
  | [], _ => 0
  | t :: l, x => t.c * rel t x + wk l x
def workR (l : List Tk) (x : Int) : Int := if rowB l = true ∧ isTime x = true then wk l x else 0
def idleR (l : List Tk) (x : Int) : Bool := rowB l && isTime x && decide (wk l x ≤ x)
/-- the least D, and m -/
def leastD (m : Int) : List Tk → Int
  | [] => m
  | t :: l => leastD (if t.d < m then t.d else m) l
def leastR (l : List Tk) : Int := match l with
  | [] => 0
  | t :: r => if rowB (t :: r) = true then leastD t.d (t :: r) else 0
theorem rel_zero {t : Tk} {x : Int} (h : x ≤ 0) : rel t x = 0 := by unfold rel; rw [if_pos h]
theorem rel_pos {t : Tk} {x : Int} (h : 1 ≤ x) : rel t x = (x - 1) / t.t + 1 := by unfold rel; rw [if_neg (by omega)]
theorem rel_one {t : Tk} (ht : 0 < t.t) : rel t 1 = 1 := by rw [rel_pos (by omega)]; simp
theorem rel_nonneg {t : Tk} {x : Int} (ht : 0 < t.t) : 0 ≤ rel t x := by
  by_cases h : x ≤ 0
  · rw [rel_zero h]; omega
  · rw [rel_pos (by omega)]
    have := Int.ediv_nonneg (show 0 ≤ x - 1 by omega) (show 0 ≤ t.t by omega)
    omega
theorem rel_mono {t : Tk} {x y : Int} (ht : 0 < t.t) (h : x ≤ y) : rel t x ≤ rel t y := by
  by_cases hx : x ≤ 0
  · rw [rel_zero hx]; exact rel_nonneg ht
  · rw [rel_pos (by omega), rel_pos (by omega)]
    have := Int.ediv_le_ediv ht (show x - 1 ≤ y - 1 by omega)
    omega
/-- a period later there is one more -/
theorem rel_period {t : Tk} {x : Int} (ht : 0 < t.t) (hx : 0 ≤ x) : rel t (x + t.t) = rel t x + 1 := by
  by_cases h : x ≤ 0
  · obtain rfl : x = 0 := by omega
    rw [show rel t 0 = 0 from rel_zero (by omega), rel_pos (x := 0 + t.t) (by omega), (div_of (a := 0 + t.t - 1) (b := t.t) (q := 0) (r := t.t - 1) ht (by omega) (by omega) (by omega)).1]
  · rw [rel_pos (by omega), rel_pos (by omega)]
    rw [show x + t.t - 1 = (x - 1) + t.t by omega, Int.add_ediv_of_dvd_right (Int.dvd_refl _), Int.ediv_self (by omega)]
/-- at least what must be done by then -/
theorem cnt_rel {t : Tk} {x : Int} (ht : 0 < t.t) (hd : 1 ≤ t.d) : cnt t x ≤ rel t x := by
  by_cases h : x < t.d
  · rw [cnt_lt h]; exact rel_nonneg ht
  · rw [cnt_ge (by omega), rel_pos (by omega)]
    have := Int.ediv_le_ediv ht (show x - t.d ≤ x - 1 by omega)
    omega
/-- up to its period a task releases once -/
theorem rel_once {t : Tk} {x : Int} (h1 : 1 ≤ x) (h2 : x ≤ t.t) : rel t x = 1 := by
  rw [rel_pos h1, Int.ediv_eq_zero_of_lt (by omega) (by omega)]; rfl
/-- at a multiple of the period -/
theorem rel_mul {t : Tk} {p : Int} (ht : 0 < t.t) (hp : 0 < p) (h : p % t.t = 0) : rel t p = p / t.t := by
  obtain ⟨k, rfl⟩ := Int.dvd_of_emod_eq_zero h
  have hk : 1 ≤ k := by
    rcases Int.lt_or_le k 1 with h1 | h1
    · have := Int.mul_nonneg (show 0 ≤ t.t by omega) (show 0 ≤ -k by omega)
      rw [Int.mul_neg] at this
      omega
    · exact h1
  rw [rel_pos (by omega), Int.mul_ediv_cancel_left _ (by omega)]
  have e : t.t * k = t.t * (k - 1) + t.t := by rw [Int.mul_sub]; omega
  rw [(div_of (a := t.t * k - 1) (b := t.t) (q := k - 1) (r := t.t - 1) ht (by omega) (by omega) (by omega)).1]
  omega
theorem rel_le {t : Tk} {x : Int} (ht : 0 < t.t) (hx : 0 ≤ x) : t.t * rel t x ≤ x + t.t - 1 ∨ x = 0 := by
  by_cases h : x ≤ 0
  · right; omega
  · left
    rw [rel_pos (by omega), Int.mul_add]
    have := Int.mul_ediv_self_le (x := x - 1) (k := t.t) (by omega)
    omega
theorem wk_zero (l : List Tk) {x : Int} (h : x ≤ 0) : wk l x = 0 := by
  induction l with
  | nil => rfl
  | cons t l ih => rw [wk, ih, rel_zero h]; simp
theorem wk_mono {l : List Tk} {x y : Int} (hl : ∀ t ∈ l, 0 < t.t ∧ 0 ≤ t.c) (h : x ≤ y) : wk l x ≤ wk l y := by
  induction l with
  | nil => simp [wk]
  | cons t l ih =>
    have ht := hl t (by simp)
    rw [wk, wk]
    have h1 := ih (fun a ha => hl a (by simp [ha]))
    have h2 := Int.mul_le_mul_of_nonneg_left (rel_mono ht.1 h) ht.2
    omega
theorem wk_append {l m : List Tk} {x : Int} : wk (l ++ m) x = wk l x + wk m x := by
  induction l with
  | nil => simp [wk]
  | cons t l ih => rw [List.cons_append, wk, wk, ih]; omega
theorem wk_take {l : List Tk} {i : Nat} (h : i < l.length) (x : Int) : wk (l.take (i + 1)) x = wk (l.take i) x + l[i].c * rel l[i] x := by
  rw [List.take_succ_eq_append_getElem h, wk_append]; simp [wk]
/-- no number of these is too great -/
theorem term_le {t : Tk} {x : Int} (h : chk t = true) (hx : 0 ≤ x) : 0 ≤ t.c * rel t x ∧ t.c * rel t x ≤ x + 2147483648 := by
  obtain ⟨-, -, h1, h2, h3, h4, -⟩ := chk_iff.1 h
  have h0 := rel_nonneg (t := t) (x := x) (by omega)
  refine ⟨Int.mul_nonneg (by omega) h0, ?_⟩
  have h5 := Int.mul_le_mul_of_nonneg_right (show t.c ≤ t.t by omega) h0
  rcases rel_le (t := t) (by omega) hx with h6 | h6
  · omega
  · subst h6; rw [rel_zero (by omega)]; simp
theorem wk_le {l : List Tk} {x : Int} (hl : ∀ t ∈ l, chk t = true) (hx : 0 ≤ x) : 0 ≤ wk l x ∧ wk l x ≤ l.length * (x + 2147483648) := by
  induction l with
  | nil => simp [wk]
  | cons t l ih =>
    have h1 := term_le (hl t (by simp)) hx
    have h2 := ih (fun a ha => hl a (by simp [ha]))
    simp only [wk, List.length_cons]
    have : ((l.length + 1 : Nat) : Int) * (x + 2147483648) = l.length * (x + 2147483648) + (x + 2147483648) := by rw [Int.natCast_add, Int.add_mul]; simp
    omega
/-- at the period it is the load -/
theorem wk_period {l : List Tk} {p : Int} (hp : 0 < p) (hl : ∀ t ∈ l, 0 < t.t ∧ p % t.t = 0) : wk l p = work p l := by
  induction l with
  | nil => rfl
  | cons t l ih =>
    have ht := hl t (by simp)
    rw [wk, work, ih (fun a ha => hl a (by simp [ha])), rel_mul ht.1 hp ht.2]
/-- the sum of all C -/
theorem wk_first {l : List Tk} (hl : ∀ t ∈ l, 0 < t.t) : wk l 1 = (l.map (·.c)).sum := by
  induction l with
  | nil => rfl
  | cons t l ih =>
    rw [wk, List.map_cons, List.sum_cons, ih (fun a ha => hl a (by simp [ha])), rel_one (hl t (by simp))]; omega
theorem wk_pos {l : List Tk} (hl : ∀ t ∈ l, 0 < t.t ∧ 1 ≤ t.c) (hne : l ≠ []) {x : Int} (hx : 1 ≤ x) : 1 ≤ wk l x := by
  cases l with
  | nil => exact absurd rfl hne
  | cons t l =>
    have ht := hl t (by simp)
    have h1 := wk_mono (l := t :: l) (x := 1) (y := x) (fun a ha => ⟨(hl a ha).1, by have := (hl a ha).2; omega⟩) hx
    have h2 := wk_mono (l := l) (x := 0) (y := 1) (fun a ha => ⟨(hl a (by simp [ha])).1, by have := (hl a (by simp [ha])).2; omega⟩) (by omega)
    rw [wk_zero l (Int.le_refl 0)] at h2
    rw [wk, rel_one ht.1] at h1
    omega
/-- the length of l: the least time from 1 on at which work is just as much, up to n of them from x on (m if there is none) -/
def seek (l : List Tk) : Nat → Int → Int
  | 0, x => x
  | n + 1, x => if wk l x = x then x else seek l n (x + 1)
/-- a length: work is just as much, and ahead of it there is more work than time -/
structure Len (l : List Tk) (n : Int) : Prop where
  pos : 1 ≤ n
  fix : wk l n = n
  more : ∀ k, 1 ≤ k → k < n → k < wk l k
theorem Len.uniq {l : List Tk} {n m : Int} (h : Len l n) (k : Len l m) : n = m := by
  rcases Int.lt_trichotomy n m with h1 | h1 | h1
  · have := k.more n h.pos h1; have := h.fix; omega
  · exact h1
  · have := h.more m k.pos h1; have := k.fix; omega
/-- where work is not above time at p, there is a length, up to p -/
theorem len_of {l : List Tk} (hl : ∀ t ∈ l, 0 < t.t ∧ 1 ≤ t.c) (hne : l ≠ []) {p : Int} (hp : 1 ≤ p) (hw : wk l p ≤ p) : ∃ n, Len l n ∧ n ≤ p := by
  have key : ∀ (d : Nat) (x : Int), 1 ≤ x → x + d = p → (∀ k, 1 ≤ k → k < x → k < wk l k) → ∃ n, Len l n ∧ n ≤ p := by
    intro d
    induction d with
    | zero =>
      intro x hx he hk
      have : x = p := by omega
      subst this
      refine ⟨x, ⟨hx, ?_, hk⟩, Int.le_refl _⟩
      rcases Int.lt_or_le x 2 with h2 | h2
      · have := wk_pos hl hne hx; omega
      · have h3 := hk (x - 1) (by omega) (by omega)
        have h4 := wk_mono (l := l) (x := x - 1) (y := x) (fun a ha => ⟨(hl a ha).1, by have := (hl a ha).2; omega⟩) (by omega)
        omega
    | succ d ih =>
      intro x hx he hk
      by_cases hlt : x < wk l x
      · exact ih (x + 1) (by omega) (by omega) (fun k h1 h2 => by
          by_cases h3 : k = x
          · subst h3; exact hlt
          · exact hk k h1 (by omega))
      · refine ⟨x, ⟨hx, ?_, hk⟩, by omega⟩
        rcases Int.lt_or_le x 2 with h2 | h2
        · have := wk_pos hl hne hx; omega
        · have h3 := hk (x - 1) (by omega) (by omega)
          have h4 := wk_mono (l := l) (x := x - 1) (y := x) (fun a ha => ⟨(hl a ha).1, by have := (hl a ha).2; omega⟩) (by omega)
          omega
  exact key (p - 1).toNat 1 (by omega) (by omega) (fun k h1 h2 => by omega)
/-- it is the first time at which work is just as much -/
theorem Len.first {l : List Tk} {n : Int} (h : Len l n) : ∀ k, 1 ≤ k → k < n → wk l k ≠ k := fun k h1 h2 => by have := h.more k h1 h2; omega
/-- from any time from 1 up to it, work is not above it -/
theorem Len.under {l : List Tk} {n x : Int} (hl : ∀ t ∈ l, 0 < t.t ∧ 0 ≤ t.c) (h : Len l n) (hx : x ≤ n) : wk l x ≤ n := by
  have := wk_mono hl hx; have := h.fix; omega
/-- a step ahead of the length rises, and not above it -/
theorem Len.step {l : List Tk} {n x : Int} (hl : ∀ t ∈ l, 0 < t.t ∧ 0 ≤ t.c) (h : Len l n) (h1 : 1 ≤ x) (h2 : x ≤ n) : (x = n ∧ wk l x = x) ∨ (x < n ∧ x < wk l x ∧ wk l x ≤ n) := by
  by_cases e : x = n
  · left; subst e; exact ⟨rfl, h.fix⟩
  · right; exact ⟨by omega, h.more x h1 (by omega), h.under hl h2⟩
/-- the first step is one of them -/
theorem Len.start {l : List Tk} {n : Int} (hl : ∀ t ∈ l, 0 < t.t ∧ 1 ≤ t.c) (hne : l ≠ []) (h : Len l n) : 1 ≤ wk l 1 ∧ wk l 1 ≤ n :=
  ⟨wk_pos hl hne (Int.le_refl 1), h.under (fun a ha => ⟨(hl a ha).1, by have := (hl a ha).2; omega⟩) h.pos⟩
/-- the steps, at most n of them from x on, up to and with the length -/
def stepsR (l : List Tk) : Nat → Int → List Int
  | 0, _ => []
  | n + 1, x => x :: (if wk l x = x then [] else stepsR l n (wk l x))
/-- one task more: not shorter -/
theorem Len.more_of {l m : List Tk} {n k : Int} (h : Len l n) (h2 : Len m k) (hle : ∀ x, 1 ≤ x → wk l x ≤ wk m x) : n ≤ k := by
  rcases Int.lt_or_le k n with h1 | h1
  · have h3 := h.more k h2.pos h1
    have h4 := hle k h2.pos
    have := h2.fix
    omega
  · exact h1
/-- a task alone works just its C -/
theorem len_one {t : Tk} (h1 : 1 ≤ t.c) (h2 : t.c ≤ t.t) : Len [t] t.c := by
  refine ⟨h1, ?_, fun k hk hk2 => ?_⟩
  · simp only [wk]; rw [rel_once h1 h2]; omega
  · simp only [wk]; rw [rel_once hk (by omega)]; omega
/-- what Length tells -/
structure LenR where
  n : Int
  e : Int
def lengthR (l : List Tk) : LenR :=
  if (loadR l).e ≠ 0 then ⟨0, (loadR l).e⟩ else if (loadR l).p < (loadR l).n then ⟨0, 17⟩ else if l.length = 0 then ⟨0, 0⟩ else ⟨seek l (loadR l).p.toNat 1, 0⟩
theorem seek_len {l : List Tk} {n : Int} (h : Len l n) : ∀ (d : Nat) (x : Int), 1 ≤ x → x ≤ n → n - x ≤ d → seek l d x = n := by
  intro d
  induction d with
  | zero => intro x h1 h2 h3; show x = n; omega
  | succ d ih =>
    intro x h1 h2 h3
    rw [seek]
    by_cases hw : wk l x = x
    · rw [if_pos hw]
      rcases Int.lt_or_le x n with h4 | h4
      · exact absurd hw (h.first x h1 h4)
      · omega
    · rw [if_neg hw]
      have : x ≠ n := fun e => by subst e; exact hw h.fix
      exact ih (x + 1) (by omega) (by omega) (by omega)
theorem lengthR_bad {l : List Tk} (h : (loadR l).e ≠ 0) : lengthR l = ⟨0, (loadR l).e⟩ := by unfold lengthR; rw [if_pos h]
theorem lengthR_over {l : List Tk} (h : (loadR l).e = 0) (h2 : (loadR l).p < (loadR l).n) : lengthR l = ⟨0, 17⟩ := by unfold lengthR; rw [if_neg (by omega), if_pos h2]
theorem lengthR_len {l : List Tk} {n : Int} (h : (loadR l).e = 0) (h2 : (loadR l).n ≤ (loadR l).p) (hne : l ≠ []) (hn : Len l n) (hp : n ≤ (loadR l).p) : lengthR l = ⟨n, 0⟩ := by
  unfold lengthR
  rw [if_neg (by omega), if_neg (by omega), if_neg (fun e => hne (List.eq_nil_of_length_eq_zero e)), seek_len hn _ _ (by omega) hn.pos (by have := hn.pos; omega)]
theorem lengthR_nil : lengthR [] = ⟨0, 0⟩ := by
  have e1 : (loadR []).e = 0 := by decide +kernel
  have e2 : ¬ (loadR []).p < (loadR []).n := by decide +kernel
  unfold lengthR
  rw [if_neg (by omega), if_neg e2]; rfl
/-- where the load is not above 1 there is a length, up to the period -/
theorem len_load {l : List Tk} (h : (loadR l).e = 0) (h2 : (loadR l).n ≤ (loadR l).p) (hne : l ≠ []) : rowB l = true ∧ 0 < (loadR l).p ∧ (loadR l).p ≤ 1048576 ∧ wk l (loadR l).p = (loadR l).n ∧ ∃ n, Len l n ∧ n ≤ (loadR l).p := by
  unfold loadR at h h2 ⊢
  by_cases h0 : (periodR l).2 = 0
  · rw [if_pos h0] at h h2 ⊢
    simp only at *
    obtain ⟨hr, p, hp, hp1, hp0, hp2⟩ := period_ok h0
    have hl := rowB_all hr
    obtain ⟨-, -, -, hdv⟩ := pers_pos (by omega) (by omega) hl hp
    rw [hp1] at h2 ⊢
    have hw : wk l (p : Int) = work (p : Int) l := wk_period (by omega) (fun t ht => by
      have h1 := chk_iff.1 (hl t ht)
      have h3 := hdv t ht
      have h4 : t.t = ((t.t.toNat : Nat) : Int) := by omega
      refine ⟨by omega, ?_⟩
      rw [h4, ← Int.natCast_emod, Nat.mod_eq_zero_of_dvd h3]; rfl)
    refine ⟨hr, by omega, by omega, hw, len_of (fun t ht => by have := chk_iff.1 (hl t ht); omega) hne (by omega) (by omega)⟩
  · rw [if_neg h0] at h
    exact absurd h h0
end Go.Proofs.Ytbhafcaekpccoaa.Bs
