/- Whether tasks fit: the mathematics of the first time of too much work, and of the path. The times by which tasks are tested: package qpa's times, behind, and the function over which they are gone, for whatever body. Contract of package qpa's Test. -/
import Derived.Test.YteagimnlhopjpaaMDn
import Derived.Test.YteagimnlhopjpaaMBa
import Derived.Test.YteagimnlhopjpaaMBb
import Derived.RangeFuncNested
import Derived.RangeFuncBound
import Derived.RangeFuncCalls
import Derived.RangeFuncLeaves
import Derived.RangeFuncBox
import Derived.Maps.AppendAt
import Derived.Shelf.Abstract
import Derived.Shelf.RegionOpen
import Derived.OwnWalkIn
import Derived.TacticsInMore
import Derived.LoopNIn
import Derived.LoopIn
import Derived.Stop.RegionWithIn
import Derived.Sort.CutIn
import Derived.Lib.Builder
import Derived.RangeFuncWrites
namespace Go.Proofs.Yteagimnlhopjpaa.Qp
open Pm (Tk chk chk_iff rowB rowB_all rowB_len pers pers_pos periodR period_ok work work_le Ld loadR)
open Dm (isTime isTime_iff cnt parts div_of cnt_lt cnt_ge cnt_nonneg cnt_le one sum ofR sum_step isDl befs befs_is beforeR sumR_sum ofR_yes)
open Bs (rel rel_zero rel_pos rel_nonneg rel_mono wk Len lengthR lengthR_bad lengthR_over lengthR_len good_of Good leastR leastR_cons leastD_is len_load)
set_option maxRecDepth 100000
set_option linter.unusedVariables false
/-- releases, as a number that is least -/
theorem rel_ge {t : Tk} {x : Int} (ht : 0 < t.t) : x ≤ t.t * rel t x := by
  by_cases h : x ≤ 0
  · rw [rel_zero h]; omega
  · rw [rel_pos (by omega), Int.mul_add]
    have h1 := Int.mul_ediv_add_emod (x - 1) t.t
    have h2 := Int.emod_lt_of_pos (x - 1) ht
    omega
theorem rel_le_of {t : Tk} {x k : Int} (ht : 0 < t.t) (hk : 0 ≤ k) (h : x ≤ t.t * k) : rel t x ≤ k := by
  by_cases h0 : x ≤ 0
  · rw [rel_zero h0]; exact hk
  · rw [rel_pos (by omega)]
    have : (x - 1) / t.t < k := Int.ediv_lt_of_lt_mul ht (by rw [Int.mul_comm]; omega)
    omega
theorem rel_sub {t : Tk} {a b : Int} (ht : 0 < t.t) : rel t (a + b) ≤ rel t a + rel t b := by
  refine rel_le_of ht (by have := rel_nonneg (x := a) ht; have := rel_nonneg (x := b) ht; omega) ?_
  rw [Int.mul_add]
  have := rel_ge (x := a) ht
  have := rel_ge (x := b) ht
  omega
theorem cnt_eq {t : Tk} {x : Int} : cnt t x = rel t (x - t.d + 1) := by
  by_cases h : x < t.d
  · rw [cnt_lt h, rel_zero (by omega)]
  · rw [cnt_ge (by omega), rel_pos (by omega), show x - t.d + 1 - 1 = x - t.d by omega]
/-- what is due by x was released ahead of n, or is due as from a new start at n -/
theorem cnt_split {t : Tk} {n x : Int} (ht : 0 < t.t) : cnt t x ≤ rel t n + cnt t (x - n) := by
  rw [cnt_eq, cnt_eq, show x - t.d + 1 = n + (x - n - t.d + 1) by omega]
  exact rel_sub ht
theorem sum_split {l : List Tk} {n x : Int} (hl : ∀ t ∈ l, 0 < t.t ∧ 0 ≤ t.c) : sum l x ≤ wk l n + sum l (x - n) := by
  induction l with
  | nil => simp [sum, wk]
  | cons t l ih =>
    have ht := hl t (by simp)
    have h1 := ih (fun a ha => hl a (by simp [ha]))
    have h2 := Int.mul_le_mul_of_nonneg_left (cnt_split (t := t) (n := n) (x := x) ht.1) ht.2
    rw [Int.mul_add] at h2
    simp only [sum, wk, one]
    omega
theorem sum_zero {l : List Tk} {x : Int} (hl : ∀ t ∈ l, 1 ≤ t.d) (hx : x ≤ 0) : sum l x = 0 := by
  induction l with
  | nil => rfl
  | cons t l ih =>
    have := hl t (by simp)
    rw [sum, ih (fun a ha => hl a (by simp [ha])), one, cnt_lt (by omega)]; simp
theorem sum_mono {l : List Tk} {x y : Int} (hl : ∀ t ∈ l, 0 < t.t ∧ 0 ≤ t.c) (h : x ≤ y) : sum l x ≤ sum l y := by
  induction l with
  | nil => simp [sum]
  | cons t l ih =>
    have ht := hl t (by simp)
    have h1 := ih (fun a ha => hl a (by simp [ha]))
    have h2 := Int.mul_le_mul_of_nonneg_left (cnt_le ht.1 h) ht.2
    simp only [sum, one]
    omega
theorem chk_all {l : List Tk} (hr : rowB l = true) : ∀ t ∈ l, 0 < t.t ∧ 1 ≤ t.c ∧ 1 ≤ t.d ∧ t.d ≤ t.t ∧ t.c ≤ t.d := fun t ht => by have := chk_iff.1 (rowB_all hr t ht); omega
/-- the least time at which there is too much work -/
def least (l : List Tk) (t : Int) : Prop := 1 ≤ t ∧ t < sum l t ∧ ∀ s, 1 ≤ s → s < t → sum l s ≤ s
theorem least_of {l : List Tk} {x : Int} (h1 : 1 ≤ x) (h2 : x < sum l x) : ∃ t, least l t ∧ t ≤ x := by
  have key : ∀ (n : Nat) (x : Int), x = n → 1 ≤ x → x < sum l x → ∃ t, least l t ∧ t ≤ x := by
    intro n
    induction n using Nat.strongRecOn with
    | _ n ih =>
      intro x hx h1 h2
      by_cases h : ∃ s, 1 ≤ s ∧ s < x ∧ s < sum l s
      · obtain ⟨s, a, b, c⟩ := h
        obtain ⟨t, d, e⟩ := ih s.toNat (by omega) s (by omega) a c
        exact ⟨t, d, by omega⟩
      · refine ⟨x, ⟨h1, h2, fun s a b => ?_⟩, by omega⟩
        rcases Int.lt_or_le s (sum l s) with c | c
        · exact absurd ⟨s, a, b, c⟩ h
        · exact c
  exact key x.toNat x (by omega) h1 h2
/-- it is ahead of the length -/
theorem least_lt {l : List Tk} {n t : Int} (hl : ∀ t ∈ l, 0 < t.t ∧ 1 ≤ t.c ∧ 1 ≤ t.d) (hn : Len l n) (h : least l t) : t < n := by
  rcases Int.lt_or_le t n with h0 | h0
  · exact h0
  · exfalso
    obtain ⟨h1, h2, h3⟩ := h
    have h4 := sum_split (l := l) (n := n) (x := t) (fun t ht => by have := hl t ht; omega)
    rw [hn.fix] at h4
    have := hn.pos
    by_cases h5 : t - n = 0
    · rw [h5, sum_zero (x := 0) (fun t ht => (hl t ht).2.2) (by omega)] at h4; omega
    · have := h3 (t - n) (by omega) (by omega); omega
/-- it is a deadline -/
theorem least_dl {l : List Tk} {t : Int} (hl : ∀ t ∈ l, 0 < t.t ∧ 1 ≤ t.c ∧ 1 ≤ t.d) (h : least l t) : ∃ u ∈ l, isDl u t := by
  obtain ⟨h1, h2, h3⟩ := h
  refine (sum_step (l := l) (x := t) (fun u hu => by have := hl u hu; omega)).2.1 ?_
  by_cases h4 : t = 1
  · subst h4
    rw [show (1 : Int) - 1 = 0 by omega, sum_zero (fun t ht => (hl t ht).2.2) (by omega)]; omega
  · have := h3 (t - 1) (by omega) (by omega); omega
/-- the least one up to n times from x on; 0: none -/
def seekM (l : List Tk) : Nat → Int → Int
  | 0, _ => 0
  | n + 1, x => if x < ofR l x then x else seekM l n (x + 1)
def missN (l : List Tk) : Int := seekM l (loadR l).p.toNat 1
structure MissR where
  n : Int
  e : Int
/-- what Miss tells, what Test tells -/
def missR (l : List Tk) : MissR := if (loadR l).e ≠ 0 ∨ (loadR l).p < (loadR l).n then ⟨0, (loadR l).e⟩ else ⟨missN l, 0⟩
def testR (l : List Tk) : Int := if (loadR l).e ≠ 0 then (loadR l).e else if (loadR l).p < (loadR l).n ∨ 0 < missN l then 17 else 0
theorem of_sum {l : List Tk} {x : Int} (hr : rowB l = true) (h0 : 0 ≤ x) (h1 : x ≤ 1099511627776) : ofR l x = sum l x := by
  rw [ofR_yes hr, sumR_sum (isTime_iff.2 ⟨h0, h1⟩) (rowB_all hr)]
theorem seekM_is {l : List Tk} (hr : rowB l = true) : ∀ (n : Nat) (x : Int), 1 ≤ x → x + n ≤ 1099511627776 → (∀ s, 1 ≤ s → s < x → sum l s ≤ s) →
    (seekM l n x = 0 ∧ ∀ s, 1 ≤ s → s < x + n → sum l s ≤ s) ∨ (least l (seekM l n x) ∧ seekM l n x < x + n) := by
  intro n
  induction n with
  | zero => intro x h1 h2 h3; exact .inl ⟨rfl, fun s a b => h3 s a (by simpa using b)⟩
  | succ n ih =>
    intro x h1 h2 h3
    have e := of_sum hr (x := x) (by omega) (by omega)
    rw [seekM, e]
    by_cases h : x < sum l x
    · rw [if_pos h]; exact .inr ⟨⟨h1, h, h3⟩, by omega⟩
    · rw [if_neg h]
      rcases ih (x + 1) (by omega) (by omega) (fun s a b => by
        by_cases e : s = x
        · subst e; omega
        · exact h3 s a (by omega)) with ⟨a, b⟩ | ⟨a, b⟩
      · exact .inl ⟨a, fun s c d => b s c (by omega)⟩
      · exact .inr ⟨a, by omega⟩
theorem least_uniq {l : List Tk} {s t : Int} (h : least l s) (k : least l t) : s = t := by
  rcases Int.lt_trichotomy s t with h1 | h1 | h1
  · have := k.2.2 s h.1 h1; have := h.2.1; omega
  · exact h1
  · have := h.2.2 t k.1 h1; have := k.2.1; omega
/-- tasks that load not too much -/
structure May (l : List Tk) : Prop where
  e : (loadR l).e = 0
  over : (loadR l).n ≤ (loadR l).p
  row : rowB l = true
  p0 : 0 < (loadR l).p
  p1 : (loadR l).p ≤ 1048576
theorem load_row {l : List Tk} (h : (loadR l).e = 0) : rowB l = true ∧ 0 < (loadR l).p ∧ (loadR l).p ≤ 1048576 := by
  unfold loadR at h ⊢
  by_cases h0 : (periodR l).2 = 0
  · rw [if_pos h0] at h ⊢
    simp only at *
    obtain ⟨hr, p, hp, hp1, hp0, hp2⟩ := period_ok h0
    exact ⟨hr, by omega, by omega⟩
  · rw [if_neg h0] at h; exact absurd h h0
theorem may_of {l : List Tk} (h : (loadR l).e = 0) (h2 : (loadR l).n ≤ (loadR l).p) : May l := by
  obtain ⟨a, b, c⟩ := load_row h
  exact ⟨h, h2, a, b, c⟩
theorem missN_is {l : List Tk} (h : May l) : (missN l = 0 ∧ ∀ s, 1 ≤ s → s ≤ (loadR l).p → sum l s ≤ s) ∨ (least l (missN l) ∧ missN l ≤ (loadR l).p) := by
  have h1 := h.p0
  have h2 := h.p1
  rcases seekM_is h.row (loadR l).p.toNat 1 (by omega) (by omega) (fun s a b => by omega) with ⟨a, b⟩ | ⟨a, b⟩
  · exact .inl ⟨a, fun s c d => b s c (by omega)⟩
  · exact .inr ⟨a, by unfold missN; omega⟩
theorem missN_least {l : List Tk} {t : Int} (h : May l) (ht : least l t) (hp : t ≤ (loadR l).p) : missN l = t := by
  rcases missN_is h with ⟨a, b⟩ | ⟨a, b⟩
  · have := b t ht.1 hp; have := ht.2.1; omega
  · exact least_uniq a ht
theorem missN_none {l : List Tk} (h : May l) (hb : ∀ s, 1 ≤ s → s ≤ (loadR l).p → sum l s ≤ s) : missN l = 0 := by
  rcases missN_is h with ⟨a, b⟩ | ⟨a, b⟩
  · exact a
  · have := hb _ a.1 b; have := a.2.1; omega
theorem missN_nonneg {l : List Tk} (h : May l) : 0 ≤ missN l ∧ missN l ≤ (loadR l).p := by
  rcases missN_is h with ⟨a, b⟩ | ⟨a, b⟩
  · have := h.p0; omega
  · have := a.1; omega
theorem len_may {l : List Tk} (h : May l) (hne : l ≠ []) : ∃ n, Len l n ∧ n ≤ (loadR l).p := (len_load h.e h.over hne).2.2.2.2
/-- no time at all -/
theorem missN_all {l : List Tk} (h : May l) : missN l = 0 ↔ ∀ s, 1 ≤ s → sum l s ≤ s := by
  refine ⟨fun e s h1 => ?_, fun hb => missN_none h (fun s a _ => hb s a)⟩
  by_cases hne : l = []
  · subst hne; simp [sum]; omega
  · rcases Int.lt_or_le s (sum l s) with h2 | h2
    · exfalso
      obtain ⟨n, hn, hp⟩ := len_may h hne
      obtain ⟨t, ht, hts⟩ := least_of h1 h2
      have h3 := least_lt (fun t ht => by have := chk_all h.row t ht; omega) hn ht
      have h4 := missN_least h ht (by omega)
      have := ht.1
      omega
    · exact h2
theorem testR_zero {l : List Tk} : testR l = 0 ↔ (loadR l).e = 0 ∧ (loadR l).n ≤ (loadR l).p ∧ ∀ s, 1 ≤ s → sum l s ≤ s := by
  unfold testR
  by_cases h1 : (loadR l).e = 0
  · rw [if_neg (by omega)]
    by_cases h2 : (loadR l).p < (loadR l).n
    · rw [if_pos (.inl h2)]
      exact ⟨fun h => (by cases h), fun h => (by have := h.2.1; omega)⟩
    · have hm := may_of h1 (by omega)
      have h0 := missN_nonneg hm
      by_cases h3 : missN l = 0
      · rw [if_neg (by omega)]
        exact ⟨fun _ => ⟨h1, by omega, (missN_all hm).1 h3⟩, fun _ => rfl⟩
      · rw [if_pos (.inr (by omega))]
        exact ⟨fun h => (by cases h), fun h => absurd ((missN_all hm).2 h.2.2) h3⟩
  · rw [if_pos h1]
    exact ⟨fun h => absurd h h1, fun h => absurd h.1 h1⟩
theorem testR_is {l : List Tk} (h : (loadR l).e = 0) : testR l = 0 ∨ testR l = 17 := by
  unfold testR
  rw [if_neg (by omega)]
  split
  · exact .inr rfl
  · exact .inl rfl
theorem testR_may {l : List Tk} (h : May l) : testR l = if 0 < missN l then 17 else 0 := by
  unfold testR
  have := h.over
  rw [if_neg (by have := h.e; omega)]
  by_cases h1 : 0 < missN l
  · rw [if_pos (.inr h1), if_pos h1]
  · rw [if_neg (by omega), if_neg h1]
/- the path -/
def behR (l : List Tk) (x n : Int) : Option Int := if n < x then some n else beforeR l x
/-- what comes behind x; none: the path ends -/
def nextP (l : List Tk) (x : Int) : Option Int := if ofR l x ≤ leastR l then none else behR l x (ofR l x)
def chainP (l : List Tk) : Option Int → List Int → Prop
  | _, [] => True
  | o, y :: r => o = some y ∧ chainP l (nextP l y) r
def afterP (l : List Tk) : Option Int → List Int → Option Int
  | o, [] => o
  | _, y :: r => afterP l (nextP l y) r
theorem chainP_snoc {l : List Tk} : ∀ {r : List Int} {o : Option Int} {y : Int}, chainP l o (r ++ [y]) ↔ chainP l o r ∧ afterP l o r = some y := by
  intro r
  induction r with
  | nil => intro o y; exact ⟨fun h => ⟨trivial, h.1⟩, fun h => ⟨h.2, trivial⟩⟩
  | cons z r ih => intro o y; exact ⟨fun h => ⟨⟨h.1, (ih.1 h.2).1⟩, (ih.1 h.2).2⟩, fun h => ⟨h.1.1, ih.2 ⟨h.1.2, h.2⟩⟩⟩
theorem afterP_snoc {l : List Tk} : ∀ {r : List Int} {o : Option Int} {y : Int}, afterP l o (r ++ [y]) = nextP l y := by
  intro r
  induction r with
  | nil => intro o y; rfl
  | cons z r ih => intro o y; exact ih
theorem before_fall {l : List Tk} {x y : Int} (h : beforeR l x = some y) : 1 ≤ y ∧ y < x ∧ rowB l = true ∧ isTime x = true := by
  unfold beforeR at h
  split at h
  · rename_i hr
    split at h
    · cases h
      have := befs_is (l := l) (x := x) (fun t ht => by have := chk_all hr.1 t ht; omega)
      exact ⟨by omega, by omega, hr.1, hr.2⟩
    · cases h
  · cases h
theorem leastR_nonneg (l : List Tk) : 0 ≤ leastR l := by
  unfold leastR
  cases l with
  | nil => simp
  | cons t r =>
    simp only
    by_cases h : rowB (t :: r) = true
    · rw [if_pos h]
      have hl := rowB_all h
      obtain ⟨-, -, h3⟩ := leastD_is (l := t :: r) (m := t.d)
      have h4 := chk_iff.1 (hl t (by simp))
      rcases h3 with h3 | ⟨u, hu, h3⟩
      · omega
      · have := chk_iff.1 (hl u hu); omega
    · rw [if_neg h]; omega
theorem leastR_le {l : List Tk} (hr : rowB l = true) {t : Tk} (ht : t ∈ l) : leastR l ≤ t.d := by
  cases l with
  | nil => cases ht
  | cons u r => rw [leastR_cons hr]; exact (leastD_is (l := u :: r) (m := u.d)).2.1 t ht
theorem nextP_fall {l : List Tk} {x y : Int} (h : nextP l x = some y) : 1 ≤ y ∧ y < x := by
  unfold nextP at h
  split at h
  · cases h
  · unfold behR at h
    split at h
    · cases h
      have := leastR_nonneg l
      omega
    · have := before_fall h; omega
/-- a chain falls -/
theorem chainP_fall {l : List Tk} : ∀ {r : List Int} {o : Option Int} {m : Int}, (∀ y, o = some y → 1 ≤ y ∧ y < m) → chainP l o r → (∀ y ∈ r, 1 ≤ y ∧ y < m) ∧ (r.length : Int) ≤ (if m ≤ 1 then 0 else m - 1) ∧ r.Pairwise (· > ·) := by
  intro r
  induction r with
  | nil => intro o m _ _; refine ⟨by simp, ?_, by simp⟩; simp only [List.length_nil]; split <;> omega
  | cons y r ih =>
    intro o m ho hc
    obtain ⟨rfl, h2⟩ := hc
    have hy := ho y rfl
    obtain ⟨h3, h4, h5⟩ := ih (m := y) (fun z hz => nextP_fall hz) h2
    refine ⟨fun z hz => ?_, ?_, List.pairwise_cons.2 ⟨fun z hz => (h3 z hz).2, h5⟩⟩
    · rcases List.mem_cons.1 hz with rfl | hz
      · exact hy
      · have := h3 z hz; omega
    · simp only [List.length_cons]
      split at h4 <;> split <;> omega
/-- the last time of too much work -/
def lastM (l : List Tk) (m : Int) : List Int → Int
  | [] => m
  | y :: r => lastM l (if y < ofR l y then y else m) r
theorem lastM_snoc {l : List Tk} : ∀ {r : List Int} {m y : Int}, lastM l m (r ++ [y]) = if y < ofR l y then y else lastM l m r := by
  intro r
  induction r with
  | nil => intro m y; rfl
  | cons z r ih => intro m y; exact ih
/-- below t, the least one, it does not turn -/
theorem lastM_low {l : List Tk} (hr : rowB l = true) {t : Int} (ht : ∀ s, 1 ≤ s → s < t → sum l s ≤ s) : ∀ {r : List Int} {m : Int}, (∀ y ∈ r, 1 ≤ y ∧ y < t ∧ y ≤ 1099511627776) → lastM l m r = m := by
  intro r
  induction r with
  | nil => intro m _; rfl
  | cons y r ih =>
    intro m h
    have hy := h y (by simp)
    rw [lastM, of_sum hr (by omega) hy.2.2, if_neg (by have := ht y hy.1 hy.2.1; omega)]
    exact ih (fun z hz => h z (by simp [hz]))
/-- a whole chain from above the least one comes to it, and it is the last one of too much work on it -/
theorem chain_least {l : List Tk} (hr : rowB l = true) {t : Int} (ht : least l t) : ∀ {r : List Int} {o : Option Int} {m : Int}, (∃ y, o = some y ∧ t ≤ y ∧ y ≤ 1099511627776) → chainP l o r → afterP l o r = none → t ∈ r ∧ lastM l m r = t := by
  have hl := chk_all hr
  have hdl := least_dl (fun t ht => by have := hl t ht; omega) ht
  obtain ⟨t1, t2, t3⟩ := ht
  have hlt : leastR l ≤ t := by
    obtain ⟨u, hu, h⟩ := hdl
    have := leastR_le hr hu
    have := h.1
    omega
  intro r
  induction r with
  | nil => rintro o m ⟨y, rfl, -, -⟩ _ h; cases h
  | cons y r ih =>
    rintro o m ⟨y', rfl, h1, h2⟩ ⟨e, hc⟩ ha
    cases e
    have e := of_sum hr (x := y) (by omega) h2
    have hm := sum_mono (l := l) (x := t) (y := y) (fun t ht => by have := hl t ht; omega) h1
    rw [lastM, e]
    by_cases h3 : y = t
    · subst h3
      rw [if_pos t2]
      refine ⟨by simp, lastM_low hr t3 (fun z hz => ?_)⟩
      have := (chainP_fall (m := y) (fun z hz => nextP_fall hz) hc).1 z hz
      omega
    · have hn : ∃ z, nextP l y = some z ∧ t ≤ z ∧ z ≤ 1099511627776 := by
        unfold nextP behR
        rw [e, if_neg (by omega)]
        by_cases h4 : sum l y < y
        · rw [if_pos h4]; exact ⟨_, rfl, by omega, by omega⟩
        · rw [if_neg h4]
          unfold beforeR
          rw [if_pos ⟨hr, isTime_iff.2 ⟨by omega, h2⟩⟩]
          obtain ⟨u, hu, hd⟩ := hdl
          rcases befs_is (l := l) (x := y) (fun t ht => by have := hl t ht; omega) with ⟨-, h6⟩ | ⟨h6, h7, -, h8⟩
          · have := h6 u hu; have := hd.1; omega
          · rw [if_pos h6]; exact ⟨_, rfl, h8 u hu t hd (by omega), by omega⟩
      obtain ⟨h5, h6⟩ := ih (m := if y < sum l y then y else m) hn hc ha
      exact ⟨by simp [h5], h6⟩
/-- the first time of the path -/
def startP (l : List Tk) : Option Int := beforeR l (lengthR l).n
theorem start_in {l : List Tk} {m y : Int} (hg : Bs.Good l m) (hE : lengthR l = ⟨m, 0⟩) (h : startP l = some y) : 1 ≤ y ∧ y < m := by
  unfold startP at h
  rw [hE] at h
  have := before_fall h
  simp only at this
  omega
/-- a whole path tells the least one -/
theorem path_tells {l : List Tk} (h : May l) {r : List Int} (hc : chainP l (startP l) r) (ha : afterP l (startP l) r = none) : lastM l 0 r = missN l := by
  obtain ⟨m, hg, hE⟩ := good_of h.e h.over
  rcases missN_is h with ⟨e, hb⟩ | ⟨ht, hp⟩
  · rw [e]
    have hin := (chainP_fall (m := m) (fun y hy => start_in hg hE hy) hc).1
    have hmp : m ≤ (loadR l).p ∨ l = [] := by
      by_cases hne : l = []
      · exact .inr hne
      · obtain ⟨n, hn, hnp⟩ := len_may h hne
        have := lengthR_len h.e h.over hne hn hnp
        rw [hE] at this
        cases this
        exact .inl hnp
    have h1 := h.p1
    refine lastM_low h.row (t := m) (fun s a b => ?_) (fun y hy => ?_)
    · rcases hmp with h2 | rfl
      · exact hb s a (by omega)
      · simp [sum]; omega
    · have := hin y hy; have := hg.2.1; omega
  · have hne : l ≠ [] := by
      rintro rfl
      have := ht.2.1; have := ht.1
      simp [sum] at *; omega
    obtain ⟨n, hn, hnp⟩ := len_may h hne
    have e := lengthR_len h.e h.over hne hn hnp
    have hl := chk_all h.row
    have hlt := least_lt (fun t ht => by have := hl t ht; omega) hn ht
    have h1 := h.p1
    have h0 := ht.1
    refine (chain_least h.row ht ?_ hc ha).2
    unfold startP
    rw [e]
    simp only
    unfold beforeR
    rw [if_pos ⟨h.row, isTime_iff.2 ⟨by omega, by omega⟩⟩]
    obtain ⟨u, hu, hd⟩ := least_dl (fun t ht => by have := hl t ht; omega) ht
    rcases befs_is (l := l) (x := n) (fun t ht => by have := hl t ht; omega) with ⟨-, h6⟩ | ⟨h6, h7, -, h8⟩
    · have := h6 u hu; have := hd.1; omega
    · rw [if_pos h6]; exact ⟨_, rfl, h8 u hu _ hd hlt, by omega⟩
theorem lastM_none {l : List Tk} : ∀ {r : List Int} {m : Int}, (∀ y ∈ r, ofR l y ≤ y) → lastM l m r = m := by
  intro r
  induction r with
  | nil => intro m _; rfl
  | cons y r ih =>
    intro m h
    rw [lastM, if_neg (by have := h y (by simp); omega)]
    exact ih (fun z hz => h z (by simp [hz]))
/-- what Test finds on it: a time of too much work, or none on the whole path -/
theorem test_bad {l : List Tk} (h : May l) {r : List Int} {x : Int} (hc : chainP l (startP l) (r ++ [x])) (hx : x < ofR l x) : testR l = 17 := by
  obtain ⟨m, hg, hE⟩ := good_of h.e h.over
  have hin := (chainP_fall (m := m) (fun y hy => start_in hg hE hy) hc).1 x (by simp)
  have h1 := hg.2.1
  rw [of_sum h.row (by omega) (by omega)] at hx
  rw [testR_may h]
  by_cases h2 : missN l = 0
  · have := (missN_all h).1 h2 x hin.1; omega
  · have := missN_nonneg h
    rw [if_pos (by omega)]
theorem test_good {l : List Tk} (h : May l) {r : List Int} (hc : chainP l (startP l) r) (ha : afterP l (startP l) r = none) (hb : ∀ y ∈ r, ofR l y ≤ y) : testR l = 0 := by
  rw [testR_may h, ← path_tells h hc ha, lastM_none hb, if_neg (by omega)]
/-- what Path tells: up to the first time of too much work -/
def PathOf (l : List Tk) : Option Int → List Int → Prop
  | none, r => r = []
  | some _, [] => False
  | some x, y :: r => y = x ∧ if x < ofR l x then r = [] else PathOf l (nextP l x) r
theorem pathOf_none {l : List Tk} {s : List Int} : PathOf l none s ↔ s = [] := by cases s <;> simp [PathOf]
theorem PathOf.uniq {l : List Tk} : ∀ {r s : List Int} {o : Option Int}, PathOf l o r → PathOf l o s → r = s := by
  intro r
  induction r with
  | nil =>
    intro s o h k
    cases o with
    | none => exact (pathOf_none.1 k).symm
    | some x => exact h.elim
  | cons y r ih =>
    intro s o h k
    cases o with
    | none => cases h
    | some x =>
      cases s with
      | nil => exact k.elim
      | cons z s =>
        obtain ⟨e1, h2⟩ := h
        obtain ⟨e2, k2⟩ := k
        obtain rfl : y = z := e1.trans e2.symm
        subst e1
        by_cases hx : y < ofR l y
        · rw [if_pos hx] at h2 k2; rw [h2, k2]
        · rw [if_neg hx] at h2 k2; rw [ih h2 k2]
theorem pathOf_end {l : List Tk} : ∀ {r : List Int} {o : Option Int}, chainP l o r → afterP l o r = none → (∀ y ∈ r, ofR l y ≤ y) → PathOf l o r := by
  intro r
  induction r with
  | nil => rintro o - h -; simp only [afterP] at h; subst h; exact rfl
  | cons y r ih =>
    rintro o ⟨rfl, hc⟩ ha hb
    have := hb y (by simp)
    exact ⟨rfl, by rw [if_neg (by omega)]; exact ih hc ha (fun z hz => hb z (by simp [hz]))⟩
theorem pathOf_stop {l : List Tk} : ∀ {r : List Int} {o : Option Int} {x : Int}, chainP l o (r ++ [x]) → (∀ y ∈ r, ofR l y ≤ y) → x < ofR l x → PathOf l o (r ++ [x]) := by
  intro r
  induction r with
  | nil => rintro o x ⟨rfl, -⟩ - hx; exact ⟨rfl, by rw [if_pos hx]⟩
  | cons y r ih =>
    rintro o x ⟨rfl, hc⟩ hb hx
    have := hb y (by simp)
    exact ⟨rfl, by rw [if_neg (by omega)]; exact ih hc (fun z hz => hb z (by simp [hz])) hx⟩
/-- a path is a chain; all but its last one are no times of too much work; it tells -/
theorem pathOf_chain {l : List Tk} : ∀ {r : List Int} {o : Option Int}, PathOf l o r → chainP l o r ∧ ((∃ q x, r = q ++ [x] ∧ x < ofR l x ∧ ∀ y ∈ q, ofR l y ≤ y) ∨ (afterP l o r = none ∧ ∀ y ∈ r, ofR l y ≤ y)) := by
  intro r
  induction r with
  | nil =>
    intro o h
    cases o with
    | none => exact ⟨trivial, .inr ⟨rfl, by simp⟩⟩
    | some x => exact h.elim
  | cons y r ih =>
    intro o h
    cases o with
    | none => cases h
    | some x =>
      obtain ⟨rfl, h2⟩ := h
      by_cases hx : y < ofR l y
      · rw [if_pos hx] at h2
        subst h2
        exact ⟨⟨rfl, trivial⟩, .inl ⟨[], y, rfl, hx, by simp⟩⟩
      · rw [if_neg hx] at h2
        obtain ⟨h3, h4⟩ := ih h2
        refine ⟨⟨rfl, h3⟩, ?_⟩
        rcases h4 with ⟨q, z, rfl, h5, h6⟩ | ⟨h5, h6⟩
        · exact .inl ⟨y :: q, z, rfl, h5, fun a ha => by
            rcases List.mem_cons.1 ha with rfl | ha
            · omega
            · exact h6 a ha⟩
        · exact .inr ⟨h5, fun a ha => by
            rcases List.mem_cons.1 ha with rfl | ha
            · omega
            · exact h6 a ha⟩
def pathO (l : List Tk) : Option Int := if (lengthR l).e = 0 then startP l else none
end Go.Proofs.Yteagimnlhopjpaa.Qp
namespace Go.Proofs.Yteagimnlhopjpaa.Qp
open Go.ChangeShapes Go.WideShapes Go.ChangeAt Go.RowKit Go.Joins Go.Shelf
open Pm (Tk chk chk_iff rowB rowB_all rowB_len TkAt Ts TRow)
open Dm (ans beforeR ofR)
open Bs (leastR)
attribute [local go_sem] Oper.semAt_some
set_option maxRecDepth 100000
set_option maxRecDepth 100000
set_option linter.unusedVariables false
set_option linter.unusedSimpArgs false
theorem ans_two (n : Option Int) : ∃ y b, ans n = .tuple #[.int .i64 y, .bool b] ∧ ((n = some y ∧ b = true) ∨ (n = none ∧ y = 0 ∧ b = false)) := by
  cases n with
  | none => exact ⟨0, false, rfl, .inr ⟨rfl, rfl, rfl⟩⟩
  | some y => exact ⟨y, true, rfl, .inl ⟨rfl, rfl⟩⟩
/-- what is read between two rounds stays -/
def Kt (X b : Nat) (A B : World) : Prop := B.heap[X]? = A.heap[X]? ∧ B.heap[X + 1]? = A.heap[X + 1]? ∧ B.heap[b]? = A.heap[b]? ∧ A.heap.size ≤ B.heap.size
theorem Kt.trans {X q : Nat} {A B C : World} (h : Kt X q A B) (k : Kt X q B C) : Kt X q A C := ⟨k.1.trans h.1, k.2.1.trans h.2.1, k.2.2.1.trans h.2.2.1, Nat.le_trans h.2.2.2 k.2.2.2⟩
theorem Kt.put {X q : Nat} {w : World} (hX : X + 1 < w.heap.size) (hq : q < w.heap.size) (W : World) (l : Nat) (o o' : Obj) (hl : w.heap.size ≤ l) (h : W.heap[l]? = some o) (_ : o.isCells = false) (_ : o.isWalk = false) : Kt X q W (W.putObj l o') :=
  ⟨World.putObj_heap_other (by omega), World.putObj_heap_other (by omega), World.putObj_heap_other (by omega), by simp [World.putObj]⟩
theorem Kt.call {X b : Nat} {A B : World} (hb : Below A.heap.size A B) (hX : X + 1 < A.heap.size) (hq : b < A.heap.size) : Kt X b A B := ⟨hb.block X (by omega), hb.block (X + 1) hX, hb.block b hq, hb.size⟩
theorem Kt.lt {X b k : Nat} {A B : World} (h : Kt X b A B) (hk : k < A.heap.size) : k < B.heap.size := by have := h.2.2.2; omega
theorem Kt.ts {X b : Nat} {ao : Option Addr} {l : List Tk} {A B : World} (h : Kt X b A B) (hbo : 0 < l.length → ∀ k off, ao = some ⟨k, off, none⟩ → k = b) (hT : Ts ao l A) : Ts ao l B := fun h0 => by
  obtain ⟨g, off, rfl, hl, hc⟩ := hT h0
  obtain rfl := hbo h0 g off rfl
  exact ⟨g, off, rfl, by have := h.2.2.2; omega, fun i x hi => (hc i x hi).of_block h.2.2.1⟩
def encT (l : List Tk) (x : Int) : Array Value := #[.int .i64 x, .int .i64 (ofR l x)]
def measT (s t : Value) : Nat := match t with
  | .bool true => (intOf s).toNat + 1
  | _ => 0
/-- ahead of a round: what is told next -/
def toldP (o : Option Int) (s t : Value) : Prop := (∃ y, o = some y ∧ s = .int .i64 y ∧ t = .bool true) ∨ (o = none ∧ s = .int .i64 0 ∧ t = .bool false)
end Go.Proofs.Yteagimnlhopjpaa.Qp
namespace Go.Proofs.Yteagimnlhopjpaa.Qp
open Go.ChangeShapes Go.WideShapes Go.ChangeAt Go.RowKit Go.Joins Go.Shelf
open Pm (Tk chk chk_iff rowB rowB_all rowB_len TkAt Ts TRow loadR)
open Dm (ans beforeR ofR)
open Bs (lengthR lengthR_bad lengthR_over good_of)
attribute [local go_sem] Oper.semAt_some
set_option maxRecDepth 100000
set_option maxRecDepth 100000
set_option linter.unusedVariables false
set_option linter.unusedSimpArgs false
theorem length_may {l : List Tk} (h : (lengthR l).e = 0) : May l ∧ ∃ m, Bs.Good l m ∧ lengthR l = ⟨m, 0⟩ := by
  by_cases h1 : (loadR l).e = 0
  · by_cases h2 : (loadR l).n ≤ (loadR l).p
    · exact ⟨may_of h1 h2, good_of h1 h2⟩
    · rw [lengthR_over h1 (by omega)] at h; cases h
  · rw [lengthR_bad h1] at h; exact absurd h h1
theorem length_err {l : List Tk} (h : (lengthR l).e ≠ 0) : ((loadR l).e ≠ 0 ∧ lengthR l = ⟨0, (loadR l).e⟩) ∨ ((loadR l).e = 0 ∧ (loadR l).p < (loadR l).n ∧ lengthR l = ⟨0, 17⟩) := by
  by_cases h1 : (loadR l).e = 0
  · by_cases h2 : (loadR l).n ≤ (loadR l).p
    · obtain ⟨m, -, e⟩ := good_of h1 h2
      rw [e] at h; exact absurd rfl h
    · exact .inr ⟨h1, by omega, lengthR_over h1 (by omega)⟩
  · exact .inl ⟨h1, lengthR_bad h1⟩
theorem testR_err {l : List Tk} (h : (lengthR l).e ≠ 0) : testR l = (lengthR l).e := by
  unfold testR
  rcases length_err h with ⟨h1, h2⟩ | ⟨h1, h2, h3⟩
  · rw [if_pos h1, h2]
  · rw [if_neg (by omega), if_pos (.inl h2), h3]
/-- a block of the function's own, and what was there ahead of it -/
structure Own1 (w : World) (o : Obj) (W : World) : Prop where
  cell : W.heap[w.heap.size]? = some o
  bel : Below w.heap.size w W
theorem Own1.grown {w W W' : World} {o : Obj} {row : Option Nat} (h : Own1 w o W) (hg : W.grownBy W' row) (hr : ∀ r, row = some r → w.heap.size + 1 ≤ r) : Own1 w o W' := by
  have hlt : w.heap.size < W.heap.size := (Array.getElem?_eq_some_iff.1 h.cell).1
  refine ⟨(hg.block _ hlt (fun e => by have := hr _ e.symm; omega)).trans h.cell, hg.os.trans h.bel.os, hg.tape.trans h.bel.tape, hg.output.trans h.bel.output, Nat.le_trans h.bel.size hg.size, fun k hk => ?_⟩
  rw [hg.block k (Nat.lt_of_lt_of_le hk h.bel.size) (fun e => by have := hr _ e.symm; omega), h.bel.block k hk]
theorem Own1.put {w W : World} {v v' : Value} {T : TypeId} (h : Own1 w (.cells #[v] T (0, 0)) W) :
    W.cell? ⟨w.heap.size, 0, none⟩ = some v ∧ W.frozen? ⟨w.heap.size, 0, none⟩ = false ∧ Own1 w (.cells #[v'] T (0, 0)) (W.setCell ⟨w.heap.size, 0, none⟩ v') ∧
    KeepsFrom (w.heap.size + 1) W (W.setCell ⟨w.heap.size, 0, none⟩ v') ∧ (∀ k, k ≠ w.heap.size → (W.setCell ⟨w.heap.size, 0, none⟩ v').heap[k]? = W.heap[k]?) ∧ (W.setCell ⟨w.heap.size, 0, none⟩ v').heap.size = W.heap.size := by
  have other : ∀ k, k ≠ w.heap.size → (W.setCell ⟨w.heap.size, 0, none⟩ v').heap[k]? = W.heap[k]? := fun k hn => Below.heap_setCell _ _ _ _ hn
  have hsz : (W.setCell ⟨w.heap.size, 0, none⟩ v').heap.size = W.heap.size := by simp [World.setCell]
  refine ⟨by rw [Lib.cell_of_heap h.cell]; rfl, Lib.frozen_of_heap h.cell 0, ⟨?_, h.bel.setCell (by simp) _⟩, ⟨by omega, fun k o hB hk ho => (other k (by omega)).trans hk⟩, other, hsz⟩
  simp [World.setCell, Array.getElem?_modify, h.cell]
def TsI (w : World) (l : List Tk) (pre : List Int) (W : World) : Prop := (∀ y ∈ pre, ofR l y ≤ y) ∧ Own1 w (.cells #[.int .i64 0] 39 (0, 0)) W
def TsX (w : World) (l : List Tk) (c : Code) (pre : List Int) (W : World) : Prop := c = .ret ∧ (∃ q x, pre = q ++ [x] ∧ x < ofR l x) ∧ Own1 w (.cells #[.int .i64 17] 39 (0, 0)) W
theorem tsI_own {w : World} {l : List Tk} {N : Nat} (hN : w.heap.size + 1 ≤ N) : OwnFrom N (TsI w l) := fun pre X Y row hs hg hr => ⟨hs.1, hs.2.grown hg (fun r e => Nat.le_trans hN (hr r e).1)⟩
theorem tsX_own {w : World} {l : List Tk} {N : Nat} (hN : w.heap.size + 1 ≤ N) (c : Code) : OwnFrom N (TsX w l c) := fun pre X Y row hs hg hr => ⟨hs.1, hs.2.1, hs.2.2.grown hg (fun r e => Nat.le_trans hN (hr r e).1)⟩
theorem results_cell {fn : Func} {p : Tmp} {ty : TypeId} (h : fn.results = #[.cell p ty]) (tmps : Array Value) (P : Program) (w : World) :
    (results fn tmps).run P w = ((asAddr (tmps.getD p undef)).run P w).andThen fun a w' => (loadVar ty a).run P w' := by
  simp [results, h]
end Go.Proofs.Yteagimnlhopjpaa.Qp
