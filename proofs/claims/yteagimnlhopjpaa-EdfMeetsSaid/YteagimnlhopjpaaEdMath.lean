/- The earliest deadline first, of tasks that are released whenever they may be: the mathematics of layer 18. What is left that is due by a time d is a function du of d alone. -/
import Derived.Test.YteagimnlhopjpaaMDm
namespace Go.Proofs.Yteagimnlhopjpaa.Ed
open Pm (Tk chk chk_iff)
open Dm (sum one cnt cnt_nonneg)
set_option maxRecDepth 100000
set_option maxRecDepth 100000
set_option linter.unusedVariables false
set_option linter.unusedSimpArgs false
/-- n i jobs of the i-th task, whole -/
def dsum : List Tk → (Nat → Nat) → Int
  | [], _ => 0
  | t :: l, n => t.c * (n 0 : Int) + dsum l (fun i => n (i + 1))
theorem dsum_zero : ∀ (l : List Tk), dsum l (fun _ => 0) = 0 := by
  intro l
  induction l with
  | nil => rfl
  | cons t l ih => rw [dsum, ih]; simp
theorem dsum_le {x : Int} : ∀ {l : List Tk} {n : Nat → Nat}, (∀ t ∈ l, 0 ≤ t.c) → (∀ i t, l[i]? = some t → (n i : Int) ≤ cnt t x) → dsum l n ≤ sum l x := by
  intro l
  induction l with
  | nil => intro n _ _; exact Int.le_refl _
  | cons t l ih =>
    intro n hc hn
    have h1 := ih (n := fun i => n (i + 1)) (fun q hq => hc q (by simp [hq])) (fun i q hq => hn (i + 1) q (by simpa using hq))
    have h2 := Int.mul_le_mul_of_nonneg_left (hn 0 t rfl) (hc t (by simp))
    rw [dsum, sum, one]
    omega
theorem dsum_one : ∀ {l : List Tk} {n : Nat → Nat} {i : Nat} {t : Tk}, l[i]? = some t → dsum l (fun j => if j = i then n j + 1 else n j) = dsum l n + t.c := by
  intro l
  induction l with
  | nil => intro n i t h; simp at h
  | cons q l ih =>
    intro n i t h
    rw [dsum, dsum]
    cases i with
    | zero =>
      obtain rfl : q = t := by simpa using h
      have e : (fun j => if j + 1 = 0 then n (j + 1) + 1 else n (j + 1)) = fun j => n (j + 1) := by funext j; simp
      rw [e, if_pos rfl, Int.natCast_add, Int.mul_add]
      simp only [Int.natCast_one, Int.mul_one]
      omega
    | succ i =>
      have := ih (n := fun j => n (j + 1)) (i := i) (t := t) (by simpa using h)
      have e : (fun j => if j + 1 = i + 1 then n (j + 1) + 1 else n (j + 1)) = fun j => if j = i then n (j + 1) + 1 else n (j + 1) := by funext j; simp
      rw [e, this, if_neg (by omega)]
      omega
/-- no more is left, due by d, than was released from some time a on, of jobs that are due by d, less what ran since; nx: when each may be released next -/
def Inv (ts : List Tk) (nx : Nat → Int) (du : Int → Int) (now : Int) : Prop :=
  ∀ d, ∃ a, a ≤ now ∧ ∃ n : Nat → Nat, du d + (now - a) ≤ dsum ts n ∧ ∀ i t, ts[i]? = some t → (1 ≤ n i → a + ((n i : Int) - 1) * t.t + t.d ≤ d) ∧ (a + (n i : Int) * t.t ≤ nx i ∨ a + (n i : Int) * t.t ≤ now)
/-- at a time at which nothing is left all begins anew -/
theorem inv_idle {ts : List Tk} {nx : Nat → Int} {du : Int → Int} {now : Int} (h : ∀ d, du d ≤ 0) : Inv ts nx du now := fun d =>
  ⟨now, Int.le_refl _, fun _ => 0, by rw [dsum_zero]; have := h d; omega, fun i t _ => ⟨fun h => absurd h (by simp), .inr (by simp)⟩⟩
theorem cnt_ge {t : Tk} {x : Int} {n : Nat} (ht : 0 < t.t) (h : 1 ≤ n → ((n : Int) - 1) * t.t + t.d ≤ x) : (n : Int) ≤ cnt t x := by
  rcases Nat.eq_zero_or_pos n with rfl | h0
  · exact cnt_nonneg ht
  · have h1 := h h0
    have h2 : 0 ≤ ((n : Int) - 1) * t.t := Int.mul_nonneg (by omega) (by omega)
    unfold cnt
    rw [if_neg (by omega)]
    have := (Int.le_ediv_iff_mul_le ht).2 (show ((n : Int) - 1) * t.t ≤ x - t.d by omega)
    omega
/-- there is time for what is left -/
theorem inv_bound {ts : List Tk} {nx : Nat → Int} {du : Int → Int} {now : Int} (h : Inv ts nx du now) (hc : ∀ t ∈ ts, chk t = true) (hf : ∀ s, 1 ≤ s → sum ts s ≤ s) (d : Int) : du d ≤ d - now ∨ du d ≤ 0 := by
  obtain ⟨a, ha, n, hs, hn⟩ := h d
  have key : dsum ts n ≤ sum ts (d - a) := dsum_le (fun t ht => by have := chk_iff.1 (hc t ht); omega) (fun i t hi => by
    have ht := chk_iff.1 (hc t (List.mem_of_getElem? hi))
    exact cnt_ge (by omega) (fun h1 => by have := (hn i t hi).1 h1; omega))
  by_cases h1 : 1 ≤ d - a
  · have := hf _ h1
    left; omega
  · right
    have z : dsum ts n ≤ 0 := by
      have e : dsum ts n ≤ dsum ts (fun _ => 0) := by
        have hz : ∀ i t, ts[i]? = some t → n i = 0 := fun i t hi => by
          have ht := chk_iff.1 (hc t (List.mem_of_getElem? hi))
          rcases Nat.eq_zero_or_pos (n i) with h0 | h0
          · exact h0
          · have h2 := (hn i t hi).1 h0
            have h3 : 0 ≤ ((n i : Int) - 1) * t.t := Int.mul_nonneg (by omega) (by omega)
            omega
        have : ∀ (l : List Tk) (n : Nat → Nat), (∀ i t, l[i]? = some t → n i = 0) → dsum l n ≤ dsum l (fun _ => 0) := by
          intro l
          induction l with
          | nil => intro n _; exact Int.le_refl _
          | cons q l ih =>
            intro n hn
            have h0 := hn 0 q rfl
            have := ih (fun i => n (i + 1)) (fun i t hi => hn (i + 1) t (by simpa using hi))
            rw [dsum, dsum, h0]
            omega
        exact this ts n hz
      rw [dsum_zero] at e
      exact e
    omega
/-- nothing that is left is late -/
theorem inv_late {ts : List Tk} {nx : Nat → Int} {du : Int → Int} {now : Int} (h : Inv ts nx du now) (hc : ∀ t ∈ ts, chk t = true) (hf : ∀ s, 1 ≤ s → sum ts s ≤ s) : du now ≤ 0 := by
  rcases inv_bound h hc hf now with h1 | h1 <;> omega
/-- a job of the i-th task, as soon as it may be, or later -/
theorem inv_add {ts : List Tk} {nx nx' : Nat → Int} {du du' : Int → Int} {now c : Int} {i : Nat} {t : Tk} (h : Inv ts nx du now) (hi : ts[i]? = some t) (hnow : nx i ≤ now) (hc : c ≤ t.c) (h0 : 0 ≤ t.t) (hx : now + t.t ≤ nx' i) (hy : ∀ j, j ≠ i → nx' j = nx j) (hd : ∀ d, du' d = du d + if now + t.d ≤ d then c else 0) : Inv ts nx' du' now := fun d => by
  obtain ⟨a, ha, n, hs, hn⟩ := h d
  have hni := (hn i t hi).2
  have hni2 : a + (n i : Int) * t.t ≤ now := by omega
  by_cases hdd : now + t.d ≤ d
  · refine ⟨a, ha, fun j => if j = i then n j + 1 else n j, ?_, fun j q hj => ?_⟩
    · rw [dsum_one hi, hd, if_pos hdd]; omega
    · by_cases e : j = i
      · subst e
        obtain rfl : t = q := by rw [hi] at hj; simpa using hj
        simp only [if_true]
        refine ⟨fun _ => ?_, .inl ?_⟩
        · have e1 : (((n j + 1 : Nat) : Int) - 1) = (n j : Int) := by omega
          rw [e1]; omega
        · have e2 : ((n j + 1 : Nat) : Int) * t.t = (n j : Int) * t.t + t.t := by rw [Int.natCast_add, Int.add_mul]; simp
          rw [e2]; omega
      · simp only [if_neg e]
        rw [hy j e]
        exact hn j q hj
  · refine ⟨a, ha, n, by rw [hd, if_neg hdd]; omega, fun j q hj => ?_⟩
    by_cases e : j = i
    · subst e
      obtain rfl : t = q := by rw [hi] at hj; simpa using hj
      exact ⟨(hn j t hi).1, .inr hni2⟩
    · rw [hy j e]
      exact hn j q hj
/-- a slot, in which a job runs whose deadline is the earliest -/
theorem inv_run {ts : List Tk} {nx : Nat → Int} {du du' : Int → Int} {now dl : Int} (h : Inv ts nx du now) (hz : ∀ d, d < dl → du d ≤ 0) (hd : ∀ d, du' d = du d - if dl ≤ d then 1 else 0) : Inv ts nx du' (now + 1) := fun d => by
  by_cases hdd : dl ≤ d
  · obtain ⟨a, ha, n, hs, hn⟩ := h d
    refine ⟨a, by omega, n, by rw [hd, if_pos hdd]; omega, fun i t hi => ⟨(hn i t hi).1, ?_⟩⟩
    rcases (hn i t hi).2 with h1 | h1
    · exact .inl h1
    · exact .inr (by omega)
  · refine ⟨now + 1, Int.le_refl _, fun _ => 0, by rw [dsum_zero, hd, if_neg hdd]; have := hz d (by omega); omega, fun i t _ => ⟨fun h => absurd h (by simp), .inr (by simp)⟩⟩
/-- a slot in which nobody runs -/
theorem inv_none {ts : List Tk} {nx : Nat → Int} {du : Int → Int} {now : Int} (h : ∀ d, du d ≤ 0) : Inv ts nx du (now + 1) := inv_idle h
/-- one task more, that was never released -/
theorem inv_task {ts : List Tk} {nx : Nat → Int} {du : Int → Int} {now : Int} (h : Inv ts nx du now) (t : Tk) : Inv (ts ++ [t]) nx du now := fun d => by
  obtain ⟨a, ha, n, hs, hn⟩ := h d
  refine ⟨a, ha, fun i => if i < ts.length then n i else 0, ?_, fun i q hi => ?_⟩
  · have key : ∀ (l : List Tk) (n : Nat → Nat), dsum (l ++ [t]) (fun i => if i < l.length then n i else 0) = dsum l n := by
      intro l
      induction l with
      | nil => intro n; simp [dsum]
      | cons q l ih =>
        intro n
        have := ih (fun i => n (i + 1))
        rw [List.cons_append, dsum, dsum]
        have e : (fun i => if i + 1 < (q :: l).length then n (i + 1) else 0) = fun i => if i < l.length then n (i + 1) else 0 := by funext i; simp
        rw [e, this]
        simp
    rw [key]; exact hs
  · by_cases hl : i < ts.length
    · rw [List.getElem?_append_left hl] at hi
      simp only [if_pos hl]
      exact hn i q hi
    · simp only [if_neg hl]
      exact ⟨fun h => by omega, .inr (by simp; exact ha)⟩
end Go.Proofs.Yteagimnlhopjpaa.Ed
