/- One task more: the mathematics of loads and lengths. -/
import Derived.Test.YtbhafcaekpccoaaBsN
namespace Go.Proofs.Ytbhafcaekpccoaa.Bs
open Pm
open Dm (isTime isTime_iff)
set_option maxRecDepth 100000
set_option maxRecDepth 100000
set_option linter.unusedVariables false
set_option linter.unusedSimpArgs false
theorem pers_append {l : List Tk} {x : Tk} : ∀ {p : Nat}, pers (l ++ [x]) p = (match pers l p with | some q => if 1048576 < Nat.lcm q x.t.toNat then none else some (Nat.lcm q x.t.toNat) | none => none) := by
  induction l with
  | nil => intro p; simp [pers]
  | cons y l ih =>
    intro p
    rw [List.cons_append, pers, pers]
    by_cases h : 1048576 < Nat.lcm p y.t.toNat
    · rw [if_pos h, if_pos h]
    · rw [if_neg h, if_neg h]; exact ih
theorem div_mul {q p t : Int} (ht : 0 < t) (h1 : p % t = 0) (h2 : q % p = 0) (hp : 0 < p) : q / t = (p / t) * (q / p) := by
  obtain ⟨j, rfl⟩ := Int.dvd_of_emod_eq_zero h1
  obtain ⟨k, rfl⟩ := Int.dvd_of_emod_eq_zero h2
  have ht0 : t ≠ 0 := by omega
  rw [Int.mul_ediv_cancel_left _ ht0, Int.mul_ediv_cancel_left _ (by omega), Int.mul_assoc, Int.mul_ediv_cancel_left _ ht0]
theorem work_more {l : List Tk} {p q : Int} (hp : 0 < p) (h : q % p = 0) (hl : ∀ x ∈ l, 0 < x.t ∧ p % x.t = 0) : work q l = work p l * (q / p) := by
  induction l with
  | nil => simp [work]
  | cons x l ih =>
    have hx := hl x (by simp)
    rw [work, work, ih (fun y hy => hl y (by simp [hy])), div_mul hx.1 hx.2 h hp, Int.add_mul, Int.mul_assoc]
theorem work_append {l : List Tk} {x : Tk} {q : Int} : work q (l ++ [x]) = work q l + x.c * (q / x.t) := by
  induction l with
  | nil => simp [work]
  | cons y l ih => rw [List.cons_append, work, work, ih]; omega
/-- what loads more than all there is, does so with one task more -/
theorem more_over {T : List Tk} {X : Tk} (hr : rowB T = true) (hr2 : rowB (T ++ [X]) = true) (h1 : (loadR T).e = 0) (h2 : (loadR (T ++ [X])).e = 0) (hov : (loadR T).p < (loadR T).n) : (loadR (T ++ [X])).p < (loadR (T ++ [X])).n := by
  have hT := rowB_all hr
  have hT2 := rowB_all hr2
  have hX := hT2 X (by simp)
  cases hp : pers T 1 with
  | none =>
    exfalso
    have : periodR T = (0, 16) := by unfold periodR; rw [if_pos hr, hp]
    unfold loadR at h1
    rw [this] at h1
    simp at h1
  | some p =>
    have e1 : periodR T = ((p : Int), 0) := by unfold periodR; rw [if_pos hr, hp]
    have l1 : loadR T = ⟨work p T, p, 0⟩ := by rw [load_yes (by rw [e1]), e1]
    have ha := pers_append (l := T) (x := X) (p := 1)
    rw [hp] at ha
    simp only at ha
    by_cases hlt : 1048576 < Nat.lcm p X.t.toNat
    · exfalso
      rw [if_pos hlt] at ha
      have : periodR (T ++ [X]) = (0, 16) := by unfold periodR; rw [if_pos hr2, ha]
      unfold loadR at h2
      rw [this] at h2
      simp at h2
    · rw [if_neg hlt] at ha
      obtain ⟨hp0, hp1, -, hpd⟩ := pers_pos (by omega) (by omega) hT hp
      have hq0 := pers_pos (by omega) (by omega) hT2 ha
      have hxx := chk_iff.1 hX
      have hdv : p ∣ Nat.lcm p X.t.toNat := Nat.dvd_lcm_left _ _
      generalize Nat.lcm p X.t.toNat = q at *
      have e2 : periodR (T ++ [X]) = ((q : Int), 0) := by unfold periodR; rw [if_pos hr2, ha]
      have l2 : loadR (T ++ [X]) = ⟨work q (T ++ [X]), q, 0⟩ := by rw [load_yes (by rw [e2]), e2]
      rw [l2]
      rw [l1] at hov
      simp only at hov ⊢
      have hmod : (q : Int) % (p : Int) = 0 := by rw [← Int.natCast_emod, Nat.mod_eq_zero_of_dvd hdv]; rfl
      have hw := work_more (l := T) (p := (p : Int)) (q := (q : Int)) (by omega) hmod (fun x hx => by
        have h1 := chk_iff.1 (hT x hx)
        have h2 := hpd x hx
        have h3 : x.t = ((x.t.toNat : Nat) : Int) := by omega
        refine ⟨by omega, ?_⟩
        rw [h3, ← Int.natCast_emod, Nat.mod_eq_zero_of_dvd h2]; rfl)
      have ht := Pm.term_le hX (p := (q : Int)) (by omega)
      obtain ⟨D, hD⟩ := Int.dvd_of_emod_eq_zero hmod
      have hD1 : 1 ≤ D := by
        rcases Int.lt_or_le D 1 with h | h
        · have := Int.mul_nonneg (show 0 ≤ (p : Int) by omega) (show 0 ≤ -D by omega)
          rw [Int.mul_neg] at this
          omega
        · exact h
      have hq : (q : Int) / (p : Int) = D := by rw [hD]; exact Int.mul_ediv_cancel_left _ (by omega)
      rw [work_append, hw, hq]
      have h5 := Int.mul_lt_mul_of_pos_right hov (show 0 < D by omega)
      omega
/-- one task more: what the law asks -/
structure Mor (T : List Tk) (X : Tk) : Prop where
  own : (loadR [X]).n < (loadR [X]).p → lengthR [X] = ⟨X.c, 0⟩
  both : ((lengthR T).e = 0 ∧ (lengthR (T ++ [X])).e = 0 ∧ (lengthR T).n ≤ (lengthR (T ++ [X])).n) ∨ ((lengthR T).e = 0 ∧ (lengthR (T ++ [X])).e ≠ 0) ∨ ((lengthR T).e ≠ 0 ∧ (lengthR (T ++ [X])).e ≠ 0)
  le : (loadR [X]).e = 0
theorem mor {T : List Tk} {X : Tk} (h7 : T.length ≤ 7) (hT : ∀ t ∈ T, chk t = true ∧ t.t.toNat ∣ 120) (hX : chk X = true ∧ X.t.toNat ∣ 120) : Mor T X := by
  have hT2 : ∀ t ∈ T ++ [X], chk t = true ∧ t.t.toNat ∣ 120 := by
    intro x hx
    rcases List.mem_append.1 hx with h | h
    · exact hT x h
    · obtain rfl : x = X := by simpa using h
      exact hX
  have hX1 : ∀ t ∈ [X], chk t = true ∧ t.t.toNat ∣ 120 := by
    intro x hx
    obtain rfl : x = X := by simpa using hx
    exact hX
  have r1 : rowB T = true := rowB_yes (by omega) (fun t h => (hT t h).1)
  have r2 : rowB (T ++ [X]) = true := rowB_yes (by simp; omega) (fun t h => (hT2 t h).1)
  have r3 : rowB [X] = true := rowB_yes (by simp) (fun t h => (hX1 t h).1)
  have l1 := per_load r1 (fun t h => (hT t h).2)
  have l2 := per_load r2 (fun t h => (hT2 t h).2)
  have l3 := per_load r3 (fun t h => (hX1 t h).2)
  refine ⟨fun h => ?_, ?_, l3⟩
  · obtain ⟨-, -, -, -, m, hm, hmp⟩ := len_load l3 (by omega) (by simp)
    have hc := chk_iff.1 hX.1
    have e := hm.uniq (len_one (t := X) (by omega) (by omega))
    rw [← e]
    exact lengthR_len l3 (by omega) (by simp) hm hmp
  · by_cases ho : (loadR T).p < (loadR T).n
    · right; right
      rw [lengthR_over l1 ho, lengthR_over l2 (more_over r1 r2 l1 l2 ho)]
      decide
    · by_cases ho2 : (loadR (T ++ [X])).p < (loadR (T ++ [X])).n
      · right; left
        rw [lengthR_over l2 ho2]
        refine ⟨?_, by decide⟩
        obtain ⟨m, -, e⟩ := good_of l1 (by omega)
        rw [e]
      · left
        obtain ⟨-, -, -, -, m2, hm2, hmp2⟩ := len_load l2 (by omega) (by simp)
        rw [lengthR_len l2 (by omega) (by simp) hm2 hmp2]
        obtain ⟨m, hg, e⟩ := good_of l1 (by omega)
        rw [e]
        refine ⟨rfl, rfl, ?_⟩
        obtain ⟨-, -, ⟨-, rfl⟩ | ⟨-, -, hm⟩⟩ := hg
        · have := hm2.pos; simp only; omega
        · refine hm.more_of hm2 (fun x hx => ?_)
          rw [wk_append]
          have hc := chk_iff.1 hX.1
          have := Int.mul_nonneg (show 0 ≤ X.c by omega) (rel_nonneg (t := X) (x := x) (by omega))
          simp [wk]; omega
end Go.Proofs.Ytbhafcaekpccoaa.Bs
