/- What the steps are, and the load of tasks by numbers of layer 11: mathematics on the contracts. -/
import Derived.Test.YtbhafcaekpccoaaBsK
import Derived.Test.YtbhafcaekpccoaaBsI
import Derived.Test.YtbhafcaekpccoaaBsC
namespace Go.Proofs.Ytbhafcaekpccoaa.Bs
open Pm
open Dm (isTime isTime_iff)
set_option maxRecDepth 100000
set_option maxRecDepth 100000
set_option linter.unusedVariables false
set_option linter.unusedSimpArgs false
theorem pers_some {l : List Tk} {m : Nat} (hm : m ≤ 1048576) (h0 : 0 < m) : ∀ {p : Nat}, p ∣ m → (∀ t ∈ l, t.t.toNat ∣ m) → ∃ q, pers l p = some q ∧ q ∣ m := by
  induction l with
  | nil => intro p hp _; exact ⟨p, rfl, hp⟩
  | cons x l ih =>
    intro p hp hl
    have h1 : Nat.lcm p x.t.toNat ∣ m := Nat.lcm_dvd hp (hl x (by simp))
    have h2 := Nat.le_of_dvd h0 h1
    rw [pers, if_neg (by omega)]
    exact ih h1 (fun y hy => hl y (by simp [hy]))
/-- tasks whose periods divide 120 are not too great -/
theorem per_load {T : List Tk} (hr : rowB T = true) (hd : ∀ t ∈ T, t.t.toNat ∣ 120) : (loadR T).e = 0 := by
  obtain ⟨q, hq, -⟩ := pers_some (l := T) (m := 120) (by omega) (by omega) (Nat.one_dvd _) hd
  have e1 : periodR T = ((q : Int), 0) := by unfold periodR; rw [if_pos hr, hq]
  rw [load_yes (by rw [e1])]
theorem good_step {l : List Tk} {m : Int} (h : Good l m) (hne : l ≠ []) : ∀ y, 1 ≤ y → y ≤ m → y ≤ workR l y ∧ workR l y ≤ m ∧ (y < m → y < workR l y) := by
  obtain ⟨m0, m1, ⟨e, -⟩ | ⟨-, hr, hm⟩⟩ := h
  · exact absurd e hne
  · intro y h1 h2
    rw [workR_yes hr (isTime_iff.2 ⟨by omega, by omega⟩)]
    have hl : ∀ t ∈ l, 0 < t.t ∧ 0 ≤ t.c := fun t ht => by have := chk_iff.1 (rowB_all hr t ht); omega
    rcases hm.step hl h1 h2 with ⟨h3, h4⟩ | ⟨h3, h4, h5⟩
    · subst h3; exact ⟨by omega, by omega, by omega⟩
    · exact ⟨by omega, h5, fun _ => h4⟩
theorem fullW_pair {l : List Tk} {m : Int} : ∀ {r : List Int} {x : Int}, fullW l m x r → ∀ i y z, r[i]? = some y → r[i + 1]? = some z → y < m ∧ z = workR l y := by
  intro r
  induction r with
  | nil => intro x h; exact h.elim
  | cons y r ih =>
    intro x h i a b ha hb
    obtain ⟨h1, ⟨rfl, h2⟩ | ⟨h2, h3⟩⟩ := h
    · simp at hb
    · cases i with
      | zero =>
        obtain rfl : y = a := by simpa using ha
        refine ⟨h2, ?_⟩
        cases r with
        | nil => simp at hb
        | cons z r =>
          obtain rfl : z = b := by simpa using hb
          exact h3.1
      | succ i => exact ih h3 i a b (by simpa using ha) (by simpa using hb)
theorem fullW_last {l : List Tk} {m : Int} : ∀ {r : List Int} {x : Int}, fullW l m x r → r[r.length - 1]? = some m := by
  intro r
  induction r with
  | nil => intro x h; exact h.elim
  | cons y r ih =>
    intro x h
    obtain ⟨h1, ⟨rfl, h2⟩ | ⟨h2, h3⟩⟩ := h
    · simp [h2]
    · have h4 := ih h3
      cases r with
      | nil => exact h3.elim
      | cons z r => simpa using h4
theorem fullW_first {l : List Tk} {m : Int} {r : List Int} {x : Int} (h : fullW l m x r) : r[0]? = some (workR l x) := by
  cases r with
  | nil => exact h.elim
  | cons y r => simp [h.1]
theorem fullW_in {l : List Tk} {m : Int} (hst : ∀ y, 1 ≤ y → y ≤ m → y ≤ workR l y ∧ workR l y ≤ m ∧ (y < m → y < workR l y)) : ∀ {r : List Int} {x : Int}, 1 ≤ x → x ≤ m → fullW l m x r → ∀ y ∈ r, 1 ≤ y ∧ y ≤ m := by
  intro r
  induction r with
  | nil => intro x _ _ h; exact h.elim
  | cons y r ih =>
    intro x h1 h2 h a ha
    have hs := hst x h1 h2
    obtain ⟨e, h3⟩ := h
    rcases List.mem_cons.1 ha with rfl | ha
    · omega
    · rcases h3 with ⟨rfl, -⟩ | ⟨h4, h5⟩
      · simp at ha
      · exact ih (by omega) (by omega) h5 a ha
theorem fullW_len {l : List Tk} {m : Int} (hst : ∀ y, 1 ≤ y → y ≤ m → y ≤ workR l y ∧ workR l y ≤ m ∧ (y < m → y < workR l y)) : ∀ {r : List Int} {x : Int}, 1 ≤ x → x ≤ m → fullW l m x r → (r.length : Int) ≤ m - x + 1 := by
  intro r
  induction r with
  | nil => intro x _ _ h; exact h.elim
  | cons y r ih =>
    intro x h1 h2 h
    have hs := hst x h1 h2
    obtain ⟨e, h3⟩ := h
    rcases h3 with ⟨rfl, -⟩ | ⟨h4, h5⟩
    · simp; omega
    · have h6 := ih (x := y) (by omega) (by omega) h5
      have h7 : x < y := by
        have := hs.2.2
        omega
      simp only [List.length_cons]; omega
theorem good_pos {l : List Tk} {m : Int} (h : Good l m) (hne : l ≠ []) : 1 ≤ m := by
  obtain ⟨m0, m1, ⟨e, -⟩ | ⟨-, hr, hm⟩⟩ := h
  · exact absurd e hne
  · exact hm.pos
/-- the steps of tasks that have a length are not too many -/
theorem steps_len {l : List Tk} {r : List Int} (h : StepsOf l r) : r.length ≤ 1048576 := by
  rcases h with ⟨-, rfl⟩ | ⟨h1, h2, h3⟩
  · simp
  · obtain ⟨m, hg, e⟩ := lengthR_good h1
    rw [e] at h3
    have := fullW_len (good_step hg h2) (Int.le_refl 1) (good_pos hg h2) h3
    have := hg.2.1
    omega
/-- what the law asks of the steps -/
structure Stp (l : List Tk) (m : Int) (r : List Int) : Prop where
  pos : 1 ≤ r.length
  many : r.length ≤ 1048576
  m1 : m ≤ 1048576
  one : r[0]? = some (workR l 1)
  last : r[r.length - 1]? = some m
  pair : ∀ i y z, r[i]? = some y → r[i + 1]? = some z → y < z ∧ z = workR l y
  mem : ∀ y ∈ r, 1 ≤ y ∧ y ≤ m
theorem steps_stp {l : List Tk} {r : List Int} (h : StepsOf l r) : (((lengthR l).e ≠ 0 ∨ l = []) ∧ r = []) ∨ ((lengthR l).e = 0 ∧ l ≠ [] ∧ Stp l (lengthR l).n r) := by
  have hl := steps_len h
  rcases h with h | ⟨h1, h2, h3⟩
  · exact .inl h
  · obtain ⟨m, hg, e⟩ := lengthR_good h1
    refine .inr ⟨h1, h2, ?_⟩
    rw [e] at h3 ⊢
    simp only at h3 ⊢
    have hs := good_step hg h2
    refine ⟨?_, hl, hg.2.1, fullW_first h3, fullW_last h3, fun i y z hy hz => ?_, fullW_in hs (Int.le_refl 1) (good_pos hg h2) h3⟩
    · cases r with
      | nil => exact h3.elim
      | cons y r => simp
    · obtain ⟨h4, h5⟩ := fullW_pair h3 i y z hy hz
      have h6 := fullW_in hs (Int.le_refl 1) (good_pos hg h2) h3 y (List.mem_of_getElem? hy)
      have h7 := (hs y h6.1 h6.2).2.2 h4
      exact ⟨by omega, h5⟩
end Go.Proofs.Ytbhafcaekpccoaa.Bs
