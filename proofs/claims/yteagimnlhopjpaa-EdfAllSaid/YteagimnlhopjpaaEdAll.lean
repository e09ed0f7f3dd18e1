/- EdfAll's mathematics: what is left, and when it is due, by ID, beside the jobs. -/
import Derived.Test.YteagimnlhopjpaaEdJob
namespace Go.Proofs.Yteagimnlhopjpaa.Ed
open Hp (Wk An Srt le ins ins_perm ins_mem ins_srt)
set_option maxRecDepth 100000
set_option maxRecDepth 100000
set_option linter.unusedVariables false
set_option linter.unusedSimpArgs false
/-- one number by another -/
def upd (f : Int → Int) (i v : Int) : Int → Int := fun k => if k = i then v else f k
theorem upd_same {f : Int → Int} {i v : Int} : upd f i v i = v := if_pos rfl
theorem upd_ne {f : Int → Int} {i v k : Int} (h : k ≠ i) : upd f i v k = f k := if_neg h
/-- lf: what is left of the job with that ID (0: there is none), du: its deadline -/
structure Eight (s : List Jo) (lf du : Int → Int) : Prop where
  job : ∀ j ∈ s, 0 ≤ j.id ∧ j.id ≤ 7 ∧ lf j.id = j.le ∧ du j.id = j.dl
  nonneg : ∀ i, 0 ≤ lf i
  has : ∀ i, 0 < lf i → ∃ j ∈ s, j.id = i
theorem eight_nil (du : Int → Int) : Eight [] (fun _ => 0) du := ⟨fun j h => absurd h List.not_mem_nil, fun i => Int.le_refl _, fun i h => absurd h (by simp)⟩
variable {s : List Jo} {lf du : Int → Int}
theorem eight_add (h : Eight s lf du) {j : Jo} (h0 : (addR s j).2 = 0) (hi : 0 ≤ j.id ∧ j.id ≤ 7) : Eight (addR s j).1 (upd lf j.id j.le) (upd du j.id j.dl) := by
  unfold addR at h0 ⊢
  split at h0
  · cases h0
  · rename_i hm
    split at h0
    · cases h0
    · rename_i hh
      rw [if_neg hm, if_neg hh]
      have hj : mayJ j = true := by simpa using hm
      have hno : ∀ q ∈ s, q.id ≠ j.id := fun q hq e => hh (has_iff.2 ⟨q, hq, e⟩)
      have hle := may_left hj
      refine ⟨fun q hq => ?_, fun i => ?_, fun i hp => ?_⟩
      · rcases ins_mem.1 hq with rfl | hq
        · exact ⟨hi.1, hi.2, upd_same, upd_same⟩
        · rw [upd_ne (hno q hq), upd_ne (hno q hq)]; exact h.job q hq
      · unfold upd
        split
        · omega
        · exact h.nonneg i
      · by_cases e : i = j.id
        · exact ⟨j, ins_mem.2 (.inl rfl), e.symm⟩
        · rw [upd_ne e] at hp
          obtain ⟨q, hq, hqi⟩ := h.has i hp
          exact ⟨q, ins_mem.2 (.inr hq), hqi⟩
theorem own_id {a q : Jo} {t : List Jo} (h : Own (a :: t)) (hq : q ∈ t) : q.id ≠ a.id := fun e =>
  (List.nodup_cons.1 h).1 (List.mem_map.2 ⟨q, hq, e⟩)
/-- what runs has the earliest deadline of all that is left -/
theorem eight_first {a : Jo} {t : List Jo} (h : Eight (a :: t) lf du) (hg : Good (a :: t)) {i : Int} (hp : 0 < lf i) : du a.id ≤ du i := by
  obtain ⟨q, hq, rfl⟩ := h.has i hp
  rw [(h.job a (by simp)).2.2.2, (h.job q hq).2.2.2]
  rcases List.mem_cons.1 hq with rfl | hq
  · exact Int.le_refl _
  · exact good_first hg q hq
theorem eight_run {a : Jo} {t : List Jo} (h : Eight (a :: t) lf du) (hg : Good (a :: t)) : Eight (runR (a :: t)).1 (upd lf a.id (lf a.id - 1)) du ∧ (runR (a :: t)).2.1 = a.id ∧ (runR (a :: t)).2.2 = decide (lf a.id - 1 = 0) ∧ 1 ≤ lf a.id ∧ lf a.id ≤ 2147483648 ∧ 0 ≤ a.id ∧ a.id ≤ 7 := by
  obtain ⟨a0, a7, al, ad⟩ := h.job a (by simp)
  have hle := may_left (hg.may a (by simp))
  have hoth : ∀ q ∈ t, 0 ≤ q.id ∧ q.id ≤ 7 ∧ upd lf a.id (lf a.id - 1) q.id = q.le ∧ du q.id = q.dl := fun q hq => by
    rw [upd_ne (own_id hg.own hq)]; exact h.job q (by simp [hq])
  have hnn : ∀ i, 0 ≤ upd lf a.id (lf a.id - 1) i := fun i => by
    unfold upd
    split
    · omega
    · exact h.nonneg i
  refine ⟨?_, ?_, ?_, by omega, by omega, a0, a7⟩
  · rw [run_cons]
    split
    · rename_i h1
      refine ⟨hoth, hnn, fun i hp => ?_⟩
      by_cases e : i = a.id
      · subst e; rw [upd_same] at hp; omega
      · rw [upd_ne e] at hp
        obtain ⟨q, hq, hqi⟩ := h.has i hp
        rcases List.mem_cons.1 hq with rfl | hq
        · exact absurd hqi.symm e
        · exact ⟨q, hq, hqi⟩
    · rename_i h1
      refine ⟨fun q hq => ?_, hnn, fun i hp => ?_⟩
      · rcases List.mem_cons.1 hq with rfl | hq
        · exact ⟨a0, a7, by rw [upd_same, al], ad⟩
        · exact hoth q hq
      · by_cases e : i = a.id
        · exact ⟨_, List.mem_cons_self .., e.symm⟩
        · rw [upd_ne e] at hp
          obtain ⟨q, hq, hqi⟩ := h.has i hp
          rcases List.mem_cons.1 hq with rfl | hq
          · exact absurd hqi.symm e
          · exact ⟨q, by simp [hq], hqi⟩
  · rw [run_cons]; split <;> rfl
  · rw [run_cons]
    split
    · rename_i h1; exact (decide_eq_true (by omega)).symm
    · rename_i h1; exact (decide_eq_false (by omega)).symm
theorem left_nonneg (hg : Good s) : 0 ≤ leftR s := by
  obtain ⟨-, -, hm⟩ := hg
  induction s with
  | nil => exact Int.le_refl _
  | cons a t ih =>
    have := may_left (hm a (by simp))
    have := ih (fun q hq => hm q (by simp [hq]))
    rw [leftR]; omega
theorem left_cons (hg : Good s) (h : 0 < leftR s) : ∃ a t, s = a :: t := by
  cases s with
  | nil => rw [leftR] at h; omega
  | cons a t => exact ⟨a, t, rfl⟩
theorem left_nil (hg : Good s) (h : leftR s = 0) : s = [] := by
  cases s with
  | nil => rfl
  | cons a t =>
    have h1 := may_left (hg.may a (by simp))
    have h2 := left_nonneg (s := t) ⟨(List.pairwise_cons.1 hg.srt).2, hg.own.tail, fun q hq => hg.may q (by simp [hq])⟩
    rw [leftR] at h; omega
/-- not much is left of few jobs -/
theorem left_le (hg : Good s) : leftR s ≤ 2147483648 * (s.length : Int) := by
  obtain ⟨-, -, hm⟩ := hg
  induction s with
  | nil => exact Int.le_refl _
  | cons a t ih =>
    have := may_left (hm a (by simp))
    have := ih (fun q hq => hm q (by simp [hq]))
    rw [leftR, List.length_cons]; omega
end Go.Proofs.Yteagimnlhopjpaa.Ed
