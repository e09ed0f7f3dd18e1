/- Who fits is never late: slots, releases and runs, one by one. -/
import Derived.Test.YteagimnlhopjpaaEdMath
import Derived.Test.YteagimnlhopjpaaEdJob
namespace Go.Proofs.Yteagimnlhopjpaa.Ed
open Pm (Tk chk chk_iff)
open Dm (sum)
set_option maxRecDepth 100000
set_option maxRecDepth 100000
set_option linter.unusedVariables false
set_option linter.unusedSimpArgs false
/-- tasks that fit, jobs of theirs, when each may be released next, the time -/
structure Met (ts : List Tk) (nx : Nat → Int) (js : List Jo) (now : Int) : Prop where
  inv : Inv ts nx (due js) now
  good : Good js
  of_ : ∀ j ∈ js, ∃ (i : Nat) (t : Tk), ts[i]? = some t ∧ j.id = t.id ∧ j.dl ≤ nx i
theorem met_start (ts : List Tk) (nx : Nat → Int) (now : Int) : Met ts nx [] now := ⟨inv_idle (fun d => Int.le_refl _), good_nil, fun j h => by cases h⟩
/-- no job is late -/
theorem met_late {ts : List Tk} {nx : Nat → Int} {js : List Jo} {now : Int} (h : Met ts nx js now) (hc : ∀ t ∈ ts, chk t = true) (hf : ∀ s, 1 ≤ s → sum ts s ≤ s) : ∀ j ∈ js, now < j.dl :=
  due_late (fun j hj => (may_left (h.good.may j hj)).1) (inv_late h.inv hc hf)
theorem late_none {js : List Jo} {now : Int} (h : ∀ j ∈ js, now < j.dl) : lateR js now = [] := by
  unfold lateR
  rw [List.filter_eq_nil_iff]
  intro j hj
  have := h j hj
  simp; omega
/-- a release: it is no job's yet, and may be -/
theorem met_add {ts : List Tk} {nx nx' : Nat → Int} {js : List Jo} {now c : Int} {i : Nat} {t : Tk} (h : Met ts nx js now) (hl : ∀ j ∈ js, now < j.dl) (hid : (ts.map (·.id)).Nodup) (hi : ts[i]? = some t) (ht : chk t = true) (hnow : nx i ≤ now) (h0 : 0 ≤ now) (h1 : now ≤ 1000000) (hc1 : 1 ≤ c) (hc : c ≤ t.c) (hx : now + t.t ≤ nx' i) (hy : ∀ j, j ≠ i → nx' j = nx j) :
    (addR js ⟨t.id, now, now + t.d, c⟩).2 = 0 ∧ Met ts nx' (addR js ⟨t.id, now, now + t.d, c⟩).1 now ∧ ∀ j ∈ (addR js ⟨t.id, now, now + t.d, c⟩).1, now < j.dl := by
  have hk := chk_iff.1 ht
  have hm : mayJ ⟨t.id, now, now + t.d, c⟩ = true := by unfold mayJ; exact decide_eq_true (by simp only; omega)
  have hn : hasR js t.id = false := by
    cases hh : hasR js t.id with
    | false => rfl
    | true =>
      obtain ⟨j, hj, e⟩ := has_iff.1 hh
      obtain ⟨k, q, hq, e2, hd⟩ := h.of_ j hj
      have hlt := hl j hj
      have ek : k = i := by
        obtain ⟨k1, rfl⟩ := List.getElem?_eq_some_iff.1 hq
        obtain ⟨i1, rfl⟩ := List.getElem?_eq_some_iff.1 hi
        rw [List.nodup_iff_pairwise_ne, List.pairwise_iff_getElem] at hid
        by_cases e3 : k = i
        · exact e3
        · rcases Nat.lt_or_gt_of_ne e3 with g | g
          · have := hid k i (by simpa using k1) (by simpa using i1) g; simp at this; omega
          · have := hid i k (by simpa using i1) (by simpa using k1) g; simp at this; omega
      subst ek
      omega
  have h2 : (addR js ⟨t.id, now, now + t.d, c⟩).2 = 0 := by unfold addR; rw [if_neg (by rw [hm]; simp), if_neg (by rw [hn]; simp)]
  have e : (addR js ⟨t.id, now, now + t.d, c⟩).1 = Hp.ins ahead ⟨t.id, now, now + t.d, c⟩ js := by unfold addR; rw [if_neg (by rw [hm]; simp), if_neg (by rw [hn]; simp)]
  refine ⟨h2, ⟨inv_add h.inv hi hnow hc (by omega) hx hy (fun d => due_add h2 d), good_add h.good _, ?_⟩, ?_⟩
  · rw [e]
    intro j hj
    rcases Hp.ins_mem.1 hj with rfl | hj
    · exact ⟨i, t, hi, rfl, by simp only; omega⟩
    · obtain ⟨k, q, hq, e2, hd⟩ := h.of_ j hj
      refine ⟨k, q, hq, e2, ?_⟩
      by_cases ek : k = i
      · subst ek
        omega
      · rw [hy k ek]; exact hd
  · rw [e]
    intro j hj
    rcases Hp.ins_mem.1 hj with rfl | hj
    · simp only; omega
    · exact hl j hj
/-- a slot -/
theorem met_run {ts : List Tk} {nx : Nat → Int} {js : List Jo} {now : Int} (h : Met ts nx js now) : Met ts nx (runR js).1 (now + 1) := by
  cases js with
  | nil => exact ⟨inv_none (fun d => Int.le_refl _), good_nil, fun j h => by cases h⟩
  | cons j l =>
    have hf := good_first h.good
    refine ⟨inv_run (dl := j.dl) h.inv (fun d hd => ?_) (fun d => due_run d), good_run h.good, fun q hq => ?_⟩
    · rw [due_none (fun q hq => by
        rcases List.mem_cons.1 hq with rfl | hq
        · exact hd
        · have := hf q hq; omega)]
      exact Int.le_refl _
    · rw [run_cons] at hq
      split at hq
      · exact h.of_ q (by simp only at hq; simp [hq])
      · rcases List.mem_cons.1 hq with rfl | hq
        · exact h.of_ j (by simp)
        · exact h.of_ q (by simp [hq])
end Go.Proofs.Yteagimnlhopjpaa.Ed
