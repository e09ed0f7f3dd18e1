/- Jobs in order of their deadlines: the mathematics of layer 18's calls. -/
import Derived.Test.YteagimnlhopjpaaHpMath
namespace Go.Proofs.Yteagimnlhopjpaa.Ed
open Hp (Wk An Srt le ins ins_perm ins_mem ins_srt)
set_option maxRecDepth 100000
set_option maxRecDepth 100000
set_option linter.unusedVariables false
set_option linter.unusedSimpArgs false
structure Jo where
  id : Int
  rel : Int
  dl : Int
  le : Int
deriving DecidableEq
/-- goes ahead of b -/
def ahead (a b : Jo) : Bool := decide (a.dl < b.dl) || (decide (a.dl = b.dl) && decide (a.id < b.id))
theorem ahead_iff {a b : Jo} : ahead a b = true ↔ a.dl < b.dl ∨ (a.dl = b.dl ∧ a.id < b.id) := by unfold ahead; simp
theorem ahead_not {a b : Jo} : ahead a b = false ↔ b.dl < a.dl ∨ (a.dl = b.dl ∧ b.id ≤ a.id) := by
  rw [← Bool.not_eq_true, ahead_iff]; omega
theorem wk : Wk ahead where
  irr := fun a => ahead_not.2 (by omega)
  asym := fun a b h => by have h := ahead_iff.1 h; exact ahead_not.2 (by omega)
  letr := fun a b c h1 h2 => by have h1 := ahead_not.1 h1; have h2 := ahead_not.1 h2; exact ahead_not.2 (by omega)
/-- each has an ID of its own -/
def Own (l : List Jo) : Prop := (l.map (·.id)).Nodup
theorem own_an {l : List Jo} (h : Own l) : An ahead l := fun a b ha hb h1 h2 => by
  have h1 := ahead_not.1 h1
  have h2 := ahead_not.1 h2
  obtain ⟨i, hi⟩ := List.mem_iff_getElem?.1 ha
  obtain ⟨j, hj⟩ := List.mem_iff_getElem?.1 hb
  obtain ⟨i1, rfl⟩ := List.getElem?_eq_some_iff.1 hi
  obtain ⟨j1, rfl⟩ := List.getElem?_eq_some_iff.1 hj
  by_cases e : i = j
  · subst e; rfl
  · unfold Own at h
    rw [List.nodup_iff_pairwise_ne, List.pairwise_iff_getElem] at h
    rcases Nat.lt_or_gt_of_ne e with g | g
    · have := h i j (by simpa using i1) (by simpa using j1) g; simp at this; omega
    · have := h j i (by simpa using j1) (by simpa using i1) g; simp at this; omega
theorem Own.perm {l m : List Jo} (h : Own l) (p : l.Perm m) : Own m := ((p.map _).nodup_iff).1 h
theorem Own.tail {j : Jo} {l : List Jo} (h : Own (j :: l)) : Own l := (List.nodup_cons.1 h).2
/-- what is left of those that are due by d -/
def due (l : List Jo) (d : Int) : Int := match l with
  | [] => 0
  | j :: l => (if j.dl ≤ d then j.le else 0) + due l d
theorem due_perm {l m : List Jo} (h : l.Perm m) (d : Int) : due l d = due m d := by
  induction h with
  | nil => rfl
  | cons x _ ih => rw [due, due, ih]
  | swap x y l => rw [due, due, due, due]; omega
  | trans _ _ h1 h2 => rw [h1, h2]
theorem due_nonneg {l : List Jo} (h : ∀ j ∈ l, 1 ≤ j.le) (d : Int) : 0 ≤ due l d := by
  induction l with
  | nil => exact Int.le_refl _
  | cons j l ih =>
    have h1 := h j (by simp)
    have h2 := ih (fun q hq => h q (by simp [hq]))
    rw [due]
    split <;> omega
theorem due_none {l : List Jo} {d : Int} (h : ∀ j ∈ l, d < j.dl) : due l d = 0 := by
  induction l with
  | nil => rfl
  | cons j l ih =>
    have h1 := h j (by simp)
    rw [due, if_neg (by omega), ih (fun q hq => h q (by simp [hq]))]; rfl
/-- none is late, if nothing that is due is left -/
theorem due_late {l : List Jo} (h : ∀ j ∈ l, 1 ≤ j.le) {d : Int} (hd : due l d ≤ 0) : ∀ j ∈ l, d < j.dl := by
  induction l with
  | nil => intro j hj; cases hj
  | cons j l ih =>
    have h1 := h j (by simp)
    have h2 := due_nonneg (fun q hq => h q (by simp [hq])) (l := l) d
    rw [due] at hd
    intro q hq
    split at hd
    · omega
    · rename_i hn
      rcases List.mem_cons.1 hq with rfl | hq
      · omega
      · exact ih (fun q hq => h q (by simp [hq])) (by omega) q hq
def mayJ (j : Jo) : Bool := decide (1 ≤ j.le ∧ j.le ≤ 2147483648 ∧ 0 ≤ j.rel ∧ j.rel ≤ 1099511627776 ∧ j.rel < j.dl ∧ j.dl ≤ 2199023255552)
def hasR (l : List Jo) (id : Int) : Bool := l.any (fun j => j.id == id)
theorem has_iff {l : List Jo} {id : Int} : hasR l id = true ↔ ∃ j ∈ l, j.id = id := by unfold hasR; simp
def addR (l : List Jo) (j : Jo) : List Jo × Int := if mayJ j = false then (l, 1) else if hasR l j.id = true then (l, 14) else (ins ahead j l, 0)
def runR : List Jo → List Jo × Int × Bool
  | [] => ([], -1, false)
  | j :: l => if j.le = 1 then (l, j.id, true) else ({ j with le := j.le - 1 } :: l, j.id, false)
theorem run_cons (j : Jo) (l : List Jo) : runR (j :: l) = if j.le = 1 then (l, j.id, true) else ({ j with le := j.le - 1 } :: l, j.id, false) := rfl
def lateR (l : List Jo) (now : Int) : List Jo := l.filter (fun j => decide (j.dl ≤ now))
def leftR (l : List Jo) : Int := match l with
  | [] => 0
  | j :: l => j.le + leftR l
theorem left_perm {l m : List Jo} (h : l.Perm m) : leftR l = leftR m := by
  induction h with
  | nil => rfl
  | cons x _ ih => rw [leftR, leftR, ih]
  | swap x y l => rw [leftR, leftR, leftR, leftR]; omega
  | trans _ _ h1 h2 => rw [h1, h2]
/-- jobs that are there: in order, each with an ID of its own, each that may be -/
structure Good (l : List Jo) : Prop where
  srt : Srt ahead l
  own : Own l
  may : ∀ j ∈ l, mayJ j = true
theorem may_left {j : Jo} (h : mayJ j = true) : 1 ≤ j.le ∧ j.le ≤ 2147483648 := by unfold mayJ at h; have := of_decide_eq_true h; omega
theorem good_nil : Good [] := ⟨List.Pairwise.nil, List.nodup_nil, fun j h => by cases h⟩
theorem good_add {l : List Jo} (h : Good l) (j : Jo) : Good (addR l j).1 := by
  unfold addR
  split
  · exact h
  · rename_i hm
    split
    · exact h
    · rename_i hh
      have hj : mayJ j = true := by simpa using hm
      refine ⟨ins_srt wk h.srt, ?_, fun q hq => ?_⟩
      · refine Own.perm ?_ (ins_perm j l).symm
        exact List.nodup_cons.2 ⟨fun hi => hh (has_iff.2 (by obtain ⟨q, hq, e⟩ := List.mem_map.1 hi; exact ⟨q, hq, e⟩)), h.own⟩
      · rcases ins_mem.1 hq with rfl | hq
        · exact hj
        · exact h.may q hq
theorem good_run {l : List Jo} (h : Good l) : Good (runR l).1 := by
  cases l with
  | nil => exact good_nil
  | cons j l =>
    have h1 := List.pairwise_cons.1 h.srt
    have hj := h.may j (by simp)
    rw [run_cons]
    split
    · exact ⟨h1.2, h.own.tail, fun q hq => h.may q (by simp [hq])⟩
    · rename_i hn
      refine ⟨List.pairwise_cons.2 ⟨fun q hq => ahead_not.2 (ahead_not.1 (h1.1 q hq)), h1.2⟩, h.own, fun q hq => ?_⟩
      rcases List.mem_cons.1 hq with rfl | hq
      · unfold mayJ at hj ⊢
        have := of_decide_eq_true hj
        exact decide_eq_true (by simp only; omega)
      · exact h.may q (by simp [hq])
/-- the first one has the earliest deadline -/
theorem good_first {j : Jo} {l : List Jo} (h : Good (j :: l)) : ∀ q ∈ l, j.dl ≤ q.dl := fun q hq => by
  have := ahead_not.1 ((List.pairwise_cons.1 h.srt).1 q hq)
  omega
theorem due_add {l : List Jo} {j : Jo} (h : (addR l j).2 = 0) (d : Int) : due (addR l j).1 d = due l d + if j.dl ≤ d then j.le else 0 := by
  unfold addR at h ⊢
  split at h
  · cases h
  · rename_i hm
    split at h
    · cases h
    · rename_i hh
      rw [if_neg hm, if_neg hh, due_perm (ins_perm j l), due]; omega
theorem due_run {j : Jo} {l : List Jo} (d : Int) : due (runR (j :: l)).1 d = due (j :: l) d - if j.dl ≤ d then 1 else 0 := by
  rw [run_cons]
  split
  · rename_i h1
    simp only [due]
    split <;> omega
  · simp only [due]
    split <;> omega
theorem left_run {j : Jo} {l : List Jo} : leftR (runR (j :: l)).1 = leftR (j :: l) - 1 := by
  rw [run_cons]
  split
  · rename_i h1
    simp only [leftR]; omega
  · simp only [leftR]; omega
theorem left_add {l : List Jo} {j : Jo} (h : (addR l j).2 = 0) : leftR (addR l j).1 = leftR l + j.le := by
  unfold addR at h ⊢
  split at h
  · cases h
  · rename_i hm
    split at h
    · cases h
    · rename_i hh
      rw [if_neg hm, if_neg hh, left_perm (ins_perm j l), leftR]; omega
end Go.Proofs.Yteagimnlhopjpaa.Ed
