/- The mathematics of law TableBack. -/
import Derived.Test.YtnaanahgflbihaaTbW
import Derived.Test.YtnaanahgflbihaaTbL
namespace Go.Proofs.Ytnaanahgflbihaa.Tb
open Ox (Od chkR chkR_iff tk0)
set_option maxRecDepth 100000
set_option linter.unusedVariables false
set_option linter.unusedSimpArgs false
theorem back_math {t : Tb} {o : Od} (hk : o.kind = 1) (h : (applyR t o).2 = 0) :
    chkT (applyR t o).1 = true ∧ (applyR t o).1.rows.length = t.rows.length + 1 ∧ (findR (applyR t o).1.rows o.task.id).2 = true ∧ applyR (applyR t o).1 ⟨2, ⟨0, 0, 0, 0, 0⟩, false, o.task.id, 0, 0⟩ = (t, 0) := by
  obtain ⟨hc, ht, ho⟩ := apply_chk h
  refine ⟨hc, ?_⟩
  have e : applyR t o = (⟨ins ⟨o.task, o.server⟩ t.rows, t.mode⟩, 0) ∧ at_ t.rows o.task.id = none := by
    unfold applyR at h ⊢
    rw [if_neg (by simp [ht, ho]), if_pos hk] at h ⊢
    cases ha : at_ t.rows o.task.id with
    | some k => rw [ha] at h; simp at h
    | none =>
      rw [ha] at h
      simp only at h ⊢
      by_cases h16 : 16 ≤ t.rows.length
      · rw [if_pos h16] at h; simp at h
      · rw [if_neg h16]; exact ⟨rfl, trivial⟩
  obtain ⟨e, hn⟩ := e
  rw [e] at hc ⊢
  simp only at hc ⊢
  obtain ⟨k, ha, hcut⟩ := ins_at (x := ⟨o.task, o.server⟩) (chkT_iff.1 ht).2.1 (at_none hn).1
  simp only at ha
  obtain ⟨r, hr, -, -⟩ := at_some ha
  refine ⟨ins_len _ _, ?_, ?_⟩
  · unfold findR
    rw [ha]
    simp only
    rw [hr]
  · have hR : chkR ⟨2, ⟨0, 0, 0, 0, 0⟩, false, o.task.id, 0, 0⟩ = true := by
      have hw := (chkT_iff.1 hc).1 ⟨o.task, o.server⟩ (ins_mem.2 (Or.inl rfl))
      have := (okW_iff.1 hw).1
      simp only at this
      have hk := Pm.chk_iff.1 this
      exact Ox.chk_remove (by omega) (by omega)
    unfold applyR
    rw [if_neg (by simp [hc, hR]), if_neg (by simp), if_neg (by simp)]
    simp only
    rw [ha]
    simp only
    rw [if_neg (by simp), hcut]
end Go.Proofs.Ytnaanahgflbihaa.Tb
