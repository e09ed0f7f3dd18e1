/- The mathematics of two slots: what a row of sectors tells, what a Read and a Write make of a disk. -/
import Derived.Test.YtcbemjckcmcelaaMFr
import Derived.Test.YtcbemjckcmcelaaMDa
namespace Go.Proofs.Ytcbemjckcmcelaa.Sl
open Dk (DS)
set_option maxRecDepth 100000
set_option linter.unusedVariables false
set_option linter.unusedSimpArgs false
theorem tagE_lt (l : List UInt8) : tagE l < 18446744073709551616 := by unfold tagE; split; exact epochOf_lt l; omega
/-- the greatest epoch of the first i sectors -/
def newestTo (L : List (List UInt8)) (i : Nat) : Nat := (L.take i).foldl (fun m l => max m (tagE l)) 0
theorem newestTo_zero (L : List (List UInt8)) : newestTo L 0 = 0 := rfl
theorem newestTo_succ {L : List (List UInt8)} {i : Nat} (h : i < L.length) : newestTo L (i + 1) = max (newestTo L i) (tagE L[i]) := by
  unfold newestTo
  rw [List.take_add_one, List.getElem?_eq_getElem h, List.foldl_append]
  rfl
theorem newestTo_lt (L : List (List UInt8)) (i : Nat) (h : i ≤ L.length) : newestTo L i < 18446744073709551616 := by
  induction i with
  | zero => rw [newestTo_zero]; omega
  | succ i ih => rw [newestTo_succ (by omega)]; have := tagE_lt L[i]; have := ih (by omega); omega
def newestL (L : List (List UInt8)) : Nat := newestTo L L.length
theorem newestL_lt (L : List (List UInt8)) : newestL L < 18446744073709551616 := newestTo_lt L _ (Nat.le_refl _)
theorem newestTo_ge {L : List (List UInt8)} {i j : Nat} (hj : j < i) (hi : i ≤ L.length) : tagE (L[j]'(by omega)) ≤ newestTo L i := by
  induction i with
  | zero => omega
  | succ i ih =>
    rw [newestTo_succ (by omega)]
    rcases Nat.lt_or_ge j i with h | h
    · have := ih h (by omega); omega
    · obtain rfl : j = i := by omega
      omega
theorem newestL_ge {L : List (List UInt8)} {j : Nat} (hj : j < L.length) : tagE L[j] ≤ newestL L := newestTo_ge hj (Nat.le_refl _)
theorem newestTo_le {L : List (List UInt8)} {i m : Nat} (hi : i ≤ L.length) (h : ∀ j (hj : j < L.length), j < i → tagE L[j] ≤ m) : newestTo L i ≤ m := by
  induction i with
  | zero => rw [newestTo_zero]; omega
  | succ i ih =>
    rw [newestTo_succ (by omega)]
    have := ih (by omega) (fun j hj hji => h j hj (by omega))
    have := h i (by omega) (by omega)
    omega
theorem newestL_le {L : List (List UInt8)} {m : Nat} (h : ∀ j (hj : j < L.length), tagE L[j] ≤ m) : newestL L ≤ m := newestTo_le (Nat.le_refl _) (fun j hj _ => h j hj)
theorem whole_rdc {l : List UInt8} {e n : Nat} (h : whole l e n = true) : rdc l = some (payOf l, e, n) := by
  obtain ⟨p, rfl, hp⟩ := whole_true h
  unfold whole at h
  cases hr : rdc (sec p e n) with
  | none => rw [hr] at h; cases h
  | some c =>
    obtain ⟨q, f, m⟩ := c
    rw [hr] at h
    simp at h
    obtain ⟨rfl, rfl⟩ := h
    obtain ⟨h1, h2, -, -⟩ := rdc_some hr
    have := payOf_sec hp f m
    rw [this]
    have h3 := payOf_sec h2 f m
    rw [← h1, this] at h3
    rw [h3]
theorem rdc_whole {l p : List UInt8} {e n : Nat} (h : rdc l = some (p, e, n)) (e' n' : Nat) : whole l e' n' = (e == e' && n == n') := by unfold whole; rw [h]
theorem rdc_none_whole {l : List UInt8} (h : rdc l = none) (e n : Nat) : whole l e n = false := by unfold whole; rw [h]
theorem whole_epoch {l : List UInt8} {e n : Nat} (h : whole l e n = true) : epochOf l = e ∧ numberOf l = n ∧ l.length = 64 ∧ (payOf l).length ≤ 43 := by
  have hr := whole_rdc h
  obtain ⟨h1, h2, h3, h4⟩ := rdc_some hr
  have e1 := epochOf_sec h2 h3 n
  have e2 := numberOf_sec h2 e h4
  have e3 := sec_length h2 e n
  rw [← h1] at e1 e2 e3
  exact ⟨e1, e2, e3, h2⟩
/-- the epoch of the first sector -/
def first (L : List (List UInt8)) : Nat := epochOf (L.headD [])
def allTo (L : List (List UInt8)) (i : Nat) : Prop := ∀ j (h : j < L.length), j < i → whole L[j] (first L) j = true
def paysTo (L : List (List UInt8)) (i : Nat) : List UInt8 := ((L.take i).map payOf).flatten
theorem first_get {L : List (List UInt8)} (h : 0 < L.length) : first L = epochOf L[0] := by
  unfold first
  cases L with
  | nil => simp at h
  | cons x L => rfl
theorem first_lt (L : List (List UInt8)) : first L < 18446744073709551616 := epochOf_lt _
theorem allTo_zero (L : List (List UInt8)) : allTo L 0 := fun j _ h => by omega
theorem allTo_succ {L : List (List UInt8)} {i : Nat} (hi : i < L.length) (h : allTo L i) (hw : whole L[i] (first L) i = true) : allTo L (i + 1) := fun j hj hji => by
  rcases Nat.lt_or_ge j i with h' | h'
  · exact h j hj h'
  · obtain rfl : j = i := by omega
    exact hw
theorem paysTo_zero (L : List (List UInt8)) : paysTo L 0 = [] := rfl
theorem paysTo_succ {L : List (List UInt8)} {i : Nat} (h : i < L.length) : paysTo L (i + 1) = paysTo L i ++ payOf L[i] := by
  unfold paysTo
  rw [List.take_add_one, List.getElem?_eq_getElem h, List.map_append, List.flatten_append]
  simp only [Option.toList, List.map_cons, List.map_nil, List.flatten_cons, List.flatten_nil, List.append_nil]
theorem paysTo_len {L : List (List UInt8)} : ∀ {i : Nat}, i ≤ L.length → allTo L i → (paysTo L i).length ≤ 43 * i
  | 0, _, _ => by simp [paysTo_zero]
  | i + 1, hi, h => by
    rw [paysTo_succ (by omega), List.length_append]
    have := paysTo_len (i := i) (by omega) (fun j hj hji => h j hj (by omega))
    have := (whole_epoch (h i (by omega) (by omega))).2.2.2
    omega
open Classical in
/-- what a row of sectors tells -/
noncomputable def snapL (L : List (List UInt8)) : (Nat × List UInt8) × Bool := if allTo L L.length then ((first L, paysTo L L.length), decide (0 < first L)) else ((0, []), false)
theorem snapL_yes {L : List (List UInt8)} (h : allTo L L.length) : snapL L = ((first L, paysTo L L.length), decide (0 < first L)) := by unfold snapL; rw [if_pos h]
theorem snapL_no {L : List (List UInt8)} (h : ¬ allTo L L.length) : snapL L = ((0, []), false) := by unfold snapL; rw [if_neg h]
theorem not_allTo {L : List (List UInt8)} {i : Nat} (hi : i < L.length) (h : whole L[i] (first L) i = false) : ¬ allTo L L.length := fun ha => by
  have := ha i hi hi
  rw [h] at this; cases this
theorem snapL_lt (L : List (List UInt8)) : (snapL L).1.1 < 18446744073709551616 := by
  unfold snapL; split; exact first_lt L; simp
/-- what is told of two rows, and which of them must not stay -/
noncomputable def toldOf (L0 L1 : List (List UInt8)) : (Nat × List UInt8) × Nat :=
  if (snapL L1).2 = true ∧ ((snapL L0).2 = false ∨ (snapL L0).1.1 ≤ (snapL L1).1.1) then ((snapL L1).1, 0)
  else if (snapL L0).2 = true then ((snapL L0).1, 1) else ((0, []), 0)
theorem snapL_pos {L : List (List UInt8)} (h : (snapL L).2 = true) : 0 < (snapL L).1.1 := by
  unfold snapL at *
  split
  · rename_i c; rw [if_pos c] at h; simpa using h
  · rename_i c; rw [if_neg c] at h; cases h
/-- a text's part i -/
def payAt (l : List UInt8) (i : Nat) : List UInt8 := (l.drop (43 * i)).take 43
theorem payAt_len (l : List UInt8) (i : Nat) : (payAt l i).length ≤ 43 := by unfold payAt; simp; omega
theorem chunks_at (l : List UInt8) (i : Nat) : ((chunks l)[i]?).getD [] = payAt l i := by
  induction i generalizing l with
  | zero =>
    by_cases c : 43 < l.length
    · rw [chunks_long c]; simp [payAt]
    · rw [chunks_short (by omega)]; simp [payAt]; exact (List.take_of_length_le (by omega)).symm
  | succ i ih =>
    by_cases c : 43 < l.length
    · rw [chunks_long c, List.getElem?_cons_succ, ih]
      unfold payAt
      rw [List.drop_drop]
      congr 2
      omega
    · rw [chunks_short (by omega)]
      unfold payAt
      rw [List.drop_eq_nil_of_le (by omega)]
      simp
theorem chunks_le (l : List UInt8) {k : Nat} (h : l.length ≤ 43 * k) (hk : 1 ≤ k) : (chunks l).length ≤ k := by
  induction k generalizing l with
  | zero => omega
  | succ k ih =>
    by_cases c : 43 < l.length
    · rw [chunks_long c, List.length_cons]
      have := ih (l.drop 43) (by simp; omega) (by omega)
      omega
    · rw [chunks_short (by omega)]; simp
theorem pays_all (l : List UInt8) (k : Nat) (h : l.length ≤ 43 * k) : ((List.range k).map (payAt l)).flatten = l := by
  have : ∀ m, ((List.range m).map (payAt l)).flatten = l.take (43 * m) := by
    intro m
    induction m with
    | zero => simp
    | succ m ih =>
      rw [List.range_succ, List.map_append, List.flatten_append, ih]
      simp only [List.map_cons, List.map_nil, List.flatten_cons, List.flatten_nil, List.append_nil]
      unfold payAt
      rw [show 43 * (m + 1) = 43 * m + 43 by omega, List.take_add]
  rw [this, List.take_of_length_le h]
/-- the i-th write of a Write of data, with epoch e, from place a on -/
def wrAt (a : Nat) (data : List UInt8) (e i : Nat) : Nat × List UInt8 := (a + i, sec (payAt data i) e i)
def wrs (a : Nat) (data : List UInt8) (e n : Nat) : List (Nat × List UInt8) := (List.range n).map (wrAt a data e)
theorem wrs_succ (a : Nat) (data : List UInt8) (e n : Nat) : wrs a data e (n + 1) = wrs a data e n ++ [wrAt a data e n] := by simp [wrs, List.range_succ]
theorem wrs_length (a : Nat) (data : List UInt8) (e n : Nat) : (wrs a data e n).length = n := by simp [wrs]
/-- what a Write makes of a disk -/
def putR (s : DS) (a k : Nat) (data : List UInt8) (e : Nat) : DS × Bool :=
  if 1 ≤ s.fail ∧ s.fail ≤ k + 1 then (⟨s.sec, s.opn ++ wrs a data e (s.fail - 1), 0, s.reads⟩, false)
  else (⟨Dk.flushedS ⟨s.sec, s.opn ++ wrs a data e k, 0, s.reads⟩, [], s.fail - (k + 1), s.reads⟩, true)
/-- what a Read makes of a disk -/
def gotR (s : DS) (k : Nat) : DS := ⟨s.sec, s.opn, s.fail - 2 * k, s.reads + 2 * k⟩
def rowOf (s : DS) (a k : Nat) : List (List UInt8) := (List.range k).map fun i => Dk.newestOf s (a + i)
theorem rowOf_length (s : DS) (a k : Nat) : (rowOf s a k).length = k := by simp [rowOf]
theorem rowOf_get (s : DS) (a k : Nat) {i : Nat} (h : i < (rowOf s a k).length) : (rowOf s a k)[i] = Dk.newestOf s (a + i) := by simp [rowOf]
end Go.Proofs.Ytcbemjckcmcelaa.Sl
