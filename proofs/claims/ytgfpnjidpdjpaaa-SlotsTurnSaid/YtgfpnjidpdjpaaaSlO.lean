/- What a Write, a fault and a crash make of the rows of both slots. -/
import Derived.Test.YtgfpnjidpdjpaaaSlN
import Derived.Test.YtgfpnjidpdjpaaaSlJ
import Derived.Test.YtgfpnjidpdjpaaaDkC
namespace Go.Proofs.Ytgfpnjidpdjpaaa.Sl
open Dk (DS)
set_option maxRecDepth 100000
set_option linter.unusedVariables false
set_option linter.unusedSimpArgs false
theorem wrs_get {a : Nat} {data : List UInt8} {e n i : Nat} (h : i < n) : (wrs a data e n)[i]? = some (wrAt a data e i) := by simp [wrs, h]
theorem last_wrs (O : List (Nat × List UInt8)) (a : Nat) (data : List UInt8) (e n j : Nat) : Dk.lastOf (O ++ wrs a data e n) j = if a ≤ j ∧ j < a + n then some (sec (payAt data (j - a)) e (j - a)) else Dk.lastOf O j := by
  induction n with
  | zero => rw [if_neg (by omega)]; simp [wrs]
  | succ n ih =>
    rw [wrs_succ, ← List.append_assoc, Dk.lastOf_snoc, ih]
    unfold wrAt
    dsimp only
    by_cases h : a + n = j
    · rw [if_pos h, if_pos (by omega), show j - a = n by omega]
    · rw [if_neg h]
      by_cases h2 : a ≤ j ∧ j < a + n
      · rw [if_pos h2, if_pos (by omega)]
      · rw [if_neg h2, if_neg (by omega)]
theorem newest_put (s : DS) (a : Nat) (data : List UInt8) (e n f r j : Nat) : Dk.newestOf ⟨s.sec, s.opn ++ wrs a data e n, f, r⟩ j = if a ≤ j ∧ j < a + n then sec (payAt data (j - a)) e (j - a) else Dk.newestOf s j := by
  unfold Dk.newestOf
  dsimp only
  rw [last_wrs]
  split <;> rfl
/-- the row that is written, the first n of it -/
theorem row_put {s : DS} {a k : Nat} {data : List UInt8} {e n f r : Nat} (hn : n ≤ k) (ok : s.Ok) (ha : a + k ≤ s.sec.length) : rowOf ⟨s.sec, s.opn ++ wrs a data e n, f, r⟩ a k = mixRow k data e (fun i => if i < n then 64 else 0) (rowOf s a k) := by
  unfold rowOf mixRow
  apply List.map_congr_left
  intro i hi
  simp only [List.mem_range] at hi
  rw [newest_put]
  simp only [List.getElem?_map, List.getElem?_range hi, Option.map_some, Option.getD_some]
  have hl := Dk.newestOf_length ok (a := a + i) (by omega)
  by_cases h : i < n
  · rw [if_pos (by omega), if_pos h, mix_all (sec_length (payAt_len _ _) _ _) hl (Nat.le_refl _), show a + i - a = i by omega]
  · rw [if_neg (by omega), if_neg h, mix_zero]
/-- the other one stays -/
theorem row_other {s : DS} {a c k : Nat} {data : List UInt8} {e n f r : Nat} (h : c + k ≤ a ∨ a + n ≤ c) : rowOf ⟨s.sec, s.opn ++ wrs a data e n, f, r⟩ c k = rowOf s c k := by
  unfold rowOf
  apply List.map_congr_left
  intro i hi
  simp only [List.mem_range] at hi
  rw [newest_put, if_neg (by omega)]
theorem wrs_ok {s : DS} (ok : s.Ok) {a : Nat} {data : List UInt8} {e n f r : Nat} (ha : a + n ≤ s.sec.length) : (DS.mk s.sec (s.opn ++ wrs a data e n) f r).Ok := by
  refine ⟨ok.len, ok.sec, fun p hp => ?_⟩
  rcases List.mem_append.1 hp with h | h
  · exact ok.opn p h
  · unfold wrs at h
    simp only [List.mem_map, List.mem_range] at h
    obtain ⟨i, hi, rfl⟩ := h
    exact ⟨by show a + i < s.sec.length; omega, sec_length (payAt_len _ _) _ _⟩
theorem row_flush {s : DS} (ok : s.Ok) {f r c k : Nat} (hc : c + k ≤ s.sec.length) : rowOf ⟨Dk.flushedS s, [], f, r⟩ c k = rowOf s c k := by
  unfold rowOf
  apply List.map_congr_left
  intro i hi
  simp only [List.mem_range] at hi
  have := Dk.newest_flushed ok (k := c + i) (by omega)
  rw [← this]
  rfl
theorem row_with (s : DS) (f r c k : Nat) : rowOf ⟨s.sec, s.opn, f, r⟩ c k = rowOf s c k := rfl
/-- a row of a disk that has no open writes, laid in part -/
theorem laid_wrs {S : List (List UInt8)} {a M : Nat} {data : List UInt8} {e : Nat} {g : Nat → Nat} (ha : a + M ≤ S.length) (j : Nat) (hj : j < S.length) (i : Nat) (hi : i ≤ M) :
    (Dk.laid S (wrs a data e M) g i)[j]? = some (if a ≤ j ∧ j < a + i then mix (g (j - a)) (sec (payAt data (j - a)) e (j - a)) S[j] else S[j]) := by
  induction i with
  | zero => rw [if_neg (by omega)]; simp [Dk.laid, hj]
  | succ i ih =>
    have hlt : i < (wrs a data e M).length := by rw [wrs_length]; omega
    have hg : (wrs a data e M)[i] = wrAt a data e i := by simp [wrs]
    have hj' : j < (Dk.laid S (wrs a data e M) g i).length := by rw [Dk.laid_length]; exact hj
    have ihh := ih (by omega)
    rw [List.getElem?_eq_getElem hj'] at ihh
    have ih' := Option.some.inj ihh
    rw [Dk.laid_succ hlt, Dk.putS_get _ _ _ _ _ hj', hg, ih']
    unfold wrAt
    dsimp only
    congr 1
    by_cases h : a + i = j
    · rw [if_pos h, if_neg (by omega), if_pos (by omega), show j - a = i by omega]
      rfl
    · rw [if_neg h]
      by_cases h2 : a ≤ j ∧ j < a + i
      · rw [if_pos h2, if_pos (by omega)]
      · rw [if_neg h2, if_neg (by omega)]
theorem newest_plain {S : List (List UInt8)} {f r j : Nat} (hj : j < S.length) : Dk.newestOf ⟨S, [], f, r⟩ j = S[j] := by
  unfold Dk.newestOf; simp [Dk.lastOf, hj]
theorem row_crash {s : DS} {a k M : Nat} {data : List UInt8} {e f r f' r' : Nat} {fs : List (Int × Int)} (hs : s.opn = []) (hM : M ≤ k) (ha : a + k ≤ s.sec.length) :
    rowOf ⟨Dk.crashedS ⟨s.sec, s.opn ++ wrs a data e M, f, r⟩ fs, [], f', r'⟩ a k = mixRow k data e (fun i => if i < M then Dk.keptAt fs i else 0) (rowOf s a k) := by
  unfold Dk.crashedS rowOf mixRow
  apply List.map_congr_left
  intro i hi
  simp only [List.mem_range] at hi
  dsimp only
  rw [hs, List.nil_append, wrs_length]
  have hlen : (Dk.laid s.sec (wrs a data e M) (Dk.keptAt fs) M).length = s.sec.length := Dk.laid_length _ _ _ _
  rw [newest_plain (by rw [hlen]; omega)]
  have hg := laid_wrs (S := s.sec) (a := a) (M := M) (data := data) (e := e) (g := Dk.keptAt fs) (by omega) (a + i) (by omega) M (Nat.le_refl _)
  rw [List.getElem?_eq_getElem (by rw [hlen]; omega)] at hg
  rw [Option.some.inj hg]
  simp only [List.getElem?_map, List.getElem?_range hi, Option.map_some, Option.getD_some]
  have hns : Dk.newestOf s (a + i) = s.sec[a + i]'(by omega) := by
    unfold Dk.newestOf; rw [hs]; simp [Dk.lastOf, show a + i < s.sec.length by omega]
  rw [hns]
  by_cases h : i < M
  · rw [if_pos (by omega), if_pos h, show a + i - a = i by omega]
  · rw [if_neg (by omega), if_neg h, mix_zero]
theorem row_crash_other {s : DS} {a c k M : Nat} {data : List UInt8} {e f r f' r' : Nat} {fs : List (Int × Int)} (hs : s.opn = []) (ha : a + M ≤ s.sec.length) (hc : c + k ≤ s.sec.length) (h : c + k ≤ a ∨ a + M ≤ c) :
    rowOf ⟨Dk.crashedS ⟨s.sec, s.opn ++ wrs a data e M, f, r⟩ fs, [], f', r'⟩ c k = rowOf s c k := by
  unfold Dk.crashedS rowOf
  apply List.map_congr_left
  intro i hi
  simp only [List.mem_range] at hi
  dsimp only
  rw [hs, List.nil_append, wrs_length]
  have hlen : (Dk.laid s.sec (wrs a data e M) (Dk.keptAt fs) M).length = s.sec.length := Dk.laid_length _ _ _ _
  rw [newest_plain (by rw [hlen]; omega)]
  have hg := laid_wrs (S := s.sec) (a := a) (M := M) (data := data) (e := e) (g := Dk.keptAt fs) (by omega) (c + i) (by omega) M (Nat.le_refl _)
  rw [List.getElem?_eq_getElem (by rw [hlen]; omega)] at hg
  rw [Option.some.inj hg, if_neg (by omega)]
  unfold Dk.newestOf; rw [hs]; simp [Dk.lastOf, show c + i < s.sec.length by omega]
end Go.Proofs.Ytgfpnjidpdjpaaa.Sl
