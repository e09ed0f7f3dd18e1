/- A sector of which the first bytes are new: whose tag it has. -/
import Derived.Test.YtcbemjckcmcelaaSlMath
namespace Go.Proofs.Ytcbemjckcmcelaa.Sl
open Dk (DS)
set_option maxRecDepth 100000
set_option linter.unusedVariables false
set_option linter.unusedSimpArgs false
/-- the first j bytes are new -/
def mix (j : Nat) (n o : List UInt8) : List UInt8 := n.take j ++ o.drop j
theorem mix_zero (n o : List UInt8) : mix 0 n o = o := by simp [mix]
theorem mix_all {j : Nat} {n o : List UInt8} (hn : n.length = 64) (ho : o.length = 64) (hj : 64 ≤ j) : mix j n o = n := by
  unfold mix
  rw [List.take_of_length_le (by omega), List.drop_eq_nil_of_le (by omega), List.append_nil]
theorem mix_length {j : Nat} {n o : List UInt8} (hn : n.length = 64) (ho : o.length = 64) : (mix j n o).length = 64 := by
  unfold mix; simp; omega
theorem small_zero {l : List UInt8} (hl : l.length = 8) (hv : val l < 256) {j : Nat} (hj : j ≤ 7) : l.take j = List.replicate j 0 := by
  have e := be_val l
  rw [hl] at e
  rw [← e]
  apply List.ext_getElem
  · simp [be_length]; omega
  · intro i h1 h2
    simp only [List.length_replicate] at h2
    rw [List.getElem_take, be_get, List.getElem_replicate]
    have h3 : 256 ^ 1 ≤ 256 ^ (8 - 1 - i) := Nat.pow_le_pow_right (by omega) (by omega)
    rw [Nat.div_eq_of_lt (by omega)]
    rfl
theorem mix_tag {p o : List UInt8} {E i j : Nat} (hp : p.length ≤ 43) (hE : E < 256) (hi : i < 256) (ho : o.length = 64) (he : epochOf o < 256) (hn : numberOf o < 256) :
    (mix j (sec p E i) o).drop 48 = o.drop 48 ∨ ((mix j (sec p E i) o).drop 48 = be 8 E ++ o.drop 56 ∧ (mix j (sec p E i) o).take 48 = (sec p E i).take 48) ∨ mix j (sec p E i) o = sec p E i := by
  have l64 := sec_length hp E i
  have ht := sec_tag hp E i
  have oe : ((o.drop 48).take 8).length = 8 := by simp; omega
  have on' : ((o.drop 56).take 8).length = 8 := by simp; omega
  rcases Nat.lt_or_ge 48 j with h1 | h1
  · rcases Nat.lt_or_ge 55 j with h2 | h2
    · rcases Nat.lt_or_ge 63 j with h3 | h3
      · exact .inr (.inr (mix_all l64 ho (by omega)))
      · right; left
        constructor
        · unfold mix
          rw [List.drop_append, show 48 - ((sec p E i).take j).length = 0 by simp; omega, List.drop_zero, List.drop_take, ht, List.take_append, be_length, List.take_of_length_le (by rw [be_length]; omega), List.append_assoc]
          congr 1
          rw [small_zero (be_length 8 i) (by rw [val_be (by rw [pow8]; omega)]; exact hi) (by omega)]
          have e1 : o.drop 56 = (o.drop 56).take (j - 48 - 8) ++ o.drop j := by
            conv => lhs; rw [← List.take_append_drop (j - 48 - 8) (o.drop 56)]
            rw [List.drop_drop]; congr 2; omega
          rw [e1]
          congr 1
          have e2 : (o.drop 56).take (j - 48 - 8) = ((o.drop 56).take 8).take (j - 48 - 8) := by rw [List.take_take]; congr 1; omega
          rw [e2, small_zero on' hn (by omega)]
        · unfold mix
          rw [List.take_append_of_le_length (by simp; omega), List.take_take]
          congr 1; omega
    · left
      unfold mix
      rw [List.drop_append, show 48 - ((sec p E i).take j).length = 0 by simp; omega, List.drop_zero, List.drop_take, ht, List.take_append_of_le_length (by rw [be_length]; omega), small_zero (be_length 8 E) (by rw [val_be (by rw [pow8]; omega)]; exact hE) (by omega)]
      have e1 : o.drop 48 = (o.drop 48).take (j - 48) ++ o.drop j := by
        conv => lhs; rw [← List.take_append_drop (j - 48) (o.drop 48)]
        rw [List.drop_drop]; congr 2; omega
      conv => rhs; rw [e1]
      congr 1
      have e2 : (o.drop 48).take (j - 48) = ((o.drop 48).take 8).take (j - 48) := by rw [List.take_take]; congr 1; omega
      rw [e2, small_zero oe he (by omega)]
  · left
    unfold mix
    rw [List.drop_append, List.drop_eq_nil_of_le (by simp; omega), List.nil_append, List.drop_drop]
    congr 1
    simp; omega
theorem mix_cases {p o : List UInt8} {E i j : Nat} (hp : p.length ≤ 43) (hE : E < 256) (hi : i < 256) (ho : o.length = 64) (he : epochOf o < 256) (hn : numberOf o < 256) :
    (epochOf (mix j (sec p E i) o) = epochOf o ∧ numberOf (mix j (sec p E i) o) = numberOf o) ∨ (epochOf (mix j (sec p E i) o) = E ∧ numberOf (mix j (sec p E i) o) = numberOf o ∧ (numberOf o = i → mix j (sec p E i) o = sec p E i)) ∨ mix j (sec p E i) o = sec p E i := by
  rcases mix_tag (j := j) hp hE hi ho he hn with h | ⟨h, h2⟩ | h
  · left
    unfold epochOf numberOf
    rw [show 56 = 48 + 8 from rfl, ← List.drop_drop, ← List.drop_drop, h]
    exact ⟨rfl, rfl⟩
  · right; left
    have d56 : (mix j (sec p E i) o).drop 56 = o.drop 56 := by
      rw [show 56 = 48 + 8 from rfl, ← List.drop_drop, h, List.drop_left' (be_length 8 E)]
    refine ⟨?_, ?_, fun hni => ?_⟩
    · unfold epochOf
      rw [h, List.take_left' (be_length 8 E), val_be (by rw [pow8]; omega)]
    · unfold numberOf
      rw [d56]
    · have l8 : (o.drop 56).length = 8 := by simp; omega
      have e8 : o.drop 56 = be 8 i := by
        have := be_val (o.drop 56)
        rw [l8] at this
        rw [← this]
        congr 1
        unfold numberOf at hni
        rw [List.take_of_length_le (by omega)] at hni
        exact hni
      rw [← List.take_append_drop 48 (mix j (sec p E i) o), h2, h, e8, ← sec_tag hp E i, List.take_append_drop]
  · exact .inr (.inr h)
end Go.Proofs.Ytcbemjckcmcelaa.Sl
