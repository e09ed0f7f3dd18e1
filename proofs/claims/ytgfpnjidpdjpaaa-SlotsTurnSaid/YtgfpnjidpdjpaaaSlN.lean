/- One slot is always whole: what a Write, a fault and a crash leave of two rows of sectors. -/
import Derived.Test.YtgfpnjidpdjpaaaSlI
import Derived.Test.YtgfpnjidpdjpaaaDkL
namespace Go.Proofs.Ytgfpnjidpdjpaaa.Sl
open Dk (DS)
set_option maxRecDepth 100000
set_option linter.unusedVariables false
set_option linter.unusedSimpArgs false
/-- the first j bytes are new -/
def mix (j : Nat) (n o : List UInt8) : List UInt8 := n.take j ++ o.drop j
theorem mix_zero (n o : List UInt8) : mix 0 n o = o := by simp [mix]
theorem mix_all {j : Nat} {n o : List UInt8} (hn : n.length = 64) (ho : o.length = 64) (hj : 64 ≤ j) : mix j n o = n := by
  unfold mix
  rw [List.take_of_length_le (by omega), List.drop_eq_nil_of_le (by omega), List.append_nil]
theorem mix_length {j : Nat} {n o : List UInt8} (hn : n.length = 64) (ho : o.length = 64) : (mix j n o).length = 64 := by
  unfold mix; simp; omega
theorem small_zero {l : List UInt8} (hl : l.length = 8) (hv : val l < 256) {j : Nat} (hj : j ≤ 7) : l.take j = List.replicate j 0 := by
  have e := be_val l
  rw [hl] at e
  rw [← e]
  apply List.ext_getElem
  · simp [be_length]; omega
  · intro i h1 h2
    simp only [List.length_replicate] at h2
    rw [List.getElem_take, be_get, List.getElem_replicate]
    have h3 : 256 ^ 1 ≤ 256 ^ (8 - 1 - i) := Nat.pow_le_pow_right (by omega) (by omega)
    rw [Nat.div_eq_of_lt (by omega)]
    rfl
theorem mix_tag {p o : List UInt8} {E i j : Nat} (hp : p.length ≤ 43) (hE : E < 256) (hi : i < 256) (ho : o.length = 64) (he : epochOf o < 256) (hn : numberOf o < 256) :
    (mix j (sec p E i) o).drop 48 = o.drop 48 ∨ ((mix j (sec p E i) o).drop 48 = be 8 E ++ o.drop 56 ∧ (mix j (sec p E i) o).take 48 = (sec p E i).take 48) ∨ mix j (sec p E i) o = sec p E i := by
  have l64 := sec_length hp E i
  have ht := sec_tag hp E i
  have oe : ((o.drop 48).take 8).length = 8 := by simp; omega
  have on' : ((o.drop 56).take 8).length = 8 := by simp; omega
  rcases Nat.lt_or_ge 48 j with h1 | h1
  · rcases Nat.lt_or_ge 55 j with h2 | h2
    · rcases Nat.lt_or_ge 63 j with h3 | h3
      · exact .inr (.inr (mix_all l64 ho (by omega)))
      · right; left
        constructor
        · unfold mix
          rw [List.drop_append, show 48 - ((sec p E i).take j).length = 0 by simp; omega, List.drop_zero, List.drop_take, ht, List.take_append, be_length, List.take_of_length_le (by rw [be_length]; omega), List.append_assoc]
          congr 1
          rw [small_zero (be_length 8 i) (by rw [val_be (by rw [pow8]; omega)]; exact hi) (by omega)]
          have e1 : o.drop 56 = (o.drop 56).take (j - 48 - 8) ++ o.drop j := by
            conv => lhs; rw [← List.take_append_drop (j - 48 - 8) (o.drop 56)]
            rw [List.drop_drop]; congr 2; omega
          rw [e1]
          congr 1
          have e2 : (o.drop 56).take (j - 48 - 8) = ((o.drop 56).take 8).take (j - 48 - 8) := by rw [List.take_take]; congr 1; omega
          rw [e2, small_zero on' hn (by omega)]
        · unfold mix
          rw [List.take_append_of_le_length (by simp; omega), List.take_take]
          congr 1; omega
    · left
      unfold mix
      rw [List.drop_append, show 48 - ((sec p E i).take j).length = 0 by simp; omega, List.drop_zero, List.drop_take, ht, List.take_append_of_le_length (by rw [be_length]; omega), small_zero (be_length 8 E) (by rw [val_be (by rw [pow8]; omega)]; exact hE) (by omega)]
      have e1 : o.drop 48 = (o.drop 48).take (j - 48) ++ o.drop j := by
        conv => lhs; rw [← List.take_append_drop (j - 48) (o.drop 48)]
        rw [List.drop_drop]; congr 2; omega
      conv => rhs; rw [e1]
      congr 1
      have e2 : (o.drop 48).take (j - 48) = ((o.drop 48).take 8).take (j - 48) := by rw [List.take_take]; congr 1; omega
      rw [e2, small_zero oe he (by omega)]
  · left
    unfold mix
    rw [List.drop_append, List.drop_eq_nil_of_le (by simp; omega), List.nil_append, List.drop_drop]
    congr 1
    simp; omega
theorem mix_cases {p o : List UInt8} {E i j : Nat} (hp : p.length ≤ 43) (hE : E < 256) (hi : i < 256) (ho : o.length = 64) (he : epochOf o < 256) (hn : numberOf o < 256) :
    (epochOf (mix j (sec p E i) o) = epochOf o ∧ numberOf (mix j (sec p E i) o) = numberOf o) ∨ (epochOf (mix j (sec p E i) o) = E ∧ numberOf (mix j (sec p E i) o) = numberOf o ∧ (numberOf o = i → mix j (sec p E i) o = sec p E i)) ∨ mix j (sec p E i) o = sec p E i := by
  rcases mix_tag (j := j) hp hE hi ho he hn with h | ⟨h, h2⟩ | h
  · left
    unfold epochOf numberOf
    rw [show 56 = 48 + 8 from rfl, ← List.drop_drop, ← List.drop_drop, h]
    exact ⟨rfl, rfl⟩
  · right; left
    have d56 : (mix j (sec p E i) o).drop 56 = o.drop 56 := by
      rw [show 56 = 48 + 8 from rfl, ← List.drop_drop, h, List.drop_left' (be_length 8 E)]
    refine ⟨?_, ?_, fun hni => ?_⟩
    · unfold epochOf
      rw [h, List.take_left' (be_length 8 E), val_be (by rw [pow8]; omega)]
    · unfold numberOf
      rw [d56]
    · have l8 : (o.drop 56).length = 8 := by simp; omega
      have e8 : o.drop 56 = be 8 i := by
        have := be_val (o.drop 56)
        rw [l8] at this
        rw [← this]
        congr 1
        unfold numberOf at hni
        rw [List.take_of_length_le (by omega)] at hni
        exact hni
      rw [← List.take_append_drop 48 (mix j (sec p E i) o), h2, h, e8, ← sec_tag hp E i, List.take_append_drop]
  · exact .inr (.inr h)
/-- all are of that epoch, in order -/
def full (L : List (List UInt8)) (e : Nat) : Prop := ∀ j (h : j < L.length), epochOf L[j] = e ∧ numberOf L[j] = j
theorem full_of_all {L : List (List UInt8)} (h : allTo L L.length) : full L (first L) := fun j hj => by
  have := whole_epoch (h j hj hj)
  exact ⟨this.1, this.2.1⟩
theorem snap_none {L : List (List UInt8)} (h : ∀ e, 1 ≤ e → ¬ full L e) : (snapL L).2 = false := by
  by_cases ha : allTo L L.length
  · rw [snapL_yes ha]
    have := h (first L)
    simp only [decide_eq_false_iff_not, Nat.not_lt]
    rcases Nat.eq_zero_or_pos (first L) with h0 | h0
    · omega
    · exact absurd (full_of_all ha) (this h0)
  · rw [snapL_no ha]
theorem snap_less {L : List (List UInt8)} {e : Nat} (h : ∀ f, e ≤ f → ¬ full L f) (hs : (snapL L).2 = true) : (snapL L).1.1 < e := by
  by_cases ha : allTo L L.length
  · rw [snapL_yes ha]
    show first L < e
    rcases Nat.lt_or_ge (first L) e with h1 | h1
    · exact h1
    · exact absurd (full_of_all ha) (h _ h1)
  · rw [snapL_no ha] at hs; cases hs
theorem snap_all {L : List (List UInt8)} {e : Nat} (h0 : 0 < L.length) (he : 1 ≤ e) (h : ∀ j (hj : j < L.length), whole L[j] e j = true) : snapL L = ((e, paysTo L L.length), true) := by
  have hf : first L = e := by rw [first_get h0]; exact (whole_epoch (h 0 h0)).1
  have ha : allTo L L.length := fun j hj _ => by rw [hf]; exact h j hj
  rw [snapL_yes ha, hf]
  simp; omega
/-- X may be written, Y has what is told -/
structure InvT (k N : Nat) (X Y : List (List UInt8)) (told : Option (Nat × List UInt8)) : Prop where
  lx : X.length = k
  ly : Y.length = k
  sx : ∀ x ∈ X, x.length = 64 ∧ epochOf x ≤ N ∧ numberOf x < 256
  sy : ∀ x ∈ Y, x.length = 64 ∧ epochOf x ≤ N ∧ numberOf x < 256
  tn : told = none → ∀ e, 1 ≤ e → ¬ full X e ∧ ¬ full Y e
  ts : ∀ e d, told = some (e, d) → 1 ≤ e ∧ (∀ j (hj : j < Y.length), whole Y[j] e j = true) ∧ paysTo Y Y.length = d ∧ ∀ f, e ≤ f → ¬ full X f
def mixRow (k : Nat) (data : List UInt8) (E : Nat) (g : Nat → Nat) (X : List (List UInt8)) : List (List UInt8) := (List.range k).map fun i => mix (g i) (sec (payAt data i) E i) (X[i]?.getD [])
theorem mixRow_length (k : Nat) (data : List UInt8) (E : Nat) (g : Nat → Nat) (X : List (List UInt8)) : (mixRow k data E g X).length = k := by simp [mixRow]
theorem mixRow_get {k : Nat} {data : List UInt8} {E : Nat} {g : Nat → Nat} {X : List (List UInt8)} {i : Nat} (h : i < (mixRow k data E g X).length) (hx : i < X.length) : (mixRow k data E g X)[i] = mix (g i) (sec (payAt data i) E i) X[i] := by
  simp [mixRow, hx]
theorem InvT.fresh {k N E : Nat} {X Y : List (List UInt8)} {told : Option (Nat × List UInt8)} {data : List UInt8} {g : Nat → Nat} (h : InvT k N X Y told) (hk : 1 ≤ k) (hk2 : k ≤ 64) (hE : N < E) (hE2 : E < 256) (hd : data.length ≤ 43 * k)
    (hall : ∀ i (hi : i < k), mix (g i) (sec (payAt data i) E i) (X[i]'(by rw [h.lx]; exact hi)) = sec (payAt data i) E i) : InvT k E Y (mixRow k data E g X) (some (E, data)) := by
  have get : ∀ i (hi : i < (mixRow k data E g X).length), (mixRow k data E g X)[i] = sec (payAt data i) E i := fun i hi => by
    have hik : i < k := by rw [mixRow_length] at hi; exact hi
    rw [mixRow_get hi (by rw [h.lx]; exact hik)]
    exact hall i hik
  refine ⟨h.ly, mixRow_length _ _ _ _ _, fun x hx => ?_, fun x hx => ?_, fun hn => (by cases hn), fun e d he => ?_⟩
  · have := h.sy x hx; exact ⟨this.1, by omega, this.2.2⟩
  · obtain ⟨i, hi, rfl⟩ := List.getElem_of_mem hx
    rw [get i hi]
    have hik : i < k := by rw [mixRow_length] at hi; exact hi
    exact ⟨sec_length (payAt_len _ _) _ _, by rw [epochOf_sec (payAt_len _ _) (by omega)]; omega, by rw [numberOf_sec (payAt_len _ _) _ (by omega)]; omega⟩
  · cases he
    refine ⟨by omega, fun j hj => ?_, ?_, fun f hf hfull => ?_⟩
    · have hjk : j < k := by rw [mixRow_length] at hj; exact hj
      rw [get j hj, whole_sec (payAt_len _ _) (by omega) (by omega)]
      simp
    · have hp : ∀ m, m ≤ k → paysTo (mixRow k data E g X) m = ((List.range m).map (payAt data)).flatten := by
        intro m
        induction m with
        | zero => intro _; simp [paysTo_zero]
        | succ m ih =>
          intro hm
          have hmk : m < (mixRow k data E g X).length := by rw [mixRow_length]; omega
          rw [paysTo_succ hmk, ih (by omega), get m hmk, payOf_sec (payAt_len _ _), List.range_succ, List.map_append, List.flatten_append]
          simp
      rw [mixRow_length, hp k (Nat.le_refl _), pays_all data k hd]
    · have hy0 : 0 < Y.length := by rw [h.ly]; omega
      have h1 := (hfull 0 hy0).1
      have h2 := (h.sy Y[0] (List.getElem_mem hy0)).2.1
      omega
theorem InvT.step {k N E : Nat} {X Y : List (List UInt8)} {told : Option (Nat × List UInt8)} {data : List UInt8} (g : Nat → Nat) (h : InvT k N X Y told) (hk : 1 ≤ k) (hk2 : k ≤ 64) (hE : N < E) (hE2 : E < 256) (hd : data.length ≤ 43 * k) :
    InvT k E Y (mixRow k data E g X) (some (E, data)) ∨ InvT k E (mixRow k data E g X) Y told := by
  have gc : ∀ i (hi : i < k), _ := fun i hi => mix_cases (p := payAt data i) (o := X[i]'(by rw [h.lx]; exact hi)) (E := E) (i := i) (j := g i) (payAt_len _ _) hE2 (by omega) (h.sx _ (List.getElem_mem _)).1 (by have := (h.sx _ (List.getElem_mem (by rw [h.lx]; exact hi))).2.1; omega) (h.sx _ (List.getElem_mem _)).2.2
  have ob : ∀ i (hi : i < k), epochOf (X[i]'(by rw [h.lx]; exact hi)) ≤ N := fun i hi => (h.sx _ (List.getElem_mem _)).2.1
  have es : ∀ i, epochOf (sec (payAt data i) E i) = E := fun i => epochOf_sec (payAt_len _ _) (by omega) i
  by_cases hall : ∀ i (hi : i < k), mix (g i) (sec (payAt data i) E i) (X[i]'(by rw [h.lx]; exact hi)) = sec (payAt data i) E i
  · exact .inl (h.fresh hk hk2 hE hE2 hd hall)
  · right
    have get : ∀ i (hi : i < (mixRow k data E g X).length) (hik : i < k), (mixRow k data E g X)[i] = mix (g i) (sec (payAt data i) E i) (X[i]'(by rw [h.lx]; exact hik)) := fun i hi hik => mixRow_get hi _
    have old : ∀ f, f ≠ E → full (mixRow k data E g X) f → full X f := fun f hf hfull j hj => by
      have hjk : j < k := by rw [← h.lx]; exact hj
      have hjm : j < (mixRow k data E g X).length := by rw [mixRow_length]; exact hjk
      have ht := hfull j hjm
      rw [get j hjm hjk] at ht
      rcases gc j hjk with ⟨h1, h2⟩ | ⟨h1, h2, h3⟩ | h1
      · rw [h1, h2] at ht; exact ht
      · rw [h1] at ht; exact absurd ht.1.symm hf
      · rw [h1, es] at ht; exact absurd ht.1.symm hf
    have notE : ¬ full (mixRow k data E g X) E := fun hfull => hall fun i hi => by
      have him : i < (mixRow k data E g X).length := by rw [mixRow_length]; exact hi
      have ht := hfull i him
      rw [get i him hi] at ht
      rcases gc i hi with ⟨h1, h2⟩ | ⟨h1, h2, h3⟩ | h1
      · have := ob i hi; rw [h1] at ht; omega
      · exact h3 (by rw [← h2]; exact ht.2)
      · exact h1
    refine ⟨mixRow_length _ _ _ _ _, h.ly, fun x hx => ?_, fun x hx => ?_, fun hn e he => ?_, fun e d he => ?_⟩
    · obtain ⟨i, hi, rfl⟩ := List.getElem_of_mem hx
      have hik : i < k := by rw [mixRow_length] at hi; exact hi
      rw [get i hi hik]
      have hx' := h.sx _ (List.getElem_mem (show i < X.length by rw [h.lx]; exact hik))
      refine ⟨mix_length (sec_length (payAt_len _ _) _ _) hx'.1, ?_⟩
      rcases gc i hik with ⟨h1, h2⟩ | ⟨h1, h2, h3⟩ | h1
      · rw [h1, h2]; exact ⟨by omega, hx'.2.2⟩
      · rw [h1, h2]; exact ⟨Nat.le_refl _, hx'.2.2⟩
      · rw [h1, es, numberOf_sec (payAt_len _ _) _ (by omega)]; exact ⟨Nat.le_refl _, by omega⟩
    · have := h.sy x hx; exact ⟨this.1, by omega, this.2.2⟩
    · refine ⟨fun hf => ?_, (h.tn hn e he).2⟩
      by_cases e1 : e = E
      · rw [e1] at hf; exact notE hf
      · exact (h.tn hn e he).1 (old e e1 hf)
    · obtain ⟨h1, h2, h3, h4⟩ := h.ts e d he
      refine ⟨h1, h2, h3, fun f hf hfull => ?_⟩
      by_cases e1 : f = E
      · rw [e1] at hfull; exact notE hfull
      · exact h4 f hf (old f e1 hfull)
theorem step_not {i : Nat} {L : List (List UInt8)} {T : (Nat × List UInt8) × Nat} (h : (snapL L).2 = false) : stepT i L T = T := by
  unfold stepT; rw [if_neg]; rintro ⟨h1, _⟩; rw [h] at h1; cases h1
/-- what is told: the first may be written -/
theorem InvT.read0 {k N : Nat} {L0 L1 : List (List UInt8)} {told : Option (Nat × List UInt8)} (h : InvT k N L0 L1 told) (hk : 1 ≤ k) : readTo L0 L1 2 = (told.getD (0, []), 0) := by
  show stepT 1 L1 (stepT 0 L0 ((0, []), 0)) = _
  cases told with
  | none =>
    have hn := h.tn rfl
    rw [step_not (i := 0) (snap_none fun e he => (hn e he).1), step_not (snap_none fun e he => (hn e he).2)]
    rfl
  | some c =>
    obtain ⟨e, d⟩ := c
    obtain ⟨h1, h2, h3, h4⟩ := h.ts e d rfl
    have hs := snap_all (by rw [h.ly]; omega) h1 h2
    rw [h3] at hs
    refine step_yes hs ?_
    unfold stepT
    split
    · rename_i hc; exact Nat.le_of_lt (snap_less h4 hc.1)
    · exact Nat.zero_le _
theorem InvT.read1 {k N : Nat} {L0 L1 : List (List UInt8)} {c : Nat × List UInt8} (h : InvT k N L1 L0 (some c)) (hk : 1 ≤ k) : readTo L0 L1 2 = (c, 1) := by
  show stepT 1 L1 (stepT 0 L0 ((0, []), 0)) = _
  obtain ⟨e, d⟩ := c
  obtain ⟨h1, h2, h3, h4⟩ := h.ts e d rfl
  have hs := snap_all (by rw [h.ly]; omega) h1 h2
  rw [h3] at hs
  rw [step_yes (i := 0) hs (Nat.zero_le _)]
  unfold stepT
  rw [if_neg]
  rintro ⟨h5, h6⟩
  have := snap_less h4 h5
  have h6' : e ≤ (snapL L1).1.1 := h6
  omega
theorem tagE_of {x : List UInt8} (h : x.length = 64) : tagE x = epochOf x := by unfold tagE; rw [if_pos h]
theorem InvT.tight {k N : Nat} {X Y : List (List UInt8)} {told : Option (Nat × List UInt8)} (h : InvT k N X Y told) : InvT k (max (newestL X) (newestL Y)) X Y told ∧ max (newestL X) (newestL Y) ≤ N := by
  refine ⟨⟨h.lx, h.ly, fun x hx => ?_, fun x hx => ?_, h.tn, h.ts⟩, ?_⟩
  · obtain ⟨i, hi, rfl⟩ := List.getElem_of_mem hx
    have := h.sx _ hx
    have h1 := newestL_ge hi
    rw [tagE_of this.1] at h1
    exact ⟨this.1, by omega, this.2.2⟩
  · obtain ⟨i, hi, rfl⟩ := List.getElem_of_mem hx
    have := h.sy _ hx
    have h1 := newestL_ge hi
    rw [tagE_of this.1] at h1
    exact ⟨this.1, by omega, this.2.2⟩
  · have h1 : newestL X ≤ N := newestL_le fun j hj => by
      have := h.sx _ (List.getElem_mem hj); rw [tagE_of this.1]; exact this.2.1
    have h2 : newestL Y ≤ N := newestL_le fun j hj => by
      have := h.sy _ (List.getElem_mem hj); rw [tagE_of this.1]; exact this.2.1
    omega
/-- a row that was told is as new as its epoch -/
theorem InvT.newest {k E : Nat} {X Y : List (List UInt8)} {d : List UInt8} (h : InvT k E X Y (some (E, d))) (hk : 1 ≤ k) : max (newestL X) (newestL Y) = E := by
  have h1 := h.tight.2
  have h2 := (h.ts E d rfl).2.1 0 (by rw [h.ly]; omega)
  have h3 := newestL_ge (L := Y) (j := 0) (by rw [h.ly]; omega)
  have h4 := whole_epoch h2
  rw [tagE_of h4.2.2.1, h4.1] at h3
  omega
end Go.Proofs.Ytgfpnjidpdjpaaa.Sl
