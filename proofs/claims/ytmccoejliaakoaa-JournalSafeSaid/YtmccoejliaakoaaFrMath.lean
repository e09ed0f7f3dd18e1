/- The words of layer 4: a cell's sector, what a sector says, a text's chunks; what follows of them. -/
import Derived.Test.YtmccoejliaakoaaGnB
import Derived.Test.YtmccoejliaakoaaMCc
namespace Go.Proofs.Ytmccoejliaakoaa
set_option maxRecDepth 100000
set_option linter.unusedVariables false
set_option linter.unusedSimpArgs false
/-- what a cell's sum is of -/
def content (p : List UInt8) (e n : Nat) : List UInt8 := p ++ (be 8 e ++ be 8 n)
def sumOf (p : List UInt8) (e n : Nat) : Nat := more 0 (mkB (content p e n))
theorem sumOf_is32 (p : List UInt8) (e n : Nat) : Is32 (sumOf p e n) := more_is32 (by unfold Is32; omega)
/-- a cell's sector -/
def sec (p : List UInt8) (e n : Nat) : List UInt8 := [UInt8.ofNat p.length] ++ be 4 (sumOf p e n) ++ p ++ List.replicate (43 - p.length) 0 ++ (be 8 e ++ be 8 n)
theorem sec_length {p : List UInt8} (h : p.length ≤ 43) (e n : Nat) : (sec p e n).length = 64 := by
  simp [sec, be_length]; omega
theorem bytesOf_be {x : Nat} (h : Is32 x) : bytesOf x = mkB (be 4 x) := by
  unfold bytesOf mkB
  simp [be, Nat.div_div_eq_div_mul]
/-- the parts of 64 bytes -/
def payOf (l : List UInt8) : List UInt8 := (l.drop 5).take (l.headD 0).toNat
def epochOf (l : List UInt8) : Nat := val ((l.drop 48).take 8)
def numberOf (l : List UInt8) : Nat := val ((l.drop 56).take 8)
abbrev Cl := List UInt8 × Nat × Nat
/-- the cell whose sector these bytes are -/
def rdc (l : List UInt8) : Option Cl :=
  if l.length = 64 ∧ (l.headD 0).toNat ≤ 43 ∧ sec (payOf l) (epochOf l) (numberOf l) = l then some (payOf l, epochOf l, numberOf l) else none
def whole (l : List UInt8) (e n : Nat) : Bool := match rdc l with | some c => c.2.1 == e && c.2.2 == n | none => false
theorem epochOf_lt (l : List UInt8) : epochOf l < 18446744073709551616 := by
  have h := val_lt ((l.drop 48).take 8)
  have h2 : ((l.drop 48).take 8).length ≤ 8 := by simp; omega
  have h3 : 256 ^ ((l.drop 48).take 8).length ≤ 256 ^ 8 := Nat.pow_le_pow_right (by omega) h2
  unfold epochOf; rw [← pow8]; omega
theorem numberOf_lt (l : List UInt8) : numberOf l < 18446744073709551616 := by
  have h := val_lt ((l.drop 56).take 8)
  have h2 : ((l.drop 56).take 8).length ≤ 8 := by simp; omega
  have h3 : 256 ^ ((l.drop 56).take 8).length ≤ 256 ^ 8 := Nat.pow_le_pow_right (by omega) h2
  unfold numberOf; rw [← pow8]; omega
theorem sec_head {p : List UInt8} (h : p.length ≤ 43) (e n : Nat) : ((sec p e n).headD 0).toNat = p.length := by
  show (UInt8.ofNat p.length).toNat = _
  rw [UInt8.toNat_ofNat']; omega
theorem sec_sum {p : List UInt8} (h : p.length ≤ 43) (e n : Nat) : ((sec p e n).drop 1).take 4 = be 4 (sumOf p e n) := by
  unfold sec
  simp only [List.append_assoc]
  rw [show (1 : Nat) = [UInt8.ofNat p.length].length from rfl, List.drop_left, List.take_append_of_le_length (by rw [be_length]; exact Nat.le_refl _), List.take_of_length_le (by rw [be_length]; exact Nat.le_refl _)]
theorem sec_pay {p : List UInt8} (h : p.length ≤ 43) (e n : Nat) : ((sec p e n).drop 5).take p.length = p := by
  unfold sec
  rw [show [UInt8.ofNat p.length] ++ be 4 (sumOf p e n) ++ p ++ List.replicate (43 - p.length) 0 ++ (be 8 e ++ be 8 n) = ([UInt8.ofNat p.length] ++ be 4 (sumOf p e n)) ++ (p ++ (List.replicate (43 - p.length) 0 ++ (be 8 e ++ be 8 n))) by simp only [List.append_assoc]]
  rw [List.drop_left' (by simp [be_length]), List.take_left]
theorem sec_tag {p : List UInt8} (h : p.length ≤ 43) (e n : Nat) : (sec p e n).drop 48 = be 8 e ++ be 8 n := by
  unfold sec
  rw [List.drop_left' (by simp [be_length]; omega)]
theorem payOf_sec {p : List UInt8} (h : p.length ≤ 43) (e n : Nat) : payOf (sec p e n) = p := by
  unfold payOf; rw [sec_head h, sec_pay h]
theorem epochOf_sec {p : List UInt8} (h : p.length ≤ 43) {e : Nat} (he : e < 18446744073709551616) (n : Nat) : epochOf (sec p e n) = e := by
  unfold epochOf; rw [sec_tag h, List.take_left' (be_length 8 e), val_be (by rw [pow8]; exact he)]
theorem numberOf_sec {p : List UInt8} (h : p.length ≤ 43) (e : Nat) {n : Nat} (hn : n < 18446744073709551616) : numberOf (sec p e n) = n := by
  unfold numberOf
  rw [show 56 = 48 + 8 from rfl, ← List.drop_drop, sec_tag h, List.drop_left' (be_length 8 e), List.take_of_length_le (by rw [be_length]; omega), val_be (by rw [pow8]; exact hn)]
theorem rdc_sec {p : List UInt8} {e n : Nat} (h : p.length ≤ 43) (he : e < 18446744073709551616) (hn : n < 18446744073709551616) : rdc (sec p e n) = some (p, e, n) := by
  unfold rdc
  rw [payOf_sec h, epochOf_sec h he, numberOf_sec h e hn, if_pos ⟨sec_length h e n, by rw [sec_head h]; exact h, rfl⟩]
theorem rdc_some {l : List UInt8} {p : List UInt8} {e n : Nat} (h : rdc l = some (p, e, n)) : l = sec p e n ∧ p.length ≤ 43 ∧ e < 18446744073709551616 ∧ n < 18446744073709551616 := by
  unfold rdc at h
  split at h
  · rename_i hc
    obtain ⟨h1, h2, h3⟩ := hc
    simp only [Option.some.injEq, Prod.mk.injEq] at h
    obtain ⟨rfl, rfl, rfl⟩ := h
    refine ⟨h3.symm, ?_, epochOf_lt l, numberOf_lt l⟩
    unfold payOf
    rw [List.length_take]; omega
  · cases h
theorem whole_sec {p : List UInt8} {e n : Nat} (h : p.length ≤ 43) (he : e < 18446744073709551616) (hn : n < 18446744073709551616) (e' n' : Nat) : whole (sec p e n) e' n' = (e == e' && n == n') := by
  unfold whole; rw [rdc_sec h he hn]
theorem whole_true {l : List UInt8} {e n : Nat} (h : whole l e n = true) : ∃ p, l = sec p e n ∧ p.length ≤ 43 := by
  unfold whole at h
  cases hr : rdc l with
  | none => rw [hr] at h; cases h
  | some c =>
    obtain ⟨p, e', n'⟩ := c
    rw [hr] at h
    obtain ⟨h1, h2, h3, h4⟩ := rdc_some hr
    simp at h
    obtain ⟨rfl, rfl⟩ := h
    exact ⟨p, h1, h2⟩
/-- the table's step tells bytes apart, and sums -/
theorem tab_inj {x y : Nat} (hx : Is32 x) (hy : Is32 y) (h : tab x = tab y) : x = y := by
  have : tab (x ^^^ y) = 0 := by rw [tab_xor, h, Nat.xor_self]
  exact eq_of_xor (shN_eq_zero (is32_xor hx hy) this)
theorem step_inj {x y c : Nat} (hx : Is32 x) (hy : Is32 y) (hc : c < 256) (h : step x c = step y c) : x = y := by
  rw [← step_words, ← step_words] at h
  have c32 : Is32 c := by unfold Is32; omega
  have := tab_inj (is32_xor hx c32) (is32_xor hy c32) h
  have h2 := congrArg (· ^^^ c) this
  simpa [Nat.xor_assoc] using h2
theorem step_tells {x c d : Nat} (hx : Is32 x) (hc : c < 256) (hd : d < 256) (h : step x c = step x d) : c = d := by
  rw [← step_words, ← step_words] at h
  have := tab_inj (is32_xor hx (by unfold Is32; omega)) (is32_xor hx (by unfold Is32; omega)) h
  have h2 := congrArg (x ^^^ ·) this
  simpa [← Nat.xor_assoc] using h2
theorem fold_inj (l : List UInt8) : ∀ {x y : Nat}, Is32 x → Is32 y → fold x l = fold y l → x = y := by
  induction l with
  | nil => intro x y _ _ h; exact h
  | cons c l ih =>
    intro x y hx hy h
    exact step_inj hx hy c.toNat_lt (ih (step_is32 hx c.toNat_lt) (step_is32 hy c.toNat_lt) h)
theorem fold_set (l : List UInt8) : ∀ {x i : Nat} {v : UInt8}, Is32 x → fold x (l.set i v) = fold x l → l.set i v = l := by
  induction l with
  | nil => intro x i v _ _; rfl
  | cons c l ih =>
    intro x i v hx h
    cases i with
    | zero =>
      have h1 : step x v.toNat = step x c.toNat := fold_inj l (step_is32 hx v.toNat_lt) (step_is32 hx c.toNat_lt) h
      have h2 : v = c := UInt8.toNat_inj.1 (step_tells hx v.toNat_lt c.toNat_lt h1)
      rw [h2]; rfl
    | succ i =>
      have h1 : fold (step x c.toNat) (l.set i v) = fold (step x c.toNat) l := h
      show c :: l.set i v = c :: l
      rw [ih (step_is32 hx c.toNat_lt) h1]
theorem more_set {l : List UInt8} {i : Nat} {v : UInt8} (h : more 0 (mkB (l.set i v)) = more 0 (mkB l)) : l.set i v = l := by
  unfold more at h
  rw [mkB_data, mkB_data] at h
  have h2 := congrArg (· ^^^ ones) h
  simp only [xor_ones_ones] at h2
  exact fold_set l (is32_xor (by unfold Is32; omega) is32_ones) h2
theorem content_of {p : List UInt8} {e n : Nat} (h : p.length ≤ 43) : content p e n = ((sec p e n).drop 5).take p.length ++ (sec p e n).drop 48 := by
  rw [sec_pay h, sec_tag h]; rfl
theorem be4_inj {x y : Nat} (hx : Is32 x) (hy : Is32 y) (h : be 4 x = be 4 y) : x = y := by
  have := congrArg val h
  rwa [val_be (by unfold Is32 at hx; omega), val_be (by unfold Is32 at hy; omega)] at this
theorem content_inj {p q : List UInt8} {e n f m : Nat} (hl : p.length = q.length) (he : e < 18446744073709551616) (hn : n < 18446744073709551616) (hf : f < 18446744073709551616) (hm : m < 18446744073709551616) (h : content p e n = content q f m) : p = q ∧ e = f ∧ n = m := by
  unfold content at h
  obtain ⟨h1, h2⟩ := List.append_inj h hl
  obtain ⟨h3, h4⟩ := List.append_inj h2 (by rw [be_length, be_length])
  refine ⟨h1, ?_, ?_⟩
  · have := congrArg val h3; rwa [val_be (by rw [pow8]; exact he), val_be (by rw [pow8]; exact hf)] at this
  · have := congrArg val h4; rwa [val_be (by rw [pow8]; exact hn), val_be (by rw [pow8]; exact hm)] at this
/-- a sector of which one byte behind the first is another one is none -/
theorem turned {p : List UInt8} {e n k : Nat} {v : UInt8} (h : p.length ≤ 43) (he : e < 18446744073709551616) (hn : n < 18446744073709551616) (hk : 1 ≤ k) (hs : (sec p e n).set k v ≠ sec p e n) : rdc ((sec p e n).set k v) = none := by
  cases hr : rdc ((sec p e n).set k v) with
  | none => rfl
  | some c =>
    exfalso
    obtain ⟨q, f, m⟩ := c
    obtain ⟨h1, h2, h3, h4⟩ := rdc_some hr
    have hh : ((sec q f m).headD 0).toNat = ((sec p e n).headD 0).toNat := by
      rw [← h1]
      obtain ⟨j, rfl⟩ : ∃ j, k = j + 1 := ⟨k - 1, by omega⟩
      cases sec p e n <;> rfl
    rw [sec_head h2, sec_head h] at hh
    have hq := content_of (p := q) (e := f) (n := m) h2
    rw [← h1, hh] at hq
    have hp := content_of (p := p) (e := e) (n := n) h
    have hsum := sec_sum h2 f m
    rw [← h1] at hsum
    have hps := sec_sum h e n
    have l64 := sec_length h e n
    generalize hL : sec p e n = L at *
    have same : content q f m = content p e n → False := by
      intro hc
      obtain ⟨rfl, rfl, rfl⟩ := content_inj hh h3 h4 he hn hc
      rw [hL] at h1
      exact hs h1
    by_cases c1 : k < 5
    · apply same
      rw [hq, hp, List.drop_set, if_pos c1, List.drop_set, if_pos (by omega)]
    · have hcrc : be 4 (sumOf q f m) = be 4 (sumOf p e n) := by
        rw [← hsum, ← hps, List.drop_set, if_neg (by omega), List.take_set, List.set_eq_of_length_le (by simp; omega)]
      have hcr := be4_inj (sumOf_is32 _ _ _) (sumOf_is32 _ _ _) hcrc
      have hset : ∃ i, content q f m = (content p e n).set i v := by
        rw [hq, hp]
        by_cases c2 : k < 48
        · rw [List.drop_set, if_neg c1, List.drop_set, if_pos c2, List.take_set]
          by_cases c3 : k - 5 < p.length
          · exact ⟨k - 5, by rw [List.set_append_left _ _ (by simp; omega)]⟩
          · rw [List.set_eq_of_length_le (by simp; omega)]
            refine ⟨64, ?_⟩
            rw [List.set_eq_of_length_le (by simp; omega)]
        · rw [List.drop_set, if_neg c1, List.drop_set, if_neg c2, List.take_set, List.set_eq_of_length_le (l := List.take _ _) (by simp; omega)]
          refine ⟨(List.take p.length (List.drop 5 L)).length + (k - 48), ?_⟩
          rw [List.set_append_right _ _ (by omega)]
          congr 2
          omega
      obtain ⟨i, hi⟩ := hset
      unfold sumOf at hcr
      rw [hi] at hcr
      have := more_set hcr
      rw [← hi] at this
      exact same this
/-- a sector that was half written over another one, whose tag is another one, is the new one's just if it is that -/
theorem torn {p o : List UInt8} {e n k : Nat} (h : p.length ≤ 43) (he : e < 18446744073709551616) (hn : n < 18446744073709551616) (ho : o.length = 64) (hne : ¬ (epochOf o = e ∧ numberOf o = n)) :
    whole ((sec p e n).take k ++ o.drop k) e n = decide ((sec p e n).take k ++ o.drop k = sec p e n) := by
  by_cases hc : (sec p e n).take k ++ o.drop k = sec p e n
  · rw [decide_eq_true hc, hc, whole_sec h he hn]; simp
  · rw [decide_eq_false hc]
    cases hw : whole ((sec p e n).take k ++ o.drop k) e n with
    | false => rfl
    | true =>
      exfalso
      obtain ⟨q, h1, h2⟩ := whole_true hw
      have htag := sec_tag h2 e n
      rw [← h1] at htag
      have l64 := sec_length h e n
      by_cases c : k ≤ 48
      · apply hne
        have hd : ((sec p e n).take k ++ o.drop k).drop 48 = o.drop 48 := by
          rw [List.drop_append, List.drop_eq_nil_of_le (by simp; omega), List.nil_append, List.drop_drop]
          congr 1
          simp; omega
        rw [hd] at htag
        unfold epochOf numberOf
        rw [show 56 = 48 + 8 from rfl, ← List.drop_drop, htag, List.take_left' (be_length 8 e), List.drop_left' (be_length 8 e), List.take_of_length_le (l := be 8 n) (by rw [be_length]; omega), val_be (by rw [pow8]; exact he), val_be (by rw [pow8]; exact hn)]
        exact ⟨rfl, rfl⟩
      · apply hc
        have ht : ((sec p e n).take k ++ o.drop k).take 48 = (sec p e n).take 48 := by
          rw [List.take_append_of_le_length (by simp; omega), List.take_take]
          congr 1
          omega
        rw [← List.take_append_drop 48 ((sec p e n).take k ++ o.drop k), ht, htag, ← sec_tag h e n, List.take_append_drop]
/-- a text in parts of 43 bytes -/
def chunks (l : List UInt8) : List (List UInt8) := if h : 43 < l.length then l.take 43 :: chunks (l.drop 43) else [l]
  termination_by l.length
  decreasing_by simp; omega
theorem chunks_long {l : List UInt8} (h : 43 < l.length) : chunks l = l.take 43 :: chunks (l.drop 43) := by rw [chunks, dif_pos h]
theorem chunks_short {l : List UInt8} (h : l.length ≤ 43) : chunks l = [l] := by rw [chunks, dif_neg (by omega)]
end Go.Proofs.Ytmccoejliaakoaa
