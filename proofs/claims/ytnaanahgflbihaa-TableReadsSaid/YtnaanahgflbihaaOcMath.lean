/- The arithmetic of layer 3: numbers as bytes, the greatest first; what a reader takes of a text. -/
import Derived.Test.YtnaanahgflbihaaRows
import Derived.WalkKit
namespace Go.Proofs.Ytnaanahgflbihaa.Oc
set_option maxRecDepth 100000
set_option linter.unusedVariables false
set_option linter.unusedSimpArgs false
def mkB (l : List UInt8) : ByteArray := ⟨l.toArray⟩
theorem mkB_size (l : List UInt8) : (mkB l).size = l.length := by unfold mkB; show l.toArray.size = _; simp
theorem mkB_data (l : List UInt8) : (mkB l).data.toList = l := by unfold mkB; simp
theorem mkB_of (s : ByteArray) : mkB s.data.toList = s := by unfold mkB; simp
theorem mkB_ext {s : ByteArray} {l : List UInt8} (h : s.data.toList = l) : s = mkB l := by rw [← h, mkB_of]
theorem mkB_inj {a b : List UInt8} (h : mkB a = mkB b) : a = b := by rw [← mkB_data a, h, mkB_data]
/-- the bytes of a number, as few as it needs, the greatest first -/
def bytesOf (n : Nat) : List UInt8 := if h : n = 0 then [] else bytesOf (n / 256) ++ [UInt8.ofNat (n % 256)]
  termination_by n
  decreasing_by omega
theorem bytesOf_zero : bytesOf 0 = [] := by rw [bytesOf]; simp
theorem bytesOf_pos {n : Nat} (h : n ≠ 0) : bytesOf n = bytesOf (n / 256) ++ [UInt8.ofNat (n % 256)] := by rw [bytesOf]; simp [h]
/-- the number that bytes are -/
def val (l : List UInt8) : Nat := l.foldl (fun a b => a * 256 + b.toNat) 0
theorem val_nil : val [] = 0 := rfl
theorem val_snoc (l : List UInt8) (b : UInt8) : val (l ++ [b]) = val l * 256 + b.toNat := by unfold val; rw [List.foldl_append]; rfl
theorem val_bytesOf (n : Nat) : val (bytesOf n) = n := by
  induction n using Nat.strongRecOn with
  | _ n ih =>
    by_cases h : n = 0
    · subst h; rw [bytesOf_zero]; rfl
    · rw [bytesOf_pos h, val_snoc, ih (n / 256) (by omega), UInt8.toNat_ofNat']
      omega
theorem bytesOf_length {n k : Nat} (h : n < 256 ^ k) : (bytesOf n).length ≤ k := by
  induction k generalizing n with
  | zero => have : n = 0 := by simp at h; exact h
            subst this; rw [bytesOf_zero]; simp
  | succ k ih =>
    by_cases h0 : n = 0
    · subst h0; rw [bytesOf_zero]; simp
    · rw [bytesOf_pos h0, List.length_append]
      have : n / 256 < 256 ^ k := by rw [Nat.div_lt_iff_lt_mul (by omega)]; rw [Nat.pow_succ] at h; exact h
      have := ih this
      simp; omega
theorem bytesOf_len8 {n : Nat} (h : n < 18446744073709551616) : (bytesOf n).length ≤ 8 := bytesOf_length (k := 8) (by simpa using h)
theorem val_lt (l : List UInt8) : val l < 256 ^ l.length := by
  have key : ∀ r : List UInt8, val r.reverse < 256 ^ r.length := by
    intro r
    induction r with
    | nil => simp [val]
    | cons b r ih =>
      rw [List.reverse_cons, val_snoc, List.length_cons, Nat.pow_succ]
      have := UInt8.toNat_lt b
      omega
  have := key l.reverse
  simpa using this
/-- bytes that do not begin with a nought are those of their number -/
theorem bytesOf_val (l : List UInt8) (h : l.head? ≠ some 0) : bytesOf (val l) = l := by
  have key : ∀ r : List UInt8, r.reverse.head? ≠ some 0 → bytesOf (val r.reverse) = r.reverse := by
    intro r
    induction r with
    | nil => intro _; simp [val, bytesOf_zero]
    | cons b r ih =>
      intro h
      rw [List.reverse_cons] at h ⊢
      rw [val_snoc]
      have hb := UInt8.toNat_lt b
      by_cases hr : r = []
      · subst hr
        have hb0 : b ≠ 0 := by simpa using h
        have hb1 : b.toNat ≠ 0 := fun e => hb0 (UInt8.toNat_inj.1 (by rw [e]; rfl))
        simp only [List.reverse_nil, List.nil_append, val_nil]
        rw [bytesOf_pos (by omega), show (0 * 256 + b.toNat) / 256 = 0 by omega, bytesOf_zero, show (0 * 256 + b.toNat) % 256 = b.toNat by omega]
        simp
      · have hh : r.reverse.head? ≠ some 0 := by
          cases hrr : r.reverse with
          | nil => simp
          | cons x y => rw [hrr] at h; simpa using h
        have hv : val r.reverse ≠ 0 := by
          intro e
          have := ih hh
          rw [e, bytesOf_zero] at this
          exact hr (by simpa using this.symm)
        rw [bytesOf_pos (by omega), show (val r.reverse * 256 + b.toNat) / 256 = val r.reverse by omega, show (val r.reverse * 256 + b.toNat) % 256 = b.toNat by omega, ih hh]
        simp
  have := key l.reverse
  simp only [List.reverse_reverse] at this
  exact this h
theorem bytesOf_head (n : Nat) : (bytesOf n).head? ≠ some 0 := by
  induction n using Nat.strongRecOn with
  | _ n ih =>
    by_cases h : n = 0
    · subst h; rw [bytesOf_zero]; simp
    · rw [bytesOf_pos h]
      cases hb : bytesOf (n / 256) with
      | nil =>
        have e : n / 256 = 0 := by rw [← val_bytesOf (n / 256), hb]; rfl
        simp only [List.nil_append, List.head?_cons, ne_eq, Option.some.injEq]
        intro e1
        have : (UInt8.ofNat (n % 256)).toNat = 0 := by rw [e1]; rfl
        rw [UInt8.toNat_ofNat'] at this
        omega
      | cons x y => have := ih (n / 256) (by omega); rw [hb] at this; simpa using this
/-- a number as it is put -/
def enc (n : Nat) : List UInt8 := UInt8.ofNat (bytesOf n).length :: bytesOf n
def encInt (n : Int) : List UInt8 := enc n.toNat
def encText (l : List UInt8) : List UInt8 := enc l.length ++ l
def encFlag (b : Bool) : List UInt8 := enc (if b then 1 else 0)
theorem enc_length (n : Nat) : (enc n).length = (bytesOf n).length + 1 := rfl
theorem enc_len9 {n : Nat} (h : n < 18446744073709551616) : (enc n).length ≤ 9 := by rw [enc_length]; have := bytesOf_len8 h; omega
theorem enc_ne (n : Nat) : enc n ≠ [] := by unfold enc; simp
/-- the number that stands at a text's beginning, and what stands behind it -/
def dec : List UInt8 → Option (Nat × List UInt8)
  | [] => none
  | k :: r => if k.toNat ≤ 8 ∧ k.toNat ≤ r.length ∧ (r.take k.toNat).head? ≠ some 0 then some (val (r.take k.toNat), r.drop k.toNat) else none
theorem dec_cons (k : UInt8) (r : List UInt8) : dec (k :: r) = if k.toNat ≤ 8 ∧ k.toNat ≤ r.length ∧ (r.take k.toNat).head? ≠ some 0 then some (val (r.take k.toNat), r.drop k.toNat) else none := rfl
theorem dec_enc {n : Nat} (h : n < 18446744073709551616) (r : List UInt8) : dec (enc n ++ r) = some (n, r) := by
  have h8 := bytesOf_len8 h
  have e : (UInt8.ofNat (bytesOf n).length).toNat = (bytesOf n).length := by rw [UInt8.toNat_ofNat']; omega
  unfold enc
  rw [List.cons_append, dec_cons, e, List.take_left, List.drop_left, if_pos ⟨h8, by simp, bytesOf_head n⟩, val_bytesOf]
theorem dec_some {l : List UInt8} {n : Nat} {r : List UInt8} (h : dec l = some (n, r)) : l = enc n ++ r ∧ n < 18446744073709551616 := by
  cases l with
  | nil => cases h
  | cons k t =>
    rw [dec_cons] at h
    split at h
    · rename_i hc
      simp only [Option.some.injEq, Prod.mk.injEq] at h
      obtain ⟨rfl, rfl⟩ := h
      obtain ⟨h8, hl, h0⟩ := hc
      have e1 := bytesOf_val _ h0
      have e2 : (t.take k.toNat).length = k.toNat := by rw [List.length_take]; omega
      refine ⟨?_, ?_⟩
      · unfold enc; rw [e1, e2]; simp
      · have := val_lt (t.take k.toNat)
        rw [e2] at this
        have h2 : 256 ^ k.toNat ≤ 256 ^ 8 := Nat.pow_le_pow_right (by omega) h8
        have h3 : (256 : Nat) ^ 8 = 18446744073709551616 := by decide
        omega
    · cases h
theorem enc_inj {a b : Nat} (ha : a < 18446744073709551616) (hb : b < 18446744073709551616) (h : enc a = enc b) : a = b := by
  have h1 := dec_enc ha []
  have h2 := dec_enc hb []
  rw [h, h2] at h1
  simpa using h1.symm
theorem bytesOf_mono {a b : Nat} (h : a ≤ b) : (bytesOf a).length ≤ (bytesOf b).length := by
  induction b using Nat.strongRecOn generalizing a with
  | _ b ih =>
    by_cases h0 : a = 0
    · subst h0; rw [bytesOf_zero]; simp
    · rw [bytesOf_pos h0, bytesOf_pos (by omega : b ≠ 0), List.length_append, List.length_append]
      have := ih (b / 256) (by omega) (a := a / 256) (by omega)
      simp; exact this
theorem enc_mono {a b : Nat} (h : a ≤ b) : (enc a).length ≤ (enc b).length := by rw [enc_length, enc_length]; have := bytesOf_mono h; omega
/-- what a reader of a text, or a bad one, tells when it is asked, and what it is behind it -/
abbrev St := Option (List UInt8)
def num (o : St) (most : Nat) : Nat × St := match o with
  | none => (0, none)
  | some l => match dec l with
    | none => (0, none)
    | some (n, r) => if n ≤ most then (n, some r) else (0, none)
def int (o : St) (most : Int) : Nat × St := if most < 0 then (0, none) else num o most.toNat
def text (o : St) (most : Int) : List UInt8 × St := match (int o most).2 with
  | none => ([], none)
  | some r => if (int o most).1 ≤ r.length then (r.take (int o most).1, some (r.drop (int o most).1)) else ([], none)
def flag (o : St) : Bool × St := ((num o 1).1 == 1, (num o 1).2)
def left (o : St) : Nat := match o with | none => 0 | some l => l.length
def ended (o : St) : Bool := o == some []
theorem num_most (o : St) (most : Nat) : (num o most).1 ≤ most := by
  unfold num
  cases o with
  | none => simp
  | some l =>
    simp only
    cases dec l with
    | none => simp
    | some x => obtain ⟨n, r⟩ := x; simp only; split <;> simp; assumption
theorem num_shorter {o : St} {most : Nat} {r : List UInt8} (h : (num o most).2 = some r) : ∃ l, o = some l ∧ r.length < l.length ∧ dec l = some ((num o most).1, r) := by
  unfold num at h ⊢
  cases o with
  | none => cases h
  | some l =>
    simp only at h ⊢
    cases hd : dec l with
    | none => rw [hd] at h; cases h
    | some x =>
      obtain ⟨n, r'⟩ := x
      rw [hd] at h
      simp only at h ⊢
      split at h
      · rename_i hc
        rw [if_pos hc]
        cases h
        have := (dec_some hd).1
        refine ⟨l, rfl, ?_, hd⟩
        rw [this, List.length_append, enc_length]; omega
      · cases h
end Go.Proofs.Ytnaanahgflbihaa.Oc
