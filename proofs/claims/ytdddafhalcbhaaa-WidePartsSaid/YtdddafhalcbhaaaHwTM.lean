/- Plain lemmas on decimal digits. No dump is imported. -/
import Derived.Test.YtdddafhalcbhaaaHwMath
namespace Go.Proofs.Ytdddafhalcbhaaa
set_option linter.unusedVariables false
set_option linter.unusedSimpArgs false
def ndF : Nat → Nat → Nat
  | 0, _ => 1
  | f + 1, n => if n < 10 then 1 else ndF f (n / 10) + 1
/-- how many digits a number has (of 41 at most) -/
def ndig (n : Nat) : Nat := ndF 40 n
/-- the k lowest digits, the highest first -/
def decK (n k : Nat) : List UInt8 := (List.range k).map fun t => UInt8.ofNat (48 + n / 10 ^ (k - 1 - t) % 10)
def dec (n : Nat) : ByteArray := ⟨(decK n (ndig n)).toArray⟩

theorem ndF_pos (f n : Nat) : 1 ≤ ndF f n := by
  cases f with
  | zero => simp [ndF]
  | succ f => simp only [ndF]; split <;> omega
theorem ndF_spec : ∀ (f n : Nat), n < 10 ^ (f + 1) → n < 10 ^ ndF f n ∧ (ndF f n = 1 ∨ 10 ^ (ndF f n - 1) ≤ n) := by
  intro f
  induction f with
  | zero => intro n h; simpa [ndF] using h
  | succ f ih =>
    intro n h
    simp only [ndF]
    by_cases hn : n < 10
    · simp [hn]
    · rw [if_neg hn]
      have h' : n / 10 < 10 ^ (f + 1) := by rw [Nat.pow_succ] at h; omega
      obtain ⟨h1, h2⟩ := ih (n / 10) h'
      have hp := ndF_pos f (n / 10)
      refine ⟨by rw [Nat.pow_succ]; omega, .inr ?_⟩
      rcases h2 with h2 | h2
      · rw [h2]; simp; omega
      · have : ndF f (n / 10) + 1 - 1 = (ndF f (n / 10) - 1) + 1 := by omega
        rw [this, Nat.pow_succ]; omega
theorem ndig_pos (n : Nat) : 1 ≤ ndig n := ndF_pos 40 n
theorem ndig_spec {n : Nat} (h : n < 10 ^ 41) : n < 10 ^ ndig n ∧ (ndig n = 1 ∨ 10 ^ (ndig n - 1) ≤ n) := ndF_spec 40 n h
theorem ndig_eq {n k : Nat} (hn : n < 10 ^ 41) (h1 : 1 ≤ k) (h2 : n < 10 ^ k) (h3 : k = 1 ∨ 10 ^ (k - 1) ≤ n) : ndig n = k := by
  obtain ⟨a, b⟩ := ndig_spec hn
  have hp := ndig_pos n
  rcases Nat.lt_trichotomy (ndig n) k with h | h | h
  · exfalso
    rcases h3 with h3 | h3
    · omega
    · have : 10 ^ ndig n ≤ 10 ^ (k - 1) := Nat.pow_le_pow_right (by decide) (by omega)
      omega
  · exact h
  · exfalso
    rcases b with b | b
    · omega
    · have : 10 ^ k ≤ 10 ^ (ndig n - 1) := Nat.pow_le_pow_right (by decide) (by omega)
      omega
theorem lt128 {n : Nat} (h : n < 340282366920938463463374607431768211456) : n < 10 ^ 39 := Nat.lt_of_lt_of_le h (by decide)
theorem lt41 {n : Nat} (h : n < 340282366920938463463374607431768211456) : n < 10 ^ 41 := Nat.lt_of_lt_of_le h (by decide)
theorem decK_foldl (n k : Nat) (ns : List Int) (hl : ns.length = k) (h : ∀ t, t < k → ns[t]? = some (48 + ((n / 10 ^ (k - 1 - t) % 10 : Nat) : Int))) :
    ns.foldl (fun r n => r.push (UInt8.ofNat n.toNat)) ByteArray.empty = ⟨(decK n k).toArray⟩ := by
  have key : ∀ (l : List Int) (s : ByteArray), l.foldl (fun r n => r.push (UInt8.ofNat n.toNat)) s = ⟨s.data ++ (l.map fun z => UInt8.ofNat z.toNat).toArray⟩ := by
    intro l
    induction l with
    | nil => intro s; simp
    | cons a l ih => intro s; rw [List.foldl_cons, ih]; simp [ByteArray.push]
  rw [key]
  have e : (ns.map fun z => UInt8.ofNat z.toNat) = decK n k := by
    apply List.ext_getElem?
    intro t
    rw [List.getElem?_map]
    unfold decK
    by_cases ht : t < k
    · rw [h t ht, List.getElem?_map, List.getElem?_range ht]
      have : (48 + ((n / 10 ^ (k - 1 - t) % 10 : Nat) : Int)).toNat = 48 + n / 10 ^ (k - 1 - t) % 10 := by
        generalize n / 10 ^ (k - 1 - t) % 10 = z
        omega
      simp only [Option.map_some, this]
    · rw [List.getElem?_eq_none (by omega)]
      simp [ht]
  rw [e]
  have : ByteArray.empty.data = #[] := rfl
  rw [this]; simp
end Go.Proofs.Ytdddafhalcbhaaa
