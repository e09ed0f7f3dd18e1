/- The mathematics of a log: which sectors of a row are records, what a Scan and an Append make of a disk. -/
import Derived.Test.YtmccoejliaakoaaMSm
import Derived.Test.YtmccoejliaakoaaMDc
namespace Go.Proofs.Ytmccoejliaakoaa.Wl
open Dk (DS)
open Sl (rowOf rowOf_length rowOf_get)
set_option maxRecDepth 100000
set_option linter.unusedVariables false
set_option linter.unusedSimpArgs false
/-- how many of the first sectors are records of an epoch, from number i on -/
def leadFrom (e : Nat) : List (List UInt8) → Nat → Nat
  | [], _ => 0
  | x :: L, i => if whole x e i = true then leadFrom e L (i + 1) + 1 else 0
def lead (L : List (List UInt8)) (e : Nat) : Nat := leadFrom e L 0
theorem leadFrom_is (e : Nat) : ∀ (L : List (List UInt8)) (i k : Nat), k ≤ L.length → (∀ j (h : j < L.length), j < k → whole L[j] e (i + j) = true) → (∀ h : k < L.length, whole L[k] e (i + k) = false) → leadFrom e L i = k
  | [], i, k, hk, _, _ => by simp at hk; subst hk; rfl
  | x :: L, i, 0, hk, _, h2 => by
    have := h2 (by simp)
    simp at this
    simp [leadFrom, this]
  | x :: L, i, k + 1, hk, h1, h2 => by
    have h0 := h1 0 (by simp) (by omega)
    simp at h0
    simp only [leadFrom, h0, if_true]
    rw [leadFrom_is e L (i + 1) k (by simp at hk; omega) (fun j hj hjk => ?_) (fun h => ?_)]
    · have := h1 (j + 1) (by simp; omega) (by omega)
      simp at this
      rw [show i + 1 + j = i + (j + 1) by omega]; exact this
    · have := h2 (by simp; omega)
      simp at this
      rw [show i + 1 + k = i + (k + 1) by omega]; exact this
theorem lead_is {L : List (List UInt8)} {e k : Nat} (hk : k ≤ L.length) (h1 : ∀ j (h : j < L.length), j < k → whole L[j] e j = true) (h2 : ∀ h : k < L.length, whole L[k] e k = false) : lead L e = k :=
  leadFrom_is e L 0 k hk (fun j h hj => by rw [Nat.zero_add]; exact h1 j h hj) (fun h => by rw [Nat.zero_add]; exact h2 h)
theorem lead_ex (L : List (List UInt8)) (e : Nat) : ∃ k, k ≤ L.length ∧ (∀ j (h : j < L.length), j < k → whole L[j] e j = true) ∧ (∀ h : k < L.length, whole L[k] e k = false) := by
  have key : ∀ m, m ≤ L.length → (∃ k, k ≤ m ∧ (∀ j (h : j < L.length), j < k → whole L[j] e j = true) ∧ (∀ h : k < L.length, whole L[k] e k = false)) ∨ (∀ j (h : j < L.length), j < m → whole L[j] e j = true) := by
    intro m
    induction m with
    | zero => intro _; right; intro j h hj; omega
    | succ m ih =>
      intro hm
      rcases ih (by omega) with ⟨k, h1, h2, h3⟩ | h
      · exact .inl ⟨k, by omega, h2, h3⟩
      · cases hw : whole (L[m]'(by omega)) e m with
        | true =>
          right
          intro j hj hjm
          rcases Nat.lt_or_ge j m with h' | h'
          · exact h j hj h'
          · obtain rfl : j = m := by omega
            exact hw
        | false => exact .inl ⟨m, by omega, h, fun _ => hw⟩
  rcases key L.length (Nat.le_refl _) with ⟨k, h1, h2, h3⟩ | h
  · exact ⟨k, h1, h2, h3⟩
  · exact ⟨L.length, Nat.le_refl _, h, fun hh => absurd hh (by omega)⟩
theorem lead_le (L : List (List UInt8)) (e : Nat) : lead L e ≤ L.length := by
  obtain ⟨k, h1, h2, h3⟩ := lead_ex L e
  rw [lead_is h1 h2 h3]; exact h1
theorem lead_whole {L : List (List UInt8)} {e j : Nat} (h : j < lead L e) (hj : j < L.length) : whole L[j] e j = true := by
  obtain ⟨k, h1, h2, h3⟩ := lead_ex L e
  rw [lead_is h1 h2 h3] at h; exact h2 j hj h
theorem lead_not {L : List (List UInt8)} {e : Nat} (h : lead L e < L.length) : whole (L[lead L e]) e (lead L e) = false := by
  obtain ⟨k, h1, h2, h3⟩ := lead_ex L e
  have e' := lead_is h1 h2 h3
  simp only [e'] at h ⊢
  exact h3 h
/-- what the first k sectors say -/
def paysL (L : List (List UInt8)) (k : Nat) : List (List UInt8) := (L.take k).map payOf
theorem paysL_zero (L : List (List UInt8)) : paysL L 0 = [] := by simp [paysL]
theorem paysL_succ {L : List (List UInt8)} {i : Nat} (h : i < L.length) : paysL L (i + 1) = paysL L i ++ [payOf L[i]] := by
  unfold paysL
  rw [List.take_add_one, List.getElem?_eq_getElem h, List.map_append]
  rfl
theorem paysL_length {L : List (List UInt8)} {k : Nat} (h : k ≤ L.length) : (paysL L k).length = k := by simp [paysL]; omega
/-- a row's records -/
def recs (L : List (List UInt8)) (e : Nat) : List (List UInt8) := paysL L (lead L e)
theorem recs_length (L : List (List UInt8)) (e : Nat) : (recs L e).length = lead L e := paysL_length (lead_le L e)
/-- how many sectors a Scan reads -/
def readsN (k n : Nat) : Nat := if k < n then k + 1 else n
theorem readsN_le {k n : Nat} (h : k ≤ n) : readsN k n ≤ n := by unfold readsN; split <;> omega
/-- what a Scan makes of a disk, what it tells, and its error -/
def scanR (s : DS) (a n e : Nat) : DS × List (List UInt8) × Nat :=
  if 1 ≤ s.fail ∧ s.fail ≤ readsN (lead (rowOf s a n) e) n then (⟨s.sec, s.opn, 0, s.reads + s.fail⟩, [], 18)
  else (⟨s.sec, s.opn, s.fail - readsN (lead (rowOf s a n) e) n, s.reads + readsN (lead (rowOf s a n) e) n⟩, recs (rowOf s a n) e, 0)
/-- what a log knows: where, how many sectors, and, if it is open, of which epoch, with how many records -/
structure WS where
  at_ : Nat
  n : Nat
  st : Option (Nat × Nat)
/-- how a log stands behind a Scan -/
def scanS (s : DS) (a n e : Nat) : Option (Nat × Nat) := if (scanR s a n e).2.2 = 0 then some (e, (scanR s a n e).2.1.length) else none
/-- a write, and a flush -/
def putW (s : DS) (a : Nat) (x : List UInt8) : DS × Bool :=
  if (Dk.writeR s (a : Int) x).2 = 0 then ((Dk.flushR (Dk.writeR s (a : Int) x).1).1, (Dk.flushR (Dk.writeR s (a : Int) x).1).2 == 0) else ((Dk.writeR s (a : Int) x).1, false)
/-- what an Append makes of a disk and of how a log stands, and its error -/
def appR (s : DS) (t : WS) (p : List UInt8) : DS × Option (Nat × Nat) × Nat :=
  if 43 < p.length then (s, t.st, 1)
  else match t.st with
    | none => (s, none, 13)
    | some (e, c) =>
      if c = t.n then (s, t.st, 22)
      else if (putW s (t.at_ + c) (sec p e c)).2 = true then ((putW s (t.at_ + c) (sec p e c)).1, some (e, c + 1), 0) else ((putW s (t.at_ + c) (sec p e c)).1, none, 18)
/-- what is so of a log on a disk of ns sectors -/
structure WS.Fit (t : WS) (ns : Nat) : Prop where
  n1 : 1 ≤ t.n
  room : t.at_ + t.n ≤ ns
  st : ∀ e c, t.st = some (e, c) → 1 ≤ e ∧ e < 18446744073709551616 ∧ c ≤ t.n
theorem appR_long {s : DS} {t : WS} {p : List UInt8} (h : 43 < p.length) : appR s t p = (s, t.st, 1) := by unfold appR; rw [if_pos h]
theorem appR_shut {s : DS} {t : WS} {p : List UInt8} (h : p.length ≤ 43) (hs : t.st = none) : appR s t p = (s, none, 13) := by unfold appR; rw [if_neg (by omega), hs]
theorem appR_full {s : DS} {t : WS} {p : List UInt8} {e c : Nat} (h : p.length ≤ 43) (hs : t.st = some (e, c)) (hc : c = t.n) : appR s t p = (s, t.st, 22) := by unfold appR; rw [if_neg (by omega), hs]; simp only; rw [if_pos hc]
theorem appR_put {s : DS} {t : WS} {p : List UInt8} {e c : Nat} (h : p.length ≤ 43) (hs : t.st = some (e, c)) (hc : c ≠ t.n) : appR s t p = if (putW s (t.at_ + c) (sec p e c)).2 = true then ((putW s (t.at_ + c) (sec p e c)).1, some (e, c + 1), 0) else ((putW s (t.at_ + c) (sec p e c)).1, none, 18) := by
  unfold appR; rw [if_neg (by omega), hs]; simp only; rw [if_neg hc]
/-- while records are read: the disk behind i reads -/
def dsRead (s : DS) (i : Nat) : DS := ⟨s.sec, s.opn, s.fail - i, s.reads + i⟩
theorem dsRead_zero (s : DS) : dsRead s 0 = s := rfl
theorem newest_read (s : DS) (i j : Nat) : Dk.newestOf (dsRead s i) j = Dk.newestOf s j := rfl
theorem dsRead_next {s : DS} {i a : Nat} (ha : a < s.sec.length) (hio : s.fail - i ≠ 1) : Dk.readR (dsRead s i) (a : Int) = (dsRead s (i + 1), Dk.newestOf s a, 0) := by
  rw [Dk.newest_read (dsRead s i) (by omega) (by show (a : Int) < (s.sec.length : Int); omega) hio]
  unfold dsRead
  rw [Nat.sub_sub]
  rfl
theorem dsRead_io {s : DS} {i a : Nat} (ha : a < s.sec.length) (hio : s.fail - i = 1) : Dk.readR (dsRead s i) (a : Int) = (⟨s.sec, s.opn, 0, s.reads + i + 1⟩, [], 18) := by
  rw [Dk.io_read (dsRead s i) (by omega) (by show (a : Int) < (s.sec.length : Int); omega) hio]
  rfl
/-- all of the first i sectors are records, and none of their reads has failed -/
def Got (s : DS) (a n e i : Nat) : Prop := i ≤ n ∧ (∀ j (h : j < (rowOf s a n).length), j < i → whole (rowOf s a n)[j] e j = true) ∧ (s.fail = 0 ∨ i < s.fail)
theorem got_zero (s : DS) (a n e : Nat) : Got s a n e 0 := ⟨by omega, fun j _ h => by omega, by omega⟩
theorem Got.succ {s : DS} {a n e i : Nat} (h : Got s a n e i) (hi : i < n) (hw : whole (Dk.newestOf s (a + i)) e i = true) (hio : s.fail - i ≠ 1) : Got s a n e (i + 1) := by
  refine ⟨hi, fun j hj hji => ?_, by have := h.2.2; omega⟩
  rcases Nat.lt_or_ge j i with h' | h'
  · exact h.2.1 j hj h'
  · obtain rfl : j = i := by omega
    rw [rowOf_get]; exact hw
theorem Got.full {s : DS} {a n e : Nat} (h : Got s a n e n) : scanR s a n e = (dsRead s n, paysL (rowOf s a n) n, 0) := by
  have hl : lead (rowOf s a n) e = n := lead_is (by rw [rowOf_length]; omega) h.2.1 (fun hh => by rw [rowOf_length] at hh; omega)
  unfold scanR recs
  rw [hl]
  have hr : readsN n n = n := by unfold readsN; split <;> omega
  rw [hr, if_neg (by have := h.2.2; omega)]
  rfl
theorem Got.none {s : DS} {a n e i : Nat} (h : Got s a n e i) (hi : i < n) (hw : whole (Dk.newestOf s (a + i)) e i = false) (hio : s.fail - i ≠ 1) : scanR s a n e = (dsRead s (i + 1), paysL (rowOf s a n) i, 0) := by
  have hl : lead (rowOf s a n) e = i := lead_is (by rw [rowOf_length]; omega) h.2.1 (fun hh => by rw [rowOf_get]; exact hw)
  unfold scanR recs
  rw [hl]
  have hr : readsN i n = i + 1 := by unfold readsN; split <;> omega
  rw [hr, if_neg (by have := h.2.2; omega)]
  rfl
theorem Got.io {s : DS} {a n e i : Nat} (h : Got s a n e i) (hi : i < n) (hio : s.fail - i = 1) : scanR s a n e = (⟨s.sec, s.opn, 0, s.reads + i + 1⟩, [], 18) := by
  have hl : i ≤ lead (rowOf s a n) e := by
    rcases Nat.lt_or_ge (lead (rowOf s a n) e) i with h' | h'
    · have hlt : lead (rowOf s a n) e < (rowOf s a n).length := by rw [rowOf_length]; omega
      have h1 := lead_not hlt
      rw [h.2.1 _ hlt h'] at h1; cases h1
    · exact h'
  unfold scanR
  rw [if_pos ⟨by omega, by unfold readsN; split <;> omega⟩]
  have : s.fail = i + 1 := by omega
  rw [this]
  rfl
theorem paysL_row {s : DS} {a n i : Nat} (hi : i < n) : paysL (rowOf s a n) (i + 1) = paysL (rowOf s a n) i ++ [payOf (Dk.newestOf s (a + i))] := by
  rw [paysL_succ (by rw [rowOf_length]; exact hi), rowOf_get]
theorem whole_iff (x : List UInt8) (e i : Nat) : whole x e i = match rdc x with | some c => c.2.1 == e && c.2.2 == i | none => false := rfl
theorem scanR_err (s : DS) (a n e : Nat) : (scanR s a n e).2.2 = 0 ∨ (scanR s a n e).2.2 = 18 := by unfold scanR; split <;> simp
theorem scanR_len (s : DS) (a n e : Nat) : (scanR s a n e).1.sec.length = s.sec.length ∧ (scanR s a n e).1.opn = s.opn := by unfold scanR; split <;> exact ⟨rfl, rfl⟩
theorem scanR_told (s : DS) (a n e : Nat) : (scanR s a n e).2.1.length ≤ n := by
  unfold scanR
  split
  · simp
  · show (recs (rowOf s a n) e).length ≤ n
    rw [recs_length]
    have := lead_le (rowOf s a n) e
    rw [rowOf_length] at this; exact this
end Go.Proofs.Ytmccoejliaakoaa.Wl
