/- A disk's mathematics: what lies there, what is open, what a read, a write, a flush and a crash make of it. -/
import Derived.Test.YtcbemjckcmcelaaGnB
namespace Go.Proofs.Ytcbemjckcmcelaa.Dk
set_option maxRecDepth 100000
set_option linter.unusedVariables false
set_option linter.unusedSimpArgs false
/-- lists of one length, in a row -/
theorem flat_len {α : Type} {m : Nat} : ∀ {L : List (List α)}, (∀ x ∈ L, x.length = m) → L.flatten.length = m * L.length
  | [], _ => by simp
  | x :: L, h => by
    rw [List.flatten_cons, List.length_append, flat_len (fun y hy => h y (by simp [hy])), h x (by simp), List.length_cons, Nat.mul_succ]; omega
theorem flat_split {α : Type} (L : List (List α)) {i : Nat} (h : i < L.length) : L.flatten = (L.take i).flatten ++ (L[i] ++ (L.drop (i + 1)).flatten) := by
  have e : L = L.take i ++ L[i] :: L.drop (i + 1) := by
    rw [List.getElem_cons_drop h, List.take_append_drop]
  conv => lhs; rw [e]
  rw [List.flatten_append, List.flatten_cons]
theorem flat_take {α : Type} {m : Nat} {L : List (List α)} (hm : ∀ x ∈ L, x.length = m) {i : Nat} (h : i ≤ L.length) : (L.take i).flatten.length = m * i := by
  rw [flat_len (fun x hx => hm x (List.mem_of_mem_take hx)), List.length_take, Nat.min_eq_left h]
theorem flat_get {α : Type} {m : Nat} {L : List (List α)} (hm : ∀ x ∈ L, x.length = m) {i j : Nat} (h : i < L.length) (hj : j < m) : L.flatten[m * i + j]? = L[i][j]? := by
  have h1 := flat_take hm (i := i) (by omega)
  have h2 : L[i].length = m := hm _ (List.getElem_mem h)
  rw [flat_split L h, List.getElem?_append_right (by omega), h1, show m * i + j - m * i = j by omega, List.getElem?_append_left (by omega)]
theorem flat_sub {α : Type} {m : Nat} {L : List (List α)} (hm : ∀ x ∈ L, x.length = m) {i : Nat} (h : i < L.length) : (L.flatten.drop (m * i)).take m = L[i] := by
  have h1 := flat_take hm (i := i) (by omega)
  have h2 : L[i].length = m := hm _ (List.getElem_mem h)
  rw [flat_split L h, List.drop_left' h1, List.take_left' h2]
structure DS where
  sec : List (List UInt8)
  opn : List (Nat × List UInt8)
  fail : Nat
  reads : Nat
structure DS.Ok (s : DS) : Prop where
  len : s.sec.length ≤ 1024
  sec : ∀ x ∈ s.sec, x.length = 64
  opn : ∀ p ∈ s.opn, p.1 < s.sec.length ∧ p.2.length = 64
/-- the first k bytes of a write lie there -/
def putS (S : List (List UInt8)) (a : Nat) (bs : List UInt8) (k : Nat) : List (List UInt8) := S.set a (bs.take k ++ (S[a]?.getD []).drop k)
theorem putS_length (S : List (List UInt8)) (a : Nat) (bs : List UInt8) (k : Nat) : (putS S a bs k).length = S.length := by simp [putS]
theorem putS_zero (S : List (List UInt8)) (a : Nat) (bs : List UInt8) : putS S a bs 0 = S := by
  unfold putS
  apply List.ext_getElem?
  intro j
  rw [List.getElem?_set]
  split
  · rename_i e
    subst e
    split
    · rename_i h; simp [h]
    · rename_i h; rw [List.getElem?_eq_none (by omega)]
  · rfl
theorem putS_get (S : List (List UInt8)) (a : Nat) (bs : List UInt8) (k j : Nat) (hj : j < S.length) : (putS S a bs k)[j]? = some (if a = j then bs.take k ++ (S[j]).drop k else S[j]) := by
  unfold putS
  rw [List.getElem?_set]
  split
  · rename_i e; subst e; simp [hj]
  · simp [hj]
theorem putS_sec {S : List (List UInt8)} {a : Nat} {bs : List UInt8} {k : Nat} (hS : ∀ x ∈ S, x.length = 64) (ha : a < S.length) (hb : bs.length = 64) (hk : k ≤ 64) : ∀ x ∈ putS S a bs k, x.length = 64 := by
  intro x hx
  rcases List.mem_or_eq_of_mem_set hx with h | rfl
  · exact hS x h
  · have : S[a]?.getD [] = S[a] := by simp [ha]
    rw [this, List.length_append, List.length_take, List.length_drop, hS _ (List.getElem_mem ha)]; omega
theorem putS_flat {S : List (List UInt8)} {a : Nat} {bs : List UInt8} {k : Nat} (hS : ∀ x ∈ S, x.length = 64) (ha : a < S.length) (hb : bs.length = 64) (hk : k ≤ 64) :
    (putS S a bs k).flatten = S.flatten.take (64 * a) ++ bs.take k ++ S.flatten.drop (64 * a + k) := by
  have h1 := flat_take hS (i := a) (by omega)
  have h2 : S[a].length = 64 := hS _ (List.getElem_mem ha)
  have e : putS S a bs k = S.take a ++ (bs.take k ++ S[a].drop k) :: S.drop (a + 1) := by
    unfold putS
    have : S[a]?.getD [] = S[a] := by simp [ha]
    rw [this, List.set_eq_take_append_cons_drop, if_pos ha]
  rw [e, List.flatten_append, List.flatten_cons, flat_split S ha]
  rw [List.take_left' h1, show 64 * a + k = (S.take a).flatten.length + k by rw [h1], List.drop_append, List.drop_append]
  rw [show (S.take a).flatten.length + k - (S.take a).flatten.length = k by omega, List.drop_eq_nil_of_le (show (S.take a).flatten.length ≤ (S.take a).flatten.length + k by omega)]
  rw [show k - S[a].length = 0 by omega]
  simp [List.append_assoc]
/-- the last open write of a sector -/
def lastOf : List (Nat × List UInt8) → Nat → Option (List UInt8)
  | [], _ => none
  | p :: l, a => (lastOf l a).or (if p.1 = a then some p.2 else none)
theorem lastOf_append (l r : List (Nat × List UInt8)) (a : Nat) : lastOf (l ++ r) a = (lastOf r a).or (lastOf l a) := by
  induction l with
  | nil => simp [lastOf]
  | cons p l ih => simp only [List.cons_append, lastOf, ih, Option.or_assoc]
theorem lastOf_snoc (l : List (Nat × List UInt8)) (p : Nat × List UInt8) (a : Nat) : lastOf (l ++ [p]) a = if p.1 = a then some p.2 else lastOf l a := by
  rw [lastOf_append]
  simp only [lastOf]
  split <;> rfl
/-- what a read tells -/
def newestOf (s : DS) (a : Nat) : List UInt8 := (lastOf s.opn a).getD (s.sec[a]?.getD [])
theorem lastOf_mem {l : List (Nat × List UInt8)} {a : Nat} {x : List UInt8} (h : lastOf l a = some x) : (a, x) ∈ l := by
  induction l with
  | nil => cases h
  | cons p l ih =>
    simp only [lastOf] at h
    cases hl : lastOf l a with
    | some y => rw [hl] at h; simp at h; subst h; simp [ih hl]
    | none =>
      rw [hl] at h
      simp at h
      obtain ⟨rfl, rfl⟩ := h
      simp
theorem newestOf_length {s : DS} (h : s.Ok) {a : Nat} (ha : a < s.sec.length) : (newestOf s a).length = 64 := by
  unfold newestOf
  cases hl : lastOf s.opn a with
  | some x => exact (h.opn _ (lastOf_mem hl)).2
  | none => simp [ha, h.sec]
theorem lastOf_at {l : List (Nat × List UInt8)} {a i : Nat} (hi : i < l.length) (hn : lastOf (l.drop (i + 1)) a = none) (he : l[i].1 = a) : lastOf l a = some l[i].2 := by
  have e : l = l.take i ++ (l[i] :: l.drop (i + 1)) := by rw [List.getElem_cons_drop hi, List.take_append_drop]
  conv => lhs; rw [e]
  rw [lastOf_append]
  simp only [lastOf, hn, he]
  rfl
theorem lastOf_not {l : List (Nat × List UInt8)} {a i : Nat} (hi : i < l.length) (hn : lastOf (l.drop (i + 1)) a = none) (he : l[i].1 ≠ a) : lastOf (l.drop i) a = none := by
  rw [← List.getElem_cons_drop hi]
  simp only [lastOf, hn, if_neg he]
  rfl
/-- the first i writes laid, of each as many bytes as k tells -/
def laid (S : List (List UInt8)) (O : List (Nat × List UInt8)) (k : Nat → Nat) : Nat → List (List UInt8)
  | 0 => S
  | i + 1 => match O[i]? with
    | some p => putS (laid S O k i) p.1 p.2 (k i)
    | none => laid S O k i
theorem laid_succ {S : List (List UInt8)} {O : List (Nat × List UInt8)} {k : Nat → Nat} {i : Nat} (h : i < O.length) : laid S O k (i + 1) = putS (laid S O k i) O[i].1 O[i].2 (k i) := by
  simp only [laid, List.getElem?_eq_getElem h]
theorem laid_length (S : List (List UInt8)) (O : List (Nat × List UInt8)) (k : Nat → Nat) (i : Nat) : (laid S O k i).length = S.length := by
  induction i with
  | zero => rfl
  | succ i ih =>
    simp only [laid]
    split
    · rw [putS_length, ih]
    · exact ih
theorem laid_sec {S : List (List UInt8)} {O : List (Nat × List UInt8)} {k : Nat → Nat} (hS : ∀ x ∈ S, x.length = 64) (hO : ∀ p ∈ O, p.1 < S.length ∧ p.2.length = 64) (hk : ∀ i, k i ≤ 64) (i : Nat) : ∀ x ∈ laid S O k i, x.length = 64 := by
  induction i with
  | zero => exact hS
  | succ i ih =>
    simp only [laid]
    split
    · rename_i p hp
      have := hO p (List.mem_of_getElem? hp)
      exact putS_sec ih (by rw [laid_length]; exact this.1) this.2 (hk i)
    · exact ih
/-- how many bytes of a write a fate lets lie there -/
def keepOf (kind a : Int) : Nat := if kind % 3 = 0 then 0 else if kind % 3 = 1 then 64 else (a % 65).toNat
theorem keepOf_le (kind a : Int) : keepOf kind a ≤ 64 := by unfold keepOf; split; omega; split <;> omega
def keptAt (l : List (Int × Int)) (i : Nat) : Nat := match l[i]? with | some p => keepOf p.1 p.2 | none => 0
theorem keptAt_le (l : List (Int × Int)) (i : Nat) : keptAt l i ≤ 64 := by unfold keptAt; split; exact keepOf_le _ _; omega
theorem keptAt_lt {l : List (Int × Int)} {i : Nat} (h : i < l.length) : keptAt l i = keepOf l[i].1 l[i].2 := by unfold keptAt; simp [h]
theorem keptAt_ge {l : List (Int × Int)} {i : Nat} (h : l.length ≤ i) : keptAt l i = 0 := by unfold keptAt; simp [h]
/-- how many of the first i writes do not become whole -/
def brokenTo (l : List (Int × Int)) : Nat → Nat
  | 0 => 0
  | i + 1 => brokenTo l i + (if keptAt l i = 64 then 0 else 1)
theorem brokenTo_le (l : List (Int × Int)) (i : Nat) : brokenTo l i ≤ i := by
  induction i with
  | zero => exact Nat.le_refl _
  | succ i ih => simp only [brokenTo]; split <;> omega
theorem laid_rest {S : List (List UInt8)} {O : List (Nat × List UInt8)} {k : Nat → Nat} {m : Nat} (h : ∀ j, m ≤ j → k j = 0) (d : Nat) : laid S O k (m + d) = laid S O k m := by
  induction d with
  | zero => rfl
  | succ d ih =>
    rw [← Nat.add_assoc, laid]
    split
    · rw [h _ (by omega), putS_zero, ih]
    · exact ih
theorem brokenTo_rest {l : List (Int × Int)} {m : Nat} (h : ∀ j, m ≤ j → keptAt l j = 0) (d : Nat) : brokenTo l (m + d) = brokenTo l m + d := by
  induction d with
  | zero => rfl
  | succ d ih => rw [← Nat.add_assoc, brokenTo, h _ (by omega), if_neg (by omega), ih]; omega
theorem crash_end {S : List (List UInt8)} {O : List (Nat × List UInt8)} {l : List (Int × Int)} {m : Nat} (h : min l.length O.length = m) : laid S O (keptAt l) O.length = laid S O (keptAt l) m ∧ brokenTo l O.length = O.length - (m - brokenTo l m) := by
  have hb := brokenTo_le l m
  by_cases e : O.length ≤ l.length
  · obtain rfl : m = O.length := by omega
    exact ⟨rfl, by omega⟩
  · obtain rfl : m = l.length := by omega
    have h0 : ∀ j, l.length ≤ j → keptAt l j = 0 := fun j hj => keptAt_ge hj
    obtain ⟨d, hd⟩ : ∃ d, O.length = l.length + d := ⟨O.length - l.length, by omega⟩
    rw [hd]
    exact ⟨laid_rest h0 d, by rw [brokenTo_rest h0 d]; omega⟩
def flushedS (s : DS) : List (List UInt8) := laid s.sec s.opn (fun _ => 64) s.opn.length
def crashedS (s : DS) (l : List (Int × Int)) : List (List UInt8) := laid s.sec s.opn (keptAt l) s.opn.length
def readR (s : DS) (a : Int) : DS × List UInt8 × Nat :=
  if 0 ≤ a ∧ a < s.sec.length then (if s.fail = 1 then (⟨s.sec, s.opn, 0, s.reads + 1⟩, [], 18) else (⟨s.sec, s.opn, s.fail - 1, s.reads + 1⟩, newestOf s a.toNat, 0)) else (s, [], 1)
def writeR (s : DS) (a : Int) (t : List UInt8) : DS × Nat :=
  if (0 ≤ a ∧ a < s.sec.length) ∧ t.length = 64 then (if s.fail = 1 then (⟨s.sec, s.opn, 0, s.reads⟩, 18) else (⟨s.sec, s.opn ++ [(a.toNat, t)], s.fail - 1, s.reads⟩, 0)) else (s, 1)
def flushR (s : DS) : DS × Nat := if s.fail = 1 then (⟨s.sec, s.opn, 0, s.reads⟩, 18) else (⟨flushedS s, [], s.fail - 1, s.reads⟩, 0)
def failR (s : DS) (n : Int) : DS := ⟨s.sec, s.opn, n.toNat, s.reads⟩
def crashR (s : DS) (l : List (Int × Int)) : DS × Nat := (⟨crashedS s l, [], 0, 0⟩, brokenTo l s.opn.length)
def newR (n : Nat) : DS := ⟨List.replicate n (List.replicate 64 0), [], 0, 0⟩
theorem newR_ok {n : Nat} (h : n ≤ 1024) : (newR n).Ok :=
  ⟨by simp [newR]; exact h, fun x hx => by simp [newR] at hx; rw [hx.2]; simp, fun p hp => by simp [newR] at hp⟩
theorem DS.Ok.with {s : DS} (h : s.Ok) (f r : Nat) : (DS.mk s.sec s.opn f r).Ok := ⟨h.len, h.sec, h.opn⟩
theorem readR_ok {s : DS} (h : s.Ok) (a : Int) : (readR s a).1.Ok := by unfold readR; split; split; exact h.with _ _; exact h.with _ _; exact h
theorem writeR_ok {s : DS} (h : s.Ok) (a : Int) (t : List UInt8) : (writeR s a t).1.Ok := by
  unfold writeR
  split
  · rename_i hc
    split
    · exact h.with _ _
    · refine ⟨h.len, h.sec, fun p hp => ?_⟩
      simp only [List.mem_append, List.mem_singleton] at hp
      rcases hp with hp | rfl
      · exact h.opn p hp
      · exact ⟨by show a.toNat < s.sec.length; omega, hc.2⟩
  · exact h
theorem laid_ok {s : DS} (h : s.Ok) {k : Nat → Nat} (hk : ∀ i, k i ≤ 64) (n f r : Nat) : (DS.mk (laid s.sec s.opn k n) [] f r).Ok :=
  ⟨by show (laid _ _ _ _).length ≤ 1024; rw [laid_length]; exact h.len, laid_sec h.sec h.opn hk _, fun p hp => by cases hp⟩
theorem flushR_ok {s : DS} (h : s.Ok) : (flushR s).1.Ok := by unfold flushR; split; exact h.with _ _; exact laid_ok h (fun _ => Nat.le_refl _) _ _ _
theorem failR_ok {s : DS} (h : s.Ok) (n : Int) : (failR s n).Ok := h.with _ _
theorem crashR_ok {s : DS} (h : s.Ok) (l : List (Int × Int)) : (crashR s l).1.Ok := laid_ok h (keptAt_le l) _ _ _
end Go.Proofs.Ytcbemjckcmcelaa.Dk
