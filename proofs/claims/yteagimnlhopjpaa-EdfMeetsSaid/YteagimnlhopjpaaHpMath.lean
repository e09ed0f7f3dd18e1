/- Heaps in a row: the mathematics of layer 16, of any things with an order. -/
import Derived.Test.YteagimnlhopjpaaRows
namespace Go.Proofs.Yteagimnlhopjpaa.Hp
set_option maxRecDepth 100000
set_option maxRecDepth 100000
set_option linter.unusedVariables false
set_option linter.unusedSimpArgs false
section
variable {α : Type} {lt : α → α → Bool}
/-- of two things one is less, or they are the same -/
structure Ord (lt : α → α → Bool) : Prop where
  irr : ∀ a, lt a a = false
  tr : ∀ a b c, lt a b = true → lt b c = true → lt a c = true
  tri : ∀ a b, lt a b = false → lt b a = false → a = b
/-- a is not above b -/
def le (lt : α → α → Bool) (a b : α) : Prop := lt b a = false
/-- .. but for what is the same by the order, and yet another thing -/
structure Wk (lt : α → α → Bool) : Prop where
  irr : ∀ a, lt a a = false
  asym : ∀ a b, lt a b = true → lt b a = false
  letr : ∀ a b c, lt b a = false → lt c b = false → lt c a = false
/-- of these things no two are the same by the order -/
def An (lt : α → α → Bool) (l : List α) : Prop := ∀ a b, a ∈ l → b ∈ l → le lt a b → le lt b a → a = b
theorem Ord.wk (o : Ord lt) : Wk lt where
  irr := o.irr
  asym := fun a b h => by
    cases hb : lt b a with
    | false => rfl
    | true => have := o.tr a b a h hb; rw [o.irr] at this; cases this
  letr := fun a b c h1 h2 => by
    cases hc : lt c a with
    | false => rfl
    | true =>
      cases hab : lt a b with
      | true => have := o.tr c a b hc hab; rw [h2] at this; cases this
      | false => have := o.tri a b hab h1; subst this; rw [h2] at hc; cases hc
theorem Ord.an (o : Ord lt) (l : List α) : An lt l := fun a b _ _ h1 h2 => o.tri a b h2 h1
theorem An.perm {l m : List α} (h : An lt l) (hp : l.Perm m) : An lt m := fun a b ha hb => h a b (hp.mem_iff.2 ha) (hp.mem_iff.2 hb)
theorem An.sub {l m : List α} (h : An lt l) (hs : ∀ a ∈ m, a ∈ l) : An lt m := fun a b ha hb => h a b (hs a ha) (hs b hb)
theorem Wk.le_refl (o : Wk lt) (a : α) : le lt a a := o.irr a
theorem Wk.le_of_lt (o : Wk lt) {a b : α} (h : lt a b = true) : le lt a b := o.asym a b h
theorem Wk.le_trans (o : Wk lt) {a b c : α} (h1 : le lt a b) (h2 : le lt b c) : le lt a c := o.letr a b c h1 h2
theorem not_lt {a b : α} (h : ¬ lt a b = true) : le lt b a := by unfold le; cases hb : lt a b with
  | false => rfl
  | true => exact absurd hb h
/-- in order -/
def Srt (lt : α → α → Bool) (l : List α) : Prop := l.Pairwise (le lt)
/-- one more, behind those that are not above it -/
def ins (lt : α → α → Bool) (x : α) : List α → List α
  | [] => [x]
  | y :: l => if lt x y = true then x :: y :: l else y :: ins lt x l
theorem ins_perm (x : α) (l : List α) : (ins lt x l).Perm (x :: l) := by
  induction l with
  | nil => exact .refl _
  | cons y l ih =>
    unfold ins
    split
    · exact .refl _
    · exact (ih.cons y).trans (.swap x y l)
theorem ins_mem {x z : α} {l : List α} : z ∈ ins lt x l ↔ z = x ∨ z ∈ l := by rw [(ins_perm x l).mem_iff, List.mem_cons]
theorem ins_len (x : α) (l : List α) : (ins lt x l).length = l.length + 1 := by rw [(ins_perm x l).length_eq, List.length_cons]
theorem ins_srt (o : Wk lt) {x : α} {l : List α} (h : Srt lt l) : Srt lt (ins lt x l) := by
  induction l with
  | nil => exact List.pairwise_singleton _ _
  | cons y l ih =>
    obtain ⟨h1, h2⟩ := List.pairwise_cons.1 h
    unfold ins
    split
    · rename_i hxy
      refine List.pairwise_cons.2 ⟨fun z hz => ?_, h⟩
      rcases List.mem_cons.1 hz with rfl | hz
      · exact o.le_of_lt hxy
      · exact o.le_trans (o.le_of_lt hxy) (h1 z hz)
    · rename_i hxy
      refine List.pairwise_cons.2 ⟨fun z hz => ?_, ih h2⟩
      rcases ins_mem.1 hz with rfl | hz
      · exact not_lt hxy
      · exact h1 z hz
/-- what is in order is so in one way alone -/
theorem srt_uniq : ∀ {l m : List α}, An lt l → Srt lt l → Srt lt m → l.Perm m → l = m := by
  intro l
  induction l with
  | nil => intro m _ _ _ h; exact (List.nil_perm.1 h).symm
  | cons x l ih =>
    intro m an hl hm h
    cases m with
    | nil => exact absurd h.symm (by intro h; have := h.length_eq; simp at this)
    | cons y m =>
      have e : x = y := by
        have hx := (h.mem_iff (a := x)).1 (by simp)
        have hy := (h.mem_iff (a := y)).2 (by simp)
        rcases List.mem_cons.1 hx with e | hx
        · exact e
        · rcases List.mem_cons.1 hy with e | hy
          · exact e.symm
          · exact an x y (by simp) (by simp [hy]) ((List.pairwise_cons.1 hl).1 y hy) ((List.pairwise_cons.1 hm).1 x hx)
      subst e
      rw [ih (an.sub (fun a ha => by simp [ha])) (List.pairwise_cons.1 hl).2 (List.pairwise_cons.1 hm).2 (List.Perm.cons_inv h)]
/-- the same things in order -/
def sort (lt : α → α → Bool) : List α → List α
  | [] => []
  | x :: l => ins lt x (sort lt l)
theorem sort_perm (l : List α) : (sort lt l).Perm l := by
  induction l with
  | nil => exact .refl _
  | cons x l ih => exact (ins_perm x _).trans (ih.cons x)
theorem sort_srt (o : Wk lt) (l : List α) : Srt lt (sort lt l) := by
  induction l with
  | nil => exact List.Pairwise.nil
  | cons x l ih => exact ins_srt o ih
theorem sort_len (l : List α) : (sort lt l).length = l.length := (sort_perm l).length_eq
theorem sort_eq (o : Wk lt) {l m : List α} (an : An lt l) (h : l.Perm m) : sort lt l = sort lt m := srt_uniq (an.perm (sort_perm l).symm) (sort_srt o l) (sort_srt o m) ((sort_perm l).trans (h.trans (sort_perm m).symm))
theorem sort_self (o : Wk lt) {l : List α} (an : An lt l) (h : Srt lt l) : sort lt l = l := srt_uniq (an.perm (sort_perm l).symm) (sort_srt o l) h (sort_perm l)
theorem sort_ins (o : Wk lt) (x : α) (l : List α) (an : An lt (l ++ [x])) : sort lt (l ++ [x]) = ins lt x (sort lt l) := by
  have h : (l ++ [x]).Perm (x :: l) := List.perm_append_singleton x l
  rw [sort_eq o an h]; rfl
theorem sort_filter (o : Wk lt) (p : α → Bool) (l : List α) (an : An lt l) : sort lt (l.filter p) = (sort lt l).filter p :=
  srt_uniq ((an.sub (fun a ha => (List.mem_filter.1 ha).1)).perm (sort_perm _).symm) (sort_srt o _) ((sort_srt o l).filter p) ((sort_perm _).trans ((sort_perm l).symm.filter p))
/-- the least one, and all others -/
theorem sort_min (o : Wk lt) {x : α} {l m : List α} (an : An lt l) (h : l.Perm (x :: m)) (hx : ∀ y ∈ m, le lt x y) : sort lt l = x :: sort lt m :=
  srt_uniq (an.perm (sort_perm l).symm) (sort_srt o l) (List.pairwise_cons.2 ⟨fun y hy => hx y ((sort_perm m).mem_iff.1 hy), sort_srt o m⟩) ((sort_perm l).trans (h.trans ((sort_perm m).symm.cons x)))
/- a heap in a row: each one is not below the one at half its place -/
def Hp (lt : α → α → Bool) (l : List α) : Prop := ∀ i a b, 0 < i → l[i]? = some b → l[(i - 1) / 2]? = some a → le lt a b
theorem hp_nil : Hp lt [] := fun i a b _ h => by simp at h
theorem hp_srt {l : List α} (h : Srt lt l) : Hp lt l := fun i a b hi hb ha => by
  obtain ⟨h1, rfl⟩ := List.getElem?_eq_some_iff.1 hb
  obtain ⟨h2, rfl⟩ := List.getElem?_eq_some_iff.1 ha
  exact List.pairwise_iff_getElem.1 h _ _ h2 h1 (by omega)
/-- the first one is the least -/
theorem hp_min (o : Wk lt) {l : List α} (h : Hp lt l) {a : α} (ha : l[0]? = some a) : ∀ (n i : Nat) (b : α), i ≤ n → l[i]? = some b → le lt a b := by
  intro n
  induction n with
  | zero =>
    intro i b hi hb
    obtain rfl : i = 0 := by omega
    rw [ha] at hb; cases hb; exact o.le_refl a
  | succ n ih =>
    intro i b hi hb
    by_cases h0 : i = 0
    · subst h0; rw [ha] at hb; cases hb; exact o.le_refl a
    · have hl := (List.getElem?_eq_some_iff.1 hb).1
      have hp := List.getElem?_eq_getElem (show (i - 1) / 2 < l.length by omega)
      exact o.le_trans (ih _ _ (by omega) hp) (h i _ b (by omega) hb hp)
theorem hp_head (o : Wk lt) {a : α} {l : List α} (an : An lt (a :: l)) (h : Hp lt (a :: l)) : sort lt (a :: l) = a :: sort lt l :=
  sort_min o an (.refl _) (fun y hy => by
    obtain ⟨i, hi⟩ := List.mem_iff_getElem?.1 hy
    exact hp_min o h (a := a) rfl (i + 1) (i + 1) y (Nat.le_refl _) (by simpa using hi))
/-- two of them change places -/
def swap (l : List α) (i j : Nat) : List α := match l[i]?, l[j]? with
  | some a, some b => (l.set i b).set j a
  | _, _ => l
theorem swap_is {l : List α} {i j : Nat} {a b : α} (ha : l[i]? = some a) (hb : l[j]? = some b) : swap l i j = (l.set i b).set j a := by unfold swap; rw [ha, hb]
theorem swap_len (l : List α) (i j : Nat) : (swap l i j).length = l.length := by
  unfold swap
  split <;> simp
theorem swap_perm (l : List α) (i j : Nat) : (swap l i j).Perm l := by
  unfold swap
  split
  · rename_i a b ha hb
    obtain ⟨h1, rfl⟩ := List.getElem?_eq_some_iff.1 ha
    obtain ⟨h2, rfl⟩ := List.getElem?_eq_some_iff.1 hb
    exact List.set_set_perm h1 h2
  · exact .refl _
theorem swap_get {l : List α} {i j : Nat} {a b : α} (ha : l[i]? = some a) (hb : l[j]? = some b) (k : Nat) : (swap l i j)[k]? = if k = j then some a else if k = i then some b else l[k]? := by
  have h1 := (List.getElem?_eq_some_iff.1 ha).1
  have h2 := (List.getElem?_eq_some_iff.1 hb).1
  rw [swap_is ha hb, List.getElem?_set]
  by_cases e : j = k
  · subst e
    rw [if_pos rfl, if_pos rfl, if_pos (by simpa using h2)]
  · rw [if_neg e, if_neg (fun h => e h.symm), List.getElem?_set]
    by_cases e2 : i = k
    · subst e2
      rw [if_pos rfl, if_pos rfl, if_pos h1]
    · rw [if_neg e2, if_neg (fun h => e2 h.symm)]
/-- a heap but for the i-th one, that may be below the one at half its place -/
structure Up (lt : α → α → Bool) (l : List α) (i : Nat) : Prop where
  rest : ∀ j a b, 0 < j → j ≠ i → l[j]? = some b → l[(j - 1) / 2]? = some a → le lt a b
  over : ∀ j a b, 0 < j → (j - 1) / 2 = i → 0 < i → l[j]? = some b → l[(i - 1) / 2]? = some a → le lt a b
theorem up_start {l : List α} (x : α) (h : Hp lt l) : Up lt (l ++ [x]) l.length := by
  refine ⟨fun j a b hj hne hb ha => ?_, fun j a b hj hp hi hb ha => ?_⟩
  · have h1 := (List.getElem?_eq_some_iff.1 hb).1
    rw [List.length_append, List.length_singleton] at h1
    rw [List.getElem?_append_left (by omega)] at hb ha
    exact h j a b hj hb ha
  · have h1 := (List.getElem?_eq_some_iff.1 hb).1
    rw [List.length_append, List.length_singleton] at h1
    omega
theorem up_zero {l : List α} (h : Up lt l 0) : Hp lt l := fun j a b hj hb ha => h.rest j a b hj (by omega) hb ha
theorem up_done {l : List α} {i : Nat} {a b : α} (h : Up lt l i) (hb : l[i]? = some b) (ha : l[(i - 1) / 2]? = some a) (hle : le lt a b) : Hp lt l := fun j c d hj hd hc => by
  by_cases e : j = i
  · subst e; rw [hb] at hd; rw [ha] at hc; cases hd; cases hc; exact hle
  · exact h.rest j c d hj e hd hc
theorem up_step (o : Wk lt) {l : List α} {i : Nat} {a b : α} (h : Up lt l i) (hi : 0 < i) (hb : l[i]? = some b) (ha : l[(i - 1) / 2]? = some a) (hlt : lt b a = true) : Up lt (swap l i ((i - 1) / 2)) ((i - 1) / 2) := by
  have g := swap_get hb ha
  refine ⟨fun j c d hj hne hd hc => ?_, fun j c d hj hp hp0 hd hc => ?_⟩
  · rw [g] at hd hc
    rw [if_neg hne] at hd
    by_cases e : j = i
    · subst e
      rw [if_pos rfl] at hd
      rw [if_pos rfl] at hc
      cases hd; cases hc
      exact o.le_of_lt hlt
    · rw [if_neg e] at hd
      by_cases e2 : (j - 1) / 2 = (i - 1) / 2
      · rw [if_pos e2] at hc
        cases hc
        rw [← e2] at ha
        exact o.le_trans (o.le_of_lt hlt) (h.rest j a d hj e hd ha)
      · rw [if_neg e2] at hc
        by_cases e3 : (j - 1) / 2 = i
        · rw [if_pos e3] at hc
          cases hc
          exact h.over j a d hj e3 hi hd ha
        · rw [if_neg e3] at hc
          exact h.rest j c d hj e hd hc
  · rw [g] at hd hc
    rw [if_neg (by omega), if_neg (by omega)] at hc
    have hpp := h.rest ((i - 1) / 2) c a hp0 (by omega) ha hc
    rw [if_neg (by omega)] at hd
    by_cases e : j = i
    · subst e
      rw [if_pos rfl] at hd
      cases hd
      exact hpp
    · rw [if_neg e] at hd
      rw [← hp] at ha
      exact o.le_trans hpp (h.rest j a d hj e hd ha)
/-- a heap but for the i-th one, that may be above those at twice its place -/
structure Dn (lt : α → α → Bool) (l : List α) (i : Nat) : Prop where
  rest : ∀ j a b, 0 < j → (j - 1) / 2 ≠ i → l[j]? = some b → l[(j - 1) / 2]? = some a → le lt a b
  over : ∀ j a b, 0 < j → (j - 1) / 2 = i → 0 < i → l[j]? = some b → l[(i - 1) / 2]? = some a → le lt a b
theorem dn_start {l : List α} (x : α) (h : Hp lt l) : Dn lt (l.set 0 x) 0 := by
  refine ⟨fun j a b hj hne hb ha => ?_, fun j a b hj hp hi hb ha => by omega⟩
  rw [List.getElem?_set_ne (by omega)] at hb
  rw [List.getElem?_set_ne (by omega)] at ha
  exact h j a b hj hb ha
theorem dn_done {l : List α} {i : Nat} {a : α} (h : Dn lt l i) (ha : l[i]? = some a) (h1 : ∀ b, l[2 * i + 1]? = some b → le lt a b) (h2 : ∀ b, l[2 * i + 2]? = some b → le lt a b) : Hp lt l := fun j c d hj hd hc => by
  by_cases e : (j - 1) / 2 = i
  · rw [e, ha] at hc
    cases hc
    rcases (by omega : j = 2 * i + 1 ∨ j = 2 * i + 2) with rfl | rfl
    · exact h1 d hd
    · exact h2 d hd
  · exact h.rest j c d hj e hd hc
theorem dn_none {l : List α} {i : Nat} (h : Dn lt l i) (hi : l.length ≤ 2 * i + 1) : Hp lt l := fun j c d hj hd hc => by
  have h1 := (List.getElem?_eq_some_iff.1 hd).1
  exact h.rest j c d hj (by omega) hd hc
/-- c: that one of the two that is not above the other -/
theorem dn_step (o : Wk lt) {l : List α} {i c : Nat} {a b : α} (h : Dn lt l i) (hc : c = 2 * i + 1 ∨ c = 2 * i + 2) (ha : l[i]? = some a) (hb : l[c]? = some b) (hlt : lt b a = true) (hm : ∀ j d, j = 2 * i + 1 ∨ j = 2 * i + 2 → l[j]? = some d → le lt b d) : Dn lt (swap l i c) c := by
  have g := swap_get ha hb
  refine ⟨fun j x y hj hne hy hx => ?_, fun j x y hj hp hp0 hy hx => ?_⟩
  · rw [g] at hy hx
    rw [if_neg hne] at hx
    by_cases e : (j - 1) / 2 = i
    · rw [if_pos e] at hx
      cases hx
      by_cases e2 : j = c
      · subst e2
        rw [if_pos rfl] at hy
        cases hy
        exact o.le_of_lt hlt
      · rw [if_neg e2, if_neg (by omega)] at hy
        exact hm j y (by omega) hy
    · rw [if_neg e] at hx
      by_cases e2 : j = c
      · omega
      · rw [if_neg e2] at hy
        by_cases e3 : j = i
        · subst e3
          rw [if_pos rfl] at hy
          cases hy
          exact h.over c x b (by omega) (by omega) (by omega) hb hx
        · rw [if_neg e3] at hy
          exact h.rest j x y hj e hy hx
  · rw [g] at hy hx
    have ep : (c - 1) / 2 = i := by omega
    rw [ep, if_neg (by omega), if_pos rfl] at hx
    cases hx
    rw [if_neg (by omega), if_neg (by omega)] at hy
    rw [← hp] at hb
    exact h.rest j b y hj (by omega) hy hb
/-- the last one in the place of the first -/
theorem hp_take {l : List α} (h : Hp lt l) (k : Nat) : Hp lt (l.take k) := fun i a b hi hb ha => by
  rw [List.getElem?_take] at hb ha
  split at hb
  · split at ha
    · exact h i a b hi hb ha
    · cases ha
  · cases hb
theorem last_perm {a x : α} {l : List α} : ((a :: (l ++ [x])).take (l.length + 1)).set 0 x = x :: l := by
  rw [List.take_succ_cons, List.set_cons_zero, List.take_left']
  rfl
end
/-- whole numbers by '<' -/
def ltI (a b : Int) : Bool := decide (a < b)
theorem ordI : Ord ltI where
  irr := fun a => decide_eq_false (by omega)
  tr := fun a b c h1 h2 => by
    have h1 := of_decide_eq_true h1
    have h2 := of_decide_eq_true h2
    exact decide_eq_true (by omega)
  tri := fun a b h1 h2 => by
    have h1 := of_decide_eq_false h1
    have h2 := of_decide_eq_false h2
    omega
end Go.Proofs.Yteagimnlhopjpaa.Hp
