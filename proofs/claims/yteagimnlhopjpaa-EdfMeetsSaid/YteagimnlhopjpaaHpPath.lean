/- How package heap moves its things: up from the end, and down from the first one, by places alone. -/
import Derived.Test.YteagimnlhopjpaaHpMath
namespace Go.Proofs.Yteagimnlhopjpaa.Hp
set_option maxRecDepth 100000
set_option maxRecDepth 100000
set_option linter.unusedVariables false
set_option linter.unusedSimpArgs false
section
variable {α : Type} {lt : α → α → Bool}
/-- x stands at that place; each thing on the way up from there in its parent's place; the first one's own goes -/
def settleR (l : List α) (at_ : Nat) (x : α) : List α :=
  if h : at_ = 0 then l.set 0 x else match l[at_]? with
    | some y => settleR (l.set at_ x) ((at_ - 1) / 2) y
    | none => l
termination_by at_
decreasing_by omega
theorem settle_zero (l : List α) (x : α) : settleR l 0 x = l.set 0 x := by rw [settleR]; simp
theorem settle_up {l : List α} {i : Nat} {x y : α} (h : 0 < i) (hy : l[i]? = some y) : settleR l i x = settleR (l.set i x) ((i - 1) / 2) y := by
  rw [settleR, dif_neg (by omega), hy]
theorem settle_len : ∀ (i : Nat) (l : List α) (x : α), (settleR l i x).length = l.length := by
  intro i
  induction i using Nat.strongRecOn with
  | _ i ih =>
    intro l x
    by_cases h : i = 0
    · subst h; rw [settle_zero, List.length_set]
    · cases hy : l[i]? with
      | none => rw [settleR, dif_neg h, hy]
      | some y => rw [settle_up (by omega) hy, ih _ (by omega), List.length_set]
/-- what stands behind that place is not asked, and stays -/
theorem settle_set : ∀ (i : Nat) (l : List α) (x z : α) (c : Nat), i < c → settleR (l.set c z) i x = (settleR l i x).set c z := by
  intro i
  induction i using Nat.strongRecOn with
  | _ i ih =>
    intro l x z c hc
    by_cases h : i = 0
    · subst h; rw [settle_zero, settle_zero, List.set_comm _ _ (by omega)]
    · have hg : (l.set c z)[i]? = l[i]? := List.getElem?_set_ne (by omega)
      cases hy : l[i]? with
      | none => rw [settleR, dif_neg h, hg, hy, settleR, dif_neg h, hy]
      | some y =>
        rw [settle_up (by omega) (hg.trans hy), settle_up (by omega) hy, List.set_comm _ _ (by omega), ih _ (by omega) _ _ _ _ (by omega)]
theorem settle_get : ∀ (i : Nat) (l : List α) (x : α) (c : Nat), i < c → (settleR l i x)[c]? = l[c]? := by
  intro i
  induction i using Nat.strongRecOn with
  | _ i ih =>
    intro l x c hc
    by_cases h : i = 0
    · subst h; rw [settle_zero, List.getElem?_set_ne (by omega)]
    · cases hy : l[i]? with
      | none => rw [settleR, dif_neg h, hy]
      | some y => rw [settle_up (by omega) hy, ih _ (by omega) _ _ _ (by omega), List.getElem?_set_ne (by omega)]
theorem settle_take : ∀ (i : Nat) (l : List α) (x : α) (k : Nat), i < k → (settleR l i x).take k = settleR (l.take k) i x := by
  intro i
  induction i using Nat.strongRecOn with
  | _ i ih =>
    intro l x k hk
    by_cases h : i = 0
    · subst h; rw [settle_zero, settle_zero, List.take_set]
    · have hg : (l.take k)[i]? = l[i]? := List.getElem?_take_of_lt (by omega)
      cases hy : l[i]? with
      | none => rw [settleR, dif_neg h, hy, settleR, dif_neg h, hg, hy]
      | some y => rw [settle_up (by omega) hy, settle_up (by omega) (hg.trans hy), ih _ (by omega) _ _ _ (by omega), List.take_set]
/-- another thing at that place -/
theorem settle_other {i : Nat} {l : List α} (x y : α) (hi : i < l.length) : settleR l i y = (settleR l i x).set i y := by
  by_cases h : i = 0
  · subst h; rw [settle_zero, settle_zero, List.set_set]
  · have hz := List.getElem?_eq_getElem hi
    rw [settle_up (by omega) hz, settle_up (by omega) hz, settle_set _ _ _ _ _ (by omega), settle_set _ _ _ _ _ (by omega), List.set_set]
theorem settle_at {i : Nat} {l : List α} (x : α) (hi : i < l.length) : (settleR l i x)[i]? = some x := by
  rw [settle_other x x hi, List.getElem?_set_self (by rw [settle_len]; exact hi)]
/-- one step down: the thing there changes places with x -/
theorem settle_down {l : List α} {i c : Nat} {x y : α} (hp : (c - 1) / 2 = i) (hic : i < c) (hy : l[c]? = some y) : settleR l c x = swap (settleR l i x) i c := by
  have hl := (List.getElem?_eq_some_iff.1 hy).1
  rw [swap_is (settle_at x (by omega)) ((settle_get i l x c hic).trans hy), settle_up (by omega) hy, hp, settle_set _ _ _ _ _ hic, settle_other x y (by omega)]
/-- on the way down from the first one -/
structure Down (lt : α → α → Bool) (l : List α) (x : α) (i : Nat) : Prop where
  inn : i < l.length
  dn : Dn lt (settleR l i x) i
  perm : (settleR l i x).Perm (l.set 0 x)
theorem down_start {l : List α} {x : α} (h : Hp lt l) (h0 : 0 < l.length) : Down lt l x 0 := by
  refine ⟨h0, ?_, ?_⟩
  · rw [settle_zero]; exact dn_start x h
  · rw [settle_zero]
theorem down_get {l : List α} {x : α} {i c : Nat} (h : Down lt l x i) (hc : i < c) : (settleR l i x)[c]? = l[c]? := settle_get i l x c hc
/-- y: that one of the two that is not above the other; it is below x -/
theorem down_step (o : Wk lt) {l : List α} {x y : α} {i c : Nat} (h : Down lt l x i) (hc : c = 2 * i + 1 ∨ c = 2 * i + 2) (hy : l[c]? = some y) (hlt : lt y x = true) (hm : ∀ j d, j = 2 * i + 1 ∨ j = 2 * i + 2 → l[j]? = some d → le lt y d) : Down lt l x c := by
  have hic : i < c := by omega
  have e := settle_down (x := x) (show (c - 1) / 2 = i by omega) hic hy
  refine ⟨(List.getElem?_eq_some_iff.1 hy).1, ?_, ?_⟩
  · rw [e]
    exact dn_step o h.dn hc (settle_at x h.inn) ((down_get h hic).trans hy) hlt (fun j d hj hd => hm j d hj ((down_get h (by omega)).symm.trans hd))
  · rw [e]; exact (swap_perm _ _ _).trans h.perm
theorem down_done {l : List α} {x : α} {i : Nat} (h : Down lt l x i) (h1 : ∀ b, l[2 * i + 1]? = some b → le lt x b) (h2 : ∀ b, l[2 * i + 2]? = some b → le lt x b) : Hp lt (settleR l i x) :=
  dn_done h.dn (settle_at x h.inn) (fun b hb => h1 b ((down_get h (by omega)).symm.trans hb)) (fun b hb => h2 b ((down_get h (by omega)).symm.trans hb))
theorem down_none {l : List α} {x : α} {i : Nat} (h : Down lt l x i) (hi : l.length ≤ 2 * i + 1) : Hp lt (settleR l i x) := dn_none h.dn (by rw [settle_len]; exact hi)
/-- each thing from its parent's place, on the way up from i to k -/
def liftR (l : List α) (i k : Nat) : List α :=
  if h : k < i then match l[(i - 1) / 2]? with
    | some y => liftR (l.set i y) ((i - 1) / 2) k
    | none => l
  else l
termination_by i
decreasing_by omega
theorem lift_done {l : List α} {i k : Nat} (h : i ≤ k) : liftR l i k = l := by rw [liftR, dif_neg (by omega)]
theorem lift_step {l : List α} {i k : Nat} {y : α} (h : k < i) (hy : l[(i - 1) / 2]? = some y) : liftR l i k = liftR (l.set i y) ((i - 1) / 2) k := by rw [liftR, dif_pos h, hy]
theorem lift_len : ∀ (i : Nat) (l : List α) (k : Nat), (liftR l i k).length = l.length := by
  intro i
  induction i using Nat.strongRecOn with
  | _ i ih =>
    intro l k
    by_cases h : k < i
    · cases hy : l[(i - 1) / 2]? with
      | none => rw [liftR, dif_pos h, hy]
      | some y => rw [lift_step h hy, ih _ (by omega), List.length_set]
    · rw [lift_done (by omega)]
/-- k is on the way up from i -/
inductive Anc : Nat → Nat → Prop
  | self (i : Nat) : Anc i i
  | up {k i : Nat} : Anc k i → 0 < k → Anc ((k - 1) / 2) i
theorem anc_le {k i : Nat} (h : Anc k i) : k ≤ i := by
  induction h with
  | self i => exact Nat.le_refl _
  | up h hk ih => omega
/-- .. seen from below -/
theorem anc_par {k i : Nat} (h : Anc k i) : k = i ∨ (0 < i ∧ Anc k ((i - 1) / 2)) := by
  induction h with
  | self i => exact .inl rfl
  | up h hk ih =>
    rcases ih with rfl | ⟨h0, ih⟩
    · exact .inr ⟨hk, .self _⟩
    · exact .inr ⟨h0, .up ih hk⟩
theorem lift_get : ∀ (i : Nat) (l : List α) (k c : Nat), Anc k i → c ≤ k → (liftR l i k)[c]? = l[c]? := by
  intro i
  induction i using Nat.strongRecOn with
  | _ i ih =>
    intro l k c ha hc
    rcases anc_par ha with rfl | ⟨h0, ha2⟩
    · rw [lift_done (Nat.le_refl _)]
    · have h1 := anc_le ha2
      cases hy : l[(i - 1) / 2]? with
      | none => rw [liftR]; split; rw [hy]; rfl
      | some y => rw [lift_step (by omega) hy, ih _ (by omega) _ _ _ ha2 hc, List.getElem?_set_ne (by omega)]
theorem lift_up : ∀ (i : Nat) (l : List α) (k : Nat) (y : α), Anc k i → 0 < k → i < l.length → l[(k - 1) / 2]? = some y → liftR l i ((k - 1) / 2) = (liftR l i k).set k y := by
  intro i
  induction i using Nat.strongRecOn with
  | _ i ih =>
    intro l k y ha hk hi hy
    rcases anc_par ha with rfl | ⟨h0, ha2⟩
    · rw [lift_done (Nat.le_refl k), lift_step (by omega) hy, lift_done (Nat.le_refl _)]
    · have h1 := anc_le ha2
      obtain ⟨z, hz⟩ : ∃ z, l[(i - 1) / 2]? = some z := ⟨_, List.getElem?_eq_getElem (by omega)⟩
      rw [lift_step (by omega) hz, lift_step (k := k) (by omega) hz]
      exact ih _ (by omega) _ _ _ ha2 hk (by rw [List.length_set]; omega) (by rw [List.getElem?_set_ne (by omega)]; exact hy)
/-- the row with x at k, those above it one place down -/
def upR (l : List α) (x : α) (k : Nat) : List α := (liftR (l ++ [x]) l.length k).set k x
/-- on the way up from the end -/
structure Ups (lt : α → α → Bool) (l : List α) (x : α) (k : Nat) : Prop where
  anc : Anc k l.length
  up : Up lt (upR l x k) k
  perm : (upR l x k).Perm (l ++ [x])
theorem ups_start {l : List α} (x : α) (h : Hp lt l) : Ups lt l x l.length := by
  have e : upR l x l.length = l ++ [x] := by
    unfold upR
    rw [lift_done (Nat.le_refl _)]
    rw [List.set_append_right _ _ (Nat.le_refl _), Nat.sub_self]; rfl
  exact ⟨.self _, by rw [e]; exact up_start x h, by rw [e]⟩
theorem ups_step (o : Wk lt) {l : List α} {x y : α} {k : Nat} (h : Ups lt l x k) (hk : 0 < k) (hy : l[(k - 1) / 2]? = some y) (hlt : lt x y = true) : Ups lt l x ((k - 1) / 2) := by
  have hle := anc_le h.anc
  have hl := (List.getElem?_eq_some_iff.1 hy).1
  have hy2 : (l ++ [x])[(k - 1) / 2]? = some y := by rw [List.getElem?_append_left hl]; exact hy
  have e1 : (upR l x k)[k]? = some x := by unfold upR; rw [List.getElem?_set_self (by rw [lift_len]; simp; omega)]
  have e2 : (upR l x k)[(k - 1) / 2]? = some y := by unfold upR; rw [List.getElem?_set_ne (by omega), lift_get _ _ _ _ h.anc (by omega)]; exact hy2
  have e : upR l x ((k - 1) / 2) = swap (upR l x k) k ((k - 1) / 2) := by
    rw [swap_is e1 e2]
    unfold upR
    rw [lift_up _ _ _ y h.anc hk (by simp) hy2, List.set_set]
  refine ⟨.up h.anc hk, ?_, ?_⟩
  · rw [e]; exact up_step o h.up hk e1 e2 hlt
  · rw [e]; exact (swap_perm _ _ _).trans h.perm
theorem ups_zero {l : List α} {x : α} (h : Ups lt l x 0) : Hp lt (upR l x 0) := up_zero h.up
theorem ups_done {l : List α} {x y : α} {k : Nat} (h : Ups lt l x k) (hk : 0 < k) (hy : l[(k - 1) / 2]? = some y) (hle : le lt y x) : Hp lt (upR l x k) := by
  have hl := (List.getElem?_eq_some_iff.1 hy).1
  have ha := anc_le h.anc
  refine up_done h.up (a := y) (b := x) ?_ ?_ hle
  · unfold upR; rw [List.getElem?_set_self (by rw [lift_len]; simp; omega)]
  · unfold upR; rw [List.getElem?_set_ne (by omega), lift_get _ _ _ _ h.anc (by omega), List.getElem?_append_left hl]; exact hy
end
end Go.Proofs.Yteagimnlhopjpaa.Hp
