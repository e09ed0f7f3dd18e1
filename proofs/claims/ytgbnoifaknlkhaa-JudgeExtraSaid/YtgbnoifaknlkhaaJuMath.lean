/- Whether a set may be: the mathematics of layer 15. -/
import Derived.Test.YtgbnoifaknlkhaaMQa
import Derived.Test.YtgbnoifaknlkhaaTbL
import Derived.Test.YtgbnoifaknlkhaaMTt
namespace Go.Proofs.Ytgbnoifaknlkhaa.Ju
open Pm (Tk chk chk_iff rowB rowB_all rowB_len rowB_yes pers periodR pers_pos work Ld loadR load_yes)
open Dm (sum one cnt cnt_nonneg one_more sum_append)
open Qp (testR testR_zero testR_is)
open Tb
open Ox (Od chkR chkR_iff tk0)
set_option maxRecDepth 100000
set_option maxRecDepth 100000
set_option linter.unusedVariables false
set_option linter.unusedSimpArgs false
theorem pers_some {l : List Tk} {m : Nat} (hm : m ≤ 1048576) (h0 : 0 < m) : ∀ {p : Nat}, p ∣ m → (∀ t ∈ l, t.t.toNat ∣ m) → ∃ q, pers l p = some q ∧ q ∣ m := by
  induction l with
  | nil => intro p hp _; exact ⟨p, rfl, hp⟩
  | cons x l ih =>
    intro p hp hl
    have h1 : Nat.lcm p x.t.toNat ∣ m := Nat.lcm_dvd hp (hl x (by simp))
    have h2 := Nat.le_of_dvd h0 h1
    rw [pers, if_neg (by omega)]
    exact ih h1 (fun y hy => hl y (by simp [hy]))
theorem div_mul {q p t : Int} (ht : 0 < t) (h1 : p % t = 0) (h2 : q % p = 0) (hp : 0 < p) : q / t = (p / t) * (q / p) := by
  obtain ⟨j, rfl⟩ := Int.dvd_of_emod_eq_zero h1
  obtain ⟨k, rfl⟩ := Int.dvd_of_emod_eq_zero h2
  have ht0 : t ≠ 0 := by omega
  rw [Int.mul_ediv_cancel_left _ ht0, Int.mul_ediv_cancel_left _ (by omega), Int.mul_assoc, Int.mul_ediv_cancel_left _ ht0]
theorem work_more {l : List Tk} {p q : Int} (hp : 0 < p) (h : q % p = 0) (hl : ∀ x ∈ l, 0 < x.t ∧ p % x.t = 0) : work q l = work p l * (q / p) := by
  induction l with
  | nil => simp [work]
  | cons x l ih =>
    have hx := hl x (by simp)
    rw [work, work, ih (fun y hy => hl y (by simp [hy])), div_mul hx.1 hx.2 h hp, Int.add_mul, Int.mul_assoc]
theorem work_app {l m : List Tk} {p : Int} : work p (l ++ m) = work p l + work p m := by
  induction l with
  | nil => simp [work]
  | cons x l ih => rw [List.cons_append, work, work, ih]; omega
/-- tasks whose periods divide 120 -/
structure Nice (l : List Tk) : Prop where
  row : rowB l = true
  dv : ∀ t ∈ l, t.t.toNat ∣ 120
/-- the load is not above 1, and there never is more work than time -/
def fit (l : List Tk) : Prop := work 120 l ≤ 120 ∧ ∀ s, 1 ≤ s → sum l s ≤ s
theorem nice_load {l : List Tk} (h : Nice l) : (loadR l).e = 0 ∧ ((loadR l).n ≤ (loadR l).p ↔ work 120 l ≤ 120) := by
  obtain ⟨q, hq, hd⟩ := pers_some (l := l) (m := 120) (by omega) (by omega) (Nat.one_dvd _) h.dv
  have e1 : periodR l = ((q : Int), 0) := by unfold periodR; rw [if_pos h.row, hq]
  have hl := rowB_all h.row
  obtain ⟨hq0, hq1, -, hpd⟩ := pers_pos (by omega) (by omega) hl hq
  have e2 : loadR l = ⟨work q l, q, 0⟩ := by rw [load_yes (by rw [e1]), e1]
  rw [e2]
  obtain ⟨k, hk⟩ := hd
  have hk0 : 0 < k := by
    rcases Nat.eq_zero_or_pos k with h0 | h0
    · rw [h0] at hk; omega
    · exact h0
  have hkI : (120 : Int) = (q : Int) * (k : Int) := by rw [← Int.natCast_mul, ← hk]; rfl
  have hm : (120 : Int) % (q : Int) = 0 := by rw [hkI]; exact Int.mul_emod_right _ _
  have hdv : (120 : Int) / (q : Int) = (k : Int) := by rw [hkI]; exact Int.mul_ediv_cancel_left _ (by omega)
  have hw := work_more (l := l) (p := (q : Int)) (q := 120) (by omega) hm (fun x hx => by
    have h1 := chk_iff.1 (hl x hx)
    have h2 := hpd x hx
    have h3 : x.t = ((x.t.toNat : Nat) : Int) := by omega
    refine ⟨by omega, ?_⟩
    rw [h3, ← Int.natCast_emod, Nat.mod_eq_zero_of_dvd h2]; rfl)
  rw [hdv] at hw
  refine ⟨rfl, ?_⟩
  show work (q : Int) l ≤ (q : Int) ↔ work 120 l ≤ 120
  rw [hw]
  constructor
  · intro h1
    have := Int.mul_le_mul_of_nonneg_right h1 (show (0 : Int) ≤ (k : Int) by omega)
    omega
  · intro h1
    have h2 : work (q : Int) l * (k : Int) ≤ (q : Int) * (k : Int) := by omega
    exact Int.le_of_mul_le_mul_right h2 (by omega)
theorem nice_test {l : List Tk} (h : Nice l) : testR l = 0 ↔ fit l := by
  obtain ⟨h1, h2⟩ := nice_load h
  rw [testR_zero]
  exact ⟨fun k => ⟨h2.1 k.2.1, k.2.2⟩, fun k => ⟨h1, h2.2 k.1, k.2⟩⟩
/-- less work at each time, and of a whole period, fits where more does -/
theorem fit_less {l m : List Tk} (h1 : work 120 m ≤ work 120 l) (h2 : ∀ s, sum m s ≤ sum l s) (hf : fit l) : fit m :=
  ⟨Int.le_trans h1 hf.1, fun s hs => Int.le_trans (h2 s) (hf.2 s hs)⟩
/- tables -/
def DV (l : List Rw) : Prop := ∀ r ∈ l, r.t.t.toNat ∣ 120
theorem inT_app (k : Int) (l m : List Rw) : inT k (l ++ m) = inT k l ++ inT k m := by unfold inT; rw [List.filter_append, List.map_append]
theorem inT_cons (k : Int) (r : Rw) (l : List Rw) : inT k (r :: l) = if bt k r.t = true then r.t :: inT k l else inT k l := by
  unfold inT
  rw [List.filter_cons]
  split <;> simp
theorem mem_inT {k : Int} {l : List Rw} {x : Tk} (h : x ∈ inT k l) : ∃ r ∈ l, r.t = x ∧ bt k x = true := by
  unfold inT at h
  obtain ⟨r, hr, rfl⟩ := List.mem_map.1 h
  have := List.mem_filter.1 hr
  exact ⟨r, this.1, rfl, this.2⟩
theorem in_row {t : Tb.Tb} (hc : chkT t = true) (k : Int) : rowB (inT k t.rows) = true := by
  obtain ⟨c1, -, c3, -, -⟩ := chkT_iff.1 hc
  refine rowB_yes (Nat.le_trans (inT_len k t.rows) c3) (fun x hx => ?_)
  obtain ⟨r, hr, rfl, -⟩ := mem_inT hx
  exact (okW_iff.1 (c1 r hr)).1
theorem nice_in {t : Tb.Tb} (hc : chkT t = true) (hd : DV t.rows) (k : Int) : Nice (inT k t.rows) :=
  ⟨in_row hc k, fun x hx => by obtain ⟨r, hr, rfl, -⟩ := mem_inT hx; exact hd r hr⟩
/-- the first mode, of n from m on, whose tasks don't fit, and its error -/
def firstF (l : List Rw) : Nat → Int → Int × Int
  | 0, _ => (-1, 0)
  | n + 1, m => if testR (inT m l) ≠ 0 then (m, testR (inT m l)) else firstF l n (m + 1)
def firstR (t : Tb.Tb) : Int × Int := if chkT t = true then firstF t.rows 4 0 else (-1, 1)
def fitsR (t : Tb.Tb) : Int := (firstR t).2
def withR (t : Tb.Tb) (ex : List Tk) : Int := if fitsR t ≠ 0 then fitsR t else if 16 < (inM t.mode t.rows ++ ex).length then 15 else testR (inM t.mode t.rows ++ ex)
def mayR (t : Tb.Tb) (o : Od) (ex : List Tk) : Tb.Tb × Int := if (applyR t o).2 ≠ 0 then (tb0, (applyR t o).2) else if withR (applyR t o).1 ex ≠ 0 then (tb0, withR (applyR t o).1 ex) else ((applyR t o).1, 0)
theorem firstF_zero {l : List Rw} : ∀ {n : Nat} {m : Int}, (firstF l n m).2 = 0 ↔ ∀ k : Int, m ≤ k → k < m + n → testR (inT k l) = 0 := by
  intro n
  induction n with
  | zero => intro m; exact ⟨fun _ k h1 h2 => by omega, fun _ => rfl⟩
  | succ n ih =>
    intro m
    unfold firstF
    by_cases h : testR (inT m l) = 0
    · rw [if_neg (by omega), ih]
      refine ⟨fun h1 k h2 h3 => ?_, fun h1 k h2 h3 => h1 k (by omega) (by omega)⟩
      by_cases e : k = m
      · rw [e]; exact h
      · exact h1 k (by omega) (by omega)
    · rw [if_pos h]
      exact ⟨fun h1 => absurd h1 h, fun h1 => absurd (h1 m (by omega) (by omega)) h⟩
/-- the four modes, one by one -/
theorem firstF_four (l : List Rw) : firstF l 4 0 = if testR (inT 0 l) ≠ 0 then (0, testR (inT 0 l)) else if testR (inT 1 l) ≠ 0 then (1, testR (inT 1 l)) else if testR (inT 2 l) ≠ 0 then (2, testR (inT 2 l)) else if testR (inT 3 l) ≠ 0 then (3, testR (inT 3 l)) else (-1, 0) := rfl
theorem fits_zero {t : Tb.Tb} : fitsR t = 0 ↔ chkT t = true ∧ ∀ k : Int, 0 ≤ k → k ≤ 3 → testR (inT k t.rows) = 0 := by
  unfold fitsR firstR
  by_cases h : chkT t = true
  · rw [if_pos h, firstF_zero]
    exact ⟨fun h1 => ⟨h, fun k h2 h3 => h1 k h2 (by omega)⟩, fun h1 k h2 h3 => h1.2 k h2 (by omega)⟩
  · rw [if_neg h]
    exact ⟨fun h1 => (by cases h1), fun h1 => absurd h1.1 h⟩
theorem with_zero {t : Tb.Tb} {ex : List Tk} (h : withR t ex = 0) : fitsR t = 0 := by
  unfold withR at h
  by_cases h1 : fitsR t = 0
  · exact h1
  · rw [if_pos h1] at h; exact h
theorem with_nil {t : Tb.Tb} (h : fitsR t = 0) : withR t [] = 0 := by
  obtain ⟨hc, hf⟩ := fits_zero.1 h
  obtain ⟨-, -, c3, c4, c5⟩ := chkT_iff.1 hc
  unfold withR
  rw [if_neg (by omega), List.append_nil]
  have e : inM t.mode t.rows = inT t.mode t.rows := if_pos ⟨c4, c5⟩
  rw [e, if_neg (by have := inT_len t.mode t.rows; omega)]
  exact hf _ c4 c5
theorem may_zero {t : Tb.Tb} {o : Od} {ex : List Tk} (h : (mayR t o ex).2 = 0) : (mayR t o ex).1 = (applyR t o).1 ∧ (applyR t o).2 = 0 ∧ withR (applyR t o).1 ex = 0 := by
  unfold mayR at h ⊢
  by_cases h1 : (applyR t o).2 = 0
  · rw [if_neg (by omega)] at h ⊢
    by_cases h2 : withR (applyR t o).1 ex = 0
    · rw [if_neg (by omega)] at h ⊢
      exact ⟨rfl, h1, h2⟩
    · rw [if_pos h2] at h; exact absurd h h2
  · rw [if_pos h1] at h; exact absurd h h1
theorem may_not {t : Tb.Tb} {o : Od} {ex : List Tk} (h : (mayR t o ex).2 ≠ 0) : (mayR t o ex).1 = tb0 := by
  unfold mayR at h ⊢
  by_cases h1 : (applyR t o).2 = 0
  · rw [if_neg (by omega)] at h ⊢
    by_cases h2 : withR (applyR t o).1 ex = 0
    · rw [if_neg (by omega)] at h; exact absurd rfl h
    · rw [if_pos h2]
  · rw [if_pos h1]
theorem may_yes {t : Tb.Tb} {o : Od} {ex : List Tk} (h1 : (applyR t o).2 = 0) (h2 : withR (applyR t o).1 ex = 0) : mayR t o ex = ((applyR t o).1, 0) := by
  unfold mayR
  rw [if_neg (by omega), if_neg (by omega)]
theorem may_fits {t : Tb.Tb} {o : Od} {ex : List Tk} (h : (mayR t o ex).2 = 0) : fitsR (mayR t o ex).1 = 0 := by
  obtain ⟨h1, -, h3⟩ := may_zero h
  rw [h1]; exact with_zero h3
/-- what fits with extra tasks fits without them -/
theorem may_less {t : Tb.Tb} {o : Od} {ex : List Tk} (h : (mayR t o ex).2 = 0) : mayR t o [] = ((applyR t o).1, 0) := by
  obtain ⟨-, h2, h3⟩ := may_zero h
  exact may_yes h2 (with_nil (with_zero h3))
theorem fits_tb0 : fitsR tb0 = 0 := by
  refine fits_zero.2 ⟨chk_tb0, fun k h1 h2 => ?_⟩
  show testR [] = 0
  refine (nice_test (l := []) ⟨by decide, by simp⟩).2 ⟨by decide, fun s hs => ?_⟩
  show (0 : Int) ≤ s
  omega
/-- less rows, or less work of one -/
theorem fits_less {t u : Tb.Tb} (h : fitsR t = 0) (hd : DV t.rows) (hu : chkT u = true) (hud : DV u.rows) (h1 : ∀ k, work 120 (inT k u.rows) ≤ work 120 (inT k t.rows)) (h2 : ∀ k s, sum (inT k u.rows) s ≤ sum (inT k t.rows) s) : fitsR u = 0 := by
  obtain ⟨hc, hf⟩ := fits_zero.1 h
  exact fits_zero.2 ⟨hu, fun k a b => (nice_test (nice_in hu hud k)).2 (fit_less (h1 k) (h2 k) ((nice_test (nice_in hc hd k)).1 (hf k a b)))⟩
theorem split_at {l : List Rw} {k : Nat} {r : Rw} (h : l[k]? = some r) : l = l.take k ++ r :: l.drop (k + 1) := by
  obtain ⟨hk, rfl⟩ := List.getElem?_eq_some_iff.1 h
  rw [← List.drop_eq_getElem_cons hk, List.take_append_drop]
theorem one_nonneg {t : Tk} {s : Int} (h : chk t = true) : 0 ≤ one t s := by
  have := chk_iff.1 h
  exact Int.mul_nonneg (by omega) (cnt_nonneg (by omega))
theorem term_nonneg {t : Tk} (h : chk t = true) : 0 ≤ t.c * (120 / t.t) := by
  have := chk_iff.1 h
  exact Int.mul_nonneg (by omega) (Int.ediv_nonneg (by omega) (by omega))
theorem cut_less {l : List Rw} {k : Nat} {r : Rw} (h : l[k]? = some r) (hc : chk r.t = true) (m : Int) : work 120 (inT m (l.take k ++ l.drop (k + 1))) ≤ work 120 (inT m l) ∧ ∀ s, sum (inT m (l.take k ++ l.drop (k + 1))) s ≤ sum (inT m l) s := by
  have e := split_at h
  generalize l.take k = a at *
  generalize l.drop (k + 1) = b at *
  subst e
  simp only [inT_app, inT_cons, work_app, sum_append]
  split
  · refine ⟨?_, fun s => ?_⟩
    · have := term_nonneg hc; simp only [work]; omega
    · have := one_nonneg (s := s) hc; simp only [sum]; omega
  · exact ⟨Int.le_refl _, fun s => Int.le_refl _⟩
theorem set_less {l : List Rw} {k : Nat} {r : Rw} (h : l[k]? = some r) (hc : chk r.t = true) {c : Int} (h1 : 1 ≤ c) (h2 : c ≤ r.t.c) (m : Int) : work 120 (inT m (l.take k ++ { r with t := { r.t with c := c } } :: l.drop (k + 1))) ≤ work 120 (inT m l) ∧ ∀ s, sum (inT m (l.take k ++ { r with t := { r.t with c := c } } :: l.drop (k + 1))) s ≤ sum (inT m l) s := by
  have e := split_at h
  generalize l.take k = a at *
  generalize l.drop (k + 1) = b at *
  subst e
  have hk := chk_iff.1 hc
  have hb : bt m { r.t with c := c } = bt m r.t := rfl
  simp only [inT_app, inT_cons, work_app, sum_append, hb]
  split
  · refine ⟨?_, fun s => ?_⟩
    · have := Int.mul_le_mul_of_nonneg_right h2 (show 0 ≤ 120 / r.t.t from Int.ediv_nonneg (by omega) (by omega))
      simp only [work]; omega
    · have := one_more (t := { r.t with c := c }) (s := r.t) (by omega) (by simp only; omega) h2 (by simp) (by simp) s
      simp only [sum] at this ⊢; omega
  · exact ⟨Int.le_refl _, fun s => Int.le_refl _⟩
/-- IDs are distinct: a row's place, and the row of an ID -/
theorem at_get : ∀ {l : List Rw} {a : Int} {k : Nat} {r : Rw}, rise a l = true → l[k]? = some r → at_ l r.t.id = some k := by
  intro l
  induction l with
  | nil => intro a k r _ h; simp at h
  | cons q l ih =>
    intro a k r hr h
    unfold rise at hr
    simp only [Bool.and_eq_true, decide_eq_true_eq] at hr
    unfold at_
    rw [List.findIdx?_cons]
    cases k with
    | zero =>
      obtain rfl : q = r := by simpa using h
      rw [if_pos (by simp)]
    | succ k =>
      have hk : l[k]? = some r := by simpa using h
      have hm := rise_mem hr.2 r (List.mem_of_getElem? hk)
      rw [if_neg (by simp; omega)]
      have := ih hr.2 hk
      unfold at_ at this
      rw [this]; rfl
theorem find_mem {l : List Rw} {r : Rw} (h : rise (-1) l = true) (hr : r ∈ l) : find l r.t.id = some r := by
  obtain ⟨k, hk⟩ := List.mem_iff_getElem?.1 hr
  obtain ⟨q, h1, -, h3⟩ := at_some (at_get h hk)
  rw [hk] at h1
  cases h1
  exact h3
theorem find_none {l : List Rw} {id : Int} (h : ∀ r ∈ l, r.t.id ≠ id) : find l id = none := by
  unfold find
  rw [List.find?_eq_none]
  intro r hr
  have := h r hr
  simp [this]
theorem apply_cut {t : Tb.Tb} {k : Nat} {r : Rw} (hc : chkT t = true) (hk : t.rows[k]? = some r) : applyR t ⟨2, tk0, false, r.t.id, 0, 0⟩ = (⟨t.rows.take k ++ t.rows.drop (k + 1), t.mode⟩, 0) := by
  obtain ⟨c1, c2, -⟩ := chkT_iff.1 hc
  have hr := chk_iff.1 (okW_iff.1 (c1 r (List.mem_of_getElem? hk))).1
  have ho : chkR ⟨2, tk0, false, r.t.id, 0, 0⟩ = true := chkR_iff.2 (.inr (.inl ⟨r.t.id, rfl, by omega, by omega⟩))
  unfold applyR
  rw [if_neg (by rw [hc, ho]; simp)]
  simp only [show ¬ (2 : Int) = 1 by decide, show ¬ (2 : Int) = 4 by decide, show ¬ (2 : Int) = 3 by decide, if_false]
  rw [at_get c2 hk]
theorem apply_set {t : Tb.Tb} {k : Nat} {r : Rw} {c : Int} (hc : chkT t = true) (hk : t.rows[k]? = some r) (h1 : 1 ≤ c) (h2 : c ≤ r.t.c) : applyR t ⟨3, tk0, false, r.t.id, c, 0⟩ = (⟨t.rows.take k ++ { r with t := { r.t with c := c } } :: t.rows.drop (k + 1), t.mode⟩, 0) := by
  obtain ⟨c1, c2, -⟩ := chkT_iff.1 hc
  have hr := chk_iff.1 (okW_iff.1 (c1 r (List.mem_of_getElem? hk))).1
  have ho : chkR ⟨3, tk0, false, r.t.id, c, 0⟩ = true := chkR_iff.2 (.inr (.inr (.inl ⟨r.t.id, c, rfl, by omega, by omega, by omega, by omega⟩)))
  unfold applyR
  rw [if_neg (by rw [hc, ho]; simp)]
  simp only [show ¬ (3 : Int) = 1 by decide, show ¬ (3 : Int) = 4 by decide, if_false, if_true]
  rw [at_get c2 hk]
  simp only
  rw [hk]
  simp only
  rw [if_neg (by omega)]
/-- a set that fits, fits without any of its tasks, and with less work of one -/
theorem less_may {t : Tb.Tb} {k : Nat} {r : Rw} (h : fitsR t = 0) (hd : DV t.rows) (hk : t.rows[k]? = some r) : (mayR t ⟨2, tk0, false, r.t.id, 0, 0⟩ []).2 = 0 ∧ ∀ c, 1 ≤ c → c ≤ r.t.c → (mayR t ⟨3, tk0, false, r.t.id, c, 0⟩ []).2 = 0 := by
  obtain ⟨hc, hf⟩ := fits_zero.1 h
  have hr := (okW_iff.1 ((chkT_iff.1 hc).1 r (List.mem_of_getElem? hk))).1
  refine ⟨?_, fun c h1 h2 => ?_⟩
  · have e := apply_cut hc hk
    have hu := apply_chk (t := t) (o := ⟨2, tk0, false, r.t.id, 0, 0⟩) (by rw [e])
    rw [may_yes (by rw [e]) ?_]
    refine with_nil (fits_less h hd hu.1 ?_ (fun m => ?_) (fun m => ?_))
    · rw [e]
      intro q hq
      exact hd q ((cut_sub _ _).subset hq)
    · rw [e]; exact (cut_less hk hr m).1
    · rw [e]; exact (cut_less hk hr m).2
  · have e := apply_set hc hk h1 h2
    have hu := apply_chk (t := t) (o := ⟨3, tk0, false, r.t.id, c, 0⟩) (by rw [e])
    rw [may_yes (by rw [e]) ?_]
    refine with_nil (fits_less h hd hu.1 ?_ (fun m => ?_) (fun m => ?_))
    · rw [e]
      intro q hq
      rcases List.mem_append.1 hq with hq | hq
      · exact hd q (List.mem_of_mem_take hq)
      · rcases List.mem_cons.1 hq with rfl | hq
        · exact hd r (List.mem_of_getElem? hk)
        · exact hd q (List.mem_of_mem_drop hq)
    · rw [e]; exact (set_less hk hr h1 h2 m).1
    · rw [e]; exact (set_less hk hr h1 h2 m).2
/- what is gone -/
def goneOne (mb : Int) (b : List Rw) (r : Rw) : List Tk :=
  match find b r.t.id with
  | none => [r.t]
  | some s => if bt mb s.t = false ∨ s.t.d ≠ r.t.d ∨ s.t.t ≠ r.t.t ∨ s.s ≠ r.s then [r.t] else if s.t.c < r.t.c then [{ r.t with c := r.t.c - s.t.c }] else []
def goneL (ma mb : Int) (b : List Rw) : List Rw → List Tk
  | [] => []
  | r :: l => (if bt ma r.t = true then goneOne mb b r else []) ++ goneL ma mb b l
def goneR (a b : Tb.Tb) : List Tk := if chkT a = true ∧ chkT b = true then goneL a.mode b.mode b.rows a.rows else []
theorem goneL_app (ma mb : Int) (b l m : List Rw) : goneL ma mb b (l ++ m) = goneL ma mb b l ++ goneL ma mb b m := by
  induction l with
  | nil => rfl
  | cons r l ih => rw [List.cons_append, goneL, goneL, ih, List.append_assoc]
theorem goneL_take {ma mb : Int} {b l : List Rw} {i : Nat} (h : i < l.length) : goneL ma mb b (l.take (i + 1)) = goneL ma mb b (l.take i) ++ (if bt ma l[i].t = true then goneOne mb b l[i] else []) := by
  rw [List.take_succ_eq_append_getElem h, goneL_app]
  simp [goneL]
theorem goneOne_len (mb : Int) (b : List Rw) (r : Rw) : (goneOne mb b r).length ≤ 1 := by
  unfold goneOne
  repeat' split
  all_goals simp
theorem goneL_len (ma mb : Int) (b l : List Rw) : (goneL ma mb b l).length ≤ l.length := by
  induction l with
  | nil => simp [goneL]
  | cons r l ih =>
    rw [goneL, List.length_append, List.length_cons]
    have := goneOne_len mb b r
    split <;> (simp; omega)
/-- nothing is gone of rows that are there, in the same mode -/
theorem gone_kept {m : Int} {b : List Rw} (hb : rise (-1) b = true) : ∀ {l : List Rw}, (∀ r ∈ l, r ∈ b) → goneL m m b l = [] := by
  intro l
  induction l with
  | nil => intro _; rfl
  | cons r l ih =>
    intro h
    rw [goneL, ih (fun q hq => h q (by simp [hq])), List.append_nil]
    split
    · rename_i hbt
      unfold goneOne
      rw [find_mem hb (h r (by simp))]
      simp only
      rw [if_neg (by rw [hbt]; simp), if_neg (by omega)]
    · rfl
theorem gone_self {t : Tb.Tb} : goneR t t = [] := by
  unfold goneR
  split
  · rename_i h
    exact gone_kept (chkT_iff.1 h.1).2.1 (fun r hr => hr)
  · rfl
/-- of a set that gains a task nothing is gone -/
theorem gone_more {t : Tb.Tb} {x : Tk} (h : (applyR t ⟨1, x, false, 0, 0, 0⟩).2 = 0) : goneR t (applyR t ⟨1, x, false, 0, 0, 0⟩).1 = [] := by
  obtain ⟨hc, ht, ho⟩ := apply_chk h
  have e : (applyR t ⟨1, x, false, 0, 0, 0⟩).1 = ⟨ins ⟨x, false⟩ t.rows, t.mode⟩ := by
    unfold applyR at h ⊢
    rw [if_neg (by rw [ht, ho]; simp)] at h ⊢
    simp only [if_true] at h ⊢
    cases ha : at_ t.rows x.id with
    | some k => rw [ha] at h; cases h
    | none =>
      rw [ha] at h
      simp only at h ⊢
      by_cases h16 : 16 ≤ t.rows.length
      · rw [if_pos h16] at h; cases h
      · rw [if_neg h16]
  rw [e] at hc ⊢
  unfold goneR
  rw [if_pos ⟨ht, hc⟩]
  exact gone_kept (chkT_iff.1 hc).2.1 (fun r hr => ins_mem.2 (.inr hr))
/-- of a set that loses a task it is gone, and nothing else -/
theorem gone_cut {t : Tb.Tb} {k : Nat} {r : Rw} (hc : chkT t = true) (hk : t.rows[k]? = some r) : goneR t (applyR t ⟨2, tk0, false, r.t.id, 0, 0⟩).1 = if bt t.mode r.t = true then [r.t] else [] := by
  have e := apply_cut hc hk
  have hu := (apply_chk (t := t) (o := ⟨2, tk0, false, r.t.id, 0, 0⟩) (by rw [e])).1
  rw [e] at hu ⊢
  obtain ⟨-, c2, -⟩ := chkT_iff.1 hc
  unfold goneR
  rw [if_pos ⟨hc, hu⟩]
  simp only
  have hs := split_at hk
  have hfn : find (t.rows.take k ++ t.rows.drop (k + 1)) r.t.id = none := by
    refine find_none (fun q hq => ?_)
    have hp := (rise_pair.1 c2).2
    rw [hs, List.pairwise_append] at hp
    rcases List.mem_append.1 hq with hq | hq
    · have := hp.2.2 q hq r (by simp); omega
    · have := (List.pairwise_cons.1 hp.2.1).1 q hq; omega
  have hr := (chkT_iff.1 hu).2.1
  simp only at hr
  have m1 : ∀ q ∈ t.rows.take k, q ∈ t.rows.take k ++ t.rows.drop (k + 1) := fun q hq => List.mem_append.2 (.inl hq)
  have m2 : ∀ q ∈ t.rows.drop (k + 1), q ∈ t.rows.take k ++ t.rows.drop (k + 1) := fun q hq => List.mem_append.2 (.inr hq)
  generalize t.rows.take k ++ t.rows.drop (k + 1) = B at *
  have e3 : goneL t.mode t.mode B t.rows = goneL t.mode t.mode B (t.rows.take k ++ r :: t.rows.drop (k + 1)) := congrArg (goneL t.mode t.mode B) hs
  rw [e3, goneL_app, goneL, gone_kept hr m1, gone_kept hr m2, List.nil_append, List.append_nil]
  split
  · unfold goneOne; rw [hfn]
  · rfl
/-- how much is gone of k -/
def sumG (k : Tk) : List Tk → Int
  | [] => 0
  | g :: l => (if g.id = k.id ∧ g.d = k.d ∧ g.t = k.t then g.c else 0) + sumG k l
theorem sumG_app (k : Tk) (l m : List Tk) : sumG k (l ++ m) = sumG k l + sumG k m := by
  induction l with
  | nil => simp [sumG]
  | cons g l ih => rw [List.cons_append, sumG, sumG, ih]; omega
theorem sumG_nonneg {k : Tk} : ∀ {l : List Tk}, (∀ g ∈ l, 0 ≤ g.c) → 0 ≤ sumG k l := by
  intro l
  induction l with
  | nil => intro _; simp [sumG]
  | cons g l ih =>
    intro h
    have h1 := h g (by simp)
    have h2 := ih (fun q hq => h q (by simp [hq]))
    rw [sumG]
    split <;> omega
theorem gone_c {ma mb : Int} {b : List Rw} : ∀ {l : List Rw}, (∀ r ∈ l, chk r.t = true) → (∀ r ∈ b, chk r.t = true) → ∀ g ∈ goneL ma mb b l, 0 ≤ g.c ∧ g.c ≤ 2147483648 := by
  intro l
  induction l with
  | nil => intro _ _ g hg; cases hg
  | cons r l ih =>
    intro h hb g hg
    rw [goneL] at hg
    rcases List.mem_append.1 hg with hg | hg
    · have hr := chk_iff.1 (h r (by simp))
      split at hg
      · unfold goneOne at hg
        split at hg
        · obtain rfl : g = r.t := by simpa using hg
          omega
        · rename_i s hs
          have hsm := List.mem_of_find?_eq_some hs
          have hsc := chk_iff.1 (hb s hsm)
          split at hg
          · obtain rfl : g = r.t := by simpa using hg
            omega
          · split at hg
            · obtain rfl : g = { r.t with c := r.t.c - s.t.c } := by simpa using hg
              simp only; omega
            · cases hg
      · cases hg
    · exact ih (fun q hq => h q (by simp [hq])) hb g hg
/-- what is left of r's work in b -/
def leftR (mb : Int) (b : List Rw) (r : Rw) : Int :=
  match find b r.t.id with
  | none => 0
  | some s => if bt mb s.t = true ∧ s.t.d = r.t.d ∧ s.t.t = r.t.t then s.t.c else 0
/-- extra tasks that are gone, and the set that is left, load at least what the set loaded -/
theorem gone_cover {ma mb : Int} {b l : List Rw} {r : Rw} (hl : ∀ r ∈ l, chk r.t = true) (hb : ∀ r ∈ b, chk r.t = true) (hr : r ∈ l) (hbt : bt ma r.t = true) : r.t.c ≤ leftR mb b r + sumG r.t (goneL ma mb b l) := by
  obtain ⟨k, hk⟩ := List.mem_iff_getElem?.1 hr
  have hs := split_at hk
  have h1 := sumG_nonneg (k := r.t) (l := goneL ma mb b (l.take k)) (fun g hg => (gone_c (fun q hq => hl q (List.mem_of_mem_take hq)) hb g hg).1)
  have h2 := sumG_nonneg (k := r.t) (l := goneL ma mb b (l.drop (k + 1))) (fun g hg => (gone_c (fun q hq => hl q (List.mem_of_mem_drop hq)) hb g hg).1)
  have key : r.t.c ≤ leftR mb b r + sumG r.t (goneOne mb b r) := by
    unfold leftR goneOne
    cases hf : find b r.t.id with
    | none => simp [sumG]
    | some s =>
      have hsc := chk_iff.1 (hb s (List.mem_of_find?_eq_some hf))
      simp only
      by_cases hg : bt mb s.t = false ∨ s.t.d ≠ r.t.d ∨ s.t.t ≠ r.t.t ∨ s.s ≠ r.s
      · rw [if_pos hg]
        simp only [sumG, true_and, if_true, and_self]
        split <;> omega
      · rw [if_neg hg]
        have hb1 : bt mb s.t = true := by
          cases e : bt mb s.t with
          | true => rfl
          | false => exact absurd (.inl e) hg
        rw [if_pos ⟨hb1, by omega, by omega⟩]
        split
        · simp only [sumG, true_and, if_true, and_self]; omega
        · simp only [sumG]; omega
  have e : goneL ma mb b l = goneL ma mb b (l.take k) ++ (goneOne mb b r ++ goneL ma mb b (l.drop (k + 1))) := by
    have e3 : goneL ma mb b l = goneL ma mb b (l.take k ++ r :: l.drop (k + 1)) := congrArg (goneL ma mb b) hs
    rw [e3, goneL_app, goneL, if_pos hbt]
  rw [e, sumG_app, sumG_app]
  omega
end Go.Proofs.Ytgbnoifaknlkhaa.Ju
