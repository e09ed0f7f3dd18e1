/- How much work by when: the mathematics. No dump is imported. Contracts of package demand's isTime, due, deadline, One; the document's time, next, One. Contracts of package demand's One; the document's One, next. Contracts of the document's One, next of layer 10. Contracts of package demand's Of; the document's Of. -/
import Derived.Test.YteagimnlhopjpaaMPa
import Derived.Test.YteagimnlhopjpaaMPb
import Derived.Deep.RegionHeld3
import Derived.BigQuiet
namespace Go.Proofs.Yteagimnlhopjpaa.Dm
open Pm (Tk chk chk_iff rowB)
set_option maxRecDepth 100000
set_option linter.unusedVariables false
/-- a time -/
def isTime (x : Int) : Bool := decide (0 ≤ x ∧ x ≤ 1099511627776)
/-- how many deadlines of t are not above x -/
def cnt (t : Tk) (x : Int) : Int := if x < t.d then 0 else (x - t.d) / t.t + 1
/-- is x one of them? -/
def isDl (t : Tk) (x : Int) : Prop := t.d ≤ x ∧ (x - t.d) % t.t = 0
/-- the work of t up to x -/
def one (t : Tk) (x : Int) : Int := t.c * cnt t x
def oneR (t : Tk) (x : Int) : Int := if chk t = true ∧ isTime x = true then one t x else 0
/-- of all -/
def sum (l : List Tk) (x : Int) : Int := match l with
  | [] => 0
  | t :: l => one t x + sum l x
def ofR (l : List Tk) (x : Int) : Int := if rowB l = true ∧ isTime x = true then sum l x else 0
/-- the least deadline of t above x -/
def nxt (t : Tk) (x : Int) : Int := if x < t.d then t.d else t.d + t.t * ((x - t.d) / t.t + 1)
/-- .. of any -/
def nxts : List Tk → Int → Option Int
  | [], _ => none
  | t :: l, x => match nxts l x with
    | none => some (nxt t x)
    | some y => some (if nxt t x < y then nxt t x else y)
theorem cnt_lt {t : Tk} {x : Int} (h : x < t.d) : cnt t x = 0 := by unfold cnt; rw [if_pos h]
theorem cnt_ge {t : Tk} {x : Int} (h : t.d ≤ x) : cnt t x = (x - t.d) / t.t + 1 := by unfold cnt; rw [if_neg (by omega)]
theorem cnt_nonneg {t : Tk} {x : Int} (ht : 0 < t.t) : 0 ≤ cnt t x := by
  unfold cnt; split
  · omega
  · have := Int.ediv_nonneg (show 0 ≤ x - t.d by omega) (show 0 ≤ t.t by omega); omega
/-- x - d parted by t -/
theorem parts (t : Tk) (x : Int) (ht : 0 < t.t) (h : t.d ≤ x) : ∃ q r, x = t.d + t.t * q + r ∧ 0 ≤ r ∧ r < t.t ∧ 0 ≤ q ∧ (x - t.d) / t.t = q ∧ (x - t.d) % t.t = r := by
  refine ⟨(x - t.d) / t.t, (x - t.d) % t.t, ?_, Int.emod_nonneg _ (by omega), Int.emod_lt_of_pos _ ht, Int.ediv_nonneg (by omega) (by omega), rfl, rfl⟩
  have := Int.mul_ediv_add_emod (x - t.d) t.t
  omega
theorem div_of {a b q r : Int} (hb : 0 < b) (h : a = b * q + r) (h0 : 0 ≤ r) (h1 : r < b) : a / b = q ∧ a % b = r := by
  subst h
  constructor
  · rw [Int.add_comm, Int.add_mul_ediv_left _ _ (by omega), Int.ediv_eq_zero_of_lt h0 h1]; omega
  · rw [Int.add_comm, Int.add_mul_emod_self_left]; exact Int.emod_eq_of_lt h0 h1
/-- a period later there is one more -/
theorem cnt_period {t : Tk} {x : Int} (ht : 0 < t.t) (hd : t.d ≤ t.t) (hx : 0 ≤ x) : cnt t (x + t.t) = cnt t x + 1 := by
  by_cases h : x < t.d
  · rw [cnt_lt h, cnt_ge (by omega)]
    rw [(div_of (a := x + t.t - t.d) (q := 0) (r := x + t.t - t.d) ht (by omega) (by omega) (by omega)).1]
  · rw [cnt_ge (by omega), cnt_ge (by omega)]
    rw [show x + t.t - t.d = (x - t.d) + t.t by omega, Int.add_ediv_of_dvd_right (Int.dvd_refl _), Int.ediv_self (by omega)]
/-- from a time to the next one -/
theorem cnt_step {t : Tk} {x : Int} (ht : 0 < t.t) : (isDl t x ∧ cnt t x = cnt t (x - 1) + 1) ∨ (¬ isDl t x ∧ cnt t x = cnt t (x - 1)) := by
  by_cases h : x < t.d
  · right
    rw [cnt_lt h, cnt_lt (by omega)]
    exact ⟨fun e => by unfold isDl at e; omega, rfl⟩
  · obtain ⟨q, r, hx, r0, r1, q0, hq, hr⟩ := parts t x ht (by omega)
    rw [cnt_ge (show t.d ≤ x by omega), hq]
    unfold isDl
    rw [hr]
    by_cases e : r = 0
    · left
      refine ⟨⟨by omega, e⟩, ?_⟩
      by_cases e2 : x - 1 < t.d
      · rw [cnt_lt e2]
        have : t.t * q = 0 := by
          have := Int.mul_nonneg (show 0 ≤ t.t by omega) q0
          omega
        rcases Int.mul_eq_zero.1 this with h1 | h1 <;> omega
      · rw [cnt_ge (by omega)]
        have hq1 : 1 ≤ q := by
          rcases Int.lt_or_le q 1 with h1 | h1
          · have : q = 0 := by omega
            subst this; simp at hx; omega
          · exact h1
        have e3 : t.t * q = t.t * (q - 1) + t.t := by rw [Int.mul_sub]; omega
        rw [(div_of (a := x - 1 - t.d) (b := t.t) (q := q - 1) (r := t.t - 1) ht (by omega) (by omega) (by omega)).1]
        omega
    · right
      refine ⟨fun h1 => e h1.2, ?_⟩
      have := Int.mul_nonneg (show 0 ≤ t.t by omega) q0
      rw [cnt_ge (by omega), (div_of (a := x - 1 - t.d) (b := t.t) (q := q) (r := r - 1) ht (by omega) (by omega) (by omega)).1]
theorem cnt_mono {t : Tk} (ht : 0 < t.t) : ∀ (n : Nat) (x : Int), cnt t x ≤ cnt t (x + n) := by
  intro n
  induction n with
  | zero => intro x; simp
  | succ n ih =>
    intro x
    have h1 := ih x
    have h2 := cnt_step (t := t) (x := x + ((n + 1 : Nat) : Int)) ht
    have e : x + ((n + 1 : Nat) : Int) - 1 = x + (n : Int) := by omega
    rw [e] at h2
    rcases h2 with ⟨-, h2⟩ | ⟨-, h2⟩ <;> omega
theorem nxt_gt {t : Tk} {x : Int} (ht : 0 < t.t) : x < nxt t x ∧ isDl t (nxt t x) := by
  unfold nxt isDl
  split
  · rename_i h; refine ⟨h, by omega, by simp⟩
  · rename_i h
    obtain ⟨q, r, hx, r0, r1, q0, hq, hr⟩ := parts t x ht (by omega)
    rw [hq]
    have e : t.t * (q + 1) = t.t * q + t.t := by rw [Int.mul_add]; omega
    have := Int.mul_nonneg (show 0 ≤ t.t by omega) q0
    refine ⟨by omega, by omega, ?_⟩
    rw [show t.d + t.t * (q + 1) - t.d = t.t * (q + 1) by omega, Int.mul_emod_right]
/-- no deadline between -/
theorem nxt_least {t : Tk} {x y : Int} (ht : 0 < t.t) (h : isDl t y) (hy : x < y) : nxt t x ≤ y := by
  unfold nxt
  obtain ⟨h1, h2⟩ := h
  split
  · exact h1
  · rename_i h
    obtain ⟨q, r, hx, r0, r1, q0, hq, hr⟩ := parts t x ht (by omega)
    obtain ⟨q', r', hx', r0', r1', q0', hq', hr'⟩ := parts t y ht h1
    rw [hq]
    obtain rfl : r' = 0 := by omega
    rcases Int.lt_or_le q' (q + 1) with h3 | h3
    · exfalso
      have := Int.mul_le_mul_of_nonneg_left (show q' ≤ q by omega) (show 0 ≤ t.t by omega)
      omega
    · have := Int.mul_le_mul_of_nonneg_left h3 (show 0 ≤ t.t by omega)
      omega
theorem nxts_some {l : List Tk} {x : Int} (h : l ≠ []) : ∃ y, nxts l x = some y := by
  cases l with
  | nil => exact absurd rfl h
  | cons t l =>
    rw [nxts]
    cases nxts l x <;> exact ⟨_, rfl⟩
/-- the least of all: a deadline of one, above x, and none is less -/
theorem nxts_is {l : List Tk} {x y : Int} (hl : ∀ t ∈ l, 0 < t.t) (h : nxts l x = some y) : x < y ∧ (∃ t ∈ l, isDl t y) ∧ ∀ t ∈ l, ∀ z, isDl t z → x < z → y ≤ z := by
  induction l generalizing y with
  | nil => simp [nxts] at h
  | cons t l ih =>
    have ht := hl t (by simp)
    have hg := nxt_gt (x := x) ht
    rw [nxts] at h
    cases hn : nxts l x with
    | none =>
      rw [hn] at h
      simp only [Option.some.injEq] at h
      subst h
      have hnil : l = [] := by
        cases l with
        | nil => rfl
        | cons a l => obtain ⟨y, hy⟩ := nxts_some (l := a :: l) (x := x) (by simp); rw [hy] at hn; cases hn
      subst hnil
      refine ⟨hg.1, ⟨t, by simp, hg.2⟩, fun u hu z hz hxz => ?_⟩
      obtain rfl : u = t := by simpa using hu
      exact nxt_least ht hz hxz
    | some w =>
      rw [hn] at h
      simp only [Option.some.injEq] at h
      obtain ⟨h1, ⟨u, hu, hdu⟩, h3⟩ := ih (fun a ha => hl a (by simp [ha])) hn
      by_cases hlt : nxt t x < w
      · rw [if_pos hlt] at h; subst h
        refine ⟨hg.1, ⟨t, by simp, hg.2⟩, fun v hv z hz hxz => ?_⟩
        rcases List.mem_cons.1 hv with rfl | hv
        · exact nxt_least ht hz hxz
        · have := h3 v hv z hz hxz; omega
      · rw [if_neg hlt] at h; subst h
        refine ⟨h1, ⟨u, by simp [hu], hdu⟩, fun v hv z hz hxz => ?_⟩
        rcases List.mem_cons.1 hv with rfl | hv
        · have := nxt_least ht hz hxz; omega
        · exact h3 v hv z hz hxz
/-- work rises at deadlines alone, and never falls -/
theorem sum_step {l : List Tk} {x : Int} (hl : ∀ t ∈ l, 0 < t.t ∧ 0 < t.c) : sum l (x - 1) ≤ sum l x ∧ (sum l (x - 1) < sum l x ↔ ∃ t ∈ l, isDl t x) := by
  induction l with
  | nil => simp [sum]
  | cons t l ih =>
    have ht := hl t (by simp)
    obtain ⟨h1, h2⟩ := ih (fun a ha => hl a (by simp [ha]))
    simp only [sum]
    rcases cnt_step (t := t) (x := x) ht.1 with ⟨hd, hc⟩ | ⟨hd, hc⟩
    · have e : one t x = one t (x - 1) + t.c := by unfold one; rw [hc, Int.mul_add]; omega
      refine ⟨by omega, ⟨fun _ => ⟨t, by simp, hd⟩, fun _ => by omega⟩⟩
    · have e : one t x = one t (x - 1) := by unfold one; rw [hc]
      refine ⟨by omega, ⟨fun h => ?_, fun ⟨u, hu, hdu⟩ => ?_⟩⟩
      · obtain ⟨u, hu, hdu⟩ := h2.1 (by omega)
        exact ⟨u, by simp [hu], hdu⟩
      · rcases List.mem_cons.1 hu with rfl | hu
        · exact absurd hdu hd
        · have := h2.2 ⟨u, hu, hdu⟩; omega
theorem cnt_le {t : Tk} (ht : 0 < t.t) {a b : Int} (h : a ≤ b) : cnt t a ≤ cnt t b := by
  have := cnt_mono ht (b - a).toNat a
  rw [show a + ((b - a).toNat : Int) = b by omega] at this
  exact this
/-- the greatest deadline of t below x, if there is one -/
def bef (t : Tk) (x : Int) : Int := t.d + t.t * ((x - 1 - t.d) / t.t)
/-- .. of any; 0: there is none -/
def befs : List Tk → Int → Int
  | [], _ => 0
  | t :: l, x => if t.d < x ∧ befs l x < bef t x then bef t x else befs l x
theorem bef_is {t : Tk} {x : Int} (ht : 0 < t.t) (h : t.d < x) : bef t x < x ∧ t.d ≤ bef t x ∧ isDl t (bef t x) ∧ ∀ y, isDl t y → y < x → y ≤ bef t x := by
  obtain ⟨q, r, hx, r0, r1, q0, hq, hr⟩ := parts t (x - 1) ht (by omega)
  unfold bef
  rw [hq]
  have := Int.mul_nonneg (show 0 ≤ t.t by omega) q0
  refine ⟨by omega, by omega, ⟨by omega, by rw [show t.d + t.t * q - t.d = t.t * q by omega, Int.mul_emod_right]⟩, fun y hy hyx => ?_⟩
  obtain ⟨h1, h2⟩ := hy
  obtain ⟨q', r', hx', r0', r1', q0', hq', hr'⟩ := parts t y ht h1
  obtain rfl : r' = 0 := by omega
  rcases Int.lt_or_le q q' with h3 | h3
  · exfalso
    have h4 := Int.mul_le_mul_of_nonneg_left (show q + 1 ≤ q' by omega) (show 0 ≤ t.t by omega)
    have e : t.t * (q + 1) = t.t * q + t.t := by rw [Int.mul_add]; omega
    omega
  · have := Int.mul_le_mul_of_nonneg_left h3 (show 0 ≤ t.t by omega)
    omega
theorem befs_is {l : List Tk} {x : Int} (hl : ∀ t ∈ l, 0 < t.t ∧ 0 < t.d) : (befs l x = 0 ∧ ∀ t ∈ l, x ≤ t.d) ∨ (0 < befs l x ∧ befs l x < x ∧ (∃ t ∈ l, isDl t (befs l x)) ∧ ∀ t ∈ l, ∀ y, isDl t y → y < x → y ≤ befs l x) := by
  induction l with
  | nil => left; simp [befs]
  | cons t l ih =>
    have ht := hl t (by simp)
    have ih := ih (fun a ha => hl a (by simp [ha]))
    rw [befs]
    by_cases hd : t.d < x
    · obtain ⟨b1, b2, b3, b4⟩ := bef_is ht.1 hd
      right
      by_cases hlt : befs l x < bef t x
      · rw [if_pos ⟨hd, hlt⟩]
        refine ⟨by omega, b1, ⟨t, by simp, b3⟩, fun u hu y hy hyx => ?_⟩
        rcases List.mem_cons.1 hu with rfl | hu
        · exact b4 y hy hyx
        · rcases ih with ⟨h0, h1⟩ | ⟨h0, h1, h2, h3⟩
          · have := h1 u hu; have := hy.1; omega
          · have := h3 u hu y hy hyx; omega
      · rw [if_neg (fun h => hlt h.2)]
        rcases ih with ⟨h0, h1⟩ | ⟨h0, h1, ⟨v, hv, hdv⟩, h3⟩
        · omega
        · refine ⟨h0, h1, ⟨v, by simp [hv], hdv⟩, fun u hu y hy hyx => ?_⟩
          rcases List.mem_cons.1 hu with rfl | hu
          · have := b4 y hy hyx; omega
          · exact h3 u hu y hy hyx
    · rw [if_neg (fun h => hd h.1)]
      rcases ih with ⟨h0, h1⟩ | ⟨h0, h1, ⟨v, hv, hdv⟩, h3⟩
      · left
        refine ⟨h0, fun u hu => ?_⟩
        rcases List.mem_cons.1 hu with rfl | hu
        · omega
        · exact h1 u hu
      · right
        refine ⟨h0, h1, ⟨v, by simp [hv], hdv⟩, fun u hu y hy hyx => ?_⟩
        rcases List.mem_cons.1 hu with rfl | hu
        · have := hy.1; omega
        · exact h3 u hu y hy hyx
/-- the least deadline above x, of a time -/
def nextR (l : List Tk) (x : Int) : Option Int := if rowB l = true ∧ isTime x = true then (match nxts l x with | some y => if 1099511627776 < y then none else some y | none => none) else none
/-- at most n deadlines from x on, not above most -/
def pts (l : List Tk) (most : Int) : Nat → Int → List Int
  | 0, _ => []
  | n + 1, x => match nextR l x with
    | some y => if most < y then [] else y :: pts l most n y
    | none => []
def firsts (l : List Tk) : List Int → Option Int
  | [] => none
  | p :: r => if p < sum l p then some p else firsts l r
theorem nextR_is {l : List Tk} {x y : Int} (hl : ∀ t ∈ l, 0 < t.t) (h : nextR l x = some y) : x < y ∧ y ≤ 1099511627776 ∧ (∃ t ∈ l, isDl t y) ∧ ∀ t ∈ l, ∀ z, isDl t z → x < z → y ≤ z := by
  unfold nextR at h
  split at h
  · cases hn : nxts l x with
    | none => rw [hn] at h; cases h
    | some w =>
      rw [hn] at h
      simp only at h
      split at h
      · cases h
      · cases h
        obtain ⟨h1, h2, h3⟩ := nxts_is hl hn
        exact ⟨h1, by omega, h2, h3⟩
  · cases h
theorem nextR_none {l : List Tk} {x : Int} (hr : rowB l = true) (hx : isTime x = true) (hl : ∀ t ∈ l, 0 < t.t) (h : nextR l x = none) : ∀ t ∈ l, ∀ z, isDl t z → x < z → 1099511627776 < z := by
  intro t ht z hz hxz
  unfold nextR at h
  rw [if_pos ⟨hr, hx⟩] at h
  obtain ⟨w, hw⟩ := nxts_some (l := l) (x := x) (by intro e; subst e; cases ht)
  rw [hw] at h
  simp only at h
  split at h
  · have := (nxts_is hl hw).2.2 t ht z hz hxz; omega
  · cases h
theorem pts_mem {l : List Tk} {most : Int} (hl : ∀ t ∈ l, 0 < t.t) : ∀ {n : Nat} {x y : Int}, y ∈ pts l most n x → x < y ∧ y ≤ most ∧ ∃ t ∈ l, isDl t y := by
  intro n
  induction n with
  | zero => intro x y h; simp [pts] at h
  | succ n ih =>
    intro x y h
    rw [pts] at h
    cases hn : nextR l x with
    | none => rw [hn] at h; simp at h
    | some w =>
      rw [hn] at h
      simp only at h
      split at h
      · simp at h
      · obtain ⟨h1, -, h2, -⟩ := nextR_is hl hn
        rcases List.mem_cons.1 h with rfl | h
        · exact ⟨h1, by omega, h2⟩
        · obtain ⟨h3, h4, h5⟩ := ih h
          exact ⟨by omega, h4, h5⟩
/-- if there is room, all of them -/
theorem pts_all {l : List Tk} {most : Int} (hr : rowB l = true) (hm : most ≤ 1099511627776) (hl : ∀ t ∈ l, 0 < t.t) : ∀ {n : Nat} {x : Int}, 0 ≤ x → x ≤ 1099511627776 → most - x ≤ n → ∀ t ∈ l, ∀ y, isDl t y → x < y → y ≤ most → y ∈ pts l most n x := by
  intro n
  induction n with
  | zero => intro x h0 h1 hn t ht y hy hxy hym; omega
  | succ n ih =>
    intro x h0 h1 hn t ht y hy hxy hym
    rw [pts]
    cases hnx : nextR l x with
    | none => have := nextR_none hr (by simp [isTime]; omega) hl hnx t ht y hy hxy; omega
    | some w =>
      obtain ⟨h2, h3, -, h4⟩ := nextR_is hl hnx
      have h5 := h4 t ht y hy hxy
      simp only
      rw [if_neg (by omega)]
      by_cases e : y = w
      · simp [e]
      · exact List.mem_cons_of_mem _ (ih (by omega) (by omega) (by omega) t ht y hy (by omega) hym)
theorem pts_rise {l : List Tk} {most : Int} (hl : ∀ t ∈ l, 0 < t.t) : ∀ {n : Nat} {x : Int}, (pts l most n x).Pairwise (· < ·) := by
  intro n
  induction n with
  | zero => intro x; simp [pts]
  | succ n ih =>
    intro x
    rw [pts]
    cases hn : nextR l x with
    | none => simp
    | some w =>
      simp only
      split
      · simp
      · exact List.pairwise_cons.2 ⟨fun y hy => (pts_mem hl hy).1, ih⟩
theorem firsts_none {l : List Tk} : ∀ {ps : List Int}, firsts l ps = none → ∀ p ∈ ps, sum l p ≤ p := by
  intro ps
  induction ps with
  | nil => intro _ p hp; cases hp
  | cons a r ih =>
    intro h p hp
    rw [firsts] at h
    split at h
    · cases h
    · rcases List.mem_cons.1 hp with rfl | hp
      · omega
      · exact ih h p hp
theorem firsts_some {l : List Tk} : ∀ {ps : List Int} {a : Int}, ps.Pairwise (· < ·) → firsts l ps = some a → a ∈ ps ∧ a < sum l a ∧ ∀ p ∈ ps, p < a → sum l p ≤ p := by
  intro ps
  induction ps with
  | nil => intro a _ h; cases h
  | cons b r ih =>
    intro a hp h
    obtain ⟨h1, h2⟩ := List.pairwise_cons.1 hp
    rw [firsts] at h
    split at h
    · cases h
      refine ⟨by simp, by assumption, fun p hp hlt => ?_⟩
      rcases List.mem_cons.1 hp with rfl | hp
      · omega
      · have := h1 p hp; omega
    · obtain ⟨h3, h4, h5⟩ := ih h2 h
      refine ⟨by simp [h3], h4, fun p hp hlt => ?_⟩
      rcases List.mem_cons.1 hp with rfl | hp
      · omega
      · exact h5 p hp hlt
/-- where at all deadlines up to m there is not too much work, there is not at any time up to m -/
theorem calm {l : List Tk} (hl : ∀ t ∈ l, 0 < t.t ∧ 0 < t.c ∧ 0 < t.d) (m : Int) (h : ∀ y, 1 ≤ y → y ≤ m → (∃ t ∈ l, isDl t y) → sum l y ≤ y) : ∀ (n : Nat), (n : Int) ≤ m → sum l n ≤ n := by
  intro n
  induction n with
  | zero =>
    intro _
    have : ∀ l : List Tk, (∀ t ∈ l, 0 < t.t ∧ 0 < t.c ∧ 0 < t.d) → sum l 0 = 0 := by
      intro l
      induction l with
      | nil => intro _; rfl
      | cons t l ih =>
        intro hl
        have := hl t (by simp)
        rw [sum, ih (fun a ha => hl a (by simp [ha]))]
        unfold one
        rw [cnt_lt (by omega)]; simp
    have := this l hl
    simp; omega
  | succ n ih =>
    intro hm
    have hi := ih (by omega)
    have hs := sum_step (l := l) (x := ((n + 1 : Nat) : Int)) (fun t ht => ⟨(hl t ht).1, (hl t ht).2.1⟩)
    have e : ((n + 1 : Nat) : Int) - 1 = (n : Int) := by omega
    rw [e] at hs
    by_cases hd : ∃ t ∈ l, isDl t ((n + 1 : Nat) : Int)
    · exact h _ (by omega) hm hd
    · have : ¬ sum l n < sum l ((n + 1 : Nat) : Int) := fun h1 => hd (hs.2.1 h1)
      omega
/-- an earlier deadline, or a shorter period: as many at least -/
theorem cnt_more {t s : Tk} (hs : 0 < s.t) (hd : s.d ≤ t.d) (ht : s.t ≤ t.t) (x : Int) : cnt t x ≤ cnt s x := by
  by_cases h : x < t.d
  · rw [cnt_lt h]; exact cnt_nonneg hs
  · obtain ⟨q, r, hx, r0, r1, q0, hq, hr⟩ := parts t x (by omega) (by omega)
    rw [cnt_ge (by omega), cnt_ge (by omega), hq]
    have h1 : q * s.t ≤ x - s.d := by
      have h2 := Int.mul_le_mul_of_nonneg_left ht q0
      have h3 : q * t.t = t.t * q := Int.mul_comm _ _
      omega
    have := Int.le_ediv_of_mul_le hs h1
    omega
theorem one_more {t s : Tk} (hs : 0 < s.t) (hc0 : 0 ≤ t.c) (hc : t.c ≤ s.c) (hd : s.d ≤ t.d) (ht : s.t ≤ t.t) (x : Int) : one t x ≤ one s x := by
  unfold one
  exact Int.mul_le_mul hc (cnt_more hs hd ht x) (cnt_nonneg (by omega)) (by omega)
/-- no number of these is too great -/
theorem one_le {t : Tk} {x : Int} (h : chk t = true) (hx : 0 ≤ x) : 0 ≤ one t x ∧ one t x ≤ x + 2147483648 := by
  obtain ⟨-, -, h1, h2, h3, h4, -⟩ := chk_iff.1 h
  unfold one
  refine ⟨Int.mul_nonneg (by omega) (cnt_nonneg (by omega)), ?_⟩
  by_cases hd : x < t.d
  · rw [cnt_lt hd]; omega
  · obtain ⟨q, r, hq1, r0, r1, q0, hq, hr⟩ := parts t x (by omega) (by omega)
    rw [cnt_ge (by omega), hq, Int.mul_add]
    have := Int.mul_le_mul_of_nonneg_right (show t.c ≤ t.t by omega) q0
    omega
theorem sum_le {l : List Tk} {x : Int} (hl : ∀ t ∈ l, chk t = true) (hx : 0 ≤ x) : 0 ≤ sum l x ∧ sum l x ≤ l.length * (x + 2147483648) := by
  induction l with
  | nil => simp [sum]
  | cons t l ih =>
    have h1 := one_le (hl t (by simp)) hx
    have h2 := ih (fun a ha => hl a (by simp [ha]))
    simp only [sum, List.length_cons]
    have : ((l.length + 1 : Nat) : Int) * (x + 2147483648) = l.length * (x + 2147483648) + (x + 2147483648) := by rw [Int.natCast_add, Int.add_mul]; simp
    omega
theorem sum_append {l m : List Tk} {x : Int} : sum (l ++ m) x = sum l x + sum m x := by
  induction l with
  | nil => simp [sum]
  | cons t l ih => rw [List.cons_append, sum, sum, ih]; omega
theorem sum_take {l : List Tk} {i : Nat} (h : i < l.length) (x : Int) : sum (l.take (i + 1)) x = sum (l.take i) x + one l[i] x := by
  rw [List.take_succ_eq_append_getElem h, sum_append]; simp [sum]
end Go.Proofs.Yteagimnlhopjpaa.Dm
namespace Go.Proofs.Yteagimnlhopjpaa.Dm
open Go.ChangeShapes Go.WideShapes Go.ChangeAt Go.RowKit Go.Joins
open Pm (Tk chk chk_iff rowB TkAt Ts TRow rchk_any wrap_in)
set_option maxRecDepth 100000
set_option maxRecDepth 100000
set_option linter.unusedVariables false
set_option linter.unusedSimpArgs false
theorem isTime_iff {x : Int} : isTime x = true ↔ 0 ≤ x ∧ x ≤ 1099511627776 := by simp [isTime]
theorem time_any (x : Int) (w : World) :
    Calls Try.prog 60 #[.int .i64 x] w fun e w' => e = .returned (.bool (isTime x)) ∧ w' = w := by
  by_cases h : 0 ≤ x
  · have E : Hid (isTime x = decide (x ≤ 1099511627776)) := Lib.hid (by unfold isTime; apply decide_eq_decide.2; omega)
    go_enter Try.func60, Try.ntmps60
    go_wp2
    go_ret
    exact ⟨by rw [E.out]; rfl, rfl⟩
  · have E : Hid (isTime x = false) := Lib.hid (by unfold isTime; exact decide_eq_false (by omega))
    have h' : x < 0 := by omega
    clear h
    go_enter Try.func60, Try.ntmps60
    go_wp2
    go_ret
    exact ⟨by rw [E.out]; rfl, rfl⟩
/-- a quotient's arithmetic -/
structure Quo (a t q : Int) : Prop where
  z : ¬ t = 0
  zb : (t == 0) = false
  d : a / t = q
  d' : a.tdiv t = q
  q0 : 0 ≤ q
  q1 : q ≤ a
  w : IntKind.i64.wrap q = q
theorem quo_of {a t : Int} (h0 : 0 ≤ a) (h1 : a ≤ 9223372036854775807) (ht : 1 ≤ t) : Quo a t (a / t) := by
  have q0 := Int.ediv_nonneg h0 (show 0 ≤ t by omega)
  have q1 := Int.ediv_le_self t h0
  exact ⟨by omega, by simp; omega, rfl, Int.tdiv_eq_ediv_of_nonneg h0, q0, q1, wrap_in (by omega) (by omega)⟩
end Go.Proofs.Yteagimnlhopjpaa.Dm
namespace Go.Proofs.Yteagimnlhopjpaa.Dm
open Go.ChangeShapes Go.WideShapes Go.ChangeAt Go.RowKit Go.Joins
open Pm (Tk chk chk_iff rowB TkAt Ts TRow rchk_any wrap_in)
set_option maxRecDepth 100000
set_option maxRecDepth 100000
set_option linter.unusedVariables false
set_option linter.unusedSimpArgs false
/-- a task in a box of its own, behind what was there -/
structure Bx (b : Nat) (w : World) (t : Tk) (w' : World) : Prop where
  c0 : w'.cell? ⟨b, 0, none⟩ = some (.int .i64 t.id)
  c1 : w'.cell? ⟨b, 1, none⟩ = some (.int .i64 t.c)
  c2 : w'.cell? ⟨b, 2, none⟩ = some (.int .i64 t.d)
  c3 : w'.cell? ⟨b, 3, none⟩ = some (.int .i64 t.t)
  c4 : w'.cell? ⟨b, 4, none⟩ = some (.int .i64 t.m)
  bel : Below w.heap.size w w'
theorem bx_new (w : World) (t : Tk) (T : TypeId) : Bx w.heap.size w t (w.alloc (.cells #[.int .i64 t.id, .int .i64 t.c, .int .i64 t.d, .int .i64 t.t, .int .i64 t.m] T)) :=
  ⟨by simp [go_sem], by simp [go_sem], by simp [go_sem], by simp [go_sem], by simp [go_sem], (Below.refl _ _).alloc (Nat.le_refl _) _⟩
theorem Bx.call {b : Nat} {w w1 w2 : World} {t : Tk} (h : Bx b w t w1) (hb : Below w1.heap.size w1 w2) : Bx b w t w2 :=
  ⟨carry hb h.c0, carry hb h.c1, carry hb h.c2, carry hb h.c3, carry hb h.c4, h.bel.trans (hb.mono h.bel.size)⟩
theorem Bx.drew {b : Nat} {w w1 : World} {t : Tk} (h : Bx b w t w1) : Bx b w t w1.drew :=
  ⟨h.c0, h.c1, h.c2, h.c3, h.c4, h.bel.drew⟩
theorem one_yes {t : Tk} {x : Int} (h : chk t = true) (hx : isTime x = true) : oneR t x = t.c * cnt t x := by unfold oneR; rw [if_pos ⟨h, hx⟩]; rfl
theorem one_no {t : Tk} {x : Int} (h : chk t = false) : oneR t x = 0 := by unfold oneR; rw [if_neg (by rw [h]; simp)]
theorem one_no2 {t : Tk} {x : Int} (h : isTime x = false) : oneR t x = 0 := by unfold oneR; rw [if_neg (by rw [h]; simp)]
theorem cnt_le_time {t : Tk} {x : Int} (h : chk t = true) (hx : isTime x = true) : 0 ≤ cnt t x ∧ cnt t x ≤ 1099511627777 := by
  obtain ⟨h0, h1⟩ := isTime_iff.1 hx
  obtain ⟨-, -, c1, c2, c3, c4, -⟩ := chk_iff.1 h
  refine ⟨cnt_nonneg (by omega), ?_⟩
  by_cases hd : x < t.d
  · rw [cnt_lt hd]; omega
  · rw [cnt_ge (by omega)]
    have := Int.ediv_le_self (a := x - t.d) t.t (by omega)
    omega
end Go.Proofs.Yteagimnlhopjpaa.Dm
namespace Go.Proofs.Yteagimnlhopjpaa.Dm
open Go.ChangeShapes Go.WideShapes Go.ChangeAt Go.RowKit Go.Joins
open Pm (Tk chk chk_iff rowB TkAt Ts TRow rchk_any wrap_in below_drewN)
set_option maxRecDepth 100000
set_option maxRecDepth 100000
set_option linter.unusedVariables false
set_option linter.unusedSimpArgs false
theorem Bx.drewN {b : Nat} {w w1 : World} {t : Tk} (h : Bx b w t w1) (n : Nat) : Bx b w t (w1.drewN n) :=
  ⟨h.c0, h.c1, h.c2, h.c3, h.c4, h.bel.trans ((below_drewN w1 n).mono h.bel.size)⟩
set_option maxHeartbeats 2000000 in
theorem rone_any (t : Tk) (x : Int) (w : World) :
    Calls Try.prog 57 #[t.v, .int .i64 x] w fun e w' => e = .returned (.int .i64 (oneR t x)) ∧ Below w.heap.size w w' := by
  have CK := Lib.hid (rchk_any t)
  have TM := Lib.hid (time_any x)
  have B0 := Lib.hid (bx_new w t 54)
  cases hc : chk t with
  | false =>
    have E := Lib.hid (one_no (x := x) hc)
    rw [hc] at CK
    clear hc
    generalize oneR t x = r at *
    generalize isTime x = it at *
    obtain ⟨ti, tc, td, tt, tm⟩ := t
    unfold Tk.v at *
    simp only at *
    go_enter Try.func57, Try.ntmps57
    go_wp2_with fail
    (with_reducible refine (CK.out _).mono ?_)
    rintro e w1 ⟨rfl, b1⟩
    have B1 := Lib.hid (B0.out.call b1)
    clear b1
    go_wp2_with fail
    (with_reducible refine (TM.out _).mono ?_)
    rintro e w2 ⟨rfl, rfl⟩
    go_wp2
    go_ret
    exact ⟨by rw [E.out]; rfl, B1.out.bel⟩
  | true =>
    rw [hc] at CK
    cases hx : isTime x with
    | false =>
      have E := Lib.hid (one_no2 (t := t) hx)
      rw [hx] at TM
      clear hx hc
      generalize oneR t x = r at *
      obtain ⟨ti, tc, td, tt, tm⟩ := t
      unfold Tk.v at *
      simp only at *
      go_enter Try.func57, Try.ntmps57
      go_wp2_with fail
      (with_reducible refine (CK.out _).mono ?_)
      rintro e w1 ⟨rfl, b1⟩
      have B1 := Lib.hid (B0.out.call b1)
      clear b1
      go_wp2_with fail
      (with_reducible refine (TM.out _).mono ?_)
      rintro e w2 ⟨rfl, rfl⟩
      go_wp2
      go_ret
      exact ⟨by rw [E.out]; rfl, B1.out.bel⟩
    | true =>
      have E0 := one_yes hc hx
      rw [hx] at TM
      obtain ⟨h0, h1⟩ := isTime_iff.1 hx
      obtain ⟨-, -, k1, k2, k3, k4, -⟩ := chk_iff.1 hc
      have n0 := one_le hc h0
      unfold one at n0
      obtain ⟨n1, n2⟩ := n0
      by_cases h : x < t.d
      · rw [cnt_lt h] at E0
        have E := Lib.hid E0
        generalize oneR t x = r at *
        clear hx hc n1 n2 E0
        obtain ⟨ti, tc, td, tt, tm⟩ := t
        unfold Tk.v at *
        simp only at *
        go_enter Try.func57, Try.ntmps57
        go_wp2_with fail
        (with_reducible refine (CK.out _).mono ?_)
        rintro e w1 ⟨rfl, b1⟩
        have B1 := Lib.hid (B0.out.call b1)
        clear b1
        go_wp2_with fail
        (with_reducible refine (TM.out _).mono ?_)
        rintro e w2 ⟨rfl, rfl⟩
        obtain ⟨c0, c1, c2, c3, c4, bel⟩ := B1.out
        have BEL := Lib.hid bel
        clear bel
        go_wp2
        go_ret
        exact ⟨by rw [E.out, Int.mul_zero]; rfl, BEL.out⟩
      · rw [cnt_ge (show t.d ≤ x by omega)] at E0 n1 n2
        obtain ⟨z, zb, d, d', q0, q1, wq⟩ := quo_of (a := x - t.d) (t := t.t) (by omega) (by omega) (by omega)
        generalize (x - t.d) / t.t = q at *
        have E := Lib.hid E0
        generalize oneR t x = r at *
        have h' : t.d ≤ x := by omega
        have wm : IntKind.i64.wrap (t.c * (q + 1)) = t.c * (q + 1) := wrap_in (by omega) (by omega)
        generalize hM : t.c * (q + 1) = M at *
        have w2 : IntKind.i64.wrap (q + 1) = q + 1 := wrap_in (by omega) (by omega)
        clear hx hc E0 h
        obtain ⟨ti, tc, td, tt, tm⟩ := t
        unfold Tk.v at *
        simp only at *
        have w1 : IntKind.i64.wrap (x - td) = x - td := wrap_in (by omega) (by omega)
        go_enter Try.func57, Try.ntmps57
        go_wp2_with fail
        (with_reducible refine (CK.out _).mono ?_)
        rintro e w1 ⟨rfl, b1⟩
        have B1 := Lib.hid (B0.out.call b1)
        clear b1
        go_wp2_with fail
        (with_reducible refine (TM.out _).mono ?_)
        rintro e w2 ⟨rfl, rfl⟩
        obtain ⟨c0, c1, c2, c3, c4, bel⟩ := B1.out
        have BEL := Lib.hid bel
        clear bel CK TM B0
        go_wp2_with fail
        go_quiet (fail)
        have FIN := Lib.hid (B1.out.drewN nq)
        go_wp2
        go_ret
        exact ⟨by rw [E.out]; rfl, FIN.out.bel⟩
/-- the least deadline above x, another way -/
theorem nxt_cnt {t : Tk} {x : Int} : nxt t x = t.d + t.t * cnt t x := by
  unfold nxt cnt; split <;> simp
theorem nxt_in {t : Tk} {x : Int} (h : chk t = true) (h0 : 0 ≤ x) (h1 : x ≤ 1099511627776) : 0 ≤ t.t * cnt t x ∧ t.t * cnt t x ≤ 1101659111424 ∧ x < nxt t x ∧ nxt t x ≤ 1103806595072 := by
  obtain ⟨-, -, k1, k2, k3, k4, -⟩ := chk_iff.1 h
  have h2 := (nxt_gt (x := x) (t := t) (by omega)).1
  have h3 := cnt_nonneg (x := x) (t := t) (by omega)
  have h4 := Int.mul_nonneg (show 0 ≤ t.t by omega) h3
  have e := nxt_cnt (t := t) (x := x)
  have hb : t.t * cnt t x ≤ 1101659111424 := by
    by_cases hd : x < t.d
    · rw [cnt_lt hd]; omega
    · obtain ⟨q, r, hq1, r0, r1, q0, hq, hr⟩ := parts t x (by omega) (by omega)
      rw [cnt_ge (by omega), hq, Int.mul_add]
      omega
  exact ⟨h4, hb, h2, by omega⟩
end Go.Proofs.Yteagimnlhopjpaa.Dm
namespace Go.Proofs.Yteagimnlhopjpaa.Dm
open Go.ChangeShapes Go.WideShapes Go.ChangeAt Go.RowKit Go.Joins
open Pm (Tk chk chk_iff rowB rowB_all rowB_len TkAt Ts TRow rchk_any wrap_in below_drewN rrow_any)
set_option maxRecDepth 100000
set_option maxRecDepth 100000
set_option linter.unusedVariables false
set_option linter.unusedSimpArgs false
/-- the sum of all, each as One tells it -/
def sumR : List Tk → Int → Int
  | [], _ => 0
  | t :: l, x => oneR t x + sumR l x
theorem oneR_le (t : Tk) (x : Int) : 0 ≤ oneR t x ∧ oneR t x ≤ 1101659111424 := by
  unfold oneR
  split
  · rename_i h
    have h1 := isTime_iff.1 h.2
    have h2 := one_le h.1 h1.1
    omega
  · omega
theorem sumR_le (l : List Tk) (x : Int) : 0 ≤ sumR l x ∧ sumR l x ≤ l.length * 1101659111424 := by
  induction l with
  | nil => simp [sumR]
  | cons t l ih =>
    have h1 := oneR_le t x
    simp only [sumR, List.length_cons]
    have : ((l.length + 1 : Nat) : Int) * 1101659111424 = l.length * 1101659111424 + 1101659111424 := by rw [Int.natCast_add, Int.add_mul]; simp
    omega
theorem sumR_append {l m : List Tk} {x : Int} : sumR (l ++ m) x = sumR l x + sumR m x := by
  induction l with
  | nil => simp [sumR]
  | cons t l ih => rw [List.cons_append, sumR, sumR, ih]; omega
theorem sumR_take {l : List Tk} {i : Nat} (h : i < l.length) (x : Int) : sumR (l.take (i + 1)) x = sumR (l.take i) x + oneR l[i] x := by
  rw [List.take_succ_eq_append_getElem h, sumR_append]; simp [sumR]
theorem sumR_zero {l : List Tk} {x : Int} (h : isTime x = false) : sumR l x = 0 := by
  induction l with
  | nil => rfl
  | cons t l ih => rw [sumR, ih, one_no2 h]; rfl
theorem sumR_sum {l : List Tk} {x : Int} (h : isTime x = true) (hl : ∀ t ∈ l, chk t = true) : sumR l x = sum l x := by
  induction l with
  | nil => rfl
  | cons t l ih => rw [sumR, sum, ih (fun a ha => hl a (by simp [ha])), one_yes (hl t (by simp)) h]; rfl
theorem ofR_yes {l : List Tk} {x : Int} (h : rowB l = true) : ofR l x = sumR l x := by
  unfold ofR
  cases hx : isTime x with
  | true => rw [if_pos ⟨h, rfl⟩, sumR_sum hx (rowB_all h)]
  | false => rw [if_neg (by simp), sumR_zero hx]
theorem ofR_no {l : List Tk} {x : Int} (h : rowB l = false) : ofR l x = 0 := by
  unfold ofR; rw [if_neg (by rw [h]; simp)]
/-- i tasks were counted -/
def OfRel (l : List Tk) (x : Int) (B : Nat) (w : World) (g : Nat) (s t : Value) (wx : World) : Prop :=
  ∃ i : Nat, i + g = l.length ∧ s = .int .i64 (sumR (l.take i) x) ∧ t = .int .i64 (i : Int) ∧ Below B w wx
/-- a round's numbers -/
structure Add (S M : Int) : Prop where
  s0 : 0 ≤ S
  s1 : S ≤ 35253091565568
  m0 : 0 ≤ M
  m1 : M ≤ 1101659111424
theorem add_of {l : List Tk} {i : Nat} (x : Int) (hl : l.length ≤ 16) (hlt : i < l.length) : ∃ S M, sumR (l.take i) x = S ∧ oneR l[i] x = M ∧ sumR (l.take (i + 1)) x = S + M ∧ Add S M := by
  have h1 := sumR_le (l.take i) x
  have h2 := oneR_le l[i] x
  have h3 : (l.take i).length ≤ 16 := by rw [List.length_take]; omega
  exact ⟨_, _, rfl, rfl, sumR_take hlt x, ⟨h1.1, by omega, h2.1, h2.2⟩⟩
set_option maxHeartbeats 2000000 in
theorem rof_any (l : List Tk) (ao : Option Addr) (cap : Nat) (x : Int) (w : World) (hT : Ts ao l w) (hl : l.length ≤ 1000000) :
    Calls Try.prog 49 #[.slice ao l.length cap, .int .i64 x] w fun e w' => e = .returned (.int .i64 (ofR l x)) ∧ Below w.heap.size w w' := by
  have RO := Lib.hid (fun w h => rrow_any l ao cap w h hl)
  have T := Lib.hid hT
  cases hr : rowB l with
  | false =>
    have E := Lib.hid (ofR_no (x := x) hr)
    rw [hr] at RO
    generalize ofR l x = r at *
    clear hr
    go_enter Try.func49, Try.ntmps49
    go_wp2_with fail
    (with_reducible refine (RO.out _ hT).mono ?_)
    rintro e w1 ⟨rfl, b1⟩
    have K1 := Lib.hid b1
    clear b1 hT
    go_wp2_with fail
    go_loopg [6, 7] 0 (fun _ s t wx => s = .int .i64 0 ∧ t = .int .i64 0 ∧ wx = w1)
    case atStart => exact ⟨rfl, rfl, rfl⟩
    case round =>
      obtain ⟨rfl, rfl, rfl⟩ := hrel
      by_cases h0 : 0 < l.length
      · have h1 : (0 : Int) < (l.length : Int) := by omega
        clear h0
        go_wp2
        go_ret
        exact ⟨by rw [E.out]; rfl, K1.out⟩
      · have h1 : (l.length : Int) ≤ 0 := by omega
        have h2 : decide (0 < l.length) = false := decide_eq_false h0
        clear h0
        go_wp2
        go_ret
        exact ⟨by rw [E.out]; rfl, K1.out⟩
  | true =>
    have E := Lib.hid (ofR_yes (x := x) hr)
    have hlen := rowB_len hr
    rw [hr] at RO
    have AD := Lib.hid (fun i (hlt : i < l.length) => add_of x hlen hlt)
    generalize ofR l x = r at *
    clear hr
    go_enter Try.func49, Try.ntmps49
    go_wp2_with fail
    (with_reducible refine (RO.out _ hT).mono ?_)
    rintro e w1 ⟨rfl, b1⟩
    have K1 := Lib.hid b1
    clear b1 hT RO
    go_wp2_with fail
    go_loopg [6, 7] l.length (OfRel l x w.heap.size w)
    case atStart => exact ⟨0, by omega, by simp [sumR], rfl, K1.out⟩
    case round =>
      obtain ⟨i, hi, rfl, rfl, hB⟩ := hrel
      have TQ := T.out.below hB (Nat.le_refl _)
      by_cases hlt : i < l.length
      · obtain ⟨b, off, rfl, hb, hat⟩ := TQ (by omega)
        have hx := hat i l[i] (List.getElem?_eq_getElem hlt)
        obtain ⟨S, M, e1, e2, e3, s0, s1, m0, m1⟩ := AD.out i hlt
        have ON := Lib.hid (rone_any l[i] x)
        rw [e2] at ON
        rw [e1]
        have HI := Lib.hid hi
        have KB := Lib.hid hB
        have NX := Lib.hid e3
        have hg0 : 0 < gk := by omega
        have hlt' : (i : Int) < (l.length : Int) := by omega
        clear hi hat TQ hB e1 e2 e3
        generalize l[i] = t at *
        obtain ⟨c0, c1, c2, c3, c4⟩ := hx
        obtain ⟨ti, tc, td, tt, tm⟩ := t
        unfold Tk.v at ON
        simp only at c0 c1 c2 c3 c4 ON
        go_wp2_with fail
        (with_reducible refine (ON.out _).mono ?_)
        rintro e w2 ⟨rfl, b2⟩
        have K2 := Lib.hid (KB.out.trans (b2.mono KB.out.size))
        clear b2 KB c0 c1 c2 c3 c4 ON
        go_wp2
        go_roundg (gk - 1)
        case measure => omega
        case rel => exact ⟨i + 1, by have := HI.out; omega, by rw [NX.out], by go_num, K2.out⟩
      · have hge : (l.length : Int) ≤ (i : Int) := by omega
        rw [List.take_of_length_le (by omega)]
        have K2 := Lib.hid hB
        have hdec : decide (i < l.length) = false := decide_eq_false hlt
        clear hB TQ hi hlt AD
        go_wp2
        go_ret
        exact ⟨by rw [E.out]; rfl, K2.out⟩
end Go.Proofs.Yteagimnlhopjpaa.Dm
