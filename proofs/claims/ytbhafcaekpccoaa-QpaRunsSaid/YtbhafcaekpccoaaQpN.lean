/- Tasks whose periods divide 240: whether they fit, said of them alone; of fewer, of less work; the greatest work that fits. -/
import Derived.Test.YtbhafcaekpccoaaQpK
import Derived.Test.YtbhafcaekpccoaaBsM
namespace Go.Proofs.Ytbhafcaekpccoaa.Qp
open Pm
open Dm (sum one cnt cnt_le cnt_nonneg)
open Bs (pers_some work_more)
set_option maxRecDepth 100000
set_option maxRecDepth 100000
set_option linter.unusedVariables false
set_option linter.unusedSimpArgs false
structure Nice (l : List Tk) : Prop where
  row : rowB l = true
  dv : ∀ t ∈ l, t.t.toNat ∣ 240
theorem made12_nice (l : List Tri) : Nice (made12 l) := ⟨made12_row l, fun t ht => Nat.dvd_trans (made12_mem ht).2.2 (by decide)⟩
/-- the load is not above 1, and there never is more work than time -/
def fit (l : List Tk) : Prop := work 240 l ≤ 240 ∧ ∀ s, 1 ≤ s → sum l s ≤ s
theorem nice_load {l : List Tk} (h : Nice l) : (loadR l).e = 0 ∧ ((loadR l).n ≤ (loadR l).p ↔ work 240 l ≤ 240) ∧ 0 < (loadR l).p ∧ (loadR l).p ≤ 1048576 := by
  obtain ⟨q, hq, hd⟩ := pers_some (l := l) (m := 240) (by omega) (by omega) (Nat.one_dvd _) h.dv
  have e1 : periodR l = ((q : Int), 0) := by unfold periodR; rw [if_pos h.row, hq]
  have hl := rowB_all h.row
  obtain ⟨hq0, hq1, -, hpd⟩ := pers_pos (by omega) (by omega) hl hq
  have e2 : loadR l = ⟨work q l, q, 0⟩ := by rw [load_yes (by rw [e1]), e1]
  rw [e2]
  obtain ⟨k, hk⟩ := hd
  have hk0 : 0 < k := by
    rcases Nat.eq_zero_or_pos k with h0 | h0
    · rw [h0] at hk; omega
    · exact h0
  have hkI : (240 : Int) = (q : Int) * (k : Int) := by rw [← Int.natCast_mul, ← hk]; rfl
  have hm : (240 : Int) % (q : Int) = 0 := by rw [hkI]; exact Int.mul_emod_right _ _
  have hdv : (240 : Int) / (q : Int) = (k : Int) := by rw [hkI]; exact Int.mul_ediv_cancel_left _ (by omega)
  have hw := work_more (l := l) (p := (q : Int)) (q := 240) (by omega) hm (fun x hx => by
    have h1 := chk_iff.1 (hl x hx)
    have h2 := hpd x hx
    have h3 : x.t = ((x.t.toNat : Nat) : Int) := by omega
    refine ⟨by omega, ?_⟩
    rw [h3, ← Int.natCast_emod, Nat.mod_eq_zero_of_dvd h2]; rfl)
  rw [hdv] at hw
  refine ⟨rfl, ?_, by show (0 : Int) < (q : Int); omega, by show (q : Int) ≤ 1048576; omega⟩
  show work (q : Int) l ≤ (q : Int) ↔ work 240 l ≤ 240
  rw [hw]
  constructor
  · intro h1
    have := Int.mul_le_mul_of_nonneg_right h1 (show (0 : Int) ≤ (k : Int) by omega)
    omega
  · intro h1
    have h2 : work (q : Int) l * (k : Int) ≤ (q : Int) * (k : Int) := by omega
    exact Int.le_of_mul_le_mul_right h2 (by omega)
theorem nice_test {l : List Tk} (h : Nice l) : (fit l ∧ testR l = 0) ∨ (¬ fit l ∧ testR l = 17) := by
  obtain ⟨h1, h2, -, -⟩ := nice_load h
  rcases testR_is h1 with h3 | h3
  · have := testR_zero.1 h3
    exact .inl ⟨⟨h2.1 this.2.1, this.2.2⟩, h3⟩
  · refine .inr ⟨fun hf => ?_, h3⟩
    have := testR_zero.2 ⟨h1, h2.2 hf.1, hf.2⟩
    omega
theorem nice_fit {l : List Tk} (h : Nice l) (hf : fit l) : testR l = 0 := by
  rcases nice_test h with ⟨-, h1⟩ | ⟨h1, -⟩
  · exact h1
  · exact absurd hf h1
theorem nice_unfit {l : List Tk} (h : Nice l) (hf : ¬ fit l) : testR l = 17 := by
  rcases nice_test h with ⟨h1, -⟩ | ⟨-, h1⟩
  · exact absurd h1 hf
  · exact h1
/-- less work at each time, and of a whole period, fits where more does -/
theorem fit_less {l m : List Tk} (h1 : work 240 m ≤ work 240 l) (h2 : ∀ s, sum m s ≤ sum l s) (hf : fit l) : fit m :=
  ⟨Int.le_trans h1 hf.1, fun s hs => Int.le_trans (h2 s) (hf.2 s hs)⟩
theorem work_app {l m : List Tk} {p : Int} : work p (l ++ m) = work p l + work p m := by
  induction l with
  | nil => simp [work]
  | cons x l ih => rw [List.cons_append, work, work, ih]; omega
theorem sum_app {l m : List Tk} {x : Int} : sum (l ++ m) x = sum l x + sum m x := Dm.sum_append
/-- t with another work -/
def wc (t : Tk) (c : Int) : Tk := { t with c := c }
theorem wc_chk {t : Tk} {c : Int} (h : chk t = true) (h1 : 1 ≤ c) (h2 : c ≤ t.d) : chk (wc t c) = true := by
  have := chk_iff.1 h
  rw [chk_iff]; unfold wc; simp only; omega
theorem nice_cons {l : List Tk} {t : Tk} (hl : Nice l) (h16 : l.length ≤ 15) (ht : chk t = true) (hd : t.t.toNat ∣ 240) : Nice (t :: l) :=
  ⟨rowB_yes (by simp; omega) (fun x hx => by
    rcases List.mem_cons.1 hx with rfl | hx
    · exact ht
    · exact rowB_all hl.row x hx), fun x hx => by
    rcases List.mem_cons.1 hx with rfl | hx
    · exact hd
    · exact hl.dv x hx⟩
theorem nice_snoc {l : List Tk} {t : Tk} (hl : Nice l) (h16 : l.length ≤ 15) (ht : chk t = true) (hd : t.t.toNat ∣ 240) : Nice (l ++ [t]) :=
  ⟨rowB_yes (by simp; omega) (fun x hx => by
    rcases List.mem_append.1 hx with hx | hx
    · exact rowB_all hl.row x hx
    · obtain rfl : x = t := by simpa using hx
      exact ht), fun x hx => by
    rcases List.mem_append.1 hx with hx | hx
    · exact hl.dv x hx
    · obtain rfl : x = t := by simpa using hx
      exact hd⟩
theorem fit_turn {l : List Tk} {t : Tk} : fit (l ++ [t]) ↔ fit (t :: l) := by
  unfold fit
  rw [work_app]
  have e1 : work 240 (t :: l) = work 240 l + work 240 [t] := by simp [work]; omega
  rw [e1]
  have e2 : ∀ s, sum (t :: l) s = sum (l ++ [t]) s := fun s => by rw [sum_app]; simp [sum]; omega
  simp only [e2]
theorem fit_mono {l : List Tk} {t : Tk} {a b : Int} (ht : 0 < t.t) (h0 : 0 ≤ a) (h : a ≤ b) (hf : fit (wc t b :: l)) : fit (wc t a :: l) := by
  refine fit_less ?_ (fun s => ?_) hf
  · have h1 : 0 ≤ 240 / t.t := Int.ediv_nonneg (by omega) (by omega)
    have h2 := Int.mul_le_mul_of_nonneg_right h h1
    simp only [work, wc]; omega
  · have h1 := cnt_nonneg (t := t) (x := s) ht
    have h2 := Int.mul_le_mul_of_nonneg_right h h1
    have e : ∀ c, cnt (wc t c) s = cnt t s := fun c => rfl
    simp only [sum, one, e]
    simp only [wc]; omega
theorem fit_drop {l : List Tk} {t : Tk} (ht : 0 < t.t) (hc : 0 ≤ t.c) (hf : fit (t :: l)) : fit l := by
  refine fit_less ?_ (fun s => ?_) hf
  · have h1 : 0 ≤ 240 / t.t := Int.ediv_nonneg (by omega) (by omega)
    have h2 := Int.mul_nonneg hc h1
    simp only [work]; omega
  · have h2 := Int.mul_nonneg hc (cnt_nonneg (t := t) (x := s) ht)
    simp only [sum, one]; omega
/-- r is the greatest work of t that fits with l -/
structure RoomIs (l : List Tk) (t : Tk) (r : Int) : Prop where
  lo : 0 ≤ r
  hi : r ≤ t.d
  yes : 0 < r → fit (wc t r :: l)
  no : r < t.d → ¬ fit (wc t (r + 1) :: l)
theorem RoomIs.uniq {l : List Tk} {t : Tk} {r s : Int} (ht : 0 < t.t) (h : RoomIs l t r) (k : RoomIs l t s) : r = s := by
  rcases Int.lt_trichotomy r s with h1 | h1 | h1
  · exact absurd (fit_mono ht (by have := h.lo; omega) (by omega) (k.yes (by have := h.lo; omega))) (h.no (by have := k.hi; omega))
  · exact h1
  · exact absurd (fit_mono ht (by have := k.lo; omega) (by omega) (h.yes (by have := k.lo; omega))) (k.no (by have := h.hi; omega))
end Go.Proofs.Ytbhafcaekpccoaa.Qp
