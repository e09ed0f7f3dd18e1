/- What fits, of fewer tasks, of less work, a later deadline, a longer period of one: the mathematics; a row's first tasks. -/
import Derived.Test.YtbhafcaekpccoaaQpN
import Derived.Test.YtbhafcaekpccoaaQpR
namespace Go.Proofs.Ytbhafcaekpccoaa.Qp
open Go.ChangeShapes Go.WideShapes Go.ChangeAt Go.RowKit Go.Joins
open Pm
open Dm (sum one cnt cnt_le cnt_nonneg one_more)
set_option maxRecDepth 100000
set_option maxRecDepth 100000
set_option linter.unusedVariables false
set_option linter.unusedSimpArgs false
theorem work_set {p : Int} {u : Tk} : ∀ {l : List Tk} {k : Nat} {t : Tk}, l[k]? = some t → work p (l.set k u) + t.c * (p / t.t) = work p l + u.c * (p / u.t) := by
  intro l
  induction l with
  | nil => intro k t h; simp at h
  | cons a l ih =>
    intro k t h
    cases k with
    | zero =>
      obtain rfl : a = t := by simpa using h
      simp only [List.set_cons_zero, work]; omega
    | succ k =>
      have := ih (k := k) (t := t) (by simpa using h)
      simp only [List.set_cons_succ, work]; omega
theorem sum_set {x : Int} {u : Tk} : ∀ {l : List Tk} {k : Nat} {t : Tk}, l[k]? = some t → sum (l.set k u) x + one t x = sum l x + one u x := by
  intro l
  induction l with
  | nil => intro k t h; simp at h
  | cons a l ih =>
    intro k t h
    cases k with
    | zero =>
      obtain rfl : a = t := by simpa using h
      simp only [List.set_cons_zero, sum]; omega
    | succ k =>
      have := ih (k := k) (t := t) (by simpa using h)
      simp only [List.set_cons_succ, sum]; omega
theorem mem_set {l : List Tk} {k : Nat} {u x : Tk} (h : x ∈ l.set k u) : x ∈ l ∨ x = u := by
  rcases List.mem_or_eq_of_mem_set h with h | h
  · exact .inl h
  · exact .inr h
theorem nice_set {l : List Tk} {k : Nat} {u : Tk} (h : Nice l) (hu : chk u = true) (hd : u.t.toNat ∣ 240) : Nice (l.set k u) :=
  ⟨rowB_yes (by rw [List.length_set]; exact rowB_len h.row) (fun x hx => by
    rcases mem_set hx with hx | rfl
    · exact rowB_all h.row x hx
    · exact hu), fun x hx => by
    rcases mem_set hx with hx | rfl
    · exact h.dv x hx
    · exact hd⟩
theorem set_fits {l : List Tk} {k : Nat} {t u : Tk} (h : Nice l) (hk : l[k]? = some t) (hu : chk u = true) (hd : u.t.toNat ∣ 240) (h0 : testR l = 0) (h1 : u.c * (240 / u.t) ≤ t.c * (240 / t.t)) (h2 : ∀ x, one u x ≤ one t x) : testR (l.set k u) = 0 := by
  have hf : fit l := by
    rcases nice_test h with ⟨hf, -⟩ | ⟨-, h3⟩
    · exact hf
    · omega
  refine nice_fit (nice_set h hu hd) (fit_less ?_ (fun s => ?_) hf)
  · have := work_set (p := 240) (u := u) hk; omega
  · have := sum_set (x := s) (u := u) hk
    have := h2 s; omega
theorem cut_fits {l : List Tk} {k : Nat} {t : Tk} (h : Nice l) (hk : l[k]? = some t) (h0 : testR l = 0) : testR (l.take k ++ l.drop (k + 1)) = 0 := by
  have hf : fit l := by
    rcases nice_test h with ⟨hf, -⟩ | ⟨-, h3⟩
    · exact hf
    · omega
  obtain ⟨hkl, rfl⟩ := List.getElem?_eq_some_iff.1 hk
  have e : l = l.take k ++ (l[k] :: l.drop (k + 1)) := by rw [← List.drop_eq_getElem_cons hkl, List.take_append_drop]
  have hsub : ∀ x ∈ l.take k ++ l.drop (k + 1), x ∈ l := fun x hx => by
    rcases List.mem_append.1 hx with hx | hx
    · exact List.mem_of_mem_take hx
    · exact List.mem_of_mem_drop hx
  have hc := chk_iff.1 (rowB_all h.row l[k] (List.getElem_mem hkl))
  have hN : Nice (l.take k ++ l.drop (k + 1)) := ⟨rowB_yes (by have := rowB_len h.row; simp; omega) (fun x hx => rowB_all h.row x (hsub x hx)), fun x hx => h.dv x (hsub x hx)⟩
  refine nice_fit hN (fit_less ?_ (fun s => ?_) hf)
  · have h1 : work 240 l = work 240 (l.take k) + work 240 (l[k] :: l.drop (k + 1)) := by rw [← work_app, ← e]
    have h2 : 0 ≤ l[k].c * (240 / l[k].t) := Int.mul_nonneg (by omega) (Int.ediv_nonneg (by omega) (by omega))
    rw [work_app]
    simp only [work] at h1
    omega
  · have h1 : sum l s = sum (l.take k) s + sum (l[k] :: l.drop (k + 1)) s := by rw [← sum_app, ← e]
    have h2 : 0 ≤ one l[k] s := Int.mul_nonneg (by omega) (cnt_nonneg (by omega))
    rw [sum_app]
    simp only [sum] at h1
    omega
/-- what the law asks of the tasks that fit, where the k-th is t -/
structure Lss (T : List Tk) (k : Nat) (t : Tk) : Prop where
  lo : 1 ≤ t.c ∧ t.c ≤ t.d ∧ t.d ≤ t.t ∧ t.t ≤ 120
  cut : testR (T.take k ++ T.drop (k + 1)) = 0
  less : 1 < t.c → testR (T.set k { t with c := t.c - 1 }) = 0
  late : t.d < t.t → testR (T.set k { t with d := t.d + 1 }) = 0
  long : testR (T.set k { t with t := 2 * t.t }) = 0
theorem lss {T : List Tk} {k : Nat} {t : Tk} (hr : rowB T = true) (hd : ∀ t ∈ T, t.t.toNat ∣ 120) (h0 : testR T = 0) (hk : T[k]? = some t) : Lss T k t := by
  have hN : Nice T := ⟨hr, fun t ht => Nat.dvd_trans (hd t ht) (by decide)⟩
  have hm := List.mem_of_getElem? hk
  have hc := chk_iff.1 (rowB_all hr t hm)
  have hdv := hd t hm
  have h120 := Nat.le_of_dvd (by decide) hdv
  have hdv2 : t.t.toNat ∣ 240 := hN.dv t hm
  have q0 : 0 ≤ 240 / t.t := Int.ediv_nonneg (by omega) (by omega)
  refine ⟨by omega, cut_fits hN hk h0, fun h1 => ?_, fun h1 => ?_, ?_⟩
  · refine set_fits hN hk (by rw [chk_iff]; simp only; omega) hdv2 h0 ?_ (fun x => one_more (by omega) (by simp only; omega) (by simp only; omega) (by simp) (by simp) x)
    simp only
    have := Int.mul_le_mul_of_nonneg_right (show t.c - 1 ≤ t.c by omega) q0
    exact this
  · refine set_fits hN hk (by rw [chk_iff]; simp only; omega) hdv2 h0 (Int.le_refl _) (fun x => one_more (by omega) (by simp only; omega) (by simp) (by simp only; omega) (by simp) x)
  · refine set_fits hN hk (by rw [chk_iff]; simp only; omega) ?_ h0 ?_ (fun x => one_more (by omega) (by simp only; omega) (by simp) (by simp) (by simp only; omega) x)
    · simp only
      have e : (2 * t.t).toNat = 2 * t.t.toNat := by omega
      rw [e]
      exact Nat.mul_dvd_mul_left 2 hdv
    · simp only
      refine Int.mul_le_mul_of_nonneg_left ?_ (by omega)
      refine Int.le_ediv_of_mul_le (by omega) ?_
      have h1 := Int.ediv_mul_le 240 (show 2 * t.t ≠ 0 by omega)
      have h2 : 0 ≤ 240 / (2 * t.t) := Int.ediv_nonneg (by omega) (by omega)
      have h3 : 240 / (2 * t.t) * t.t ≤ 240 / (2 * t.t) * (2 * t.t) := Int.mul_le_mul_of_nonneg_left (by omega) h2
      omega
theorem flat_take {l : List Tk} : ∀ {k : Nat}, flat (l.take k) = (flat l).take (k * 5) := by
  induction l with
  | nil => intro k; simp [flat]
  | cons a l ih =>
    intro k
    cases k with
    | zero => simp [flat]
    | succ k =>
      rw [List.take_succ_cons, flat_cons, flat_cons, ih, List.take_append, cs_len]
      have e : (k + 1) * 5 - 5 = k * 5 := by omega
      have e2 : List.take ((k + 1) * 5) a.cs = a.cs := List.take_of_length_le (by rw [cs_len]; omega)
      rw [e, e2]
/-- a row's first k tasks -/
theorem trow_take {B : Nat} {w : World} {g cap n : Nat} {l : List Tk} (h : TRow B w (.slice (some ⟨g, 0, none⟩) n cap) l) (hn : n = l.length) {k : Nat} (hk : k ≤ n) : TRow B w (.slice (some ⟨g, 0, none⟩) k cap) (l.take k) := by
  subst hn
  have e : (l.take k).length = k := by rw [List.length_take]; omega
  rcases h.2 with ⟨h0, _⟩ | ⟨g', cap', cur, hv, hB, hg, hcap, hm, hsz, ht⟩
  · cases h0
  · cases hv
    refine ⟨by rw [flat_length], .inr ⟨g, cap, cur, by rw [e], hB, hg, by rw [e]; omega, hm, hsz, ?_⟩⟩
    rw [e, flat_take, ← ht, List.take_take]
    congr 1
    omega
/-- and those behind -/
theorem trow_drop {B : Nat} {w : World} {g cap n : Nat} {l : List Tk} (h : TRow B w (.slice (some ⟨g, 0, none⟩) n cap) l) (hn : n = l.length) (k : Nat) : Ts (some ⟨g, k * 5, none⟩) (l.drop k) w := fun h0 => by
  have hl : k < l.length := by simp at h0; omega
  obtain ⟨b, off, e, hb, hat⟩ := TRow.ts1 h hn (by omega)
  cases e
  refine ⟨g, k * 5, rfl, hb, fun i x hi => ?_⟩
  have := hat (k + i) x (by rw [← List.getElem?_drop]; exact hi)
  have e : 0 + (k + i) * 5 = k * 5 + i * 5 := by omega
  rw [e] at this
  exact this
end Go.Proofs.Ytbhafcaekpccoaa.Qp
