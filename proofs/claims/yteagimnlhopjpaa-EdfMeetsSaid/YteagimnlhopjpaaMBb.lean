/- The document's Work; Idle, Least, both. Least, both. The document's Length. -/
import Derived.Test.YteagimnlhopjpaaMBa
import Derived.Test.YteagimnlhopjpaaMDn
import Derived.BigQuiet
import Derived.Test.YteagimnlhopjpaaMPb
namespace Go.Proofs.Yteagimnlhopjpaa.Bs
open Go.ChangeShapes Go.WideShapes Go.ChangeAt Go.RowKit Go.Joins
open Pm (Tk chk chk_iff rowB rowB_all rowB_len TkAt Ts TRow wrap_in rrow_any below_drewN)
open Dm (isTime isTime_iff Quo quo_of Bx bx_new)
set_option maxRecDepth 100000
set_option maxRecDepth 100000
set_option linter.unusedVariables false
set_option linter.unusedSimpArgs false
theorem workR_zero {l : List Tk} {x : Int} (h : x ≤ 0) : workR l x = 0 := by
  unfold workR
  split
  · exact wk_zero l h
  · rfl
theorem workR_late {l : List Tk} {x : Int} (h : 1099511627776 < x) : workR l x = 0 := workR_no2 (by unfold isTime; exact decide_eq_false (by omega))
/-- the document's round -/
structure Rnd2 (S x T Q R c M : Int) : Prop where
  d : (x - 1) / T = Q
  d' : (x - 1).tdiv T = Q
  r : Q + 1 = R
  z : ¬ T = 0
  zb : (T == 0) = false
  w0 : IntKind.i64.wrap (x - 1) = x - 1
  wq : IntKind.i64.wrap Q = Q
  wr : IntKind.i64.wrap R = R
  q0 : 0 ≤ Q
  q1 : Q ≤ x
theorem rnd2_of {t : Tk} {x R : Int} (h : chk t = true) (h0 : 1 ≤ x) (h1 : x ≤ 1099511627776) (e : rel t x = R) : ∃ Q, Rnd2 0 x t.t Q R 0 0 := by
  have hk := chk_iff.1 h
  obtain ⟨z, zb, d, d', q0, q1, wq⟩ := quo_of (a := x - 1) (t := t.t) (by omega) (by omega) (by omega)
  rw [rel_pos h0] at e
  exact ⟨_, d, d', e, z, zb, wrap_in (by omega) (by omega), wq, wrap_in (by omega) (by omega), q0, by omega⟩
theorem idle_row {l : List Tk} {x : Int} (h : rowB l = false) : idleR l x = false := by unfold idleR; rw [h]; rfl
theorem idle_time {l : List Tk} {x : Int} (h : rowB l = true) (hx : isTime x = false) : idleR l x = false := by unfold idleR; rw [h, hx]; rfl
theorem idle_yes {l : List Tk} {x : Int} (h : rowB l = true) (hx : isTime x = true) : idleR l x = decide (workR l x ≤ x) := by unfold idleR; rw [workR_yes h hx, h, hx]; simp
end Go.Proofs.Yteagimnlhopjpaa.Bs
namespace Go.Proofs.Yteagimnlhopjpaa.Bs
open Go.ChangeShapes Go.WideShapes Go.ChangeAt Go.RowKit Go.Joins
open Pm (Tk chk chk_iff rowB rowB_all rowB_len TkAt Ts TRow wrap_in rrow_any below_drewN)
open Dm (isTime isTime_iff isDl nextR nextR_is nextR_none nextR_no ans)
set_option maxRecDepth 100000
set_option maxRecDepth 100000
set_option linter.unusedVariables false
set_option linter.unusedSimpArgs false
theorem leastD_take {l : List Tk} : ∀ {m : Int} {i : Nat} (h : i < l.length), leastD m (l.take (i + 1)) = if l[i].d < leastD m (l.take i) then l[i].d else leastD m (l.take i) := by
  induction l with
  | nil => intro m i h; simp at h
  | cons t l ih =>
    intro m i h
    cases i with
    | zero => simp [leastD]
    | succ i =>
      rw [List.take_succ_cons, List.take_succ_cons, leastD, leastD, List.getElem_cons_succ]
      exact ih (by simpa using h)
theorem leastD_is {l : List Tk} : ∀ {m : Int}, leastD m l ≤ m ∧ (∀ t ∈ l, leastD m l ≤ t.d) ∧ (leastD m l = m ∨ ∃ t ∈ l, leastD m l = t.d) := by
  induction l with
  | nil => intro m; simp [leastD]
  | cons t l ih =>
    intro m
    rw [leastD]
    obtain ⟨h1, h2, h3⟩ := ih (m := if t.d < m then t.d else m)
    have h4 : (if t.d < m then t.d else m) ≤ m ∧ (if t.d < m then t.d else m) ≤ t.d ∧ ((if t.d < m then t.d else m) = m ∨ (if t.d < m then t.d else m) = t.d) := by
      split
      · exact ⟨by omega, by omega, .inr rfl⟩
      · exact ⟨by omega, by omega, .inl rfl⟩
    generalize (if t.d < m then t.d else m) = k at *
    refine ⟨by omega, fun u hu => ?_, ?_⟩
    · rcases List.mem_cons.1 hu with rfl | hu
      · omega
      · exact h2 u hu
    · rcases h3 with h3 | ⟨u, hu, h3⟩
      · rcases h4.2.2 with h5 | h5
        · left; omega
        · right; exact ⟨t, by simp, by omega⟩
      · right; exact ⟨u, by simp [hu], h3⟩
theorem leastR_cons {t : Tk} {r : List Tk} (h : rowB (t :: r) = true) : leastR (t :: r) = leastD t.d (t :: r) := by unfold leastR; simp only; rw [if_pos h]
theorem leastR_no {l : List Tk} (h : rowB l = false) : leastR l = 0 := by
  unfold leastR
  split
  · rfl
  · rw [if_neg (by rw [h]; simp)]
theorem leastR_nil : leastR [] = 0 := rfl
/-- the first deadline of all is the least D -/
theorem next_least (l : List Tk) : (nextR l 0 = some (leastR l)) ∨ (nextR l 0 = none ∧ leastR l = 0) := by
  cases hr : rowB l with
  | false => exact .inr ⟨nextR_no hr, leastR_no hr⟩
  | true =>
    cases l with
    | nil => exact .inr ⟨by decide, rfl⟩
    | cons t r =>
      have hl := rowB_all hr
      have hp : ∀ u ∈ t :: r, 0 < u.t := fun u hu => by have := chk_iff.1 (hl u hu); omega
      left
      have hd := fun u (hu : u ∈ t :: r) => chk_iff.1 (hl u hu)
      have own : ∀ u ∈ t :: r, isDl u u.d := fun u hu => ⟨Int.le_refl _, by simp⟩
      obtain ⟨h1, h2, h3⟩ := leastD_is (l := t :: r) (m := t.d)
      rw [leastR_cons hr]
      cases hn : nextR (t :: r) 0 with
      | none =>
        have := nextR_none hr (by decide) hp hn t (by simp) _ (own t (by simp)) (by have := hd t (by simp); omega)
        have := hd t (by simp)
        omega
      | some y =>
        obtain ⟨-, -, ⟨v, hv, hdv⟩, h5⟩ := nextR_is hp hn
        have h6 := h2 v hv
        have h7 := hdv.1
        rcases h3 with h3 | ⟨u, hu, h3⟩
        · have h8 := h5 t (by simp) _ (own t (by simp)) (by have := hd t (by simp); omega)
          congr 1; omega
        · have h8 := h5 u hu _ (own u hu) (by have := hd u hu; omega)
          congr 1; omega
/-- i tasks were looked at -/
def LdRel (l : List Tk) (m : Int) (w : World) (g : Nat) (s t : Value) (wx : World) : Prop :=
  ∃ i : Nat, i + g = l.length ∧ s = .int .i64 (leastD m (l.take i)) ∧ t = .int .i64 (i : Int) ∧ Below w.heap.size w wx
end Go.Proofs.Yteagimnlhopjpaa.Bs
namespace Go.Proofs.Yteagimnlhopjpaa.Bs
open Go.ChangeShapes Go.WideShapes Go.ChangeAt Go.RowKit Go.Joins
open Pm (Tk chk chk_iff rowB rowB_all rowB_len TkAt Ts TRow wrap_in rrow_any below_drewN Ld loadR Ld.v rload_any)
open Dm (isTime isTime_iff)
set_option maxRecDepth 100000
set_option maxRecDepth 100000
set_option linter.unusedVariables false
set_option linter.unusedSimpArgs false
/-- g times are still to be looked at -/
def LnRel (m : Int) (W : World) (g : Nat) (s : Value) (wx : World) : Prop := 1 ≤ m - g ∧ s = .int .i64 (m - g) ∧ Below W.heap.size W wx
theorem cells3 (w : World) (a b c : Value) (T : TypeId) : (w.alloc (.cells #[a, b, c] T)).cell? ⟨w.heap.size, 0, none⟩ = some a ∧ (w.alloc (.cells #[a, b, c] T)).cell? ⟨w.heap.size, 1, none⟩ = some b ∧ (w.alloc (.cells #[a, b, c] T)).cell? ⟨w.heap.size, 2, none⟩ = some c :=
  ⟨by simp [go_sem], by simp [go_sem], by simp [go_sem]⟩
theorem load_pos {l : List Tk} (hr : rowB l = true) : ∀ t ∈ l, 0 < t.t ∧ 1 ≤ t.c := fun t ht => by have := chk_iff.1 (rowB_all hr t ht); omega
end Go.Proofs.Yteagimnlhopjpaa.Bs
