/- Contracts of package demand's One; the document's One, next. -/
import Derived.Test.YtfnagjfgnbnlbaaDmA
namespace Go.Proofs.Ytfnagjfgnbnlbaa.Dm
open Go.ChangeShapes Go.WideShapes Go.ChangeAt Go.RowKit Go.Joins
open Pm (Tk chk chk_iff rowB TkAt Ts TRow chk_any rchk_any wrap_in)
set_option maxRecDepth 100000
set_option maxRecDepth 100000
set_option linter.unusedVariables false
set_option linter.unusedSimpArgs false
/-- a task in a box of its own, behind what was there -/
structure Bx (b : Nat) (w : World) (t : Tk) (w' : World) : Prop where
  c0 : w'.cell? ⟨b, 0, none⟩ = some (.int .i64 t.id)
  c1 : w'.cell? ⟨b, 1, none⟩ = some (.int .i64 t.c)
  c2 : w'.cell? ⟨b, 2, none⟩ = some (.int .i64 t.d)
  c3 : w'.cell? ⟨b, 3, none⟩ = some (.int .i64 t.t)
  c4 : w'.cell? ⟨b, 4, none⟩ = some (.int .i64 t.m)
  bel : Below w.heap.size w w'
theorem bx_new (w : World) (t : Tk) (T : TypeId) : Bx w.heap.size w t (w.alloc (.cells #[.int .i64 t.id, .int .i64 t.c, .int .i64 t.d, .int .i64 t.t, .int .i64 t.m] T)) :=
  ⟨by simp [go_sem], by simp [go_sem], by simp [go_sem], by simp [go_sem], by simp [go_sem], (Below.refl _ _).alloc (Nat.le_refl _) _⟩
theorem Bx.call {b : Nat} {w w1 w2 : World} {t : Tk} (h : Bx b w t w1) (hb : Below w1.heap.size w1 w2) : Bx b w t w2 :=
  ⟨carry hb h.c0, carry hb h.c1, carry hb h.c2, carry hb h.c3, carry hb h.c4, h.bel.trans (hb.mono h.bel.size)⟩
theorem Bx.drew {b : Nat} {w w1 : World} {t : Tk} (h : Bx b w t w1) : Bx b w t w1.drew :=
  ⟨h.c0, h.c1, h.c2, h.c3, h.c4, h.bel.drew⟩
theorem one_yes {t : Tk} {x : Int} (h : chk t = true) (hx : isTime x = true) : oneR t x = t.c * cnt t x := by unfold oneR; rw [if_pos ⟨h, hx⟩]; rfl
theorem one_no {t : Tk} {x : Int} (h : chk t = false) : oneR t x = 0 := by unfold oneR; rw [if_neg (by rw [h]; simp)]
theorem one_no2 {t : Tk} {x : Int} (h : isTime x = false) : oneR t x = 0 := by unfold oneR; rw [if_neg (by rw [h]; simp)]
theorem cnt_le_time {t : Tk} {x : Int} (h : chk t = true) (hx : isTime x = true) : 0 ≤ cnt t x ∧ cnt t x ≤ 1099511627777 := by
  obtain ⟨h0, h1⟩ := isTime_iff.1 hx
  obtain ⟨-, -, c1, c2, c3, c4, -⟩ := chk_iff.1 h
  refine ⟨cnt_nonneg (by omega), ?_⟩
  by_cases hd : x < t.d
  · rw [cnt_lt hd]; omega
  · rw [cnt_ge (by omega)]
    have := Int.ediv_le_self (a := x - t.d) t.t (by omega)
    omega
end Go.Proofs.Ytfnagjfgnbnlbaa.Dm
