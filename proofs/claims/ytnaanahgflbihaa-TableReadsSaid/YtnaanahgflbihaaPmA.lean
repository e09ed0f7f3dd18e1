/- Contracts of package param: Check, lighter, Heavier, order, Gcd; the document's Check, Gcd. -/
import Derived.Test.YtnaanahgflbihaaMHw
import Derived.Test.YtnaanahgflbihaaPmMath
import Derived.Deep.QuietTactic
namespace Go.Proofs.Ytnaanahgflbihaa.Pm
open Go.ChangeShapes Go.WideShapes Go.ChangeAt Go.RowKit Go.Joins
set_option maxRecDepth 100000
set_option maxRecDepth 100000
set_option linter.unusedVariables false
set_option linter.unusedSimpArgs false
theorem below_drewN (w : World) (n : Nat) : Below w.heap.size w (w.drewN n) := ⟨rfl, rfl, rfl, by simp, fun k _ => by simp⟩
theorem chk_no {x : Tk} (h : ¬ (0 ≤ x.id ∧ x.id ≤ 1023 ∧ 1 ≤ x.c ∧ x.c ≤ x.d ∧ x.d ≤ x.t ∧ x.t ≤ 2147483648 ∧ 1 ≤ x.m ∧ x.m ≤ 15)) : false = chk x := by
  unfold chk; exact (decide_eq_false h).symm
theorem chk_yes {x : Tk} (h : 0 ≤ x.id ∧ x.id ≤ 1023 ∧ 1 ≤ x.c ∧ x.c ≤ x.d ∧ x.d ≤ x.t ∧ x.t ≤ 2147483648 ∧ 1 ≤ x.m ∧ x.m ≤ 15) : true = chk x := by
  unfold chk; exact (decide_eq_true h).symm
theorem chk_last {x : Tk} (h : 0 ≤ x.id ∧ x.id ≤ 1023 ∧ 1 ≤ x.c ∧ x.c ≤ x.d ∧ x.d ≤ x.t ∧ x.t ≤ 2147483648 ∧ 1 ≤ x.m) : chk x = decide (x.m ≤ 15) := by
  unfold chk; apply decide_eq_decide.2; omega
theorem chk_any (x : Tk) (w : World) :
    Calls Try.prog 83 #[x.v] w fun e w' => e = .returned (.bool (chk x)) ∧ Below w.heap.size w w' := by
  obtain ⟨i, c, d, t, m⟩ := x
  unfold Tk.v
  simp only
  go_enter Try.func83, Try.ntmps83
  go_wp2
  all_goals
    first | (rw [← chk_no (by simp only; omega)]) | (rw [chk_last (by simp only; omega)])
    go_ret
    exact ⟨rfl, (Below.refl _ _).alloc (Nat.le_refl _) _⟩
theorem rchk_any (x : Tk) (w : World) :
    Calls Try.prog 67 #[x.v] w fun e w' => e = .returned (.bool (chk x)) ∧ Below w.heap.size w w' := by
  obtain ⟨i, c, d, t, m⟩ := x
  unfold Tk.v
  simp only
  go_enter Try.func67, Try.ntmps67
  go_wp2
  all_goals
    first | (rw [← chk_no (by simp only; omega)]) | (rw [chk_last (by simp only; omega)])
    go_ret
    exact ⟨rfl, (Below.refl _ _).alloc (Nat.le_refl _) _⟩
def GcRel (a b : Int) (w : World) (g : Nat) (s0 s1 : Value) (wx : World) : Prop :=
  ∃ x y : Int, s0 = .int .i64 x ∧ s1 = .int .i64 y ∧ y.natAbs = g ∧ (-9223372036854775807 ≤ x ∧ x ≤ 9223372036854775807) ∧ (-9223372036854775807 ≤ y ∧ y ≤ 9223372036854775807) ∧ Int.gcd x y = Int.gcd a b ∧ Below w.heap.size w wx
end Go.Proofs.Ytnaanahgflbihaa.Pm
