/- Contracts of package param: Check, lighter, Heavier, order, Gcd; the document's Check, Gcd. -/
import Derived.Test.YtbhafcaekpccoaaMHw
import Derived.Test.YtbhafcaekpccoaaPmMath
import Derived.Deep.QuietTactic
namespace Go.Proofs.Ytbhafcaekpccoaa.Pm
open Go.ChangeShapes Go.WideShapes Go.ChangeAt Go.RowKit Go.Joins
set_option maxRecDepth 100000
set_option maxRecDepth 100000
set_option linter.unusedVariables false
set_option linter.unusedSimpArgs false
theorem below_drewN (w : World) (n : Nat) : Below w.heap.size w (w.drewN n) := ⟨rfl, rfl, rfl, by simp, fun k _ => by simp⟩
theorem chk_no {x : Tk} (h : ¬ (0 ≤ x.id ∧ x.id ≤ 1023 ∧ 1 ≤ x.c ∧ x.c ≤ x.d ∧ x.d ≤ x.t ∧ x.t ≤ 2147483648 ∧ 1 ≤ x.m ∧ x.m ≤ 15)) : false = chk x := by
  unfold chk; exact (decide_eq_false h).symm
theorem chk_yes {x : Tk} (h : 0 ≤ x.id ∧ x.id ≤ 1023 ∧ 1 ≤ x.c ∧ x.c ≤ x.d ∧ x.d ≤ x.t ∧ x.t ≤ 2147483648 ∧ 1 ≤ x.m ∧ x.m ≤ 15) : true = chk x := by
  unfold chk; exact (decide_eq_true h).symm
theorem chk_last {x : Tk} (h : 0 ≤ x.id ∧ x.id ≤ 1023 ∧ 1 ≤ x.c ∧ x.c ≤ x.d ∧ x.d ≤ x.t ∧ x.t ≤ 2147483648 ∧ 1 ≤ x.m) : chk x = decide (x.m ≤ 15) := by
  unfold chk; apply decide_eq_decide.2; omega
theorem chk_any (x : Tk) (w : World) :
    Calls Try.prog 51 #[x.v] w fun e w' => e = .returned (.bool (chk x)) ∧ Below w.heap.size w w' := by
  obtain ⟨i, c, d, t, m⟩ := x
  unfold Tk.v
  simp only
  go_enter Try.func51, Try.ntmps51
  go_wp2
  all_goals
    first | (rw [← chk_no (by simp only; omega)]) | (rw [chk_last (by simp only; omega)])
    go_ret
    exact ⟨rfl, (Below.refl _ _).alloc (Nat.le_refl _) _⟩
theorem rchk_any (x : Tk) (w : World) :
    Calls Try.prog 50 #[x.v] w fun e w' => e = .returned (.bool (chk x)) ∧ Below w.heap.size w w' := by
  obtain ⟨i, c, d, t, m⟩ := x
  unfold Tk.v
  simp only
  go_enter Try.func50, Try.ntmps50
  go_wp2
  all_goals
    first | (rw [← chk_no (by simp only; omega)]) | (rw [chk_last (by simp only; omega)])
    go_ret
    exact ⟨rfl, (Below.refl _ _).alloc (Nat.le_refl _) _⟩
def GcRel (a b : Int) (w : World) (g : Nat) (s0 s1 : Value) (wx : World) : Prop :=
  ∃ x y : Int, s0 = .int .i64 x ∧ s1 = .int .i64 y ∧ y.natAbs = g ∧ (-9223372036854775807 ≤ x ∧ x ≤ 9223372036854775807) ∧ (-9223372036854775807 ≤ y ∧ y ≤ 9223372036854775807) ∧ Int.gcd x y = Int.gcd a b ∧ Below w.heap.size w wx
set_option maxHeartbeats 2000000 in
theorem gcd_any (a b : Int) (w : World) (ha : -9223372036854775807 ≤ a ∧ a ≤ 9223372036854775807) (hb : -9223372036854775807 ≤ b ∧ b ≤ 9223372036854775807) :
    Calls Try.prog 65 #[.int .i64 a, .int .i64 b] w fun e w' => e = .returned (.int .i64 (Int.gcd a b : Int)) ∧ Below w.heap.size w w' := by
  have HA := Lib.hid ha
  have HB := Lib.hid hb
  clear ha hb
  go_enter Try.func65, Try.ntmps65
  go_wp2_with fail
  go_loopg [0, 1] b.natAbs (GcRel a b w)
  case atStart => exact ⟨a, b, rfl, rfl, rfl, HA.out, HB.out, rfl, Below.refl _ _⟩
  case round =>
    obtain ⟨x, y, rfl, rfl, rfl, hx, hy, hg, hB⟩ := hrel
    have K := Lib.hid hB
    clear hB
    by_cases h0 : y = 0
    · subst h0
      have G : Hid ((Int.gcd a b : Int) = (x.natAbs : Int)) := Lib.hid (by rw [← hg]; simp)
      clear hg hy
      by_cases hn : x < 0
      · have e : ((x.natAbs : Nat) : Int) = -x := by omega
        have E := Lib.hid e
        clear e
        go_wp2
        go_ret
        exact ⟨by rw [G.out, E.out]; rfl, K.out⟩
      · have e : ((x.natAbs : Nat) : Int) = x := by omega
        have E := Lib.hid e
        have hn' : 0 ≤ x := by omega
        clear e hn
        go_wp2
        go_ret
        exact ⟨by rw [G.out, E.out]; rfl, K.out⟩
    · have h1 : (y == 0) = false := by simpa using h0
      have h2 : (y != 0) = true := by simpa using h0
      have T := Lib.hid (tmod_lt (a := x) h0)
      have HG := Lib.hid hg
      have HX := Lib.hid hx
      have HY := Lib.hid hy
      clear hg hx hy
      go_wp2_with fail
      go_quiet (fail)
      go_wp2
      go_roundg (x.tmod y).natAbs
      case measure => exact T.out
      case rel => exact ⟨y, x.tmod y, rfl, rfl, rfl, HY.out, by have := T.out; have := HY.out; omega, by rw [gcd_step]; exact HG.out, K.out.trans ((below_drewN _ _).mono K.out.size)⟩
set_option maxHeartbeats 1000000 in
theorem rgcd_nat (n : Nat) : ∀ (a b : Int) (w : World), b = n → 0 ≤ a → a ≤ 9223372036854775807 → b ≤ 9223372036854775807 →
    Calls Try.prog 49 #[.int .i64 a, .int .i64 b] w fun e w' => e = .returned (.int .i64 (Int.gcd a b : Int)) ∧ Below w.heap.size w w' := by
  induction n using Nat.strongRecOn with
  | ind n ih =>
    intro a b w hb ha ha2 hb2
    have hb0 : 0 ≤ b := by omega
    by_cases h0 : b = 0
    · subst h0
      have G : Hid ((Int.gcd a 0 : Int) = a) := Lib.hid (by rw [Int.gcd_zero_right]; omega)
      clear ih hb
      go_enter Try.func49, Try.ntmps49
      go_wp2
      go_ret
      exact ⟨by rw [G.out]; rfl, Below.refl _ _⟩
    · have h1 : (b == 0) = false := by simpa using h0
      have hm0 : 0 ≤ a.tmod b := Int.tmod_nonneg _ ha
      have hm1 := tmod_lt (a := a) h0
      have R : Hid (∀ w, Calls Try.prog 49 #[.int .i64 b, .int .i64 (a.tmod b)] w fun e w' => e = .returned (.int .i64 (Int.gcd a b : Int)) ∧ Below w.heap.size w w') := Lib.hid (fun w => by
        have := ih (a.tmod b).natAbs (by omega) b (a.tmod b) w (by omega) hb0 hb2 (by omega)
        rw [gcd_step] at this
        exact this)
      rw [Int.tmod_eq_emod_of_nonneg ha] at R
      clear ih hb hm0 hm1
      go_enter Try.func49, Try.ntmps49
      go_wp2_with fail
      (with_reducible refine (R.out _).mono ?_)
      rintro e w1 ⟨rfl, b1⟩
      go_wp2
      go_ret
      exact ⟨rfl, by repeat (first | exact b1 | refine Below.drew ?_)⟩
end Go.Proofs.Ytbhafcaekpccoaa.Pm
