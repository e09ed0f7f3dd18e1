/- The document's Less: what it answers; wide's Less in the same words. -/
import Derived.Test.YtdddafhalcbhaaaHrSub
namespace Go.Proofs.Ytdddafhalcbhaaa
open Go.ChangeShapes Go.WideShapes Go.ChangeAt Go.RowKit Go.Joins
set_option linter.unusedVariables false
set_option linter.unusedSimpArgs false
/-- is a by b less than c by d? -/
def lessR (a b c d : Int) : Bool := if b = 0 ∨ d = 0 then false else lessB a b c d
theorem less_gen (a b c d : Int) (w : World) (ha : Is64 a) (hb : Is64 b) (hc : Is64 c) (hd : Is64 d) :
    Calls Try.prog 24 #[.int .u64 a, .int .u64 b, .int .u64 c, .int .u64 d] w fun e w' => e = .returned (.bool (lessR a b c d)) ∧ Below w.heap.size w w' := by
  unfold lessR
  by_cases h : b = 0 ∨ d = 0
  · rw [if_pos h]; exact less_zero a b c d w h
  · rw [if_neg h]; exact less_any a b c d w ha hb hc hd (by simp; omega) (by simp; omega)
theorem less_cmp {a b c d : Int} (ha : Is64 a) (hb : Is64 b) (hc : Is64 c) (hd : Is64 d) (w : World) :
    Calls Try.prog 30 #[bv (a.toNat * d.toNat), bv (c.toNat * b.toNat)] w fun e w' => e = .returned (.int .i64 (cmpI (a * d) (c * b))) ∧ Below w.heap.size w w' := by
  have e2 : (2 : Nat) ^ 256 = 115792089237316195423570985008687907853269984665640564039457584007913129639936 := by decide
  have h1 := (is128_mul ha hd).2
  have h2 := (is128_mul hc hb).2
  have n1 := toNat_mul ha hd
  have n2 := toNat_mul hc hb
  have := cmp_nat (a.toNat * d.toNat) (c.toNat * b.toNat) w (by rw [e2]; omega) (by rw [e2]; omega)
  rw [n1, n2] at this
  exact this
set_option maxRecDepth 100000 in
set_option maxHeartbeats 2000000 in
theorem less_rf_yes (a b c d : Int) (w : World) (ha : Is64 a) (hb : Is64 b) (hc : Is64 c) (hd : Is64 d) (h1 : (b != 0) = true) (h2 : (d != 0) = true) :
    Calls Try.prog 25 #[.int .u64 a, .int .u64 b, .int .u64 c, .int .u64 d] w fun e w' => e = .returned (.bool (lessB a b c d)) ∧ Below w.heap.size w w' := by
  have OA := Lib.hid (fun w => one_nat a w ha)
  have OB := Lib.hid (fun w => one_nat b w hb)
  have OC := Lib.hid (fun w => one_nat c w hc)
  have OD := Lib.hid (fun w => one_nat d w hd)
  have T1 := Lib.hid (mul_times ha hd)
  have T2 := Lib.hid (mul_times hc hb)
  have CC := Lib.hid (less_cmp ha hb hc hd)
  go_enter Try.func25, Try.ntmps25
  go_wp2_with fail
  (with_reducible refine (OA.out _).mono ?_)
  rintro e w1 ⟨rfl, b1⟩
  go_wp2_with fail
  (with_reducible refine (OD.out _).mono ?_)
  rintro e w2 ⟨rfl, b2⟩
  replace b2 := b1.trans (b2.mono b1.size)
  clear b1
  go_wp2_with fail
  (with_reducible refine (T1.out _).mono ?_)
  rintro e w3 ⟨rfl, b3⟩
  replace b3 := b2.trans (b3.mono b2.size)
  clear b2
  go_wp2_with fail
  (with_reducible refine (OC.out _).mono ?_)
  rintro e w4 ⟨rfl, b4⟩
  replace b4 := b3.trans (b4.mono b3.size)
  clear b3
  go_wp2_with fail
  (with_reducible refine (OB.out _).mono ?_)
  rintro e w5 ⟨rfl, b5⟩
  replace b5 := b4.trans (b5.mono b4.size)
  clear b4
  go_wp2_with fail
  (with_reducible refine (T2.out _).mono ?_)
  rintro e w6 ⟨rfl, b6⟩
  replace b6 := b5.trans (b6.mono b5.size)
  clear b5
  go_wp2_with fail
  (with_reducible refine (CC.out _).mono ?_)
  rintro e w7 ⟨rfl, b7⟩
  replace b7 := b6.trans (b7.mono b6.size)
  clear b6
  go_wp2
  go_ret
  refine ⟨?_, b7⟩
  show Ending.returned (.bool (decide (cmpI (a * d) (c * b) < 0))) = _
  rw [cmpI_neg]; rfl
theorem less_rf_zero (a b c d : Int) (w : World) (h : b = 0 ∨ d = 0) :
    Calls Try.prog 25 #[.int .u64 a, .int .u64 b, .int .u64 c, .int .u64 d] w fun e w' => e = .returned (.bool false) ∧ Below w.heap.size w w' := by
  by_cases h1 : b = 0
  · subst h1
    clear h
    go_enter Try.func25, Try.ntmps25
    go_wp2
    go_ret
    exact ⟨rfl, Below.refl _ _⟩
  · obtain rfl : d = 0 := by omega
    have hb : (b != 0) = true := by simpa using h1
    clear h h1
    go_enter Try.func25, Try.ntmps25
    go_wp2
    go_ret
    exact ⟨rfl, Below.refl _ _⟩
theorem less_rf (a b c d : Int) (w : World) (ha : Is64 a) (hb : Is64 b) (hc : Is64 c) (hd : Is64 d) :
    Calls Try.prog 25 #[.int .u64 a, .int .u64 b, .int .u64 c, .int .u64 d] w fun e w' => e = .returned (.bool (lessR a b c d)) ∧ Below w.heap.size w w' := by
  unfold lessR
  by_cases h : b = 0 ∨ d = 0
  · rw [if_pos h]; exact less_rf_zero a b c d w h
  · rw [if_neg h]; exact less_rf_yes a b c d w ha hb hc hd (by simp; omega) (by simp; omega)
end Go.Proofs.Ytdddafhalcbhaaa
