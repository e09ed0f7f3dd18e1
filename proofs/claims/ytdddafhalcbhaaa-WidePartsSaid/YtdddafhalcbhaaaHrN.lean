/- The document's functions on bits, said of numbers; the document's one. -/
import Derived.Test.YtdddafhalcbhaaaHrTimes
import Derived.Test.YtdddafhalcbhaaaHrMinus
import Derived.Test.YtdddafhalcbhaaaHrCmp
namespace Go.Proofs.Ytdddafhalcbhaaa
open Go.ChangeShapes Go.WideShapes Go.ChangeAt Go.RowKit Go.Joins
set_option linter.unusedVariables false
set_option linter.unusedSimpArgs false
/-- the value of an array of bits that is a number -/
def bv (n : Nat) : Value := .agg (bitsC n.testBit)
theorem V_nat {a b : Int} (ha : Is64 a) (hb : Is64 b) : ((V a b).toNat : Int) = V a b := Int.toNat_of_nonneg (is128_V ha hb).1
theorem V_lt {a b : Int} (ha : Is64 a) (hb : Is64 b) : (V a b).toNat < 2 ^ 128 := by
  have := (is128_V ha hb).2
  have h2 := V_nat ha hb
  have e : (2 : Nat) ^ 128 = 340282366920938463463374607431768211456 := by decide
  rw [e]; omega
theorem of_nat (a b : Int) (w : World) (ha : Is64 a) (hb : Is64 b) :
    Calls Try.prog 28 #[.agg #[.int .u64 a, .int .u64 b]] w fun e w' => e = .returned (bv (V a b).toNat) ∧ Below w.heap.size w w' := by
  obtain ⟨h, rfl⟩ := Int.eq_ofNat_of_zero_le ha.1
  obtain ⟨l, rfl⟩ := Int.eq_ofNat_of_zero_le hb.1
  refine (of_ref h l l h w ha hb rfl rfl).mono fun e w' ⟨he, hw⟩ => ⟨?_, hw⟩
  rw [he]
  unfold bv
  have e1 : (V (h : Int) (l : Int)).toNat = h * 18446744073709551616 + l := by unfold V; omega
  rw [e1]
  congr 2
  apply bitsC_congr
  intro j hj
  exact of_end (by unfold Is64 at hb; omega) (by unfold Is64 at ha; omega) j
theorem plus_nat (N M : Nat) (w : World) (h : N + M < 2 ^ 256) :
    Calls Try.prog 27 #[bv N, bv M] w fun e w' => e = .returned (bv (N + M)) ∧ Below w.heap.size w w' := by
  have := plus_ref N M w
  unfold low at this
  rw [Nat.mod_eq_of_lt h] at this
  exact this
theorem minus_nat (N M : Nat) (w : World) (h : M ≤ N) (hN : N < 2 ^ 256) :
    Calls Try.prog 29 #[bv N, bv M] w fun e w' => e = .returned (bv (N - M)) ∧ Below w.heap.size w w' := by
  have := minus_ref N M w h
  unfold low at this
  rw [Nat.mod_eq_of_lt (by omega)] at this
  exact this
theorem shift_nat (N k : Nat) (w : World) (hk : k ≤ 256) (h : N * 2 ^ k < 2 ^ 256) :
    Calls Try.prog 33 #[bv N, .int .i64 k] w fun e w' => e = .returned (bv (N * 2 ^ k)) ∧ Below w.heap.size w w' := by
  have := shift_ref N k w hk
  unfold low at this
  rw [Nat.mod_eq_of_lt h] at this
  exact this
theorem times_nat (N M : Nat) (w : World) (hN : N < 2 ^ 128) (hM : M < 2 ^ 128) :
    Calls Try.prog 31 #[bv N, bv M] w fun e w' => e = .returned (bv (N * M)) ∧ Below w.heap.size w w' := by
  have := times_ref N M w
  have e : timesN N M = N * M := by
    unfold timesN
    rw [Nat.mod_eq_of_lt hM, Nat.mod_eq_of_lt]
    calc N * M < 2 ^ 128 * 2 ^ 128 := Nat.mul_lt_mul'' hN hM
      _ = 2 ^ 256 := by decide
  rw [e] at this
  exact this
theorem cmp_nat (N M : Nat) (w : World) (hN : N < 2 ^ 256) (hM : M < 2 ^ 256) :
    Calls Try.prog 30 #[bv N, bv M] w fun e w' => e = .returned (.int .i64 (cmpI N M)) ∧ Below w.heap.size w w' := cmp_ref N M w hN hM
theorem back_yes (N : Nat) (w : World) (hN : N < 2 ^ 128) :
    Calls Try.prog 26 #[bv N] w fun e w' => e = .returned (.tuple #[.agg #[.int .u64 (hi (N : Int)), .int .u64 (lo (N : Int))], .bool true]) ∧ Below w.heap.size w w' := by
  refine (back_ref N w (Nat.lt_trans hN (by decide))).mono fun e w' ⟨he, hw⟩ => ⟨?_, hw⟩
  rw [he, backR_yes hN]
theorem back_no (N : Nat) (w : World) (hN : ¬ N < 2 ^ 128) (h2 : N < 2 ^ 256) :
    Calls Try.prog 26 #[bv N] w fun e w' => e = .returned (.tuple #[.agg #[.int .u64 0, .int .u64 0], .bool false]) ∧ Below w.heap.size w w' := by
  refine (back_ref N w h2).mono fun e w' ⟨he, hw⟩ => ⟨?_, hw⟩
  rw [he, backR_no hN]
set_option maxRecDepth 100000 in
set_option maxHeartbeats 1000000 in
theorem one_nat (n : Int) (w : World) (hn : Is64 n) :
    Calls Try.prog 32 #[.int .u64 n] w fun e w' => e = .returned (bv n.toNat) ∧ Below w.heap.size w w' := by
  have hv := zeroB.1
  have O := Lib.hid (fun w => of_nat 0 n w (by unfold Is64; omega) hn)
  have e : V 0 n = n := by unfold V; omega
  rw [e] at O
  clear e
  go_enter Try.func32, Try.ntmps32
  go_wp2_with fail
  (with_reducible refine (O.out _).mono ?_)
  rintro e w1 ⟨rfl, hb1⟩
  have ht : w1.there w.heap.size 0 256 := ((BitsF.zero w 51).call hb1).there ((FreeF.new w (Array.replicate 256 (.bool false)) 51).call (BitsF.zero w 51) hb1)
  have HB : Hid (Below w.heap.size w w1) := Lib.hid ((below_alloc1 w _).trans (hb1.mono (by simp)))
  have HT := Lib.hid ht
  clear hb1 ht hv
  unfold bv
  go_wp2_with (refine wpList_store_mid rfl 51 (.tmp 2) (.tmp 5) rfl w.heap.size 0 (bitsC n.toNat.testBit) rfl rfl (by rw [bitsC_size]; exact HT.out) (by rw [bitsC_size]; exact zeroB.2) (bitsC_one _) ?_)
  refine bodyPost_ret (v := .agg (bitsC n.toNat.testBit)) ?_ rfl ⟨rfl, below_setCells _ (by omega) _ _ _ HB.out⟩
  rw [results_cell rfl]
  simp only [asAddr, Result.andThen]
  exact load_back HT.out
end Go.Proofs.Ytdddafhalcbhaaa
