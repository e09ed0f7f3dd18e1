/- Contract of the document's Back (the number of bits). -/
import Derived.Test.YtdddafhalcbhaaaHrOf
namespace Go.Proofs.Ytdddafhalcbhaaa
open Go.ChangeShapes Go.WideShapes Go.ChangeAt Go.RowKit Go.Joins
set_option linter.unusedVariables false
set_option linter.unusedSimpArgs false
theorem or_pow {x : Nat} {k : Nat} (hk : k ≤ 63) (hx : x < 2 ^ k) : bits .or .u64 (x : Int) (IntKind.u64.wrap (2 ^ k)) = ((x + 2 ^ k : Nat) : Int) := by
  have hp : (2 : Nat) ^ k ≤ 2 ^ 63 := Nat.pow_le_pow_right (by decide) hk
  have e : IntKind.u64.wrap ((2 : Int) ^ k) = ((2 ^ k : Nat) : Int) := by
    have := pow_bd k hk
    rw [IntKind.wrap_u64]
    have e : ((2 ^ k : Nat) : Int) = (2 : Int) ^ k := by simp
    rw [e]; omega
  rw [e, bits_or_u64_nat _ _ (by omega) (by omega), Nat.or_comm]
  have := Nat.two_pow_add_eq_or_of_lt hx 1
  rw [Nat.mul_one] at this
  rw [← this, Nat.add_comm]
theorem mod_bit (N i : Nat) : N % 2 ^ (i + 1) = N % 2 ^ i + 2 ^ i * (N.testBit i).toNat := by
  rw [Nat.mod_pow_succ, bit_div]
theorem mod_no {N i : Nat} (h : N.testBit i = false) : N % 2 ^ (i + 1) = N % 2 ^ i := by rw [mod_bit, h]; simp
theorem mod_yes {N i : Nat} (h : N.testBit i = true) : N % 2 ^ (i + 1) = N % 2 ^ i + 2 ^ i := by rw [mod_bit, h]; simp
theorem hi_nat (n : Nat) : hi (n : Int) = ((n / 18446744073709551616 : Nat) : Int) := by unfold hi; simp
theorem lo_nat (n : Nat) : lo (n : Int) = ((n % 18446744073709551616 : Nat) : Int) := by unfold lo; simp
theorem acc_lo {x i : Nat} (hi' : i < 64) (hx : x < 2 ^ i) : bits .or .u64 (lo (x : Int)) (IntKind.u64.wrap (2 ^ i)) = lo ((x + 2 ^ i : Nat) : Int) ∧ hi (x : Int) = hi ((x + 2 ^ i : Nat) : Int) := by
  have hp : (2 : Nat) ^ i ≤ 2 ^ 63 := Nat.pow_le_pow_right (by decide) (by omega)
  rw [lo_nat, lo_nat, hi_nat, hi_nat]
  have e1 : x % 18446744073709551616 = x := Nat.mod_eq_of_lt (by omega)
  have e2 : (x + 2 ^ i) % 18446744073709551616 = x + 2 ^ i := Nat.mod_eq_of_lt (by omega)
  rw [e1, e2]
  refine ⟨or_pow (by omega) hx, ?_⟩
  rw [Nat.div_eq_of_lt (by omega), Nat.div_eq_of_lt (by omega)]
theorem acc_hi {x i : Nat} (h1 : 64 ≤ i) (h2 : i < 128) (hx : x < 2 ^ i) : bits .or .u64 (hi (x : Int)) (IntKind.u64.wrap (2 ^ (i - 64))) = hi ((x + 2 ^ i : Nat) : Int) ∧ lo (x : Int) = lo ((x + 2 ^ i : Nat) : Int) := by
  have e : (2 : Nat) ^ i = 2 ^ (i - 64) * 18446744073709551616 := by
    have : i = (i - 64) + 64 := by omega
    rw [this, Nat.pow_add]; simp
  have hd : x / 18446744073709551616 < 2 ^ (i - 64) := by rw [Nat.div_lt_iff_lt_mul (by decide)]; omega
  rw [hi_nat, hi_nat, lo_nat, lo_nat, e]
  refine ⟨?_, ?_⟩
  · rw [or_pow (by omega) hd, Nat.add_mul_div_right _ _ (by decide)]
  · rw [Nat.add_mul_mod_self_right]
def BackRel (w : World) (N : Nat) (g : Nat) (s5 : Value) (wx : World) : Prop :=
  ∃ i : Nat, i + g = 256 ∧ s5 = .int .i64 i ∧ N % 2 ^ i < 2 ^ 128 ∧ BitsF wx w.heap.size N.testBit ∧
    (∃ u0 u1, wx.cell? ⟨w.heap.size + 1, 0, none⟩ = some u0 ∧ wx.cell? ⟨w.heap.size + 1, 1, none⟩ = some u1) ∧ wx.frozen? ⟨w.heap.size + 1, 0, none⟩ = false ∧ wx.frozen? ⟨w.heap.size + 1, 1, none⟩ = false ∧
    wx.cell? ⟨w.heap.size + 1 + 1, 0, none⟩ = some (.int .u64 (hi ((N % 2 ^ i : Nat) : Int))) ∧ wx.cell? ⟨w.heap.size + 1 + 1, 1, none⟩ = some (.int .u64 (lo ((N % 2 ^ i : Nat) : Int))) ∧
    wx.frozen? ⟨w.heap.size + 1 + 1, 0, none⟩ = false ∧ wx.frozen? ⟨w.heap.size + 1 + 1, 1, none⟩ = false ∧ Below w.heap.size w wx
open Classical in
noncomputable def backR (N : Nat) : Value := if N < 2 ^ 128 then .tuple #[.agg #[.int .u64 (hi (N : Int)), .int .u64 (lo (N : Int))], .bool true] else .tuple #[.agg #[.int .u64 0, .int .u64 0], .bool false]
theorem backR_yes {N : Nat} (h : N < 2 ^ 128) : backR N = .tuple #[.agg #[.int .u64 (hi (N : Int)), .int .u64 (lo (N : Int))], .bool true] := if_pos h
theorem backR_no {N : Nat} (h : ¬ N < 2 ^ 128) : backR N = .tuple #[.agg #[.int .u64 0, .int .u64 0], .bool false] := if_neg h
set_option maxRecDepth 100000 in
set_option maxHeartbeats 4000000 in
theorem back_ref (N : Nat) (w : World) (hN : N < 2 ^ 256) :
    Calls Try.prog 26 #[.agg (bitsC N.testBit)] w fun e w' => e = .returned (backR N) ∧ Below w.heap.size w w' := by
  have HN := Lib.hid hN
  clear hN
  go_enter Try.func26, Try.ntmps26
  go_wp2
  go_loopg [5] 256 (BackRel w N)
  case atStart =>
    have e : N % 2 ^ 0 = 0 := Nat.mod_one N
    refine ⟨0, by omega, rfl, by rw [e]; exact Nat.pow_pos (by decide), ((BitsF.new w _ _).alloc _ _).alloc _ _, ⟨.int .u64 0, .int .u64 0, by simp [go_sem], by simp [go_sem]⟩, by simp [go_sem], by simp [go_sem], ?_, ?_, by simp [go_sem], by simp [go_sem], below_alloc3 w _ _ _⟩
    · rw [e]; simp [go_sem]; rfl
    · rw [e]; simp [go_sem]; rfl
  case round =>
    obtain ⟨i, hig, rfl, hlt, hb, ⟨u0, u1, r0, r1⟩, f0, f1, c0, c1, g0, g1, hB⟩ := hrel
    have HB := Lib.hid hB
    have HLT := Lib.hid hlt
    cases gk with
    | zero =>
      obtain rfl : i = 256 := by omega
      have e : N % 2 ^ 256 = N := Nat.mod_eq_of_lt HN.out
      rw [e] at c0 c1 hlt
      have E := Lib.hid (backR_yes hlt)
      clear hlt hb HLT hB e
      go_wp2
      refine bodyPost_ret (v := .tuple #[.agg #[.int .u64 (hi (N : Int)), .int .u64 (lo (N : Int))], .bool true]) ?_ rfl ⟨by rw [E.out], by repeat (first | exact HB.out | refine Below.setCell ?_ (by first | (simp; done) | (simp; omega)) _)⟩
      simp [results, Try.results26, go_sem, r0, r1, c0, c1]
    | succ g =>
      have hi : i < 256 := by omega
      have hiz : (i : Int) < 256 := by omega
      have hc1 := hb i hi
      have HBF := Lib.hid hb
      clear hb hB hlt
      have hxm : N % 2 ^ i < 2 ^ i := Nat.mod_lt _ (Nat.pow_pos (by decide))
      have hlt := HLT.out
      clear HLT
      generalize hmm : N % 2 ^ i = m at *
      have HMM := Lib.hid hmm
      have HLT := Lib.hid hlt
      have HXM := Lib.hid hxm
      clear hxm hmm hlt
      generalize hx : N.testBit i = x at *
      have HX := Lib.hid hx
      clear hx
      cases x
      · go_wp2
        go_roundg g
        case measure => omega
        case rel =>
          refine ⟨i + 1, by omega, by go_num, ?_, HBF.out, ⟨u0, u1, r0, r1⟩, f0, f1, ?_, ?_, g0, g1, HB.out⟩
          · rw [mod_no HX.out, HMM.out]; exact HLT.out
          · rw [mod_no HX.out, HMM.out]; exact c0
          · rw [mod_no HX.out, HMM.out]; exact c1
      · rcases (show i < 64 ∨ (64 ≤ i ∧ i < 128) ∨ 128 ≤ i by omega) with h64 | ⟨h64, h128⟩ | h128
        · have z1 : (i : Int) < 64 := by omega
          obtain ⟨a1, a2⟩ := acc_lo h64 HXM.out
          have A1 := Lib.hid a1
          have A2 := Lib.hid a2
          clear a1 a2
          go_wp2
          go_roundg g
          case measure => omega
          case rel =>
            rw [A1.out]
            refine ⟨i + 1, by omega, by go_num, ?_, HBF.out.other (by omega), ⟨u0, u1, by simp [go_sem, r0], by simp [go_sem, r1]⟩, by simp [go_sem, f0], by simp [go_sem, f1], ?_, ?_, by simp [go_sem, g0], by simp [go_sem, g1], HB.out.setCell (by simp; omega) _⟩
            · rw [mod_yes HX.out, HMM.out]
              have h1 : (2 : Nat) ^ i ≤ 2 ^ 63 := Nat.pow_le_pow_right (by decide) (by omega)
              have h2 := HXM.out
              omega
            · rw [mod_yes HX.out, HMM.out, ← A2.out]; simp [go_sem, c0]
            · rw [mod_yes HX.out, HMM.out]; simp [go_sem, c1]
        · have z1 : (64 : Int) ≤ i := by omega
          have z2 : (i : Int) < 128 := by omega
          obtain ⟨a1, a2⟩ := acc_hi h64 h128 HXM.out
          have A1 := Lib.hid a1
          have A2 := Lib.hid a2
          clear a1 a2
          go_wp2
          go_roundg g
          case measure => omega
          case rel =>
            rw [A1.out]
            refine ⟨i + 1, by omega, by go_num, ?_, HBF.out.other (by omega), ⟨u0, u1, by simp [go_sem, r0], by simp [go_sem, r1]⟩, by simp [go_sem, f0], by simp [go_sem, f1], ?_, ?_, by simp [go_sem, g0], by simp [go_sem, g1], HB.out.setCell (by simp; omega) _⟩
            · rw [mod_yes HX.out, HMM.out]
              have h1 : (2 : Nat) ^ i ≤ 2 ^ 127 := Nat.pow_le_pow_right (by decide) (by omega)
              have h2 := HXM.out
              omega
            · rw [mod_yes HX.out, HMM.out]; simp [go_sem, c0]
            · rw [mod_yes HX.out, HMM.out, ← A2.out]; simp [go_sem, c1]
        · have z1 : (128 : Int) ≤ i := by omega
          have E : Hid (backR N = .tuple #[.agg #[.int .u64 0, .int .u64 0], .bool false]) := by
            refine Lib.hid (backR_no ?_)
            have h1 : (2 : Nat) ^ 128 ≤ 2 ^ i := Nat.pow_le_pow_right (by decide) (by omega)
            have h2 := Nat.ge_two_pow_of_testBit HX.out
            omega
          go_wp2
          refine bodyPost_ret (v := .tuple #[.agg #[.int .u64 0, .int .u64 0], .bool false]) ?_ rfl ⟨by rw [E.out], by repeat (first | exact HB.out | refine Below.setCell ?_ (by first | (simp; done) | (simp; omega)) _)⟩
          simp [results, Try.results26, go_sem, r0, r1]
end Go.Proofs.Ytdddafhalcbhaaa
