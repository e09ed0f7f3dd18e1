/- The document's functions on bits, said of numbers; the document's one. The document's Mul, Cmp, Add, Sub: what they answer. The document's Add: what it answers. The document's Sub: what it answers. The document's Less: what it answers; wide's Less in the same words. -/
import Derived.Test.YtcnfojbncmkdeaaHrTimes
import Derived.Test.YtcnfojbncmkdeaaMHr
import Derived.Deep.RegionHeld3
import Derived.Deep.DeepCutAuto
namespace Go.Proofs.Ytcnfojbncmkdeaa
open Go.ChangeShapes Go.WideShapes Go.ChangeAt Go.RowKit Go.Joins
set_option maxRecDepth 100000
set_option linter.unusedVariables false
set_option linter.unusedSimpArgs false
/-- the value of an array of bits that is a number -/
def bv (n : Nat) : Value := .agg (bitsC n.testBit)
theorem V_nat {a b : Int} (ha : Is64 a) (hb : Is64 b) : ((V a b).toNat : Int) = V a b := Int.toNat_of_nonneg (is128_V ha hb).1
theorem V_lt {a b : Int} (ha : Is64 a) (hb : Is64 b) : (V a b).toNat < 2 ^ 128 := by
  have := (is128_V ha hb).2
  have h2 := V_nat ha hb
  have e : (2 : Nat) ^ 128 = 340282366920938463463374607431768211456 := by decide
  rw [e]; omega
theorem of_nat (a b : Int) (w : World) (ha : Is64 a) (hb : Is64 b) :
    Calls Try.prog 44 #[.agg #[.int .u64 a, .int .u64 b]] w fun e w' => e = .returned (bv (V a b).toNat) ∧ Below w.heap.size w w' := by
  obtain ⟨h, rfl⟩ := Int.eq_ofNat_of_zero_le ha.1
  obtain ⟨l, rfl⟩ := Int.eq_ofNat_of_zero_le hb.1
  refine (of_ref h l l h w ha hb rfl rfl).mono fun e w' ⟨he, hw⟩ => ⟨?_, hw⟩
  rw [he]
  unfold bv
  have e1 : (V (h : Int) (l : Int)).toNat = h * 18446744073709551616 + l := by unfold V; omega
  rw [e1]
  congr 2
  apply bitsC_congr
  intro j hj
  exact of_end (by unfold Is64 at hb; omega) (by unfold Is64 at ha; omega) j
theorem plus_nat (N M : Nat) (w : World) (h : N + M < 2 ^ 256) :
    Calls Try.prog 42 #[bv N, bv M] w fun e w' => e = .returned (bv (N + M)) ∧ Below w.heap.size w w' := by
  have := plus_ref N M w
  unfold low at this
  rw [Nat.mod_eq_of_lt h] at this
  exact this
theorem shift_nat (N k : Nat) (w : World) (hk : k ≤ 256) (h : N * 2 ^ k < 2 ^ 256) :
    Calls Try.prog 43 #[bv N, .int .i64 k] w fun e w' => e = .returned (bv (N * 2 ^ k)) ∧ Below w.heap.size w w' := by
  have := shift_ref N k w hk
  unfold low at this
  rw [Nat.mod_eq_of_lt h] at this
  exact this
theorem times_nat (N M : Nat) (w : World) (hN : N < 2 ^ 128) (hM : M < 2 ^ 128) :
    Calls Try.prog 36 #[bv N, bv M] w fun e w' => e = .returned (bv (N * M)) ∧ Below w.heap.size w w' := by
  have := times_ref N M w
  have e : timesN N M = N * M := by
    unfold timesN
    rw [Nat.mod_eq_of_lt hM, Nat.mod_eq_of_lt]
    calc N * M < 2 ^ 128 * 2 ^ 128 := Nat.mul_lt_mul'' hN hM
      _ = 2 ^ 256 := by decide
  rw [e] at this
  exact this
theorem cmp_nat (N M : Nat) (w : World) (hN : N < 2 ^ 256) (hM : M < 2 ^ 256) :
    Calls Try.prog 35 #[bv N, bv M] w fun e w' => e = .returned (.int .i64 (cmpI N M)) ∧ Below w.heap.size w w' := cmp_ref N M w hN hM
set_option maxRecDepth 100000 in
set_option maxHeartbeats 1000000 in
theorem one_nat (n : Int) (w : World) (hn : Is64 n) :
    Calls Try.prog 37 #[.int .u64 n] w fun e w' => e = .returned (bv n.toNat) ∧ Below w.heap.size w w' := by
  have hv := zeroB.1
  have O := Lib.hid (fun w => of_nat 0 n w (by unfold Is64; omega) hn)
  have e : V 0 n = n := by unfold V; omega
  rw [e] at O
  clear e
  go_enter Try.func37, Try.ntmps37
  go_wp2_with fail
  (with_reducible refine (O.out _).mono ?_)
  rintro e w1 ⟨rfl, hb1⟩
  have ht : w1.there w.heap.size 0 256 := ((BitsF.zero w 59).call hb1).there ((FreeF.new w (Array.replicate 256 (.bool false)) 59).call (BitsF.zero w 59) hb1)
  have HB : Hid (Below w.heap.size w w1) := Lib.hid ((below_alloc1 w _).trans (hb1.mono (by simp)))
  have HT := Lib.hid ht
  clear hb1 ht hv
  unfold bv
  go_wp2_with (refine wpList_store_mid rfl 59 (.tmp 2) (.tmp 5) rfl w.heap.size 0 (bitsC n.toNat.testBit) rfl rfl (by rw [bitsC_size]; exact HT.out) (by rw [bitsC_size]; exact zeroB.2) (bitsC_one _) ?_)
  refine bodyPost_ret (v := .agg (bitsC n.toNat.testBit)) ?_ rfl ⟨rfl, below_setCells _ (by omega) _ _ _ HB.out⟩
  rw [results_cell rfl]
  simp only [asAddr, Result.andThen]
  exact load_back HT.out
end Go.Proofs.Ytcnfojbncmkdeaa
namespace Go.Proofs.Ytcnfojbncmkdeaa
open Go.ChangeShapes Go.WideShapes Go.ChangeAt Go.RowKit Go.Joins
set_option maxRecDepth 100000
set_option linter.unusedVariables false
set_option linter.unusedSimpArgs false
theorem carry_fr {W w1 : World} {p : Addr} {v : Value} (hb : Below W.heap.size W w1) (h : W.cell? p = some v) (hf : W.frozen? p = false) : w1.frozen? p = false := by
  rw [← hf]
  apply hb.frozen
  rcases Nat.lt_or_ge p.block W.heap.size with h' | h'
  · exact h'
  · exfalso; unfold World.cell? at h; rw [Array.getElem?_eq_none h'] at h; cases h
theorem toNat_mul {a b : Int} (ha : Is64 a) (hb : Is64 b) : ((a.toNat * b.toNat : Nat) : Int) = a * b := by
  have h1 := Int.toNat_of_nonneg ha.1
  have h2 := Int.toNat_of_nonneg hb.1
  rw [Int.natCast_mul, h1, h2]
theorem toNat_lt {a : Int} (ha : Is64 a) : a.toNat < 2 ^ 128 := by
  unfold Is64 at ha
  exact Nat.lt_trans (show a.toNat < 18446744073709551616 by omega) (by decide)
theorem mul_times {a b : Int} (ha : Is64 a) (hb : Is64 b) (w : World) :
    Calls Try.prog 36 #[bv a.toNat, bv b.toNat] w fun e w' => e = .returned (bv (a.toNat * b.toNat)) ∧ Below w.heap.size w w' :=
  times_nat _ _ w (toNat_lt ha) (toNat_lt hb)
/-- a block of two cells that may be written -/
def Slot2 (b : Nat) (w : World) : Prop := (∃ u0 u1, w.cell? ⟨b, 0, none⟩ = some u0 ∧ w.cell? ⟨b, 1, none⟩ = some u1) ∧ w.frozen? ⟨b, 0, none⟩ = false ∧ w.frozen? ⟨b, 1, none⟩ = false
theorem slot2_call {b : Nat} {w w' : World} (h : Slot2 b w) (hb : Below w.heap.size w w') : Slot2 b w' := by
  obtain ⟨⟨u0, u1, h0, h1⟩, f0, f1⟩ := h
  exact ⟨⟨u0, u1, carry hb h0, carry hb h1⟩, carry_fr hb h0 f0, carry_fr hb h1 f1⟩
theorem slot2_drew {b : Nat} {w : World} (h : Slot2 b w) : Slot2 b w.drew := by
  obtain ⟨⟨u0, u1, h0, h1⟩, f0, f1⟩ := h
  exact ⟨⟨u0, u1, by simpa [go_sem] using h0, by simpa [go_sem] using h1⟩, by simpa [go_sem] using f0, by simpa [go_sem] using f1⟩
/-- what the calls of a region leave: the two numbers, and the result's place -/
def Wides (w : World) (a b c d : Int) (w' : World) : Prop :=
  w'.cell? ⟨w.heap.size, 0, none⟩ = some (.int .u64 a) ∧ w'.cell? ⟨w.heap.size, 1, none⟩ = some (.int .u64 b) ∧ w'.cell? ⟨w.heap.size + 1, 0, none⟩ = some (.int .u64 c) ∧ w'.cell? ⟨w.heap.size + 1, 1, none⟩ = some (.int .u64 d) ∧ Below w.heap.size w w' ∧ w.heap.size + 1 < w'.heap.size
theorem wides_call {w W w' : World} {a b c d : Int} (h : Wides w a b c d W) (hb : Below W.heap.size W w') : Wides w a b c d w' := by
  obtain ⟨h1, h2, h3, h4, h5, h6⟩ := h
  exact ⟨carry hb h1, carry hb h2, carry hb h3, carry hb h4, h5.trans (hb.mono (by omega)), by have := hb.size; omega⟩
theorem wides_drew {w W : World} {a b c d : Int} (h : Wides w a b c d W) : Wides w a b c d W.drew := by
  obtain ⟨h1, h2, h3, h4, h5, h6⟩ := h
  exact ⟨by simpa [go_sem] using h1, by simpa [go_sem] using h2, by simpa [go_sem] using h3, by simpa [go_sem] using h4, h5.drew, by simpa [go_sem] using h6⟩
theorem wides_alloc {w W : World} {a b c d : Int} {cs : Array Value} {t : TypeId} (h : Wides w a b c d W) : Wides w a b c d (W.alloc (.cells cs t)) := by
  obtain ⟨h1, h2, h3, h4, h5, h6⟩ := h
  have h7 : w.heap.size < W.heap.size := by omega
  exact ⟨by simp [go_sem, h1, h7], by simp [go_sem, h2, h7], by simp [go_sem, h3, h6], by simp [go_sem, h4, h6], h5.alloc (by omega) _, by simp; omega⟩
theorem wides_set {w W : World} {a b c d : Int} {g o : Nat} {v : Value} (h : Wides w a b c d W) (hg : w.heap.size + 1 < g) : Wides w a b c d (W.setCell ⟨g, o, none⟩ v) := by
  obtain ⟨h1, h2, h3, h4, h5, h6⟩ := h
  have n1 : ¬ g = w.heap.size := by omega
  have n2 : ¬ w.heap.size = g := by omega
  have n3 : ¬ g = w.heap.size + 1 := by omega
  have n4 : ¬ w.heap.size + 1 = g := by omega
  exact ⟨by simp [go_sem, h1, n1, n2], by simp [go_sem, h2, n1, n2], by simp [go_sem, h3, n3, n4], by simp [go_sem, h4, n3, n4], h5.setCell (by simp; omega) _, by simpa using h6⟩
end Go.Proofs.Ytcnfojbncmkdeaa
namespace Go.Proofs.Ytcnfojbncmkdeaa
open Go.ChangeShapes Go.WideShapes Go.ChangeAt Go.RowKit Go.Joins
set_option maxRecDepth 100000
set_option linter.unusedVariables false
set_option linter.unusedSimpArgs false
theorem add_plus {a b c d : Int} (ha : Is64 a) (hb : Is64 b) (hc : Is64 c) (hd : Is64 d) (w : World) :
    Calls Try.prog 42 #[bv (V a b).toNat, bv (V c d).toNat] w fun e w' => e = .returned (bv ((V a b).toNat + (V c d).toNat)) ∧ Below w.heap.size w w' :=
  plus_nat _ _ w (by have h1 := V_lt ha hb; have h2 := V_lt hc hd; have h3 : (2 : Nat) ^ 128 + 2 ^ 128 < 2 ^ 256 := by decide
                     omega)
end Go.Proofs.Ytcnfojbncmkdeaa
namespace Go.Proofs.Ytcnfojbncmkdeaa
open Go.ChangeShapes Go.WideShapes Go.ChangeAt Go.RowKit Go.Joins
set_option maxRecDepth 100000
set_option linter.unusedVariables false
set_option linter.unusedSimpArgs false
theorem slot2_alloc {b : Nat} {w : World} {cs : Array Value} {t : TypeId} (h : Slot2 b w) : Slot2 b (w.alloc (.cells cs t)) := by
  obtain ⟨⟨u0, u1, h0, h1⟩, f0, f1⟩ := h
  have hl : b < w.heap.size := by
    rcases Nat.lt_or_ge b w.heap.size with h' | h'
    · exact h'
    · exfalso; unfold World.cell? at h0; rw [Array.getElem?_eq_none h'] at h0; cases h0
  exact ⟨⟨u0, u1, by simp [go_sem, h0, hl], by simp [go_sem, h1, hl]⟩, by simp [go_sem, f0, hl], by simp [go_sem, f1, hl]⟩
theorem slot2_set {b g o : Nat} {w : World} {v : Value} (h : Slot2 b w) (hg : ¬ g = b) : Slot2 b (w.setCell ⟨g, o, none⟩ v) := by
  obtain ⟨⟨u0, u1, h0, h1⟩, f0, f1⟩ := h
  have hg' : ¬ b = g := fun e => hg e.symm
  exact ⟨⟨u0, u1, by simp [go_sem, h0, hg, hg'], by simp [go_sem, h1, hg, hg']⟩, by simp [go_sem, f0], by simp [go_sem, f1]⟩
theorem slot2_lt {b : Nat} {w : World} (h : Slot2 b w) : b < w.heap.size := by
  obtain ⟨⟨u0, u1, h0, h1⟩, f0, f1⟩ := h
  rcases Nat.lt_or_ge b w.heap.size with h' | h'
  · exact h'
  · exfalso; unfold World.cell? at h0; rw [Array.getElem?_eq_none h'] at h0; cases h0
/-- a new block holds the two halves; the result's place is free -/
def NewW (w : World) (x y : Int) (s : Value) (wx : World) : Prop := ∃ g, s = .pointer (some ⟨g, 0, none⟩) ∧ wx.cell? ⟨g, 0, none⟩ = some (.int .u64 x) ∧ wx.cell? ⟨g, 1, none⟩ = some (.int .u64 y) ∧ w.heap.size + 1 + 1 < g ∧ Slot2 (w.heap.size + 1 + 1) wx ∧ Below w.heap.size w wx
theorem neww_alloc {w W : World} {x y : Int} {t : TypeId} (sl : Slot2 (w.heap.size + 1 + 1) W) (bl : Below w.heap.size w W) : NewW w x y (.pointer (some ⟨W.heap.size, 0, none⟩)) (W.alloc (.cells #[.int .u64 x, .int .u64 y] t)) :=
  ⟨_, rfl, by simp [go_sem], by simp [go_sem], slot2_lt sl, slot2_alloc sl, bl.alloc bl.size _⟩
theorem neww_set {w W : World} {x y : Int} {g : Nat} {u0 u1 : Value} (h0 : W.cell? ⟨g, 0, none⟩ = some u0) (h1 : W.cell? ⟨g, 1, none⟩ = some u1) (hg : w.heap.size + 1 + 1 < g) (sl : Slot2 (w.heap.size + 1 + 1) W) (bl : Below w.heap.size w W) :
    NewW w x y (.pointer (some ⟨g, 0, none⟩)) ((W.setCell ⟨g, 0, none⟩ (.int .u64 x)).setCell ⟨g, 1, none⟩ (.int .u64 y)) :=
  ⟨_, rfl, by simp [go_sem, h0], by simp [go_sem, h1], hg, slot2_set (slot2_set sl (by omega)) (by omega), (bl.setCell (by simp; omega) _).setCell (by simp; omega) _⟩
theorem le_toNat {a b c d : Int} (ha : Is64 a) (hb : Is64 b) (hc : Is64 c) (hd : Is64 d) (h : V c d ≤ V a b) : (V c d).toNat ≤ (V a b).toNat ∧ (((V a b).toNat - (V c d).toNat : Nat) : Int) = V a b - V c d := by
  have n1 := V_nat ha hb
  have n2 := V_nat hc hd
  omega
end Go.Proofs.Ytcnfojbncmkdeaa
namespace Go.Proofs.Ytcnfojbncmkdeaa
open Go.ChangeShapes Go.WideShapes Go.ChangeAt Go.RowKit Go.Joins
set_option maxRecDepth 100000
set_option linter.unusedVariables false
set_option linter.unusedSimpArgs false
/-- is a by b less than c by d? -/
def lessR (a b c d : Int) : Bool := if b = 0 ∨ d = 0 then false else lessB a b c d
theorem less_gen (a b c d : Int) (w : World) (ha : Is64 a) (hb : Is64 b) (hc : Is64 c) (hd : Is64 d) :
    Calls Try.prog 34 #[.int .u64 a, .int .u64 b, .int .u64 c, .int .u64 d] w fun e w' => e = .returned (.bool (lessR a b c d)) ∧ Below w.heap.size w w' := by
  unfold lessR
  by_cases h : b = 0 ∨ d = 0
  · rw [if_pos h]; exact less_zero a b c d w h
  · rw [if_neg h]; exact less_any a b c d w ha hb hc hd (by simp; omega) (by simp; omega)
theorem less_cmp {a b c d : Int} (ha : Is64 a) (hb : Is64 b) (hc : Is64 c) (hd : Is64 d) (w : World) :
    Calls Try.prog 35 #[bv (a.toNat * d.toNat), bv (c.toNat * b.toNat)] w fun e w' => e = .returned (.int .i64 (cmpI (a * d) (c * b))) ∧ Below w.heap.size w w' := by
  have e2 : (2 : Nat) ^ 256 = 115792089237316195423570985008687907853269984665640564039457584007913129639936 := by decide
  have h1 := (is128_mul ha hd).2
  have h2 := (is128_mul hc hb).2
  have n1 := toNat_mul ha hd
  have n2 := toNat_mul hc hb
  have := cmp_nat (a.toNat * d.toNat) (c.toNat * b.toNat) w (by rw [e2]; omega) (by rw [e2]; omega)
  rw [n1, n2] at this
  exact this
set_option maxRecDepth 100000 in
set_option maxHeartbeats 2000000 in
theorem less_rf_yes (a b c d : Int) (w : World) (ha : Is64 a) (hb : Is64 b) (hc : Is64 c) (hd : Is64 d) (h1 : (b != 0) = true) (h2 : (d != 0) = true) :
    Calls Try.prog 31 #[.int .u64 a, .int .u64 b, .int .u64 c, .int .u64 d] w fun e w' => e = .returned (.bool (lessB a b c d)) ∧ Below w.heap.size w w' := by
  have OA := Lib.hid (fun w => one_nat a w ha)
  have OB := Lib.hid (fun w => one_nat b w hb)
  have OC := Lib.hid (fun w => one_nat c w hc)
  have OD := Lib.hid (fun w => one_nat d w hd)
  have T1 := Lib.hid (mul_times ha hd)
  have T2 := Lib.hid (mul_times hc hb)
  have CC := Lib.hid (less_cmp ha hb hc hd)
  go_enter Try.func31, Try.ntmps31
  go_wp2_with fail
  (with_reducible refine (OA.out _).mono ?_)
  rintro e w1 ⟨rfl, b1⟩
  go_wp2_with fail
  (with_reducible refine (OD.out _).mono ?_)
  rintro e w2 ⟨rfl, b2⟩
  replace b2 := b1.trans (b2.mono b1.size)
  clear b1
  go_wp2_with fail
  (with_reducible refine (T1.out _).mono ?_)
  rintro e w3 ⟨rfl, b3⟩
  replace b3 := b2.trans (b3.mono b2.size)
  clear b2
  go_wp2_with fail
  (with_reducible refine (OC.out _).mono ?_)
  rintro e w4 ⟨rfl, b4⟩
  replace b4 := b3.trans (b4.mono b3.size)
  clear b3
  go_wp2_with fail
  (with_reducible refine (OB.out _).mono ?_)
  rintro e w5 ⟨rfl, b5⟩
  replace b5 := b4.trans (b5.mono b4.size)
  clear b4
  go_wp2_with fail
  (with_reducible refine (T2.out _).mono ?_)
  rintro e w6 ⟨rfl, b6⟩
  replace b6 := b5.trans (b6.mono b5.size)
  clear b5
  go_wp2_with fail
  (with_reducible refine (CC.out _).mono ?_)
  rintro e w7 ⟨rfl, b7⟩
  replace b7 := b6.trans (b7.mono b6.size)
  clear b6
  go_wp2
  go_ret
  refine ⟨?_, b7⟩
  show Ending.returned (.bool (decide (cmpI (a * d) (c * b) < 0))) = _
  rw [cmpI_neg]; rfl
theorem less_rf_zero (a b c d : Int) (w : World) (h : b = 0 ∨ d = 0) :
    Calls Try.prog 31 #[.int .u64 a, .int .u64 b, .int .u64 c, .int .u64 d] w fun e w' => e = .returned (.bool false) ∧ Below w.heap.size w w' := by
  by_cases h1 : b = 0
  · subst h1
    clear h
    go_enter Try.func31, Try.ntmps31
    go_wp2
    go_ret
    exact ⟨rfl, Below.refl _ _⟩
  · obtain rfl : d = 0 := by omega
    have hb : (b != 0) = true := by simpa using h1
    clear h h1
    go_enter Try.func31, Try.ntmps31
    go_wp2
    go_ret
    exact ⟨rfl, Below.refl _ _⟩
theorem less_rf (a b c d : Int) (w : World) (ha : Is64 a) (hb : Is64 b) (hc : Is64 c) (hd : Is64 d) :
    Calls Try.prog 31 #[.int .u64 a, .int .u64 b, .int .u64 c, .int .u64 d] w fun e w' => e = .returned (.bool (lessR a b c d)) ∧ Below w.heap.size w w' := by
  unfold lessR
  by_cases h : b = 0 ∨ d = 0
  · rw [if_pos h]; exact less_rf_zero a b c d w h
  · rw [if_neg h]; exact less_rf_yes a b c d w ha hb hc hd (by simp; omega) (by simp; omega)
end Go.Proofs.Ytcnfojbncmkdeaa
