/- The document's Div: what it answers. -/
import Derived.Test.YtdddafhalcbhaaaHrDM
namespace Go.Proofs.Ytdddafhalcbhaaa
open Go.ChangeShapes Go.WideShapes Go.ChangeAt Go.RowKit Go.Joins
set_option linter.unusedVariables false
set_option linter.unusedSimpArgs false
/-- at the loop's head: g bits are to come -/
def RefDivRel (w : World) (X R Q D : Nat) (N d : Nat) (g : Nat) (s9 : Value) (wx : World) : Prop :=
  g ≤ 128 ∧ s9 = .int .i64 ((g : Int) - 1) ∧ DivMem w X R Q D N (N / 2 ^ g % d) (N / 2 ^ g / d * 2 ^ g) d wx
/-- the result of a division, as it lies in memory -/
def quoV (N d : Nat) : Value := .agg #[.int .u64 (hi ((N / d : Nat) : Int)), .int .u64 (lo ((N / d : Nat) : Int)), .int .u64 ((N % d : Nat) : Int), .bool true]
theorem cmpI_nonneg (x y : Int) : decide (0 ≤ cmpI x y) = decide (y ≤ x) := by
  unfold cmpI; repeat' split
  all_goals (first | (simp; omega) | simp_all | omega)
theorem setCells_size (b : Nat) : ∀ (vs : List Value) (o : Nat) (w : World), (w.setCells b o vs).heap.size = w.heap.size := by
  intro vs
  induction vs with
  | nil => intro o w; rfl
  | cons v vs ih => intro o w; show (World.setCells (w.setCell ⟨b, o, none⟩ v) b (o + 1) vs).heap.size = _; rw [ih]; simp
theorem bits0 {w : World} {b : Nat} (h : BitsF w b (fun _ => false)) : BitsF w b (0 : Nat).testBit := h.congr (fun j hj => by simp)
/-- a new array, stored whole -/
theorem new_array (w : World) (f : Nat → Bool) : BitsF ((w.alloc (.cells (Array.replicate 256 (.bool false)) 51)).setCells w.heap.size 0 (bitsL f).toArray.toList) w.heap.size f ∧ FreeF ((w.alloc (.cells (Array.replicate 256 (.bool false)) 51)).setCells w.heap.size 0 (bitsL f).toArray.toList) w.heap.size ∧ (w.alloc (.cells (Array.replicate 256 (.bool false)) 51)).there w.heap.size 0 256 ∧ Below w.heap.size w ((w.alloc (.cells (Array.replicate 256 (.bool false)) 51)).setCells w.heap.size 0 (bitsL f).toArray.toList) ∧ ((w.alloc (.cells (Array.replicate 256 (.bool false)) 51)).setCells w.heap.size 0 (bitsL f).toArray.toList).heap.size = w.heap.size + 1 := by
  have ht := (BitsF.zero w 51).there (FreeF.new w _ 51)
  exact ⟨BitsF.stored ht, (FreeF.new w _ _).setCells, ht, below_setCells _ (Nat.le_refl _) _ _ _ (below_alloc1 w _), by rw [setCells_size]; simp⟩
set_option maxRecDepth 100000 in
set_option maxHeartbeats 8000000 in
theorem div_rf_yes (a b d : Int) (N dn : Nat) (w : World) (ha : Is64 a) (hb : Is64 b) (hd : Is64 d) (h0 : (d == 0) = false) (hN : (V a b).toNat = N) (hdn : d.toNat = dn) :
    Calls Try.prog 21 #[.agg #[.int .u64 a, .int .u64 b], .int .u64 d] w fun e w' => e = .returned (quoV N dn) ∧ Below w.heap.size w w' := by
  have hv := zeroB.1
  have hN128 : N < 2 ^ 128 := by rw [← hN]; exact V_lt ha hb
  have hd64 : dn < 18446744073709551616 := by unfold Is64 at hd; omega
  have hdp : 0 < dn := by simp at h0; unfold Is64 at hd; omega
  have OX : Hid (∀ w, Calls Try.prog 28 #[.agg #[.int .u64 a, .int .u64 b]] w fun e w' => e = .returned (.agg (bitsL N.testBit).toArray) ∧ Below w.heap.size w w') := Lib.hid (fun w => by rw [← hN]; exact of_nat a b w ha hb)
  have OD : Hid (∀ w, Calls Try.prog 32 #[.int .u64 d] w fun e w' => e = .returned (.agg (bitsL dn.testBit).toArray) ∧ Below w.heap.size w w') := Lib.hid (fun w => by rw [← hdn]; exact one_nat d w hd)
  have H128 := Lib.hid hN128
  have H64 := Lib.hid hd64
  clear hN hdn hN128 hd64 ha hb hd
  go_enter Try.func21, Try.ntmps21
  go_wp2_with fail
  (with_reducible refine (OX.out _).mono ?_)
  rintro e w1 ⟨rfl, hb1⟩
  have th : w1.there (w.heap.size + 1) 0 4 := there_call (fun j hj => by
    rcases (show j = 0 ∨ j = 1 ∨ j = 2 ∨ j = 3 by omega) with rfl | rfl | rfl | rfl <;> simp [go_sem]) hb1
  have bl : Below w.heap.size w w1 := (below_alloc2 w _ _).trans (hb1.mono (by simp; omega))
  have z1 : w.heap.size + 1 < w1.heap.size := by have := hb1.size; simp at this; omega
  clear hb1
  obtain ⟨x1, x2, x3, x4, x5⟩ := new_array w1 N.testBit
  have HT := Lib.hid x3
  clear x3
  go_upto_region 4 with (refine wpList_store_mid rfl 51 (.tmp 5) (.tmp 18) rfl (w1.heap.size) 0 (bitsL N.testBit).toArray rfl rfl (by rw [bitsA_size]; exact HT.out) (by rw [bitsA_size]; exact zeroB.2) (bitsC_one N.testBit) ?_)
  generalize (w1.alloc (.cells (Array.replicate 256 (.bool false)) 51)).setCells w1.heap.size 0 (bitsL N.testBit).toArray.toList = Wx at *
  replace th := there_call th x4
  replace bl := bl.trans (x4.mono bl.size)
  have zX : w1.heap.size < Wx.heap.size := x1.lt
  have bX := Lib.hid x1
  have TH := Lib.hid th
  clear x1 x2 x4 x5 th HT
  go_wp2_with fail
  (with_reducible refine (OD.out _).mono ?_)
  rintro e w2 ⟨rfl, hb2⟩
  have eQ : (Wx.alloc (.cells (Array.replicate 256 (.bool false)) 51)).heap.size = Wx.heap.size + 1 := by simp
  have q1 := BitsF.zero (Wx.alloc (.cells (Array.replicate 256 (.bool false)) 51)) 51
  have q2 := FreeF.new (Wx.alloc (.cells (Array.replicate 256 (.bool false)) 51)) (Array.replicate 256 (.bool false)) 51
  rw [eQ] at q1 q2
  have r1 := (BitsF.zero Wx 51).alloc (Array.replicate 256 (.bool false)) 51
  have r2 := (FreeF.new Wx (Array.replicate 256 (.bool false)) 51).alloc (by simp) (Array.replicate 256 (.bool false)) 51
  have th2 : ((Wx.alloc (.cells (Array.replicate 256 (.bool false)) 51)).alloc (.cells (Array.replicate 256 (.bool false)) 51)).there (w.heap.size + 1) 0 4 := World.there_alloc (World.there_alloc TH.out _) _
  have M1 := Lib.hid (And.intro (((bX.out.alloc _ _).alloc _ _).call hb2) (And.intro (bits0 (r1.call hb2)) (And.intro (r2.call r1 hb2) (And.intro (bits0 (q1.call hb2)) (And.intro (q2.call q1 hb2) (there_call th2 hb2))))))
  have bl2 : Below w.heap.size w w2 := ((bl.alloc bl.size _).alloc (by have := bl.size; simp; omega) _).trans (hb2.mono (by have := bl.size; simp; omega))
  have zD : Wx.heap.size + 1 < w2.heap.size := by have := hb2.size; simp at this; omega
  clear hb2 q1 q2 r1 r2 th2 eQ TH bX bl
  obtain ⟨y1, y2, y3, y4, y5⟩ := new_array w2 dn.testBit
  have HT := Lib.hid y3
  clear y3 y5 y2
  go_upto_region 7 with (refine wpList_store_mid rfl 51 (.tmp 8) (.tmp 20) rfl (w2.heap.size) 0 (bitsL dn.testBit).toArray rfl rfl (by rw [bitsA_size]; exact HT.out) (by rw [bitsA_size]; exact zeroB.2) (bitsC_one dn.testBit) ?_)
  have MEM : Hid (DivMem w w1.heap.size Wx.heap.size (Wx.heap.size + 1) w2.heap.size N (N / 2 ^ 128 % dn) (N / 2 ^ 128 / dn * 2 ^ 128) dn ((w2.alloc (.cells (Array.replicate 256 (.bool false)) 51)).setCells w2.heap.size 0 (bitsL dn.testBit).toArray.toList)) := by
    obtain ⟨m1, m2, m3, m4, m5, m6⟩ := M1.out
    have e0 : N / 2 ^ 128 = 0 := Nat.div_eq_of_lt H128.out
    rw [e0, Nat.zero_mod, Nat.zero_div, Nat.zero_mul]
    exact Lib.hid ⟨m1.call y4, m2.call y4, m3.call m2 y4, m4.call y4, m5.call m4 y4, y1, there_call m6 y4, bl2.trans (y4.mono bl2.size), by omega, by omega, by omega, by omega⟩
  clear M1 HT y1 y4 bl2
  generalize (w2.alloc (.cells (Array.replicate 256 (.bool false)) 51)).setCells w2.heap.size 0 (bitsL dn.testBit).toArray.toList = Wd at *
  go_wp2
  clear hv
  go_loopg [9] 128 (RefDivRel w w1.heap.size Wx.heap.size (Wx.heap.size + 1) w2.heap.size N dn)
  case atStart => exact ⟨by omega, rfl, MEM.out⟩
  case round =>
    obtain ⟨hg, rfl, hm⟩ := hrel
    clear MEM zX zD z1
    generalize w1.heap.size = X at *
    generalize Wx.heap.size = R at *
    generalize w2.heap.size = D at *
    have HM := Lib.hid hm
    clear hm
    cases gk with
    | zero =>
      have m0 := HM.out
      rw [Nat.pow_zero, Nat.div_one, Nat.mul_one] at m0
      have hz : ¬ (0 : Int) ≤ ((0 : Nat) : Int) - 1 := by omega
      have hq128 : N / dn < 2 ^ 128 := Nat.lt_of_le_of_lt (Nat.div_le_self _ _) H128.out
      have hm64 : N % dn < 18446744073709551616 := Nat.lt_trans (Nat.mod_lt _ hdp) H64.out
      have BK1 : Hid (∀ w, Calls Try.prog 26 #[.agg (bitsL (N / dn).testBit).toArray] w fun e w' => e = .returned (.tuple #[.agg #[.int .u64 (hi ((N / dn : Nat) : Int)), .int .u64 (lo ((N / dn : Nat) : Int))], .bool true]) ∧ Below w.heap.size w w') := Lib.hid (fun w => back_yes (N / dn) w hq128)
      have BK2 : Hid (∀ w, Calls Try.prog 26 #[.agg (bitsL (N % dn).testBit).toArray] w fun e w' => e = .returned (.tuple #[.agg #[.int .u64 0, .int .u64 ((N % dn : Nat) : Int)], .bool true]) ∧ Below w.heap.size w w') := Lib.hid (fun w => by
        have := back_yes (N % dn) w (Nat.lt_trans hm64 (by decide))
        have e1 : hi ((N % dn : Nat) : Int) = 0 := by unfold hi; omega
        have e2 : lo ((N % dn : Nat) : Int) = ((N % dn : Nat) : Int) := by unfold lo; omega
        rw [e1, e2] at this
        exact this)
      clear hq128 hm64 HM
      obtain ⟨qq, hqq⟩ : ∃ qq, qq = N / dn := ⟨_, rfl⟩
      obtain ⟨rr, hrr⟩ : ∃ rr, rr = N % dn := ⟨_, rfl⟩
      rw [← hqq] at m0 BK1
      rw [← hrr] at m0 BK2
      have HQ := Lib.hid hqq
      have HRR := Lib.hid hrr
      clear hqq hrr
      have M0 := Lib.hid m0
      clear m0
      have RQ := Lib.hid M0.out.2.2.2.1.range
      go_wp2_with (refine wpList_load_mid rfl 51 (.tmp 7) rfl (R + 1) 0 rfl (bitsL qq.testBit) (.array 256 4) (RQ.out) undB rfl (by rw [bitsL_length]; exact zeroB.2) ?_)
      (with_reducible refine (BK1.out _).mono ?_)
      rintro e w6 ⟨rfl, hb6⟩
      have M6 := Lib.hid (dm_call M0.out hb6)
      clear hb6 M0 RQ
      have RR := Lib.hid (M6.out.2.1.alloc #[.int .u64 (hi (qq : Int)), .int .u64 (lo (qq : Int))] 24).range
      go_wp2_with (refine wpList_load_mid rfl 51 (.tmp 6) rfl (R) 0 rfl (bitsL rr.testBit) (.array 256 4) (RR.out) undB rfl (by rw [bitsL_length]; exact zeroB.2) ?_)
      (with_reducible refine (BK2.out _).mono ?_)
      rintro e w7 ⟨rfl, hb7⟩
      have c0 := carry hb7 (p := ⟨w6.heap.size, 0, none⟩) (v := .int .u64 (hi (qq : Int))) (by simp [go_sem])
      have c1 := carry hb7 (p := ⟨w6.heap.size, 1, none⟩) (v := .int .u64 (lo (qq : Int))) (by simp [go_sem])
      have th := there_call (World.there_alloc M6.out.2.2.2.2.2.2.1 (.cells #[.int .u64 (hi (qq : Int)), .int .u64 (lo (qq : Int))] 24)) hb7
      have bl := M6.out.2.2.2.2.2.2.2.1
      have bl7 : Below w.heap.size w w7 := (bl.alloc bl.size _).trans (hb7.mono (by have := bl.size; simp; omega))
      have zz := M6.out.2.2.2.2.2.2.2.2
      have zl := M6.out.1.lt
      have z6 : w6.heap.size < w7.heap.size := by have := hb7.size; simp at this; omega
      have z8 : w.heap.size + 1 < w7.heap.size := by omega
      have n1 : ¬ w6.heap.size = w.heap.size + 1 := by omega
      have n2 : ¬ w.heap.size + 1 = w6.heap.size := by omega
      have n3 : ¬ w7.heap.size = w.heap.size + 1 := by omega
      obtain ⟨t0, f0⟩ := th 0 (by decide)
      obtain ⟨t1, f1⟩ := th 1 (by decide)
      obtain ⟨t2, f2⟩ := th 2 (by decide)
      obtain ⟨t3, f3⟩ := th 3 (by decide)
      obtain ⟨u0, t0⟩ := Option.isSome_iff_exists.1 t0
      obtain ⟨u1, t1⟩ := Option.isSome_iff_exists.1 t1
      obtain ⟨u2, t2⟩ := Option.isSome_iff_exists.1 t2
      obtain ⟨u3, t3⟩ := Option.isSome_iff_exists.1 t3
      simp only [Nat.zero_add] at t0 t1 t2 t3 f0 f1 f2 f3
      clear hb7 M6 RR th bl zz zl
      go_wp2
      refine bodyPost_ret (v := .agg #[.int .u64 (hi (qq : Int)), .int .u64 (lo (qq : Int)), .int .u64 (rr : Int), .bool true]) (by simp [results, Try.results21, go_sem, t0, t1, t2, t3, z8, n3]) rfl ⟨by rw [quoV, ← HQ.out, ← HRR.out], ?_⟩
      repeat (first | exact bl7 | refine Below.setCell ?_ (by first | omega | (simp; done) | (simp; omega)) _ | refine Below.alloc ?_ (by first | omega | (simp; done) | (simp; omega)) _ | refine Below.drew ?_)
    | succ i =>
      have hi : i < 256 := by omega
      have hi2 : (i : Int) < 256 := by omega
      have hi0 : (0 : Int) ≤ (i : Int) := by omega
      have ei : (((i + 1 : Nat) : Int) - 1) = (i : Int) := by omega
      rw [ei]
      clear ei
      obtain ⟨top, r, t, e1, e2, e3, e4, e5, e6, e7⟩ := div_round (N := N) (i := i) hdp
      have m0 := HM.out
      rw [e1, ← e2, ← e3] at m0
      have r64 : r < 18446744073709551616 := by have := H64.out; omega
      have SH : Hid (∀ w, Calls Try.prog 33 #[.agg (bitsL r.testBit).toArray, .int .i64 1] w fun e w' => e = .returned (.agg (bitsL (r * 2).testBit).toArray) ∧ Below w.heap.size w w') := Lib.hid (fun w => shift_nat r 1 w (by decide) (Nat.lt_of_lt_of_le (show r * 2 ^ 1 < 36893488147419103232 by omega) (by decide)))
      have M0 := Lib.hid m0
      have H5 := Lib.hid e5
      have H6 := Lib.hid e6
      have H7 := Lib.hid e7
      clear m0 e1 e2 e3 e5 e6 e7 HM
      have RR := Lib.hid M0.out.2.1.range
      go_wp2_with (refine wpList_load_mid rfl 51 (.tmp 6) rfl (R) 0 rfl (bitsL r.testBit) (.array 256 4) (RR.out) undB rfl (by rw [bitsL_length]; exact zeroB.2) ?_)
      (with_reducible refine (SH.out _).mono ?_)
      rintro e ws ⟨rfl, hbs⟩
      have ms := dm_call M0.out hbs
      have HT := Lib.hid (ms.2.1.there ms.2.2.1)
      have M2 := Lib.hid (dm_storeR (r' := r * 2) ms)
      clear hbs ms RR
      go_upto_region 11 with (refine wpList_store_mid rfl 51 (.tmp 6) (.tmp 26) rfl (R) 0 (bitsL (r * 2).testBit).toArray rfl rfl (by rw [bitsA_size]; exact HT.out) (by rw [bitsA_size]; exact zeroB.2) (bitsC_one (r * 2).testBit) ?_)
      (try rw [show (bitsL (r * 2).testBit).toArray.toList = bitsL (r * 2).testBit from by simp])
      replace M2 : Hid (DivMem w X R (R + 1) D N (r * 2) (t * 2 ^ (i + 1)) dn (ws.setCells R 0 (bitsL (r * 2).testBit))) := Lib.hid (by simpa using M2.out)
      clear HT
      generalize ws.setCells R 0 (bitsL (r * 2).testBit) = W2 at *
      have cX := M2.out.1 i hi
      have cR := M2.out.2.1 0 (by decide)
      have fR := M2.out.2.2.1 0 (by decide)
      generalize hx : N.testBit i = x at *
      clear hx
      go_upto_region 12 with (fail)
      have M3 := Lib.hid (dm_bit (b := x) M2.out)
      clear cX cR fR M2
      generalize W2.setCell ⟨R, 0, none⟩ (.bool x) = W3 at *
      obtain ⟨r2, hr2⟩ : ∃ r2, r2 = r * 2 + x.toNat := ⟨_, rfl⟩
      have hr264 : r2 < 36893488147419103232 := by have : x.toNat ≤ 1 := Bool.toNat_le x; omega
      have hr256 : r2 < 2 ^ 256 := Nat.lt_trans hr264 (by decide)
      have hd256 : dn < 2 ^ 256 := Nat.lt_trans H64.out (by decide)
      rw [← hr2] at M3 H6 H7
      have CM : Hid (∀ w, Calls Try.prog 30 #[.agg (bitsL r2.testBit).toArray, .agg (bitsL dn.testBit).toArray] w fun e w' => e = .returned (.int .i64 (cmpI r2 dn)) ∧ Below w.heap.size w w') := Lib.hid (fun w => cmp_nat r2 dn w hr256 hd256)
      have MI : Hid (dn ≤ r2 → ∀ w, Calls Try.prog 29 #[.agg (bitsL r2.testBit).toArray, .agg (bitsL dn.testBit).toArray] w fun e w' => e = .returned (.agg (bitsL (r2 - dn).testBit).toArray) ∧ Below w.heap.size w w') := Lib.hid (fun h w => minus_nat r2 dn w h hr256)
      clear hr264 hr256 hd256 hr2
      have RA := Lib.hid M3.out.2.1.range
      have RD := Lib.hid M3.out.2.2.2.2.2.1.range
      go_wp2_with (first | (refine wpList_load_mid rfl 51 (.tmp 6) rfl (R) 0 rfl (bitsL r2.testBit) (.array 256 4) (RA.out) undB rfl (by rw [bitsL_length]; exact zeroB.2) ?_) | (refine wpList_load_mid rfl 51 (.tmp 8) rfl (D) 0 rfl (bitsL dn.testBit) (.array 256 4) (RD.out) undB rfl (by rw [bitsL_length]; exact zeroB.2) ?_))
      (with_reducible refine (CM.out _).mono ?_)
      rintro e w4 ⟨rfl, hb4⟩
      have M4 := Lib.hid (dm_call M3.out hb4)
      clear hb4 M3 RA RD
      by_cases hle : dn ≤ r2
      · have hc : decide (0 ≤ cmpI (r2 : Int) dn) = true := by rw [cmpI_nonneg]; simp; omega
        have MI' := Lib.hid (MI.out hle)
        obtain ⟨g1, g2⟩ := H6.out hle
        have G1 := Lib.hid g1
        have G2 := Lib.hid g2
        clear g1 g2 hle MI
        have RA := Lib.hid M4.out.2.1.range
        have RD := Lib.hid M4.out.2.2.2.2.2.1.range
        go_wp2_with (first | (refine wpList_load_mid rfl 51 (.tmp 6) rfl (R) 0 rfl (bitsL r2.testBit) (.array 256 4) (RA.out) undB rfl (by rw [bitsL_length]; exact zeroB.2) ?_) | (refine wpList_load_mid rfl 51 (.tmp 8) rfl (D) 0 rfl (bitsL dn.testBit) (.array 256 4) (RD.out) undB rfl (by rw [bitsL_length]; exact zeroB.2) ?_))
        (with_reducible refine (MI'.out _).mono ?_)
        rintro e w5 ⟨rfl, hb5⟩
        have ms := dm_call M4.out hb5
        have HT := Lib.hid (ms.2.1.there ms.2.2.1)
        have M6 := Lib.hid (dm_storeR (r' := r2 - dn) ms)
        clear hb5 ms RA RD M4
        go_upto_region 14 with (refine wpList_store_mid rfl 51 (.tmp 6) (.tmp 37) rfl (R) 0 (bitsL (r2 - dn).testBit).toArray rfl rfl (by rw [bitsA_size]; exact HT.out) (by rw [bitsA_size]; exact zeroB.2) (bitsC_one (r2 - dn).testBit) ?_)
        (try rw [show (bitsL (r2 - dn).testBit).toArray.toList = bitsL (r2 - dn).testBit from by simp])
        replace M6 : Hid (DivMem w X R (R + 1) D N (r2 - dn) (t * 2 ^ (i + 1)) dn (w5.setCells R 0 (bitsL (r2 - dn).testBit))) := Lib.hid (by simpa using M6.out)
        clear HT
        generalize w5.setCells R 0 (bitsL (r2 - dn).testBit) = W6 at *
        have cQ := M6.out.2.2.2.1 i hi
        have fQ := M6.out.2.2.2.2.1 i hi
        go_wp2
        go_roundg i
        case measure => omega
        case rel =>
          refine ⟨by omega, by go_num, ?_⟩
          rw [G1.out, G2.out]
          have e : (2 * t + 1) * 2 ^ i = t * 2 ^ (i + 1) + 2 ^ i := by rw [Nat.add_mul, Nat.one_mul, Nat.pow_succ, Nat.mul_comm (2 ^ i) 2, ← Nat.mul_assoc, Nat.mul_comm t 2]
          rw [e]
          exact dm_q hi M6.out
      · have hc : decide (0 ≤ cmpI (r2 : Int) dn) = false := by rw [cmpI_nonneg]; simp; omega
        obtain ⟨g1, g2⟩ := H7.out (by omega)
        have G1 := Lib.hid g1
        have G2 := Lib.hid g2
        clear g1 g2 hle MI
        go_wp2
        go_roundg i
        case measure => omega
        case rel =>
          refine ⟨by omega, by go_num, ?_⟩
          rw [G1.out, G2.out]
          have e : 2 * t * 2 ^ i = t * 2 ^ (i + 1) := by rw [Nat.pow_succ, Nat.mul_comm (2 ^ i) 2, ← Nat.mul_assoc, Nat.mul_comm t 2]
          rw [e]
          exact M4.out
end Go.Proofs.Ytdddafhalcbhaaa
