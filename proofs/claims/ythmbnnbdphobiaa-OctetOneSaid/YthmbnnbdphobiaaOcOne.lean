/- horariumlaw03.OctetOne answers true at every text and every two numbers, and leaves its arguments as they were: what was read of any bytes is written so, and a number has one way to stand there. No condition. -/
import Derived.Test.YthmbnnbdphobiaaOcJ
namespace Go.Proofs.Ythmbnnbdphobiaa.octetOne
open Go.ChangeShapes Go.WideShapes Go.ChangeAt Go.RowKit Go.Joins
set_option linter.unusedVariables false
set_option linter.unusedSimpArgs false

set_option maxRecDepth 100000 in
set_option maxHeartbeats 8000000 in
theorem walk (s : ByteArray) (a b : Nat) (w : World) (ha : a < 18446744073709551616) (hb : b < 18446744073709551616) :
    Calls Try.prog 6 #[.string s, .int .u64 (a : Int), .int .u64 (b : Int)] w fun e w' => e = .returned (.bool true) ∧ Below w.heap.size w w' := by
  have S1 : Hid (∀ w : World, Calls Try.prog 9 #[.string s, .int .i64 20] w fun e w' => e = .returned (.string (cut s 20)) ∧ w' = w) := Lib.hid (fun w => short_any s 20 w (by omega))
  have z1 := cut_size s 20
  generalize cut s 20 = t at *
  have RR : Hid (∀ W : World, Calls Try.prog 19 #[.string t] W fun e w' => e = .returned (self W.heap.size) ∧ Rd RC W.heap.size (some t.data.toList) w' ∧ Below W.heap.size W w') := Lib.hid (fun W => (read_any t W).mono fun e w' ⟨he, hw⟩ => ⟨he, by
    subst hw
    refine ⟨?_, (Below.refl _ _).alloc (Nat.le_refl _) _⟩
    show _ = some (Obj.cells #[.string (mkB t.data.toList), .bool false] RC (0, 0))
    rw [mkB_of]
    exact heap_alloc_new W _⟩)
  have RN : Hid (∀ W c, Rd RC c (some t.data.toList) W → Calls Try.prog 20 #[self c, .int .u64 18446744073709551615] W fun e w' => e = .returned (.int .u64 ((num (some t.data.toList) 18446744073709551615).1 : Int)) ∧ Rd RC c (num (some t.data.toList) 18446744073709551615).2 w' ∧ Apart c W w') := Lib.hid (fun W c k => num_rd c _ 18446744073709551615 W k (by omega) (by simp only [left]; rw [list_size]; omega))
  have hn : (num (some t.data.toList) 18446744073709551615).1 < 18446744073709551616 := by have := num_most (some t.data.toList) 18446744073709551615; omega
  have hR : ∀ r, (num (some t.data.toList) 18446744073709551615).2 = some r → t.data.toList = enc (num (some t.data.toList) 18446744073709551615).1 ++ r := fun r h => read_so h
  generalize num (some t.data.toList) 18446744073709551615 = x at *
  obtain ⟨n, o⟩ := x
  simp only at *
  have NN : Hid (∀ W B b l, Wr B b l W → l.length ≤ 900000 → B ≤ W.heap.size → Calls Try.prog 10 #[self b, .int .u64 (n : Int)] W fun e w' => e = .returned (self b) ∧ Wr B b (l ++ enc n) w' ∧ Moved b W w') := Lib.hid (fun W B b l k h1 h2 => num_any B b n l W k hn h1 h2)
  have NA : Hid (∀ W B b l, Wr B b l W → l.length ≤ 900000 → B ≤ W.heap.size → Calls Try.prog 10 #[self b, .int .u64 (a : Int)] W fun e w' => e = .returned (self b) ∧ Wr B b (l ++ enc a) w' ∧ Moved b W w') := Lib.hid (fun W B b l k h1 h2 => num_any B b a l W k ha h1 h2)
  have NB : Hid (∀ W B b' l, Wr B b' l W → l.length ≤ 900000 → B ≤ W.heap.size → Calls Try.prog 10 #[self b', .int .u64 (b : Int)] W fun e w' => e = .returned (self b') ∧ Wr B b' (l ++ enc b) w' ∧ Moved b' W w') := Lib.hid (fun W B b' l k h1 h2 => num_any B b' b l W k hb h1 h2)
  have ST : Hid (∀ W B b l, Wr B b l W → l.length ≤ 9 → Calls Try.prog 18 #[self b] W fun e w' => e = .returned (.string (mkB l)) ∧ Wr B b l w' ∧ Moved b W w') := Lib.hid (fun W B b l k h1 => wstring_any B b l W k (by omega))
  have ln : (enc n).length ≤ 9 := enc_len9 hn
  have la : (enc a).length ≤ 9 := enc_len9 ha
  have lb : (enc b).length ≤ 9 := enc_len9 hb
  have hnot : ∀ (x : Bool) (w : World), (Op.unary .not (.bool x)).run Try.prog w = .ok (.bool (!x)) w := fun _ _ => rfl
  cases o with
  | none =>
    have GO : Hid (∀ W c, Rd RC c none W → Calls Try.prog 28 #[self c] W fun e w' => e = .returned (.bool false) ∧ w' = W) := Lib.hid (fun W c k => good_any c none W k)
    clear hR
    rcases Nat.lt_trichotomy a b with hab | hab | hab
    · have e1 : ((mkB (enc a)).toList == (mkB (enc b)).toList) = false := by
        rw [toList_mkB, toList_mkB]; simp; exact fun e => absurd (enc_inj ha hb e) (by omega)
      have e2 : ((a : Int) == (b : Int)) = false := by simp; omega
      have e2' : (a == b) = false := by simp; omega
      have e3 : ((mkB (enc a)).size : Int) ≤ ((mkB (enc b)).size : Int) := by rw [mkB_size, mkB_size]; have := enc_mono (Nat.le_of_lt hab); omega
      go_enter Try.func6, Try.ntmps6
      go_wp2_with fail
      (with_reducible refine (awake_any _).mono ?_)
      rintro e w1 ⟨rfl, b1⟩
      go_wp2_with fail
      (with_reducible refine (S1.out _).mono ?_)
      rintro e w2 ⟨rfl, rfl⟩
      clear S1
      go_wp2_with fail
      (with_reducible refine (RR.out _).mono ?_)
      rintro e w3 ⟨rfl, r3, b3⟩
      have b4 := b1.trans (b3.mono b1.size)
      have hc : w.heap.size ≤ w2.heap.size := b1.size
      generalize w2.heap.size = c at *
      clear RR b1 b3
      go_wp2_with fail
      (with_reducible refine (RN.out _ _ r3).mono ?_)
      rintro e w4 ⟨rfl, r4, a4⟩
      have b5 := b4.trans (a4.below hc b4.size)
      clear RN r3 a4 b4
      have k0 := fresh_wr w4
      have r5 := r4.call ((Below.refl _ _).alloc (Nat.le_refl _) (.cells #[.pointer none, .slice none 0 0, .pointer none] 30))
      have b6 := b5.alloc b5.size (.cells #[.pointer none, .slice none 0 0, .pointer none] 30)
      have hne : c ≠ w4.heap.size := by have := r4.lt; omega
      have hz := b5.size
      clear r4
      go_wp2_with fail
      (with_reducible refine (NN.out _ _ _ _ k0 (by simp) (by simp)).mono ?_)
      rintro e w6 ⟨rfl, k6, m6⟩
      have r6 := r5.moved m6 k0 (by decide) hne
      have b7 := b6.trans ((k0.below m6 (by simp)).mono hz)
      have z7 := m6.size
      rw [List.nil_append] at k6
      clear NN k0 r5 m6 b6
      go_wp2_with fail
      (with_reducible refine (ST.out _ _ _ _ k6 ln).mono ?_)
      rintro e w7 ⟨rfl, k7, m7⟩
      have r7 := r6.moved m7 k6 (by decide) hne
      have b8 := b7.trans ((k6.below m7 (by simp at z7; omega)).mono hz)
      clear k6 r6 m7 b7 k7 z7 b5
      go_wp2_with fail
      (with_reducible refine (GO.out _ _ r7).mono ?_)
      rintro e w8 ⟨rfl, rfl⟩
      clear GO r7
      have t0 := two_new w8
      have zb : w.heap.size ≤ w8.heap.size := b8.size
      have b9 := (b8.alloc zb (.cells #[.pointer none, .slice none 0 0, .pointer none] 30)).alloc (by simp; omega) (.cells #[.pointer none, .slice none 0 0, .pointer none] 30)
      generalize hB0 : w8.heap.size = B0 at *
      clear b8 hne
      go_wp2_with fail
      (with_reducible refine (NA.out _ _ _ _ t0.wx (by simp) (by simp; omega)).mono ?_)
      rintro e wA ⟨rfl, kA, mA⟩
      have tA := t0.left mA kA
      have bA := b9.trans ((t0.wx.below mA (by simp; omega)).mono zb)
      have zA := mA.size
      clear NA t0 kA mA b9
      go_wp2_with fail
      (with_reducible refine (NB.out _ _ _ _ tA.wy (by simp) (by simp at zA; omega)).mono ?_)
      rintro e wB ⟨rfl, kB, mB⟩
      have tt := tA.right mB kB
      have bb := bA.trans ((tA.wy.below mB (by simp at zA; omega)).mono zb)
      have zz : B0 ≤ wB.heap.size := by have := mB.size; simp at zA; omega
      simp only [List.nil_append] at tt
      clear NB tA kB mB bA zA
      go_wp2_with fail
      (with_reducible refine (ST.out _ _ _ _ tt.wx la).mono ?_)
      rintro e wC ⟨rfl, kk, mm⟩
      replace bb := bb.trans ((tt.wx.below mm zz).mono zb)
      replace tt := tt.left mm kk
      replace zz := Nat.le_trans zz mm.size
      clear kk mm
      go_wp2_with fail
      (with_reducible refine (ST.out _ _ _ _ tt.wy lb).mono ?_)
      rintro e wD ⟨rfl, kk, mm⟩
      replace bb := bb.trans ((tt.wy.below mm zz).mono zb)
      replace tt := tt.right mm kk
      replace zz := Nat.le_trans zz mm.size
      clear kk mm
      go_wp2_with fail
      (with_reducible refine (ST.out _ _ _ _ tt.wx la).mono ?_)
      rintro e wE ⟨rfl, kk, mm⟩
      replace bb := bb.trans ((tt.wx.below mm zz).mono zb)
      replace tt := tt.left mm kk
      replace zz := Nat.le_trans zz mm.size
      clear kk mm
      go_wp2_with fail
      (with_reducible refine (ST.out _ _ _ _ tt.wy lb).mono ?_)
      rintro e wF ⟨rfl, kk, mm⟩
      replace bb := bb.trans ((tt.wy.below mm zz).mono zb)
      replace tt := tt.right mm kk
      replace zz := Nat.le_trans zz mm.size
      clear kk mm
      go_wp2
      go_ret
      exact ⟨rfl, bb⟩
    · subst hab
      go_enter Try.func6, Try.ntmps6
      go_wp2_with fail
      (with_reducible refine (awake_any _).mono ?_)
      rintro e w1 ⟨rfl, b1⟩
      go_wp2_with fail
      (with_reducible refine (S1.out _).mono ?_)
      rintro e w2 ⟨rfl, rfl⟩
      clear S1
      go_wp2_with fail
      (with_reducible refine (RR.out _).mono ?_)
      rintro e w3 ⟨rfl, r3, b3⟩
      have b4 := b1.trans (b3.mono b1.size)
      have hc : w.heap.size ≤ w2.heap.size := b1.size
      generalize w2.heap.size = c at *
      clear RR b1 b3
      go_wp2_with fail
      (with_reducible refine (RN.out _ _ r3).mono ?_)
      rintro e w4 ⟨rfl, r4, a4⟩
      have b5 := b4.trans (a4.below hc b4.size)
      clear RN r3 a4 b4
      have k0 := fresh_wr w4
      have r5 := r4.call ((Below.refl _ _).alloc (Nat.le_refl _) (.cells #[.pointer none, .slice none 0 0, .pointer none] 30))
      have b6 := b5.alloc b5.size (.cells #[.pointer none, .slice none 0 0, .pointer none] 30)
      have hne : c ≠ w4.heap.size := by have := r4.lt; omega
      have hz := b5.size
      clear r4
      go_wp2_with fail
      (with_reducible refine (NN.out _ _ _ _ k0 (by simp) (by simp)).mono ?_)
      rintro e w6 ⟨rfl, k6, m6⟩
      have r6 := r5.moved m6 k0 (by decide) hne
      have b7 := b6.trans ((k0.below m6 (by simp)).mono hz)
      have z7 := m6.size
      rw [List.nil_append] at k6
      clear NN k0 r5 m6 b6
      go_wp2_with fail
      (with_reducible refine (ST.out _ _ _ _ k6 ln).mono ?_)
      rintro e w7 ⟨rfl, k7, m7⟩
      have r7 := r6.moved m7 k6 (by decide) hne
      have b8 := b7.trans ((k6.below m7 (by simp at z7; omega)).mono hz)
      clear k6 r6 m7 b7 k7 z7 b5
      go_wp2_with fail
      (with_reducible refine (GO.out _ _ r7).mono ?_)
      rintro e w8 ⟨rfl, rfl⟩
      clear GO r7
      have t0 := two_new w8
      have zb : w.heap.size ≤ w8.heap.size := b8.size
      have b9 := (b8.alloc zb (.cells #[.pointer none, .slice none 0 0, .pointer none] 30)).alloc (by simp; omega) (.cells #[.pointer none, .slice none 0 0, .pointer none] 30)
      generalize hB0 : w8.heap.size = B0 at *
      clear b8 hne
      go_wp2_with fail
      (with_reducible refine (NA.out _ _ _ _ t0.wx (by simp) (by simp; omega)).mono ?_)
      rintro e wA ⟨rfl, kA, mA⟩
      have tA := t0.left mA kA
      have bA := b9.trans ((t0.wx.below mA (by simp; omega)).mono zb)
      have zA := mA.size
      clear NA t0 kA mA b9
      go_wp2_with fail
      (with_reducible refine (NB.out _ _ _ _ tA.wy (by simp) (by simp at zA; omega)).mono ?_)
      rintro e wB ⟨rfl, kB, mB⟩
      have tt := tA.right mB kB
      have bb := bA.trans ((tA.wy.below mB (by simp at zA; omega)).mono zb)
      have zz : B0 ≤ wB.heap.size := by have := mB.size; simp at zA; omega
      simp only [List.nil_append] at tt
      clear NB tA kB mB bA zA
      go_wp2_with fail
      (with_reducible refine (ST.out _ _ _ _ tt.wx la).mono ?_)
      rintro e wC ⟨rfl, kk, mm⟩
      replace bb := bb.trans ((tt.wx.below mm zz).mono zb)
      replace tt := tt.left mm kk
      replace zz := Nat.le_trans zz mm.size
      clear kk mm
      go_wp2_with fail
      (with_reducible refine (ST.out _ _ _ _ tt.wy lb).mono ?_)
      rintro e wD ⟨rfl, kk, mm⟩
      replace bb := bb.trans ((tt.wy.below mm zz).mono zb)
      replace tt := tt.right mm kk
      replace zz := Nat.le_trans zz mm.size
      clear kk mm
      go_wp2_with fail
      (with_reducible refine (ST.out _ _ _ _ tt.wx la).mono ?_)
      rintro e wE ⟨rfl, kk, mm⟩
      replace bb := bb.trans ((tt.wx.below mm zz).mono zb)
      replace tt := tt.left mm kk
      replace zz := Nat.le_trans zz mm.size
      clear kk mm
      go_wp2_with fail
      (with_reducible refine (ST.out _ _ _ _ tt.wy lb).mono ?_)
      rintro e wF ⟨rfl, kk, mm⟩
      replace bb := bb.trans ((tt.wy.below mm zz).mono zb)
      replace tt := tt.right mm kk
      replace zz := Nat.le_trans zz mm.size
      clear kk mm
      go_wp2
      go_ret
      exact ⟨rfl, bb⟩
    · have e1 : ((mkB (enc a)).toList == (mkB (enc b)).toList) = false := by
        rw [toList_mkB, toList_mkB]; simp; exact fun e => absurd (enc_inj ha hb e) (by omega)
      have e2 : ((a : Int) == (b : Int)) = false := by simp; omega
      have e2' : (a == b) = false := by simp; omega
      go_enter Try.func6, Try.ntmps6
      go_wp2_with fail
      (with_reducible refine (awake_any _).mono ?_)
      rintro e w1 ⟨rfl, b1⟩
      go_wp2_with fail
      (with_reducible refine (S1.out _).mono ?_)
      rintro e w2 ⟨rfl, rfl⟩
      clear S1
      go_wp2_with fail
      (with_reducible refine (RR.out _).mono ?_)
      rintro e w3 ⟨rfl, r3, b3⟩
      have b4 := b1.trans (b3.mono b1.size)
      have hc : w.heap.size ≤ w2.heap.size := b1.size
      generalize w2.heap.size = c at *
      clear RR b1 b3
      go_wp2_with fail
      (with_reducible refine (RN.out _ _ r3).mono ?_)
      rintro e w4 ⟨rfl, r4, a4⟩
      have b5 := b4.trans (a4.below hc b4.size)
      clear RN r3 a4 b4
      have k0 := fresh_wr w4
      have r5 := r4.call ((Below.refl _ _).alloc (Nat.le_refl _) (.cells #[.pointer none, .slice none 0 0, .pointer none] 30))
      have b6 := b5.alloc b5.size (.cells #[.pointer none, .slice none 0 0, .pointer none] 30)
      have hne : c ≠ w4.heap.size := by have := r4.lt; omega
      have hz := b5.size
      clear r4
      go_wp2_with fail
      (with_reducible refine (NN.out _ _ _ _ k0 (by simp) (by simp)).mono ?_)
      rintro e w6 ⟨rfl, k6, m6⟩
      have r6 := r5.moved m6 k0 (by decide) hne
      have b7 := b6.trans ((k0.below m6 (by simp)).mono hz)
      have z7 := m6.size
      rw [List.nil_append] at k6
      clear NN k0 r5 m6 b6
      go_wp2_with fail
      (with_reducible refine (ST.out _ _ _ _ k6 ln).mono ?_)
      rintro e w7 ⟨rfl, k7, m7⟩
      have r7 := r6.moved m7 k6 (by decide) hne
      have b8 := b7.trans ((k6.below m7 (by simp at z7; omega)).mono hz)
      clear k6 r6 m7 b7 k7 z7 b5
      go_wp2_with fail
      (with_reducible refine (GO.out _ _ r7).mono ?_)
      rintro e w8 ⟨rfl, rfl⟩
      clear GO r7
      have t0 := two_new w8
      have zb : w.heap.size ≤ w8.heap.size := b8.size
      have b9 := (b8.alloc zb (.cells #[.pointer none, .slice none 0 0, .pointer none] 30)).alloc (by simp; omega) (.cells #[.pointer none, .slice none 0 0, .pointer none] 30)
      generalize hB0 : w8.heap.size = B0 at *
      clear b8 hne
      go_wp2_with fail
      (with_reducible refine (NA.out _ _ _ _ t0.wx (by simp) (by simp; omega)).mono ?_)
      rintro e wA ⟨rfl, kA, mA⟩
      have tA := t0.left mA kA
      have bA := b9.trans ((t0.wx.below mA (by simp; omega)).mono zb)
      have zA := mA.size
      clear NA t0 kA mA b9
      go_wp2_with fail
      (with_reducible refine (NB.out _ _ _ _ tA.wy (by simp) (by simp at zA; omega)).mono ?_)
      rintro e wB ⟨rfl, kB, mB⟩
      have tt := tA.right mB kB
      have bb := bA.trans ((tA.wy.below mB (by simp at zA; omega)).mono zb)
      have zz : B0 ≤ wB.heap.size := by have := mB.size; simp at zA; omega
      simp only [List.nil_append] at tt
      clear NB tA kB mB bA zA
      go_wp2_with fail
      (with_reducible refine (ST.out _ _ _ _ tt.wx la).mono ?_)
      rintro e wC ⟨rfl, kk, mm⟩
      replace bb := bb.trans ((tt.wx.below mm zz).mono zb)
      replace tt := tt.left mm kk
      replace zz := Nat.le_trans zz mm.size
      clear kk mm
      go_wp2_with fail
      (with_reducible refine (ST.out _ _ _ _ tt.wy lb).mono ?_)
      rintro e wD ⟨rfl, kk, mm⟩
      replace bb := bb.trans ((tt.wy.below mm zz).mono zb)
      replace tt := tt.right mm kk
      replace zz := Nat.le_trans zz mm.size
      clear kk mm
      go_wp2
      go_ret
      exact ⟨rfl, bb⟩
  | some r =>
    have e0 := hR r rfl
    have hz0 : t.size = (enc n).length + r.length := by rw [← list_size t, e0, List.length_append]
    have GO : Hid (∀ W c, Rd RC c (some r) W → Calls Try.prog 28 #[self c] W fun e w' => e = .returned (.bool true) ∧ w' = W) := Lib.hid (fun W c k => good_any c (some r) W k)
    have LF : Hid (∀ W c, Rd RC c (some r) W → Calls Try.prog 31 #[self c] W fun e w' => e = .returned (.int .i64 (r.length : Int)) ∧ w' = W) := Lib.hid (fun W c k => left_rd c (some r) W k)
    have q1 : (t.size : Int) - (r.length : Int) = ((mkB (enc n)).size : Int) := by rw [mkB_size]; omega
    have q2 : t.extract 0 (mkB (enc n)).size = mkB (enc n) := mkB_ext (by rw [extract_list, e0, mkB_size]; simp)
    have q3 : ((mkB (enc n)).size : Int) ≤ (t.size : Int) := by rw [mkB_size]; omega
    have q4 : r.length ≤ 20 := by omega
    clear hR e0 hz0
    rcases Nat.lt_trichotomy a b with hab | hab | hab
    · have e1 : ((mkB (enc a)).toList == (mkB (enc b)).toList) = false := by
        rw [toList_mkB, toList_mkB]; simp; exact fun e => absurd (enc_inj ha hb e) (by omega)
      have e2 : ((a : Int) == (b : Int)) = false := by simp; omega
      have e2' : (a == b) = false := by simp; omega
      have e3 : ((mkB (enc a)).size : Int) ≤ ((mkB (enc b)).size : Int) := by rw [mkB_size, mkB_size]; have := enc_mono (Nat.le_of_lt hab); omega
      go_enter Try.func6, Try.ntmps6
      go_wp2_with fail
      (with_reducible refine (awake_any _).mono ?_)
      rintro e w1 ⟨rfl, b1⟩
      go_wp2_with fail
      (with_reducible refine (S1.out _).mono ?_)
      rintro e w2 ⟨rfl, rfl⟩
      clear S1
      go_wp2_with fail
      (with_reducible refine (RR.out _).mono ?_)
      rintro e w3 ⟨rfl, r3, b3⟩
      have b4 := b1.trans (b3.mono b1.size)
      have hc : w.heap.size ≤ w2.heap.size := b1.size
      generalize w2.heap.size = c at *
      clear RR b1 b3
      go_wp2_with fail
      (with_reducible refine (RN.out _ _ r3).mono ?_)
      rintro e w4 ⟨rfl, r4, a4⟩
      have b5 := b4.trans (a4.below hc b4.size)
      clear RN r3 a4 b4
      have k0 := fresh_wr w4
      have r5 := r4.call ((Below.refl _ _).alloc (Nat.le_refl _) (.cells #[.pointer none, .slice none 0 0, .pointer none] 30))
      have b6 := b5.alloc b5.size (.cells #[.pointer none, .slice none 0 0, .pointer none] 30)
      have hne : c ≠ w4.heap.size := by have := r4.lt; omega
      have hz := b5.size
      clear r4
      go_wp2_with fail
      (with_reducible refine (NN.out _ _ _ _ k0 (by simp) (by simp)).mono ?_)
      rintro e w6 ⟨rfl, k6, m6⟩
      have r6 := r5.moved m6 k0 (by decide) hne
      have b7 := b6.trans ((k0.below m6 (by simp)).mono hz)
      have z7 := m6.size
      rw [List.nil_append] at k6
      clear NN k0 r5 m6 b6
      go_wp2_with fail
      (with_reducible refine (ST.out _ _ _ _ k6 ln).mono ?_)
      rintro e w7 ⟨rfl, k7, m7⟩
      have r7 := r6.moved m7 k6 (by decide) hne
      have b8 := b7.trans ((k6.below m7 (by simp at z7; omega)).mono hz)
      clear k6 r6 m7 b7 k7 z7 b5
      go_wp2_with fail
      (with_reducible refine (GO.out _ _ r7).mono ?_)
      rintro e w8 ⟨rfl, rfl⟩
      go_wp2_with fail
      (with_reducible refine (LF.out _ _ r7).mono ?_)
      rintro e w9 ⟨rfl, rfl⟩
      clear GO LF r7
      have t0 := two_new w9
      have zb : w.heap.size ≤ w9.heap.size := b8.size
      have b9 := (b8.alloc zb (.cells #[.pointer none, .slice none 0 0, .pointer none] 30)).alloc (by simp; omega) (.cells #[.pointer none, .slice none 0 0, .pointer none] 30)
      generalize hB0 : w9.heap.size = B0 at *
      clear b8 hne
      go_wp2_with fail
      (with_reducible refine (NA.out _ _ _ _ t0.wx (by simp) (by simp; omega)).mono ?_)
      rintro e wA ⟨rfl, kA, mA⟩
      have tA := t0.left mA kA
      have bA := b9.trans ((t0.wx.below mA (by simp; omega)).mono zb)
      have zA := mA.size
      clear NA t0 kA mA b9
      go_wp2_with fail
      (with_reducible refine (NB.out _ _ _ _ tA.wy (by simp) (by simp at zA; omega)).mono ?_)
      rintro e wB ⟨rfl, kB, mB⟩
      have tt := tA.right mB kB
      have bb := bA.trans ((tA.wy.below mB (by simp at zA; omega)).mono zb)
      have zz : B0 ≤ wB.heap.size := by have := mB.size; simp at zA; omega
      simp only [List.nil_append] at tt
      clear NB tA kB mB bA zA
      go_wp2_with fail
      (with_reducible refine (ST.out _ _ _ _ tt.wx la).mono ?_)
      rintro e wC ⟨rfl, kk, mm⟩
      replace bb := bb.trans ((tt.wx.below mm zz).mono zb)
      replace tt := tt.left mm kk
      replace zz := Nat.le_trans zz mm.size
      clear kk mm
      go_wp2_with fail
      (with_reducible refine (ST.out _ _ _ _ tt.wy lb).mono ?_)
      rintro e wD ⟨rfl, kk, mm⟩
      replace bb := bb.trans ((tt.wy.below mm zz).mono zb)
      replace tt := tt.right mm kk
      replace zz := Nat.le_trans zz mm.size
      clear kk mm
      go_wp2_with fail
      (with_reducible refine (ST.out _ _ _ _ tt.wx la).mono ?_)
      rintro e wE ⟨rfl, kk, mm⟩
      replace bb := bb.trans ((tt.wx.below mm zz).mono zb)
      replace tt := tt.left mm kk
      replace zz := Nat.le_trans zz mm.size
      clear kk mm
      go_wp2_with fail
      (with_reducible refine (ST.out _ _ _ _ tt.wy lb).mono ?_)
      rintro e wF ⟨rfl, kk, mm⟩
      replace bb := bb.trans ((tt.wy.below mm zz).mono zb)
      replace tt := tt.right mm kk
      replace zz := Nat.le_trans zz mm.size
      clear kk mm
      go_wp2
      go_ret
      exact ⟨rfl, bb⟩
    · subst hab
      go_enter Try.func6, Try.ntmps6
      go_wp2_with fail
      (with_reducible refine (awake_any _).mono ?_)
      rintro e w1 ⟨rfl, b1⟩
      go_wp2_with fail
      (with_reducible refine (S1.out _).mono ?_)
      rintro e w2 ⟨rfl, rfl⟩
      clear S1
      go_wp2_with fail
      (with_reducible refine (RR.out _).mono ?_)
      rintro e w3 ⟨rfl, r3, b3⟩
      have b4 := b1.trans (b3.mono b1.size)
      have hc : w.heap.size ≤ w2.heap.size := b1.size
      generalize w2.heap.size = c at *
      clear RR b1 b3
      go_wp2_with fail
      (with_reducible refine (RN.out _ _ r3).mono ?_)
      rintro e w4 ⟨rfl, r4, a4⟩
      have b5 := b4.trans (a4.below hc b4.size)
      clear RN r3 a4 b4
      have k0 := fresh_wr w4
      have r5 := r4.call ((Below.refl _ _).alloc (Nat.le_refl _) (.cells #[.pointer none, .slice none 0 0, .pointer none] 30))
      have b6 := b5.alloc b5.size (.cells #[.pointer none, .slice none 0 0, .pointer none] 30)
      have hne : c ≠ w4.heap.size := by have := r4.lt; omega
      have hz := b5.size
      clear r4
      go_wp2_with fail
      (with_reducible refine (NN.out _ _ _ _ k0 (by simp) (by simp)).mono ?_)
      rintro e w6 ⟨rfl, k6, m6⟩
      have r6 := r5.moved m6 k0 (by decide) hne
      have b7 := b6.trans ((k0.below m6 (by simp)).mono hz)
      have z7 := m6.size
      rw [List.nil_append] at k6
      clear NN k0 r5 m6 b6
      go_wp2_with fail
      (with_reducible refine (ST.out _ _ _ _ k6 ln).mono ?_)
      rintro e w7 ⟨rfl, k7, m7⟩
      have r7 := r6.moved m7 k6 (by decide) hne
      have b8 := b7.trans ((k6.below m7 (by simp at z7; omega)).mono hz)
      clear k6 r6 m7 b7 k7 z7 b5
      go_wp2_with fail
      (with_reducible refine (GO.out _ _ r7).mono ?_)
      rintro e w8 ⟨rfl, rfl⟩
      go_wp2_with fail
      (with_reducible refine (LF.out _ _ r7).mono ?_)
      rintro e w9 ⟨rfl, rfl⟩
      clear GO LF r7
      have t0 := two_new w9
      have zb : w.heap.size ≤ w9.heap.size := b8.size
      have b9 := (b8.alloc zb (.cells #[.pointer none, .slice none 0 0, .pointer none] 30)).alloc (by simp; omega) (.cells #[.pointer none, .slice none 0 0, .pointer none] 30)
      generalize hB0 : w9.heap.size = B0 at *
      clear b8 hne
      go_wp2_with fail
      (with_reducible refine (NA.out _ _ _ _ t0.wx (by simp) (by simp; omega)).mono ?_)
      rintro e wA ⟨rfl, kA, mA⟩
      have tA := t0.left mA kA
      have bA := b9.trans ((t0.wx.below mA (by simp; omega)).mono zb)
      have zA := mA.size
      clear NA t0 kA mA b9
      go_wp2_with fail
      (with_reducible refine (NB.out _ _ _ _ tA.wy (by simp) (by simp at zA; omega)).mono ?_)
      rintro e wB ⟨rfl, kB, mB⟩
      have tt := tA.right mB kB
      have bb := bA.trans ((tA.wy.below mB (by simp at zA; omega)).mono zb)
      have zz : B0 ≤ wB.heap.size := by have := mB.size; simp at zA; omega
      simp only [List.nil_append] at tt
      clear NB tA kB mB bA zA
      go_wp2_with fail
      (with_reducible refine (ST.out _ _ _ _ tt.wx la).mono ?_)
      rintro e wC ⟨rfl, kk, mm⟩
      replace bb := bb.trans ((tt.wx.below mm zz).mono zb)
      replace tt := tt.left mm kk
      replace zz := Nat.le_trans zz mm.size
      clear kk mm
      go_wp2_with fail
      (with_reducible refine (ST.out _ _ _ _ tt.wy lb).mono ?_)
      rintro e wD ⟨rfl, kk, mm⟩
      replace bb := bb.trans ((tt.wy.below mm zz).mono zb)
      replace tt := tt.right mm kk
      replace zz := Nat.le_trans zz mm.size
      clear kk mm
      go_wp2_with fail
      (with_reducible refine (ST.out _ _ _ _ tt.wx la).mono ?_)
      rintro e wE ⟨rfl, kk, mm⟩
      replace bb := bb.trans ((tt.wx.below mm zz).mono zb)
      replace tt := tt.left mm kk
      replace zz := Nat.le_trans zz mm.size
      clear kk mm
      go_wp2_with fail
      (with_reducible refine (ST.out _ _ _ _ tt.wy lb).mono ?_)
      rintro e wF ⟨rfl, kk, mm⟩
      replace bb := bb.trans ((tt.wy.below mm zz).mono zb)
      replace tt := tt.right mm kk
      replace zz := Nat.le_trans zz mm.size
      clear kk mm
      go_wp2
      go_ret
      exact ⟨rfl, bb⟩
    · have e1 : ((mkB (enc a)).toList == (mkB (enc b)).toList) = false := by
        rw [toList_mkB, toList_mkB]; simp; exact fun e => absurd (enc_inj ha hb e) (by omega)
      have e2 : ((a : Int) == (b : Int)) = false := by simp; omega
      have e2' : (a == b) = false := by simp; omega
      go_enter Try.func6, Try.ntmps6
      go_wp2_with fail
      (with_reducible refine (awake_any _).mono ?_)
      rintro e w1 ⟨rfl, b1⟩
      go_wp2_with fail
      (with_reducible refine (S1.out _).mono ?_)
      rintro e w2 ⟨rfl, rfl⟩
      clear S1
      go_wp2_with fail
      (with_reducible refine (RR.out _).mono ?_)
      rintro e w3 ⟨rfl, r3, b3⟩
      have b4 := b1.trans (b3.mono b1.size)
      have hc : w.heap.size ≤ w2.heap.size := b1.size
      generalize w2.heap.size = c at *
      clear RR b1 b3
      go_wp2_with fail
      (with_reducible refine (RN.out _ _ r3).mono ?_)
      rintro e w4 ⟨rfl, r4, a4⟩
      have b5 := b4.trans (a4.below hc b4.size)
      clear RN r3 a4 b4
      have k0 := fresh_wr w4
      have r5 := r4.call ((Below.refl _ _).alloc (Nat.le_refl _) (.cells #[.pointer none, .slice none 0 0, .pointer none] 30))
      have b6 := b5.alloc b5.size (.cells #[.pointer none, .slice none 0 0, .pointer none] 30)
      have hne : c ≠ w4.heap.size := by have := r4.lt; omega
      have hz := b5.size
      clear r4
      go_wp2_with fail
      (with_reducible refine (NN.out _ _ _ _ k0 (by simp) (by simp)).mono ?_)
      rintro e w6 ⟨rfl, k6, m6⟩
      have r6 := r5.moved m6 k0 (by decide) hne
      have b7 := b6.trans ((k0.below m6 (by simp)).mono hz)
      have z7 := m6.size
      rw [List.nil_append] at k6
      clear NN k0 r5 m6 b6
      go_wp2_with fail
      (with_reducible refine (ST.out _ _ _ _ k6 ln).mono ?_)
      rintro e w7 ⟨rfl, k7, m7⟩
      have r7 := r6.moved m7 k6 (by decide) hne
      have b8 := b7.trans ((k6.below m7 (by simp at z7; omega)).mono hz)
      clear k6 r6 m7 b7 k7 z7 b5
      go_wp2_with fail
      (with_reducible refine (GO.out _ _ r7).mono ?_)
      rintro e w8 ⟨rfl, rfl⟩
      go_wp2_with fail
      (with_reducible refine (LF.out _ _ r7).mono ?_)
      rintro e w9 ⟨rfl, rfl⟩
      clear GO LF r7
      have t0 := two_new w9
      have zb : w.heap.size ≤ w9.heap.size := b8.size
      have b9 := (b8.alloc zb (.cells #[.pointer none, .slice none 0 0, .pointer none] 30)).alloc (by simp; omega) (.cells #[.pointer none, .slice none 0 0, .pointer none] 30)
      generalize hB0 : w9.heap.size = B0 at *
      clear b8 hne
      go_wp2_with fail
      (with_reducible refine (NA.out _ _ _ _ t0.wx (by simp) (by simp; omega)).mono ?_)
      rintro e wA ⟨rfl, kA, mA⟩
      have tA := t0.left mA kA
      have bA := b9.trans ((t0.wx.below mA (by simp; omega)).mono zb)
      have zA := mA.size
      clear NA t0 kA mA b9
      go_wp2_with fail
      (with_reducible refine (NB.out _ _ _ _ tA.wy (by simp) (by simp at zA; omega)).mono ?_)
      rintro e wB ⟨rfl, kB, mB⟩
      have tt := tA.right mB kB
      have bb := bA.trans ((tA.wy.below mB (by simp at zA; omega)).mono zb)
      have zz : B0 ≤ wB.heap.size := by have := mB.size; simp at zA; omega
      simp only [List.nil_append] at tt
      clear NB tA kB mB bA zA
      go_wp2_with fail
      (with_reducible refine (ST.out _ _ _ _ tt.wx la).mono ?_)
      rintro e wC ⟨rfl, kk, mm⟩
      replace bb := bb.trans ((tt.wx.below mm zz).mono zb)
      replace tt := tt.left mm kk
      replace zz := Nat.le_trans zz mm.size
      clear kk mm
      go_wp2_with fail
      (with_reducible refine (ST.out _ _ _ _ tt.wy lb).mono ?_)
      rintro e wD ⟨rfl, kk, mm⟩
      replace bb := bb.trans ((tt.wy.below mm zz).mono zb)
      replace tt := tt.right mm kk
      replace zz := Nat.le_trans zz mm.size
      clear kk mm
      go_wp2
      go_ret
      exact ⟨rfl, bb⟩

set_option maxRecDepth 100000 in
set_option maxHeartbeats 1600000 in
theorem lifted (os : Os) (started : os.Started) (H : Type) (enc : TypeId × Value → H) :
    ReturnsInHanded {} Try.checked os 6 .any (Rows.octetOneSpec.pre6 enc Try.prog Try.f6 Rows.octetOneRow.domain false) (Rows.octetOneSpec.post enc Try.prog Try.f6 false true false false) := by
  refine returnsInHanded_of_change (C := Try.checked) own started (by kernel_rfl) Try.func6
    (ChangeSpec.witness6 (enc := enc) (C := Try.checked) false ⟨#[], #[.string ⟨#[]⟩, .int .u64 0, .int .u64 0], []⟩ 8 (by kernel_rfl) (by kernel_rfl) (by kernel_rfl) (by kernel_rfl)) ?_
  intro W base args ds gs before hval0 hW hcnd _
  have hval : ∀ (j : Nat) t v, Try.f6.params[j]? = some t → args[j]? = some v → Value.okWide Try.prog W .any base t v := hval0
  have hW' := hW
  obtain ⟨p, q, hA0, hV, rfl, hfz, hnd⟩ := hW
  have hA : DataW.TrodAll enc Try.prog W 0 (fun _ => true) true Try.f6.params.toList args.toList ds p := hA0
  rw [Try.params6] at hA hval
  obtain ⟨v0, vs0, d0, ds0, p0, q0, hargs, rfl, rfl, h0, r0⟩ := trodAll_cons hA
  obtain ⟨v1, vs1, d1, ds1, p1, q1, rfl, rfl, rfl, h1, r1⟩ := trodAll_cons r0
  obtain ⟨v2, vs2, d2, ds2, p2, q2, rfl, rfl, rfl, h2, r2⟩ := trodAll_cons r1
  obtain ⟨rfl, rfl, rfl⟩ := trodAll_nil r2
  obtain rfl : args = #[v0, v1, v2] := by cases args; simp_all
  obtain ⟨rfl, rfl⟩ := trodVars_none hV
  have lt0 : ∀ x ∈ p0, x.block < W.heap.size := by obtain ⟨m, hm⟩ := h0; exact DataW.trod_lt m _ _ _ hm
  obtain ⟨s, e0, -, -, szs⟩ := Go.ChangeMaps.open_string Try.underlying9 (hval 0 9 v0 rfl rfl) h0
  subst e0
  have lt1 : ∀ x ∈ p1, x.block < W.heap.size := by obtain ⟨m, hm⟩ := h1; exact DataW.trod_lt m _ _ _ hm
  obtain ⟨n1, e1, -, -, wfa⟩ := open_int Try.underlying31 (hval 1 31 v1 rfl rfl) h1
  subst e1
  obtain ⟨a, rfl, wa⟩ := is64_nat wfa
  have lt2 : ∀ x ∈ p2, x.block < W.heap.size := by obtain ⟨m, hm⟩ := h2; exact DataW.trod_lt m _ _ _ hm
  obtain ⟨n2, e2, -, -, wfb⟩ := open_int Try.underlying31 (hval 2 31 v2 rfl rfl) h2
  subst e2
  obtain ⟨b, rfl, wb⟩ := is64_nat wfb
  clear hA0 hval0
  refine (walk s a b W wa wb).mono fun e W' ⟨he, bel⟩ => ?_
  subst he
  exact ⟨_, rfl, _, _, _, [], _, [], hW', trodAll_mk1 (shut_bool Try.underlying4 _), (trodAll_cons_mk (Below.trod laidOut (by kernel_rfl) (of_decide_eq_true (by kernel_rfl)) h0 bel lt0) (trodAll_cons_mk (Below.trod laidOut (by kernel_rfl) (of_decide_eq_true (by kernel_rfl)) h1 bel lt1) (trodAll_cons_mk (Below.trod laidOut (by kernel_rfl) (of_decide_eq_true (by kernel_rfl)) h2 bel lt2) trodAll_mk0))), rfl, bel.frame _, fun h => by cases h⟩

theorem proved : Rows.OctetOneSaid :=
  OpenClaim.holds_of_wide 6 Try.f6 rfl rfl rfl rfl rfl rfl rfl ⟨rfl, rfl, rfl, rfl, rfl⟩ rfl rfl rfl rfl rfl (by kernel_rfl) Try.func6 (by kernel_rfl)
    (of_decide_eq_true (by kernel_rfl)) (by unfold Func.isWrapper; first | (rw [if_pos (by decide +kernel)]; kernel_rfl) | (rw [if_neg (by decide +kernel)]; exact ⟨rfl, rfl⟩))
    (fun os started H enc _ => lifted os started H enc)
#print axioms proved
end Go.Proofs.Ythmbnnbdphobiaa.octetOne
