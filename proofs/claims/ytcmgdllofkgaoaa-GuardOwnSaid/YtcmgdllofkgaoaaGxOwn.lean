/- horariumlaw17.GuardOwn answers true at every two numbers and every period: what is released of one says nothing of another; what was forgotten may be released at once. No condition. -/
import Derived.Test.YtcmgdllofkgaoaaGdK
namespace Go.Proofs.Ytcmgdllofkgaoaa.guardOwn
open Go.ChangeShapes Go.WideShapes Go.ChangeAt Go.RowKit Go.Joins
set_option maxRecDepth 100000
set_option linter.unusedVariables false
set_option linter.unusedSimpArgs false
open Gd

set_option maxRecDepth 100000 in
set_option maxHeartbeats 16000000 in
theorem walk (a b period : Int) (w : World) (wa : -9223372036854775808 ≤ a ∧ a ≤ 9223372036854775807) (wb : -9223372036854775808 ≤ b ∧ b ≤ 9223372036854775807) : Calls Try.prog 5 #[.int .i64 a, .int .i64 b, .int .i64 period] w fun e w' => e = .returned (.bool true) ∧ Below w.heap.size w w' := by
  have AW := Lib.hid awake_any
  have NW := Lib.hid new_any
  have RE := Lib.hid (fun g mo L i p n hi hL W h hB => release_any w.heap.size g mo L i p n hi hL W h hB)
  have NE := Lib.hid (fun g mo L i hi W h => next_any w.heap.size g mo L i hi W h)
  have FO := Lib.hid (fun g mo L i hi W h => forget_any w.heap.size g mo L i hi W h)
  obtain ⟨k, hk, k0, k1⟩ : ∃ k, bits .and .i64 period 2147483647 = k ∧ 0 ≤ k ∧ k ≤ 2147483647 := ⟨_, and_pow period 2147483647 31 (by decide) (by decide), by omega, by omega⟩
  obtain ⟨p, hp⟩ : ∃ p, p = 1 + k := ⟨_, rfl⟩
  have hkw : IntKind.i64.wrap (1 + k) = p := by rw [hp]; exact IntWalk.i64_in _ (by omega)
  have hpw : IntKind.i64.wrap (10 + p) = 10 + p := IntWalk.i64_in _ (by omega)
  have hm : may p 10 = true := decide_eq_true (by omega)
  obtain ⟨a1, ha1⟩ : ∃ a1, IntKind.i64.wrap (a - 1) = a1 := ⟨_, rfl⟩
  have wa1 : -9223372036854775808 ≤ a1 ∧ a1 ≤ 9223372036854775807 := by rw [← ha1, IntKind.wrap_i64]; omega
  have hne : ¬ a = a1 := by rw [← ha1, IntKind.wrap_i64]; omega
  obtain ⟨L1, hL1⟩ : ∃ L1 : List Kn, L1 = put [] ⟨a, 10, 10 + p⟩ := ⟨_, rfl⟩
  obtain ⟨L2, hL2⟩ : ∃ L2 : List Kn, L2 = if a = b then L1 else put L1 ⟨b, 10, 10 + p⟩ := ⟨_, rfl⟩
  obtain ⟨L3, hL3⟩ : ∃ L3 : List Kn, L3 = cut L2 a := ⟨_, rfl⟩
  obtain ⟨L4, hL4⟩ : ∃ L4 : List Kn, L4 = put L3 ⟨a, 10, 10 + p⟩ := ⟨_, rfl⟩
  have s1 : ∀ i, lookK L1 i = if a = i then some ⟨a, 10, 10 + p⟩ else none := fun i => by rw [hL1, look_put]; rfl
  have s2 : ∀ i, lookK L2 i = if a = b then lookK L1 i else if b = i then some ⟨b, 10, 10 + p⟩ else lookK L1 i := fun i => by rw [hL2]; split <;> simp [look_put]
  have s3 : ∀ i, lookK L3 i = if a = i then none else lookK L2 i := fun i => by rw [hL3, look_cut]
  have s4 : ∀ i, lookK L4 i = if a = i then some ⟨a, 10, 10 + p⟩ else lookK L3 i := fun i => by rw [hL4, look_put]
  have l1 : L1.length ≤ 1 := by rw [hL1]; exact put_len _ _
  have l2 : L2.length ≤ 2 := by rw [hL2]; split; omega; have := put_len L1 ⟨b, 10, 10 + p⟩; omega
  have l3 : L3.length ≤ 2 := by rw [hL3]; have := cut_len L2 a; omega
  have n2 : nextOf L2 a = 10 + p := by
    unfold nextOf; rw [s2, s1]
    by_cases e : a = b
    · rw [if_pos e]; simp
    · rw [if_neg e, if_neg (by omega)]; simp
  have i2 : isIn L2 a = true := by
    unfold isIn; rw [s2, s1]
    by_cases e : a = b
    · rw [if_pos e]; simp
    · rw [if_neg e, if_neg (by omega)]; simp
  have n3 : nextOf L3 a = 0 := by unfold nextOf; rw [s3]; simp
  have i4 : isIn L4 a1 = (decide (a1 = b) && !decide (a = b)) := by
    unfold isIn; rw [s4, s3, s2, s1, if_neg hne, if_neg hne, if_neg hne]
    by_cases e : a = b
    · simp [e]
    · rw [if_neg e]
      by_cases e2 : b = a1
      · rw [if_pos e2, e2]; simp; omega
      · rw [if_neg e2]; simp; omega
  have A1 : relA [] a p 10 = 0 := by unfold relA; rw [hm]; rfl
  have X1 : relL [] a p 10 = L1 := by unfold relL; rw [hm, hL1]; rfl
  have A2 : relA L1 b p 10 = if a = b then 19 else 0 := by
    unfold relA; rw [hm]
    by_cases e : a = b
    · have : nextOf L1 b = 10 + p := by unfold nextOf; rw [s1, if_pos e]
      rw [this, if_pos e, if_pos (show (10 : Int) < 10 + p by omega)]; rfl
    · have : nextOf L1 b = 0 := by unfold nextOf; rw [s1, if_neg e]
      rw [this, if_neg e]; rfl
  have X2 : relL L1 b p 10 = L2 := by
    unfold relL; rw [hm, hL2]
    by_cases e : a = b
    · have : nextOf L1 b = 10 + p := by unfold nextOf; rw [s1, if_pos e]
      rw [this, if_pos e, if_pos (show (10 : Int) < 10 + p by omega)]; rfl
    · have : nextOf L1 b = 0 := by unfold nextOf; rw [s1, if_neg e]
      rw [this, if_neg e]; rfl
  have A4 : relA L3 a p 10 = 0 := by unfold relA; rw [hm, n3]; rfl
  have X4 : relL L3 a p 10 = L4 := by unfold relL; rw [hm, n3, hL4]; rfl
  have X3 := Lib.hid hL3
  have HX2 := Lib.hid X2
  have HX4 := Lib.hid X4
  have HX1 := Lib.hid X1
  have HA := Lib.hid (And.intro A1 (And.intro A2 A4))
  have HI := Lib.hid (And.intro n2 (And.intro i2 i4))
  clear s1 s2 s3 s4 hL1 hL2 hL3 hL4 n2 i2 n3 i4 A1 X1 A2 X2 A4 X4 hm hp
  go_enter Try.func5, Try.ntmps5
  go_wp2_with fail
  (with_reducible refine (AW.out _).mono ?_)
  rintro e w1 ⟨rfl, b1⟩
  have B1 := Lib.hid b1
  clear b1 AW
  go_wp2_with fail
  (with_reducible refine (NW.out _).mono ?_)
  rintro e w2 ⟨rfl, rfl⟩
  have H0 := Lib.hid (gm_new w1)
  have B2 : Hid (Below w.heap.size w (w1.alloc (.cells #[.map none] 47))) := Lib.hid (B1.out.alloc B1.out.size _)
  have hB0 : w.heap.size ≤ w1.heap.size := B1.out.size
  generalize w1.alloc (.cells #[.map none] 47) = W1 at *
  have H1 := Lib.hid (H0.out.mono hB0)
  generalize w1.heap.size = g at *
  clear H0 B1 NW hB0
  go_wp2_with fail
  (with_reducible refine (RE.out g none [] a p 10 wa (by simp) _ H1.out B2.out.size).mono ?_)
  rintro e w3 ⟨rfl, mo3, h3, m3, -⟩
  rw [HX1.out] at h3
  have H3 := Lib.hid h3
  have B3 := Lib.hid (m3.gm H1.out B2.out)
  have EA1 := HA.out.1
  clear h3 m3 H1 B2 HX1
  go_wp2_with fail
  (with_reducible refine (RE.out g mo3 L1 b p 10 wb (by omega) _ H3.out B3.out.size).mono ?_)
  rintro e w4 ⟨rfl, mo4, h4, m4, -⟩
  rw [HX2.out] at h4
  have H4 := Lib.hid h4
  have B4 := Lib.hid (m4.gm H3.out B3.out)
  have EA2 := HA.out.2.1
  clear h4 m4 H3 B3 HX2 EA1
  have EA4 := HA.out.2.2
  have EN2 := HI.out.1
  have EI2 := HI.out.2.1
  have EI4 := HI.out.2.2
  rw [HA.out.2.1]
  clear HA HI
  by_cases hab : a = b
  · have e1 : (a != b) = false := by simp [hab]
    have e2 : (a1 != b) = true := by simp; omega
    have e3 : decide (a1 = b) = false := decide_eq_false (by omega)
    have e4 : decide (a = b) = true := decide_eq_true hab
    rw [if_pos hab]
    rw [e3] at EI4
    clear hab e4
    go_wp2_with fail
    (with_reducible refine (NE.out g mo4 L2 a wa _ H4.out).mono ?_)
    rintro e w5 ⟨rfl, b5⟩
    have H5 := Lib.hid (H4.out.call b5)
    have B5 := Lib.hid (B4.out.trans (b5.mono B4.out.size))
    rw [EN2]
    clear b5 H4 B4 EN2
    go_wp2_with fail
    (with_reducible refine (FO.out g mo4 L2 a wa _ H5.out).mono ?_)
    rintro e w6 ⟨rfl, h6, m6⟩
    rw [← X3.out] at h6
    have H6 := Lib.hid h6
    have B6 := Lib.hid (m6.gm H5.out B5.out)
    rw [EI2]
    clear h6 m6 H5 B5 X3 EI2
    go_wp2_with fail
    (with_reducible refine (RE.out g mo4 L3 a p 10 wa (by omega) _ H6.out B6.out.size).mono ?_)
    rintro e w7 ⟨rfl, mo7, h7, m7, -⟩
    rw [HX4.out] at h7
    have H7 := Lib.hid h7
    have B7 := Lib.hid (m7.gm H6.out B6.out)
    rw [EA4]
    clear h7 m7 H6 B6 HX4 EA4
    go_wp2_with fail
    (with_reducible refine (FO.out g mo7 L4 a1 wa1 _ H7.out).mono ?_)
    rintro e w8 ⟨rfl, h8, m8⟩
    have B8 := Lib.hid (m8.gm H7.out B7.out)
    rw [EI4]
    clear h8 m8 H7 B7 EI4
    go_wp2
    go_ret
    exact ⟨rfl, B8.out⟩
  · have e1 : (a != b) = true := by simp [hab]
    have e4 : decide (a = b) = false := decide_eq_false hab
    rw [if_neg hab]
    rw [e4] at EI4
    by_cases hb1 : a1 = b
    · have e2 : (a1 != b) = false := by simp [hb1]
      rw [decide_eq_true hb1] at EI4
      clear hab e4 hb1
      go_wp2_with fail
      (with_reducible refine (NE.out g mo4 L2 a wa _ H4.out).mono ?_)
      rintro e w5 ⟨rfl, b5⟩
      have H5 := Lib.hid (H4.out.call b5)
      have B5 := Lib.hid (B4.out.trans (b5.mono B4.out.size))
      rw [EN2]
      clear b5 H4 B4 EN2
      go_wp2_with fail
      (with_reducible refine (FO.out g mo4 L2 a wa _ H5.out).mono ?_)
      rintro e w6 ⟨rfl, h6, m6⟩
      rw [← X3.out] at h6
      have H6 := Lib.hid h6
      have B6 := Lib.hid (m6.gm H5.out B5.out)
      rw [EI2]
      clear h6 m6 H5 B5 X3 EI2
      go_wp2_with fail
      (with_reducible refine (RE.out g mo4 L3 a p 10 wa (by omega) _ H6.out B6.out.size).mono ?_)
      rintro e w7 ⟨rfl, mo7, h7, m7, -⟩
      rw [HX4.out] at h7
      have H7 := Lib.hid h7
      have B7 := Lib.hid (m7.gm H6.out B6.out)
      rw [EA4]
      clear h7 m7 H6 B6 HX4 EA4
      go_wp2_with fail
      (with_reducible refine (FO.out g mo7 L4 a1 wa1 _ H7.out).mono ?_)
      rintro e w8 ⟨rfl, h8, m8⟩
      have B8 := Lib.hid (m8.gm H7.out B7.out)
      rw [EI4]
      clear h8 m8 H7 B7 EI4
      go_wp2
      go_ret
      exact ⟨rfl, B8.out⟩
    · have e2 : (a1 != b) = true := by simp [hb1]
      rw [decide_eq_false hb1] at EI4
      clear hab e4 hb1
      go_wp2_with fail
      (with_reducible refine (NE.out g mo4 L2 a wa _ H4.out).mono ?_)
      rintro e w5 ⟨rfl, b5⟩
      have H5 := Lib.hid (H4.out.call b5)
      have B5 := Lib.hid (B4.out.trans (b5.mono B4.out.size))
      rw [EN2]
      clear b5 H4 B4 EN2
      go_wp2_with fail
      (with_reducible refine (FO.out g mo4 L2 a wa _ H5.out).mono ?_)
      rintro e w6 ⟨rfl, h6, m6⟩
      rw [← X3.out] at h6
      have H6 := Lib.hid h6
      have B6 := Lib.hid (m6.gm H5.out B5.out)
      rw [EI2]
      clear h6 m6 H5 B5 X3 EI2
      go_wp2_with fail
      (with_reducible refine (RE.out g mo4 L3 a p 10 wa (by omega) _ H6.out B6.out.size).mono ?_)
      rintro e w7 ⟨rfl, mo7, h7, m7, -⟩
      rw [HX4.out] at h7
      have H7 := Lib.hid h7
      have B7 := Lib.hid (m7.gm H6.out B6.out)
      rw [EA4]
      clear h7 m7 H6 B6 HX4 EA4
      go_wp2_with fail
      (with_reducible refine (FO.out g mo7 L4 a1 wa1 _ H7.out).mono ?_)
      rintro e w8 ⟨rfl, h8, m8⟩
      have B8 := Lib.hid (m8.gm H7.out B7.out)
      rw [EI4]
      clear h8 m8 H7 B7 EI4
      go_wp2
      go_ret
      exact ⟨rfl, B8.out⟩

set_option maxRecDepth 100000 in
set_option maxHeartbeats 1600000 in
theorem lifted (os : Os) (started : os.Started) (H : Type) (enc : TypeId × Value → H) :
    ReturnsInHanded {} Try.checked os 5 .any (Rows.guardOwnSpec.pre6 enc Try.prog Try.f5 Rows.guardOwnRow.domain false) (Rows.guardOwnSpec.post enc Try.prog Try.f5 false true false false) := by
  refine returnsInHanded_of_change (C := Try.checked) own started (by kernel_rfl) Try.func5
    (ChangeSpec.witness6 (enc := enc) (C := Try.checked) false ⟨#[], #[.int .i64 0, .int .i64 0, .int .i64 0], []⟩ 8 (by kernel_rfl) (by kernel_rfl) (by kernel_rfl) (by kernel_rfl)) ?_
  intro W base args ds gs before hval0 hW hcnd _
  have hval : ∀ (j : Nat) t v, Try.f5.params[j]? = some t → args[j]? = some v → Value.okWide Try.prog W .any base t v := hval0
  have hW' := hW
  obtain ⟨p, q, hA0, hV, rfl, hfz, hnd⟩ := hW
  have hA : DataW.TrodAll enc Try.prog W 0 (fun _ => true) true Try.f5.params.toList args.toList ds p := hA0
  rw [Try.params5] at hA hval
  obtain ⟨v0, vs0, d0, ds0, p0, q0, hargs, rfl, rfl, h0, r0⟩ := trodAll_cons hA
  obtain ⟨v1, vs1, d1, ds1, p1, q1, rfl, rfl, rfl, h1, r1⟩ := trodAll_cons r0
  obtain ⟨v2, vs2, d2, ds2, p2, q2, rfl, rfl, rfl, h2, r2⟩ := trodAll_cons r1
  obtain ⟨rfl, rfl, rfl⟩ := trodAll_nil r2
  obtain rfl : args = #[v0, v1, v2] := by cases args; simp_all
  obtain ⟨rfl, rfl⟩ := trodVars_none hV
  have lt0 : ∀ x ∈ p0, x.block < W.heap.size := by obtain ⟨m, hm⟩ := h0; exact DataW.trod_lt m _ _ _ hm
  obtain ⟨a, e0, -, -, wfa⟩ := open_int Try.underlying3 (hval 0 3 v0 rfl rfl) h0
  subst e0
  have wa := wf_in wfa
  have lt1 : ∀ x ∈ p1, x.block < W.heap.size := by obtain ⟨m, hm⟩ := h1; exact DataW.trod_lt m _ _ _ hm
  obtain ⟨b, e1, -, -, wfb⟩ := open_int Try.underlying3 (hval 1 3 v1 rfl rfl) h1
  subst e1
  have wb := wf_in wfb
  have lt2 : ∀ x ∈ p2, x.block < W.heap.size := by obtain ⟨m, hm⟩ := h2; exact DataW.trod_lt m _ _ _ hm
  obtain ⟨period, e2, -, -, wfperiod⟩ := open_int Try.underlying2 (hval 2 2 v2 rfl rfl) h2
  subst e2
  have wperiod := wf_in wfperiod
  clear hA0 hval0
  refine (walk a b period W wa wb).mono fun e W' ⟨he, bel⟩ => ?_
  subst he
  exact ⟨_, rfl, _, _, _, [], _, [], hW', trodAll_mk1 (shut_bool Try.underlying4 _), (trodAll_cons_mk (Below.trod laidOut (by kernel_rfl) (of_decide_eq_true (by kernel_rfl)) h0 bel lt0) (trodAll_cons_mk (Below.trod laidOut (by kernel_rfl) (of_decide_eq_true (by kernel_rfl)) h1 bel lt1) (trodAll_cons_mk (Below.trod laidOut (by kernel_rfl) (of_decide_eq_true (by kernel_rfl)) h2 bel lt2) trodAll_mk0))), rfl, bel.frame _, fun h => by cases h⟩

theorem proved : Rows.GuardOwnSaid :=
  OpenClaim.holds_of_wide 5 Try.f5 rfl rfl rfl rfl rfl rfl rfl ⟨rfl, rfl, rfl, rfl, rfl⟩ rfl rfl rfl rfl rfl (by kernel_rfl) Try.func5 (by kernel_rfl)
    (of_decide_eq_true (by kernel_rfl)) (by unfold Func.isWrapper; first | (rw [if_pos (by decide +kernel)]; kernel_rfl) | (rw [if_neg (by decide +kernel)]; exact ⟨rfl, rfl⟩))
    (fun os started H enc _ => lifted os started H enc)
#print axioms proved
end Go.Proofs.Ytcmgdllofkgaoaa.guardOwn
