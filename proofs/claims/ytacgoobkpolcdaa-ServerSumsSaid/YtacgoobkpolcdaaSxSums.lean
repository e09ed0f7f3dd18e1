/- horariumlaw19.ServerSums answers true at every two rows of numbers: what was asked waits, or was taken; no take is more than it may be, or than waits. No condition. -/
import Derived.Test.YtacgoobkpolcdaaSvK
namespace Go.Proofs.Ytacgoobkpolcdaa.serverSums
open Go.ChangeShapes Go.WideShapes Go.ChangeAt Go.RowKit Go.Joins
set_option maxRecDepth 100000
set_option linter.unusedVariables false
set_option linter.unusedSimpArgs false
open Sv
/-- i rounds were made -/
def SmRel (n : Nat) (w : World) (B g : Nat) (m : Nat) (s7 s8 s9 : Value) (wr : World) : Prop :=
  ∃ (i : Nat) (asked tk : Int) (a b : Option Nat) (L T : List Kn), i + m = n ∧ s7 = .int .i64 asked ∧ s8 = .int .i64 tk ∧ s9 = .int .i64 (i : Int) ∧ Pm B wr g a b L T ∧ Below B w wr ∧
    0 ≤ tk ∧ tk ≤ asked ∧ asked ≤ 1024 * (i : Int) ∧ vof L 5 = asked - tk ∧ vof T 5 = tk ∧ vof L 6 = 0

set_option maxRecDepth 100000 in
set_option maxHeartbeats 16000000 in
theorem walk (l q : List Int) (lo qo : Option Addr) (lc qc : Nat) (w : World) (hl : l.length ≤ 9223372036854775807) (hL : Ns lo l w) (hq : q.length ≤ 9223372036854775807) (hQ : Ns qo q w) : Calls Try.prog 4 #[.slice lo l.length lc, .slice qo q.length qc] w fun e w' => e = .returned (.bool true) ∧ Below w.heap.size w w' := by
  have AW := Lib.hid awake_any
  have NW := Lib.hid new_any
  have AS := Lib.hid (fun g a b L T i n W h hB => ask_any w.heap.size g a b L T i n W h hB)
  have TA := Lib.hid (fun g a b L T i m hi W h => take_any w.heap.size g a b L T i m hi W h)
  have BA := Lib.hid (fun g a b L T i hi W h => backlog_any w.heap.size g a b L T i hi W h)
  have TN := Lib.hid (fun g a b L T i hi W h => taken_any w.heap.size g a b L T i hi W h)
  have DR := Lib.hid (fun g a b L T i hi W h => drop_any w.heap.size g a b L T i hi W h)
  have WT := Lib.hid (fun g a b L T W h => waiting_any w.heap.size g a b L T W h)
  have NS := Lib.hid hL
  have NQ := Lib.hid hQ
  have i5 : I64 5 := by unfold I64; omega
  have i6 : I64 6 := by unfold I64; omega
  clear hL hQ WT
  go_enter Try.func4, Try.ntmps4
  go_wp2_with fail
  (with_reducible refine (AW.out _).mono ?_)
  rintro e w1 ⟨rfl, b1⟩
  have B1 := Lib.hid b1
  clear b1 AW
  go_wp2_with fail
  (with_reducible refine (NW.out _).mono ?_)
  rintro e w2 ⟨rfl, rfl⟩
  have H0 := Lib.hid (pm_new w1)
  have B2 : Hid (Below w.heap.size w (w1.alloc (.cells #[.map none, .map none] 44))) := Lib.hid (B1.out.alloc B1.out.size _)
  have hB0 : w.heap.size ≤ w1.heap.size := B1.out.size
  generalize w1.alloc (.cells #[.map none, .map none] 44) = W1 at *
  have H1 := Lib.hid (H0.out.mono hB0)
  generalize w1.heap.size = g at *
  clear H0 B1 NW hB0
  go_wp2_with fail
  go_loopg [7, 8, 9] (min (min l.length q.length) 40) (SmRel (min (min l.length q.length) 40) w w.heap.size g)
  case atStart => exact ⟨0, 0, 0, none, none, [], [], by omega, rfl, rfl, rfl, H1.out, B2.out, by omega, by omega, by omega, rfl, rfl, rfl⟩
  case round =>
    obtain ⟨i, asked, tk, a, b, L, T, hi, rfl, rfl, rfl, hpm, hb, n0, n1, n2, v5, t5, v6⟩ := hrel
    have HG := Lib.hid hpm
    have HB := Lib.hid hb
    clear H1 B2 hpm hb
    by_cases hlt : i < l.length ∧ i < q.length ∧ i < 40
    · obtain ⟨hl1, hl2, hl3⟩ := hlt
      obtain ⟨gl, off, rfl, hg, hat⟩ := (NS.out.below HB.out (Nat.le_refl _)) (by omega)
      obtain ⟨gq, offq, rfl, hgq, hatq⟩ := (NQ.out.below HB.out (Nat.le_refl _)) (by omega)
      obtain ⟨x, hx⟩ : ∃ x, l[i]? = some x := ⟨_, List.getElem?_eq_getElem hl1⟩
      obtain ⟨y, hy⟩ : ∃ y, q[i]? = some y := ⟨_, List.getElem?_eq_getElem hl2⟩
      have cx := hat i x hx
      have cy := hatq i y hy
      have hil : (i : Int) < (l.length : Int) := by omega
      have hiq : (i : Int) < (q.length : Int) := by omega
      have hi40 : (i : Int) < 40 := by omega
      have hi1w : IntKind.i64.wrap ((i : Int) + 1) = (i : Int) + 1 := IntWalk.i64_in _ (by omega)
      obtain ⟨u, hu, u0, u1⟩ : ∃ u, bits .and .i64 x 1023 = u ∧ 0 ≤ u ∧ u ≤ 1023 := ⟨_, and_pow x 1023 10 (by decide) (by decide), by omega, by omega⟩
      obtain ⟨v, hv, v0, v1⟩ : ∃ v, bits .and .i64 y 127 = v ∧ 0 ≤ v ∧ v ≤ 127 := ⟨_, and_pow y 127 7 (by decide) (by decide), by omega, by omega⟩
      obtain ⟨s, hs⟩ : ∃ s, s = 1 + u := ⟨_, rfl⟩
      have huw : IntKind.i64.wrap u = u := IntWalk.i64_in _ (by omega)
      have hvw : IntKind.i64.wrap v = v := IntWalk.i64_in _ (by omega)
      have hsw : IntKind.i64.wrap (1 + u) = s := by rw [hs]; exact IntWalk.i64_in _ (by omega)
      obtain ⟨A, hA⟩ : ∃ A, asked + s = A := ⟨_, rfl⟩
      obtain ⟨W, hW⟩ : ∃ W, A - tk = W := ⟨_, rfl⟩
      have hAw : IntKind.i64.wrap (asked + s) = A := by rw [hA]; exact IntWalk.i64_in _ (by omega)
      have hWw : IntKind.i64.wrap (A - tk) = W := by rw [hW]; exact IntWalk.i64_in _ (by omega)
      have hm : mayA 5 s = true := decide_eq_true (by omega)
      have hfl : ¬ 1099511627776 < vof L 5 + s := by rw [v5]; omega
      have eA : askA L 5 s = 0 := by unfold askA; rw [hm, if_neg hfl]; rfl
      obtain ⟨L1, hL1⟩ : ∃ L1, askL L 5 s = L1 := ⟨_, rfl⟩
      have x5 : vof L1 5 = W := by rw [← hL1, ask_val hm hfl, if_pos rfl, v5]; omega
      have x6 : vof L1 6 = 0 := by rw [← hL1, ask_val hm hfl, if_neg (by omega), v6]
      have hL1o : Ok L1 := by rw [← hL1]; exact HG.out.ok.ask 5 s
      have htT := HG.out.okt
      obtain ⟨L2, hL2⟩ : ∃ L2, takL L1 5 v = L2 := ⟨_, rfl⟩
      obtain ⟨T2, hT2⟩ : ∃ T2, takT L1 T 5 v = T2 := ⟨_, rfl⟩
      have z5 : vof L2 5 = W - min W v := by rw [← hL2, tak_val hL1o v0, if_pos rfl, x5]
      have z6 : vof L2 6 = 0 := by rw [← hL2, tak_val hL1o v0, if_neg (by omega), x6]
      have t5 : vof T2 5 = IntKind.i64.wrap (tk + min W v) := by rw [← hT2, takT_val hL1o htT v0, if_pos rfl, x5, t5]
      have tkn : took L1 5 v = min W v := by
        unfold took
        rw [x5]
        split
        · omega
        · rfl
      have W0 : 0 ≤ W := by omega
      have A1 : A ≤ 1024 * ((i : Int) + 1) := by omega
      have A0 : tk ≤ A := by omega
      have HI := Lib.hid hi
      have hg0 : 0 < gk := by omega
      have HE := Lib.hid (And.intro eA (And.intro hL1 (And.intro tkn (And.intro hL2 hT2))))
      clear hat hatq hx hy hi v5 x5 x6 v6 hm hfl hL1o htT u0 u1 hs eA hL1 tkn hL2 hT2 hA
      go_wp2_with fail
      (with_reducible refine (AS.out g a b L T 5 s _ HG.out HB.out.size).mono ?_)
      rintro e w3 ⟨rfl, a2, b2, h3, m3, -⟩
      rw [HE.out.2.1] at h3
      rw [HE.out.1]
      have H3 := Lib.hid h3
      have B3 := Lib.hid (m3.below HG.out HB.out)
      clear h3 m3 HG HB
      go_wp2_with fail
      (with_reducible refine (TA.out g a2 b2 L1 T 5 v i5 _ H3.out).mono ?_)
      rintro e w4 ⟨rfl, h4, m4⟩
      rw [HE.out.2.2.2.1, HE.out.2.2.2.2] at h4
      rw [HE.out.2.2.1]
      have H4 := Lib.hid h4
      have B4 := Lib.hid (m4.below H3.out B3.out)
      clear h4 m4 H3 B3 HE
      by_cases hWv : W < v
      · have hk : min W v = W := by omega
        rw [hk] at z5 t5 ⊢
        obtain ⟨K, hK⟩ : ∃ K, tk + W = K := ⟨_, rfl⟩
        obtain ⟨D, hD⟩ : ∃ D, A - K = D := ⟨_, rfl⟩
        have hKw : IntKind.i64.wrap (tk + W) = K := by rw [hK]; exact IntWalk.i64_in _ (by omega)
        have hDw : IntKind.i64.wrap (A - K) = D := by rw [hD]; exact IntWalk.i64_in _ (by omega)
        have zD : W - W = D := by omega
        rw [zD] at z5
        rw [hKw] at t5
        have K0 : 0 ≤ K := by omega
        have K1 : K ≤ A := by omega
        have ekk : (W != W) = false := by simp
        have emin : min v W = W := by omega
        have edd : (D != D) = false := by simp
        have eKK : (K != K) = false := by simp
        have hle1 : ¬ v < W := by omega
        have HZ := Lib.hid (And.intro z5 (And.intro z6 t5))
        have HD := Lib.hid hD
        clear z5 z6 t5 hk hK hD zD
        go_wp2_with fail
        (with_reducible refine (BA.out g a2 b2 L2 T2 5 i5 _ H4.out).mono ?_)
        rintro e _ ⟨rfl, rfl⟩
        rw [HZ.out.1]
        go_wp2_with fail
        (with_reducible refine (TN.out g a2 b2 L2 T2 5 i5 _ H4.out).mono ?_)
        rintro e _ ⟨rfl, rfl⟩
        rw [HZ.out.2.2]
        go_wp2_with fail
        (with_reducible refine (BA.out g a2 b2 L2 T2 6 i6 _ H4.out).mono ?_)
        rintro e _ ⟨rfl, rfl⟩
        rw [HZ.out.2.1]
        go_wp2
        go_roundg (gk - 1)
        case measure => omega
        case rel => exact ⟨i + 1, A, K, a2, b2, L2, T2, by have := HI.out; omega, rfl, rfl, by go_num, H4.out, B4.out, K0, K1, by omega, by rw [HD.out]; exact HZ.out.1, HZ.out.2.2, HZ.out.2.1⟩
      · have hvW : ¬ W < v := hWv
        have hk : min W v = v := by omega
        rw [hk] at z5 t5 ⊢
        obtain ⟨K, hK⟩ : ∃ K, tk + v = K := ⟨_, rfl⟩
        obtain ⟨D, hD⟩ : ∃ D, A - K = D := ⟨_, rfl⟩
        have hKw : IntKind.i64.wrap (tk + v) = K := by rw [hK]; exact IntWalk.i64_in _ (by omega)
        have hDw : IntKind.i64.wrap (A - K) = D := by rw [hD]; exact IntWalk.i64_in _ (by omega)
        have zD : W - v = D := by omega
        rw [zD] at z5
        rw [hKw] at t5
        have K0 : 0 ≤ K := by omega
        have K1 : K ≤ A := by omega
        have ekk : (v != v) = false := by simp
        have emin : min v W = v := by omega
        have edd : (D != D) = false := by simp
        have eKK : (K != K) = false := by simp
        have hvW2 : v ≤ W := by omega
        have HZ := Lib.hid (And.intro z5 (And.intro z6 t5))
        have HD := Lib.hid hD
        clear z5 z6 t5 hk hK hD zD
        go_wp2_with fail
        (with_reducible refine (BA.out g a2 b2 L2 T2 5 i5 _ H4.out).mono ?_)
        rintro e _ ⟨rfl, rfl⟩
        rw [HZ.out.1]
        go_wp2_with fail
        (with_reducible refine (TN.out g a2 b2 L2 T2 5 i5 _ H4.out).mono ?_)
        rintro e _ ⟨rfl, rfl⟩
        rw [HZ.out.2.2]
        go_wp2_with fail
        (with_reducible refine (BA.out g a2 b2 L2 T2 6 i6 _ H4.out).mono ?_)
        rintro e _ ⟨rfl, rfl⟩
        rw [HZ.out.2.1]
        go_wp2
        go_roundg (gk - 1)
        case measure => omega
        case rel => exact ⟨i + 1, A, K, a2, b2, L2, T2, by have := HI.out; omega, rfl, rfl, by go_num, H4.out, B4.out, K0, K1, by omega, by rw [HD.out]; exact HZ.out.1, HZ.out.2.2, HZ.out.2.1⟩
    · have FN := Lib.hid HB.out
      obtain ⟨D, hD⟩ : ∃ D, asked - tk = D := ⟨_, rfl⟩
      rw [hD] at v5
      have hDw : IntKind.i64.wrap (asked - tk) = D := by rw [hD]; exact IntWalk.i64_in _ (by omega)
      have hi9 : i ≤ 40 := by omega
      have edd : (D == D) = true := by simp
      have z1 : vof (cut L 5) 5 = 0 := by rw [vof_cut]; simp
      have z2 : vof (cut T 5) 5 = 0 := by rw [vof_cut]; simp
      have V5 := Lib.hid (And.intro v5 (And.intro z1 z2))
      clear v5 t5 v6 n0 n1 n2 hD z1 z2 hi
      by_cases h1 : i < l.length
      · have hil : (i : Int) < (l.length : Int) := by omega
        by_cases h2 : i < q.length
        · have hiq : (i : Int) < (q.length : Int) := by omega
          have hi40 : ¬ (i : Int) < 40 := by omega
          have hdec : decide (i < 40) = false := decide_eq_false (by omega)
          clear hlt
          go_wp2_with fail
          (with_reducible refine (DR.out g a b L T 5 i5 _ HG.out).mono ?_)
          rintro e w5 ⟨rfl, h5, m5⟩
          rw [V5.out.1]
          have H5 := Lib.hid h5
          have B5 := Lib.hid (m5.below HG.out FN.out)
          clear h5 m5 HG HB FN
          go_wp2_with fail
          (with_reducible refine (BA.out g a b _ _ 5 i5 _ H5.out).mono ?_)
          rintro e _ ⟨rfl, rfl⟩
          rw [V5.out.2.1]
          go_wp2_with fail
          (with_reducible refine (TN.out g a b _ _ 5 i5 _ H5.out).mono ?_)
          rintro e _ ⟨rfl, rfl⟩
          rw [V5.out.2.2]
          go_wp2
          go_ret
          exact ⟨rfl, B5.out⟩
        · have hge : (q.length : Int) ≤ (i : Int) := by omega
          have hdec : decide (i < q.length) = false := decide_eq_false (by omega)
          clear hlt
          go_wp2_with fail
          (with_reducible refine (DR.out g a b L T 5 i5 _ HG.out).mono ?_)
          rintro e w5 ⟨rfl, h5, m5⟩
          rw [V5.out.1]
          have H5 := Lib.hid h5
          have B5 := Lib.hid (m5.below HG.out FN.out)
          clear h5 m5 HG HB FN
          go_wp2_with fail
          (with_reducible refine (BA.out g a b _ _ 5 i5 _ H5.out).mono ?_)
          rintro e _ ⟨rfl, rfl⟩
          rw [V5.out.2.1]
          go_wp2_with fail
          (with_reducible refine (TN.out g a b _ _ 5 i5 _ H5.out).mono ?_)
          rintro e _ ⟨rfl, rfl⟩
          rw [V5.out.2.2]
          go_wp2
          go_ret
          exact ⟨rfl, B5.out⟩
      · have hge : (l.length : Int) ≤ (i : Int) := by omega
        have hdec : decide (i < l.length) = false := decide_eq_false (by omega)
        clear hlt
        go_wp2_with fail
        (with_reducible refine (DR.out g a b L T 5 i5 _ HG.out).mono ?_)
        rintro e w5 ⟨rfl, h5, m5⟩
        rw [V5.out.1]
        have H5 := Lib.hid h5
        have B5 := Lib.hid (m5.below HG.out FN.out)
        clear h5 m5 HG HB FN
        go_wp2_with fail
        (with_reducible refine (BA.out g a b _ _ 5 i5 _ H5.out).mono ?_)
        rintro e _ ⟨rfl, rfl⟩
        rw [V5.out.2.1]
        go_wp2_with fail
        (with_reducible refine (TN.out g a b _ _ 5 i5 _ H5.out).mono ?_)
        rintro e _ ⟨rfl, rfl⟩
        rw [V5.out.2.2]
        go_wp2
        go_ret
        exact ⟨rfl, B5.out⟩

set_option maxRecDepth 100000 in
set_option maxHeartbeats 1600000 in
theorem lifted (os : Os) (started : os.Started) (H : Type) (enc : TypeId × Value → H) :
    ReturnsInHanded {} Try.checked os 4 .any (Rows.serverSumsSpec.pre6 enc Try.prog Try.f4 Rows.serverSumsRow.domain false) (Rows.serverSumsSpec.post enc Try.prog Try.f4 false true false false) := by
  refine returnsInHanded_of_change (C := Try.checked) own started (by kernel_rfl) Try.func4
    (ChangeSpec.witness6 (enc := enc) (C := Try.checked) false ⟨#[], #[.slice none 0 0, .slice none 0 0], []⟩ 8 (by kernel_rfl) (by kernel_rfl) (by kernel_rfl) (by kernel_rfl)) ?_
  intro W base args ds gs before hval0 hW hcnd _
  have hval : ∀ (j : Nat) t v, Try.f4.params[j]? = some t → args[j]? = some v → Value.okWide Try.prog W .any base t v := hval0
  have hW' := hW
  obtain ⟨p, q, hA0, hV, rfl, hfz, hnd⟩ := hW
  have hA : DataW.TrodAll enc Try.prog W 0 (fun _ => true) true Try.f4.params.toList args.toList ds p := hA0
  rw [Try.params4] at hA hval
  obtain ⟨v0, vs0, d0, ds0, p0, q0, hargs, rfl, rfl, h0, r0⟩ := trodAll_cons hA
  obtain ⟨v1, vs1, d1, ds1, p1, q1, rfl, rfl, rfl, h1, r1⟩ := trodAll_cons r0
  obtain ⟨rfl, rfl, rfl⟩ := trodAll_nil r1
  obtain rfl : args = #[v0, v1] := by cases args; simp_all
  obtain ⟨rfl, rfl⟩ := trodVars_none hV
  have lt0 : ∀ x ∈ p0, x.block < W.heap.size := by obtain ⟨m, hm⟩ := h0; exact DataW.trod_lt m _ _ _ hm
  obtain ⟨lo, l, lc, rfl, ll, ls⟩ := open_nums (hval 0 37 v0 rfl rfl) h0
  have lt1 : ∀ x ∈ p1, x.block < W.heap.size := by obtain ⟨m, hm⟩ := h1; exact DataW.trod_lt m _ _ _ hm
  obtain ⟨qo, q, qc, rfl, ql, qs⟩ := open_nums (hval 1 37 v1 rfl rfl) h1
  clear hA0 hval0
  refine (walk l q lo qo lc qc W ll ls ql qs).mono fun e W' ⟨he, bel⟩ => ?_
  subst he
  exact ⟨_, rfl, _, _, _, [], _, [], hW', trodAll_mk1 (shut_bool Try.underlying4 _), (trodAll_cons_mk (Below.trod laidOut (by kernel_rfl) (of_decide_eq_true (by kernel_rfl)) h0 bel lt0) (trodAll_cons_mk (Below.trod laidOut (by kernel_rfl) (of_decide_eq_true (by kernel_rfl)) h1 bel lt1) trodAll_mk0)), rfl, bel.frame _, fun h => by cases h⟩

theorem proved : Rows.ServerSumsSaid :=
  OpenClaim.holds_of_wide 4 Try.f4 rfl rfl rfl rfl rfl rfl rfl ⟨rfl, rfl, rfl, rfl, rfl⟩ rfl rfl rfl rfl rfl (by kernel_rfl) Try.func4 (by kernel_rfl)
    (of_decide_eq_true (by kernel_rfl)) (by unfold Func.isWrapper; first | (rw [if_pos (by decide +kernel)]; kernel_rfl) | (rw [if_neg (by decide +kernel)]; exact ⟨rfl, rfl⟩))
    (fun os started H enc _ => lifted os started H enc)
#print axioms proved
end Go.Proofs.Ytacgoobkpolcdaa.serverSums
