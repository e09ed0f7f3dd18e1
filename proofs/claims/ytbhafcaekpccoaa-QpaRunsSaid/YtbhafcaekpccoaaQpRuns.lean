/- horariumlaw12.QpaRuns answers true at every row of three numbers: tasks that fit are all done in time by a processor that always does the work whose deadline is the earliest; of tasks that don't, but whose load is not above 1, one is late by the time that Miss tells. No condition. -/
import Derived.Test.YtbhafcaekpccoaaQpN
import Derived.Test.YtbhafcaekpccoaaQpC
import Derived.Test.YtbhafcaekpccoaaQpW
import Derived.Test.YtbhafcaekpccoaaBsD
import Derived.Deep.DeepCutAuto
import Derived.BigQuiet
namespace Go.Proofs.Ytbhafcaekpccoaa.qpaRuns
open Go.ChangeShapes Go.WideShapes Go.ChangeAt Go.RowKit Go.Joins
set_option maxRecDepth 100000
set_option linter.unusedVariables false
set_option linter.unusedSimpArgs false
open Pm Qp

set_option maxRecDepth 100000 in
set_option maxHeartbeats 8000000 in
theorem walk (l : List Tri) (ao : Option Addr) (cap : Nat) (w : World) (hT : Tris ao l w) (hl : l.length ≤ 9223372036854775807) (hok : ∀ x ∈ l, x.Ok) :
    Calls Try.prog 5 #[.slice ao l.length cap] w fun e w' => e = .returned (.bool true) ∧ Below w.heap.size w w' := by
  have AW := Lib.hid awake_any
  have MA := Lib.hid (fun w h => made_any l ao cap w h hl hok)
  have TI := Lib.hid hT
  have hlen : (made12 l).length ≤ 8 := by rw [made12_len]; omega
  have hN := made12_nice l
  have TE := Lib.hid (fun am cm w h => test_any (made12 l) am cm w h (by omega))
  have ME := Lib.hid (fun am cm w h => miss_any (made12 l) am cm w h (by omega))
  have RL := Lib.hid (fun am cm w h => rload_any (made12 l) am cm w h (by omega))
  obtain ⟨he, -, -, -⟩ := nice_load hN
  have OV : Hid ((loadR (made12 l)).p < (loadR (made12 l)).n → testR (made12 l) = 17) := Lib.hid (fun h => by unfold testR; rw [if_neg (by omega), if_pos (.inl h)])
  have MY : Hid ((loadR (made12 l)).n ≤ (loadR (made12 l)).p → May (made12 l)) := Lib.hid (fun h => may_of he h)
  have MM : Hid ((loadR (made12 l)).n ≤ (loadR (made12 l)).p → missR (made12 l) = ⟨missN (made12 l), 0⟩) := Lib.hid (fun h => missR_may he h)
  have RU : Hid ((loadR (made12 l)).n ≤ (loadR (made12 l)).p → ∀ am cm w, Ts am (made12 l) w → Calls Try.prog 20 #[.slice am (made12 l).length cm, .int .i64 (loadR (made12 l)).p] w fun e w' => e = .returned (.int .i64 (missN (made12 l))) ∧ Below w.heap.size w w') := Lib.hid (fun h am cm w ht => run_any (made12 l) am cm _ w ht hlen (may_of he h) rfl)
  have TT : Hid ((loadR (made12 l)).n ≤ (loadR (made12 l)).p → (missN (made12 l) = 0 ∧ testR (made12 l) = 0) ∨ (missN (made12 l) ≠ 0 ∧ testR (made12 l) = 17)) := Lib.hid (fun h => by
    have hm := may_of he h
    have h0 := missN_nonneg hm
    have ht := testR_may hm
    by_cases h1 : 0 < missN (made12 l)
    · rw [if_pos h1] at ht; exact .inr ⟨by omega, ht⟩
    · rw [if_neg h1] at ht; exact .inl ⟨by omega, ht⟩)
  have C3 := Lib.hid (fun w a b c => Bs.cells3 w a b c 34)
  clear hT hok hN MY
  unfold Pm.Ld.v at RL
  generalize made12 l = T at *
  generalize testR T = te at *
  generalize missN T = M at *
  generalize missR T = mr at *
  generalize loadR T = ld at *
  obtain ⟨N, P, E⟩ := ld
  simp only at *
  subst he
  go_enter Try.func5, Try.ntmps5
  go_wp2_with fail
  (with_reducible refine (AW.out _).mono ?_)
  rintro e w1 ⟨rfl, b1⟩
  have K1 := Lib.hid b1
  clear b1 AW
  go_wp2_with fail
  (with_reducible refine (MA.out _ (TI.out.below K1.out (Nat.le_refl _))).mono ?_)
  rintro e w2 ⟨v, rfl, tr, b2⟩
  have K2 := Lib.hid (K1.out.trans (b2.mono K1.out.size))
  obtain ⟨am, cm, rfl, -, hts⟩ := tr.form
  have T2 := Lib.hid hts
  have L2 := Lib.hid (RL.out am cm _ hts)
  clear b2 tr hts MA TI K1
  go_wp2_with fail
  (with_reducible refine L2.out.mono ?_)
  rintro e w3 ⟨rfl, b3⟩
  have T3 := Lib.hid ((T2.out.call b3).call ((Below.refl _ _).alloc (Nat.le_refl _) (.cells #[.int .i64 N, .int .i64 P, .int .i64 0] 34)))
  have K3 := Lib.hid ((K2.out.trans (b3.mono K2.out.size)).alloc (K2.out.trans (b3.mono K2.out.size)).size (.cells #[.int .i64 N, .int .i64 P, .int .i64 0] 34))
  obtain ⟨x0, x1, x2⟩ := C3.out w3 (.int .i64 N) (.int .i64 P) (.int .i64 0)
  clear b3 L2 T2 K2 C3 RL
  by_cases ho : P < N
  · have ho' : N > P := ho
    have e17 := OV.out ho
    have T4 := Lib.hid (TE.out am cm _ T3.out)
    rw [e17] at T4
    clear TE ME RU TT MM OV e17
    go_wp2_with fail
    generalize (w3.alloc (.cells #[.int .i64 N, .int .i64 P, .int .i64 0] 34)) = W3 at *
    (with_reducible refine T4.out.mono ?_)
    rintro e w4 ⟨rfl, b4⟩
    have K4 := Lib.hid (K3.out.trans (b4.mono K3.out.size))
    clear b4
    go_wp2
    go_ret
    exact ⟨rfl, K4.out⟩
  · have ho' : N ≤ P := by omega
    have TT2 := Lib.hid (TT.out ho')
    have RU2 := Lib.hid (RU.out ho' am cm)
    have hmr := MM.out ho'
    subst hmr
    have ME2 := Lib.hid (ME.out am cm)
    have TE2 := Lib.hid (TE.out am cm)
    clear TE ME RU TT MM OV ho
    simp only at ME2
    go_wp2_with fail
    generalize (w3.alloc (.cells #[.int .i64 N, .int .i64 P, .int .i64 0] 34)) = W3 at *
    (with_reducible refine (TE2.out _ T3.out).mono ?_)
    rintro e w4 ⟨rfl, b4⟩
    have y1 := carry b4 x1
    have K4 := Lib.hid (K3.out.trans (b4.mono K3.out.size))
    have T4 := Lib.hid (T3.out.call b4)
    clear b4 x0 x1 x2 T3 K3 TE2
    go_wp2_with fail
    (with_reducible refine (ME2.out _ T4.out).mono ?_)
    rintro e w5 ⟨rfl, b5⟩
    have y1 := carry b5 y1
    have K5 := Lib.hid (K4.out.trans (b5.mono K4.out.size))
    have T5 := Lib.hid (T4.out.call b5)
    clear b5 T4 K4 ME2
    go_wp2_with fail
    (with_reducible refine (RU2.out _ T5.out).mono ?_)
    rintro e w6 ⟨rfl, b6⟩
    have K6 := Lib.hid (K5.out.trans (b6.mono K5.out.size))
    have e1 : (M == M) = true := by simp
    clear b6 T5 K5 RU2
    rcases TT2.out with ⟨rfl, rfl⟩ | ⟨h1, rfl⟩
    · go_wp2
      go_ret
      exact ⟨rfl, K6.out⟩
    · have e2 : (M == 0) = false := by simpa using h1
      go_wp2
      go_ret
      exact ⟨rfl, K6.out⟩

set_option maxRecDepth 100000 in
set_option maxHeartbeats 1600000 in
theorem lifted (os : Os) (started : os.Started) (H : Type) (enc : TypeId × Value → H) :
    ReturnsInHanded {} Try.checked os 5 .any (Rows.qpaRunsSpec.pre6 enc Try.prog Try.f5 Rows.qpaRunsRow.domain false) (Rows.qpaRunsSpec.post enc Try.prog Try.f5 false true false false) := by
  refine returnsInHanded_of_change (C := Try.checked) own started (by kernel_rfl) Try.func5
    (ChangeSpec.witness6 (enc := enc) (C := Try.checked) false ⟨#[], #[.slice none 0 0], []⟩ 8 (by kernel_rfl) (by kernel_rfl) (by kernel_rfl) (by kernel_rfl)) ?_
  intro W base args ds gs before hval0 hW hcnd _
  have hval : ∀ (j : Nat) t v, Try.f5.params[j]? = some t → args[j]? = some v → Value.okWide Try.prog W .any base t v := hval0
  have hW' := hW
  obtain ⟨p, q, hA0, hV, rfl, hfz, hnd⟩ := hW
  have hA : DataW.TrodAll enc Try.prog W 0 (fun _ => true) true Try.f5.params.toList args.toList ds p := hA0
  rw [Try.params5] at hA hval
  obtain ⟨v0, vs0, d0, ds0, p0, q0, hargs, rfl, rfl, h0, r0⟩ := trodAll_cons hA
  obtain ⟨rfl, rfl, rfl⟩ := trodAll_nil r0
  obtain rfl : args = #[v0] := by cases args; simp_all
  obtain ⟨rfl, rfl⟩ := trodVars_none hV
  have lt0 : ∀ x ∈ p0, x.block < W.heap.size := by obtain ⟨m, hm⟩ := h0; exact DataW.trod_lt m _ _ _ hm
  obtain ⟨aol, ll, capl, rfl, lel, val, okl⟩ := open_tris (hval 0 23 v0 rfl rfl) h0
  clear hA0 hval0
  refine (walk ll aol capl W val lel okl).mono fun e W' ⟨he, bel⟩ => ?_
  subst he
  exact ⟨_, rfl, _, _, _, [], _, [], hW', trodAll_mk1 (shut_bool Try.underlying4 _), (trodAll_cons_mk (Below.trod laidOut (by kernel_rfl) (of_decide_eq_true (by kernel_rfl)) h0 bel lt0) trodAll_mk0), rfl, bel.frame _, fun h => by cases h⟩

theorem proved : Rows.QpaRunsSaid :=
  OpenClaim.holds_of_wide 5 Try.f5 rfl rfl rfl rfl rfl rfl rfl ⟨rfl, rfl, rfl, rfl, rfl⟩ rfl rfl rfl rfl rfl (by kernel_rfl) Try.func5 (by kernel_rfl)
    (of_decide_eq_true (by kernel_rfl)) (by unfold Func.isWrapper; first | (rw [if_pos (by decide +kernel)]; kernel_rfl) | (rw [if_neg (by decide +kernel)]; exact ⟨rfl, rfl⟩))
    (fun os started H enc _ => lifted os started H enc)
#print axioms proved
end Go.Proofs.Ytbhafcaekpccoaa.qpaRuns
