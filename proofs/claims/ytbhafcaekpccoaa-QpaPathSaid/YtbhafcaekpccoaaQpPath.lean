/- horariumlaw12.QpaPath answers true at every row of three numbers: the times on the path fall, and the last one tells whether the tasks fit. No condition. -/
import Derived.Test.YtbhafcaekpccoaaQpN
import Derived.Test.YtbhafcaekpccoaaQpD
import Derived.Test.YtbhafcaekpccoaaBsD
import Derived.Test.YtbhafcaekpccoaaDmD
import Derived.Deep.DeepCutAuto
import Derived.BigQuiet
namespace Go.Proofs.Ytbhafcaekpccoaa.qpaPath
open Go.ChangeShapes Go.WideShapes Go.ChangeAt Go.RowKit Go.Joins
set_option maxRecDepth 100000
set_option linter.unusedVariables false
set_option linter.unusedSimpArgs false
open Pm Qp

/-- what the law asks of a path -/
structure Pth (T : List Tk) (r : List Int) (N P te : Int) : Prop where
  many : r.length ≤ 1048576
  pair : ∀ i y z, r[i]? = some y → r[i + 1]? = some z → z < y ∧ 1 ≤ z
  tell : (r.length = 0 ∧ ((P < N ∧ te = 17) ∨ (N ≤ P ∧ te = 0))) ∨ (r.length ≠ 0 ∧ ∃ x, r[r.length - 1]? = some x ∧ ((te = 0 ∧ Dm.ofR T x ≤ x) ∨ (te = 17 ∧ x < Dm.ofR T x)))
theorem pth {T : List Tk} {r : List Int} (hN : Nice T) (h : PathOf T (pathO T) r) : Pth T r (loadR T).n (loadR T).p (testR T) := by
  obtain ⟨he, -, -, -⟩ := nice_load hN
  by_cases ho : (loadR T).n ≤ (loadR T).p
  · have hm := may_of he ho
    obtain ⟨m, hg, hE⟩ := Bs.good_of he ho
    have hp : pathO T = startP T := by unfold pathO; rw [hE, if_pos rfl]
    rw [hp] at h
    obtain ⟨hc, h2⟩ := pathOf_chain h
    obtain ⟨f1, f2, f3⟩ := chainP_fall (m := m) (fun y hy => start_in hg hE hy) hc
    have := hg.2.1
    refine ⟨by split at f2 <;> omega, fun i y z hy hz => ?_, ?_⟩
    · obtain ⟨hi, rfl⟩ := List.getElem?_eq_some_iff.1 hy
      obtain ⟨hj, rfl⟩ := List.getElem?_eq_some_iff.1 hz
      have h3 := List.pairwise_iff_getElem.1 f3 i (i + 1) hi hj (by omega)
      have h4 := f1 _ (List.getElem_mem hj)
      omega
    · rcases h2 with ⟨q, x, rfl, hx, -⟩ | ⟨ha, hb⟩
      · exact .inr ⟨by simp, x, by simp, .inr ⟨test_bad hm hc hx, hx⟩⟩
      · have ht := test_good hm hc ha hb
        by_cases h0 : r.length = 0
        · exact .inl ⟨h0, .inr ⟨ho, ht⟩⟩
        · have hl : r.length - 1 < r.length := by omega
          exact .inr ⟨h0, r[r.length - 1], List.getElem?_eq_getElem hl, .inl ⟨ht, hb _ (List.getElem_mem hl)⟩⟩
  · have hp : pathO T = none := by unfold pathO; rw [Bs.lengthR_over he (by omega)]; rfl
    rw [hp, pathOf_none] at h
    subst h
    refine ⟨by simp, fun i y z hy => by simp at hy, .inl ⟨rfl, .inl ⟨by omega, ?_⟩⟩⟩
    unfold testR
    rw [if_neg (by omega), if_pos (.inl (by omega))]
def PlRel (R : Nat) (W : World) (g : Nat) (s : Value) (wx : World) : Prop := ∃ J : Nat, J + g = R ∧ s = .int .i64 ((J : Int) + 1) ∧ Below W.heap.size W wx
set_option maxRecDepth 100000 in
set_option maxHeartbeats 8000000 in
theorem walk (l : List Tri) (ao : Option Addr) (cap : Nat) (w : World) (hT : Tris ao l w) (hl : l.length ≤ 9223372036854775807) (hok : ∀ x ∈ l, x.Ok) :
    Calls Try.prog 8 #[.slice ao l.length cap] w fun e w' => e = .returned (.bool true) ∧ Below w.heap.size w w' := by
  have AW := Lib.hid awake_any
  have MA := Lib.hid (fun w h => made_any l ao cap w h hl hok)
  have TI := Lib.hid hT
  have hlen : (made12 l).length ≤ 8 := by rw [made12_len]; omega
  have PA := Lib.hid (fun am cm w h => path_any (made12 l) am cm w h (by omega))
  have TE := Lib.hid (fun am cm w h => test_any (made12 l) am cm w h (by omega))
  have RL := Lib.hid (fun am cm w h => rload_any (made12 l) am cm w h (by omega))
  have OF := Lib.hid (fun am cm x w h => Dm.rof_any (made12 l) am cm x w h (by omega))
  have PT := Lib.hid (fun r h => pth (r := r) (made12_nice l) h)
  have C3 := Lib.hid (fun w a b c => Bs.cells3 w a b c 34)
  clear hT hok
  unfold Pm.Ld.v at RL
  generalize made12 l = T at *
  generalize testR T = te at *
  generalize loadR T = ld at *
  obtain ⟨N, P, E⟩ := ld
  simp only at *
  go_enter Try.func8, Try.ntmps8
  go_wp2_with fail
  (with_reducible refine (AW.out _).mono ?_)
  rintro e w1 ⟨rfl, b1⟩
  have K1 := Lib.hid b1
  clear b1 AW
  go_wp2_with fail
  (with_reducible refine (MA.out _ (TI.out.below K1.out (Nat.le_refl _))).mono ?_)
  rintro e w2 ⟨v, rfl, tr, b2⟩
  have K2 := Lib.hid (K1.out.trans (b2.mono K1.out.size))
  obtain ⟨am, cm, rfl, -, hts⟩ := tr.form
  have T2 := Lib.hid hts
  have P2 := Lib.hid (PA.out am cm _ hts)
  clear b2 tr hts MA TI K1
  go_wp2_with fail
  (with_reducible refine (P2.out).mono ?_)
  rintro e w3 ⟨v, r, rfl, nr, hr, b3⟩
  have K3 := Lib.hid (K2.out.trans (b3.mono K2.out.size))
  have T3 := Lib.hid (T2.out.call b3)
  have PR := Lib.hid (PT.out r hr)
  obtain ⟨pa, pc, rfl, -, hns⟩ := nr.form
  have N3 := Lib.hid hns
  have E3 := Lib.hid (TE.out am cm _ T3.out)
  clear b3 nr hr P2 T2 hns PA PT K2
  go_wp2_with fail
  (with_reducible refine (E3.out).mono ?_)
  rintro e w4 ⟨rfl, b4⟩
  have K4 := Lib.hid (K3.out.trans (b4.mono K3.out.size))
  have T4 := Lib.hid (T3.out.call b4)
  have N4 := Lib.hid (N3.out.call b4)
  clear b4 E3 T3 N3 TE K3
  have hmany := PR.out.many
  have S0 : Hid (PlRel r.length w4 r.length (.int .i64 1) w4) := Lib.hid ⟨0, by omega, rfl, Below.refl _ _⟩
  go_wp2_with fail
  obtain ⟨R, hR⟩ : ∃ R, r.length = R := ⟨_, rfl⟩
  rw [hR] at S0 hmany ⊢
  have HR := Lib.hid hR
  clear hR
  go_loopg [7] R (PlRel R w4)
  case atStart => exact S0.out
  case round =>
    obtain ⟨J, hj, rfl, hB⟩ := hrel
    have KB := Lib.hid hB
    by_cases hlt : J + 1 < R
    · have hrl := HR.out
      obtain ⟨b, off, rfl, hb, hat⟩ := N4.out (by omega)
      obtain ⟨y, hy⟩ : ∃ y, r[J]? = some y := ⟨r[J], List.getElem?_eq_getElem (by omega)⟩
      obtain ⟨z, hz⟩ : ∃ z, r[J + 1]? = some z := ⟨r[J + 1], List.getElem?_eq_getElem (by omega)⟩
      obtain ⟨p1, p2⟩ := PR.out.pair J y z hy hz
      have cy := carry hB (hat J y hy)
      have cz := carry hB (hat (J + 1) z hz)
      have hg0 : 0 < gk := by omega
      have HI := Lib.hid hj
      have i1 : (J : Int) + 1 < (R : Int) := by omega
      have i2 : (J : Int) < (R : Int) := by omega
      have i3 : (0 : Int) ≤ (J : Int) := by omega
      have i5 : (0 : Int) ≤ (J : Int) + 1 := by omega
      have ww0 : IntKind.i64.wrap (J : Int) = (J : Int) := wrap_in (by omega) (by omega)
      have d1 : decide (y ≤ z) = false := decide_eq_false (by omega)
      have d2 : decide (z < 1) = false := decide_eq_false (by omega)
      clear hrl hy hz p1 p2 hj hB hat hb S0 C3 RL OF N4 PR
      go_wp2_with fail
      go_quiet (fail)
      have K6 := Lib.hid (KB.out.trans ((below_drewN _ nq).mono KB.out.size))
      generalize wr.drewN nq = w6 at *
      clear cy cz KB
      go_wp2
      go_roundg (gk - 1)
      case measure => omega
      case rel => exact ⟨J + 1, by have := HI.out; omega, by go_num, K6.out⟩
    · have hge : (R : Int) ≤ (J : Int) + 1 := by omega
      have T5 := Lib.hid (T4.out.call hB)
      have N5 := Lib.hid (N4.out.call hB)
      have K5 := Lib.hid (K4.out.trans (hB.mono K4.out.size))
      have L5 := Lib.hid (RL.out am cm _ T5.out)
      clear hj hB KB S0 T4 N4 K4 RL hlt
      go_wp2_with fail
      (with_reducible refine L5.out.mono ?_)
      rintro e w6 ⟨rfl, b6⟩
      have T6 := Lib.hid ((T5.out.call b6).call ((Below.refl _ _).alloc (Nat.le_refl _) (.cells #[.int .i64 N, .int .i64 P, .int .i64 E] 34)))
      have N6 := Lib.hid ((N5.out.call b6).call ((Below.refl _ _).alloc (Nat.le_refl _) (.cells #[.int .i64 N, .int .i64 P, .int .i64 E] 34)))
      have K6 := Lib.hid ((K5.out.trans (b6.mono K5.out.size)).alloc (K5.out.trans (b6.mono K5.out.size)).size (.cells #[.int .i64 N, .int .i64 P, .int .i64 E] 34))
      obtain ⟨x0, x1, x2⟩ := C3.out w6 (.int .i64 N) (.int .i64 P) (.int .i64 E)
      clear b6 L5 T5 N5 K5 C3
      rcases PR.out.tell with ⟨h0, ht⟩ | ⟨h0, x, hx, ht⟩
      · have r0 : R = 0 := by rw [← HR.out]; exact h0
        subst r0
        have e0 : ((0 : Int) == 0) = true := rfl
        clear h0 OF T6 N6 PR hge hmany HR
        rcases ht with ⟨t1, rfl⟩ | ⟨t1, rfl⟩
        · have t2 : N > P := t1
          go_wp2
          go_ret
          exact ⟨rfl, K6.out⟩
        · go_wp2
          go_ret
          exact ⟨rfl, K6.out⟩
      · have hrl := HR.out
        obtain ⟨Q, hQ⟩ : ∃ Q, R = Q + 1 := ⟨R - 1, by omega⟩
        subst hQ
        rw [hrl] at hx
        simp only [Nat.add_sub_cancel] at hx
        obtain ⟨b, off, rfl, hb, hat⟩ := N6.out (by omega)
        have cx := hat Q x hx
        have e0 : (((Q + 1 : Nat) : Int) == 0) = false := by simp; omega
        have OX := Lib.hid (OF.out am cm x)
        have hx2 : ((Q : Int) + 1 == 0) = false := by simp; omega
        clear h0 hx hat hb hrl OF N6 PR HR hge x0 x1 x2
        generalize Dm.ofR T x = o at *
        have i1 : (Q : Int) < ((Q + 1 : Nat) : Int) := by omega
        go_wp2_with fail
        generalize (w6.alloc (.cells #[.int .i64 N, .int .i64 P, .int .i64 E] 34)) = W6 at *
        (with_reducible refine (OX.out _ T6.out).mono ?_)
        rintro e w7 ⟨rfl, b7⟩
        have K7 := Lib.hid (K6.out.trans (b7.mono K6.out.size))
        clear b7 T6 K6 OX cx
        rcases ht with ⟨rfl, t1⟩ | ⟨rfl, t1⟩
        · go_wp2
          go_ret
          exact ⟨rfl, K7.out⟩
        · have d1 : decide (o ≤ x) = false := decide_eq_false (by omega)
          go_wp2
          go_ret
          exact ⟨by simp [d1], K7.out⟩

set_option maxRecDepth 100000 in
set_option maxHeartbeats 1600000 in
theorem lifted (os : Os) (started : os.Started) (H : Type) (enc : TypeId × Value → H) :
    ReturnsInHanded {} Try.checked os 8 .any (Rows.qpaPathSpec.pre6 enc Try.prog Try.f8 Rows.qpaPathRow.domain false) (Rows.qpaPathSpec.post enc Try.prog Try.f8 false true false false) := by
  refine returnsInHanded_of_change (C := Try.checked) own started (by kernel_rfl) Try.func8
    (ChangeSpec.witness6 (enc := enc) (C := Try.checked) false ⟨#[], #[.slice none 0 0], []⟩ 8 (by kernel_rfl) (by kernel_rfl) (by kernel_rfl) (by kernel_rfl)) ?_
  intro W base args ds gs before hval0 hW hcnd _
  have hval : ∀ (j : Nat) t v, Try.f8.params[j]? = some t → args[j]? = some v → Value.okWide Try.prog W .any base t v := hval0
  have hW' := hW
  obtain ⟨p, q, hA0, hV, rfl, hfz, hnd⟩ := hW
  have hA : DataW.TrodAll enc Try.prog W 0 (fun _ => true) true Try.f8.params.toList args.toList ds p := hA0
  rw [Try.params8] at hA hval
  obtain ⟨v0, vs0, d0, ds0, p0, q0, hargs, rfl, rfl, h0, r0⟩ := trodAll_cons hA
  obtain ⟨rfl, rfl, rfl⟩ := trodAll_nil r0
  obtain rfl : args = #[v0] := by cases args; simp_all
  obtain ⟨rfl, rfl⟩ := trodVars_none hV
  have lt0 : ∀ x ∈ p0, x.block < W.heap.size := by obtain ⟨m, hm⟩ := h0; exact DataW.trod_lt m _ _ _ hm
  obtain ⟨aol, ll, capl, rfl, lel, val, okl⟩ := open_tris (hval 0 23 v0 rfl rfl) h0
  clear hA0 hval0
  refine (walk ll aol capl W val lel okl).mono fun e W' ⟨he, bel⟩ => ?_
  subst he
  exact ⟨_, rfl, _, _, _, [], _, [], hW', trodAll_mk1 (shut_bool Try.underlying4 _), (trodAll_cons_mk (Below.trod laidOut (by kernel_rfl) (of_decide_eq_true (by kernel_rfl)) h0 bel lt0) trodAll_mk0), rfl, bel.frame _, fun h => by cases h⟩

theorem proved : Rows.QpaPathSaid :=
  OpenClaim.holds_of_wide 8 Try.f8 rfl rfl rfl rfl rfl rfl rfl ⟨rfl, rfl, rfl, rfl, rfl⟩ rfl rfl rfl rfl rfl (by kernel_rfl) Try.func8 (by kernel_rfl)
    (of_decide_eq_true (by kernel_rfl)) (by unfold Func.isWrapper; first | (rw [if_pos (by decide +kernel)]; kernel_rfl) | (rw [if_neg (by decide +kernel)]; exact ⟨rfl, rfl⟩))
    (fun os started H enc _ => lifted os started H enc)
#print axioms proved
end Go.Proofs.Ytbhafcaekpccoaa.qpaPath
