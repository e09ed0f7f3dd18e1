/- horariumlaw10.DemandSteps answers true at every row of three numbers and every time: work never falls, and rises at deadlines alone. No condition. -/
import Derived.Test.YtldaikpchggogaaDmK
import Derived.Deep.DeepCutAuto
import Derived.Deep.RegionHeld3
import Derived.BigQuiet
namespace Go.Proofs.Ytldaikpchggogaa.demandSteps
open Go.ChangeShapes Go.WideShapes Go.ChangeAt Go.RowKit Go.Joins
set_option maxRecDepth 100000
set_option linter.unusedVariables false
set_option linter.unusedSimpArgs false
open Pm Dm

theorem ofR_sum {T : List Tk} {x : Int} (hr : rowB T = true) (h : isTime x = true) : ofR T x = sum T x := by rw [ofR_yes hr, sumR_sum h (rowB_all hr)]
/-- what the law asks of a row of tasks at k -/
structure Ask (T : List Tk) (k a b : Int) (n p : Option Int) : Prop where
  fle : a ≤ b
  flt : (a < b) ↔ n = some k
  fno : n = none ↔ T.length = 0
  fge : ∀ y, n = some y → k ≤ y ∧ 1 ≤ y ∧ y ≤ 1099511627776
  fsa : n = some k ↔ p = some k
  fpk : ∀ y, p = some y → y ≤ k
  fpn : T.length = 0 → p = none
theorem ask {T : List Tk} {k : Int} (h8 : T.length ≤ 8) (hT : ∀ t ∈ T, chk t = true ∧ t.t ≤ 24) (k0 : 1 ≤ k) (k1 : k ≤ 2000) : Ask T k (ofR T (k - 1)) (ofR T k) (nextR T (k - 1)) (beforeR T (k + 1)) := by
  have hr : rowB T = true := rowB_yes (by omega) (fun t ht => (hT t ht).1)
  have hpos : ∀ t ∈ T, 0 < t.t ∧ 0 < t.c := fun t ht => by have := chk_iff.1 (hT t ht).1; omega
  have hpos2 : ∀ t ∈ T, 0 < t.t := fun t ht => (hpos t ht).1
  have hpos3 : ∀ t ∈ T, 0 < t.t ∧ 0 < t.d := fun t ht => by have := chk_iff.1 (hT t ht).1; omega
  have i0 : isTime (k - 1) = true := isTime_iff.2 ⟨by omega, by omega⟩
  have i1 : isTime k = true := isTime_iff.2 ⟨by omega, by omega⟩
  have i2 : isTime (k + 1) = true := isTime_iff.2 ⟨by omega, by omega⟩
  rw [ofR_sum hr i0, ofR_sum hr i1]
  have hs := sum_step (x := k) hpos
  have hdl : nextR T (k - 1) = some k ↔ ∃ t ∈ T, isDl t k := by
    constructor
    · intro h; exact (nextR_is hpos2 h).2.2.1
    · rintro ⟨t, ht, hd⟩
      cases hn : nextR T (k - 1) with
      | none => have := nextR_none hr i0 hpos2 hn t ht k hd (by omega); omega
      | some y =>
        obtain ⟨h1, h2, h3, h4⟩ := nextR_is hpos2 hn
        have := h4 t ht k hd (by omega)
        have : y = k := by omega
        rw [this]
  have hbe : beforeR T (k + 1) = some k ↔ ∃ t ∈ T, isDl t k := by
    unfold beforeR
    rw [if_pos ⟨hr, i2⟩]
    rcases befs_is (x := k + 1) hpos3 with ⟨h1, h2⟩ | ⟨h1, h2, h3, h4⟩
    · rw [if_neg (by omega)]
      constructor
      · intro h; cases h
      · rintro ⟨t, ht, hd⟩; have := h2 t ht; have := hd.1; omega
    · rw [if_pos h1]
      constructor
      · intro h
        have : befs T (k + 1) = k := by simpa using h
        rw [this] at h3; exact h3
      · rintro ⟨t, ht, hd⟩
        have := h4 t ht k hd (by omega)
        have : befs T (k + 1) = k := by omega
        rw [this]
  refine ⟨hs.1, hs.2.trans hdl.symm, ?_, fun y hy => ?_, hdl.trans hbe.symm, fun y hy => ?_, fun h0 => ?_⟩
  · constructor
    · intro h
      rcases Nat.eq_zero_or_pos T.length with h0 | h0
      · exact h0
      · exfalso
        obtain ⟨t, ht⟩ := List.exists_mem_of_length_pos h0
        have hn := nxt_gt (t := t) (x := k - 1) (hpos2 t ht)
        have hl := nxt_in (hT t ht).1 (x := k - 1) (by omega) (by omega)
        have := nextR_none hr i0 hpos2 h t ht _ hn.2 hn.1
        have hb : nxt t (k - 1) ≤ 100000 := by
          have hc := chk_iff.1 (hT t ht).1
          have h24 := (hT t ht).2
          unfold nxt
          split
          · omega
          · have h1 := Int.mul_ediv_self_le (x := k - 1 - t.d) (k := t.t) (by omega)
            rw [Int.mul_add]; omega
        omega
    · intro h
      rw [List.eq_nil_of_length_eq_zero h]; exact nextR_nil
  · obtain ⟨h1, h2, -⟩ := nextR_is hpos2 hy
    omega
  · unfold beforeR at hy
    rw [if_pos ⟨hr, i2⟩] at hy
    rcases befs_is (x := k + 1) hpos3 with ⟨h1, h2⟩ | ⟨h1, h2, h3, h4⟩
    · rw [if_neg (by omega)] at hy; cases hy
    · rw [if_pos h1] at hy; cases hy; omega
  · rw [List.eq_nil_of_length_eq_zero h0]; unfold beforeR; split <;> rfl
set_option maxRecDepth 100000 in
set_option maxHeartbeats 8000000 in
theorem walk (l : List Tri) (ao : Option Addr) (cap : Nat) (x : Int) (w : World) (hT : Tris ao l w) (hl : l.length ≤ 9223372036854775807) (hok : ∀ x ∈ l, x.Ok) (hx : I64 x) :
    Calls Try.prog 5 #[.slice ao l.length cap, .int .i64 x] w fun e w' => e = .returned (.bool true) ∧ Below w.heap.size w w' := by
  have AW := Lib.hid awake_any
  have MA := Lib.hid (fun w h => made_any l ao cap w h hl hok)
  have TI := Lib.hid hT
  obtain ⟨r1, p1, q1⟩ := rest_eq (x := x) (m := 2000) (by omega)
  have m1 := Int.emod_nonneg x (show (2000 : Int) ≠ 0 by omega)
  have m2 := Int.emod_lt_of_pos x (show (0 : Int) < 2000 by omega)
  generalize hR : x % 2000 = R at *
  have hml := made8_len l
  obtain ⟨le, lt, no, ge, sa, pk, pn⟩ := ask (T := made8 l) (k := 1 + R) (by omega) (fun t h => made8_mem h) (by omega) (by omega)
  have e1 : 1 + R - 1 = R := by omega
  have e2 : 1 + R + 1 = R + 2 := by omega
  rw [e1] at le lt no ge sa
  rw [e2] at sa pk pn
  have O1 := Lib.hid (fun am cm w h => of_any (made8 l) am cm R w h (by omega))
  have O2 := Lib.hid (fun am cm w h => of_any (made8 l) am cm (1 + R) w h (by omega))
  have N1 := Lib.hid (fun am cm w h => next_any (made8 l) am cm R w h (by omega))
  have B1 := Lib.hid (fun am cm w h => before_any (made8 l) am cm (R + 2) w h (by omega))
  have hm8 : (made8 l).length ≤ 8 := by omega
  clear hT hok hml hR
  go_enter Try.func5, Try.ntmps5
  go_wp2_with fail
  (with_reducible refine (AW.out _).mono ?_)
  rintro e w1 ⟨rfl, b1⟩
  have M1 := Lib.hid (MA.out _ (TI.out.below b1 (Nat.le_refl _)))
  have K1 := Lib.hid b1
  clear b1 MA AW TI
  go_wp2_with fail
  (with_reducible refine (M1.out).mono ?_)
  rintro e w2 ⟨v, rfl, tr, b2⟩
  obtain ⟨am, cm, rfl, -, hts⟩ := tr.form
  have T2 := Lib.hid hts
  have K2 := Lib.hid (K1.out.trans (b2.mono K1.out.size))
  have O1 := Lib.hid (O1.out am cm)
  have O2 := Lib.hid (O2.out am cm)
  have N1 := Lib.hid (N1.out am cm)
  have B1 := Lib.hid (B1.out am cm)
  clear tr hts b2 K1 M1
  generalize made8 l = T at *
  generalize ofR T R = a at *
  generalize ofR T (1 + R) = b at *
  generalize nextR T R = n at *
  generalize beforeR T (R + 2) = p at *
  have hz : n = none ↔ T.length = 0 := no
  have A1 := Lib.hid le
  have A2 := Lib.hid lt
  have A3 := Lib.hid no
  have A4 := Lib.hid ge
  have A5 := Lib.hid sa
  have A6 := Lib.hid pk
  have A7 := Lib.hid pn
  clear le lt no ge sa pk pn hz
  go_wp2_with fail
  (with_reducible refine (O1.out _ T2.out).mono ?_)
  rintro e w3 ⟨rfl, b3⟩
  have T3 := Lib.hid (T2.out.call b3)
  have K3 := Lib.hid (K2.out.trans (b3.mono K2.out.size))
  clear b3 T2 K2
  go_wp2_with fail
  (with_reducible refine (O2.out _ T3.out).mono ?_)
  rintro e w4 ⟨rfl, b4⟩
  have T4 := Lib.hid (T3.out.call b4)
  have K4 := Lib.hid (K3.out.trans (b4.mono K3.out.size))
  clear b4 T3 K3
  cases n with
  | none =>
    have h0 := A3.out.1 rfl
    have hl0 : ((T.length : Nat) : Int) = 0 := by omega
    obtain rfl : p = none := A7.out h0
    have NL : ¬ a < b := fun h => by have := A2.out.1 h; cases this
    generalize T.length = ln at *
    subst h0
    have hba : b = a := by
      have h1 := A1.out
      have h2 : ¬ a < b := NL
      omega
    clear NL A1 A2 A3 A4 A5 A6 A7
    subst hba
    unfold ans at N1 B1
    simp only at N1 B1
    go_wp2_with fail
    (with_reducible refine (N1.out _ T4.out).mono ?_)
    rintro e w5 ⟨rfl, b5⟩
    have T5 := Lib.hid (T4.out.call b5)
    have K5 := Lib.hid (K4.out.trans (b5.mono K4.out.size))
    clear b5 T4 K4
    go_wp2_with fail
    (with_reducible refine (B1.out _ T5.out).mono ?_)
    rintro e w6 ⟨rfl, b6⟩
    have K6 := Lib.hid (K5.out.trans (b6.mono K5.out.size))
    clear b6 T5 K5 N1 B1 O1 O2
    go_wp2
    go_ret
    exact ⟨rfl, K6.out⟩
  | some z =>
    obtain ⟨g1, g2, g3⟩ := A4.out z rfl
    have hl0 : (0 : Int) < ((T.length : Nat) : Int) := by
      have : ¬ T.length = 0 := fun h => by have := A3.out.2 h; cases this
      omega
    by_cases hz : z = 1 + R
    · have h1 : a < b := A2.out.2 (by rw [hz])
      obtain rfl : p = some (1 + R) := A5.out.1 (by rw [hz])
      subst hz
      have h2 : a ≤ b := by omega
      clear A1 A2 A3 A4 A5 A6 A7
      unfold ans at N1 B1
      simp only at N1 B1
      go_wp2_with fail
      (with_reducible refine (N1.out _ T4.out).mono ?_)
      rintro e w5 ⟨rfl, b5⟩
      have T5 := Lib.hid (T4.out.call b5)
      have K5 := Lib.hid (K4.out.trans (b5.mono K4.out.size))
      clear b5 T4 K4
      go_wp2_with fail
      (with_reducible refine (B1.out _ T5.out).mono ?_)
      rintro e w6 ⟨rfl, b6⟩
      have K6 := Lib.hid (K5.out.trans (b6.mono K5.out.size))
      clear b6 T5 K5 N1 B1 O1 O2
      go_wp2
      go_ret
      exact ⟨rfl, K6.out⟩
    · have NL : ¬ a < b := fun h => by have := A2.out.1 h; simp at this; exact hz this
      have g4 : (z == 1 + R) = false := beq_eq_false_iff_ne.2 hz
      have NP : ¬ p = some (1 + R) := fun h => by have := A5.out.2 h; simp at this; exact hz this
      cases p with
      | none =>
        have hba : b = a := by
          have h1 := A1.out
          have h2 : ¬ a < b := NL
          omega
        clear NL NP hz A1 A2 A3 A4 A5 A6 A7
        subst hba
        unfold ans at N1 B1
        simp only at N1 B1
        go_wp2_with fail
        (with_reducible refine (N1.out _ T4.out).mono ?_)
        rintro e w5 ⟨rfl, b5⟩
        have T5 := Lib.hid (T4.out.call b5)
        have K5 := Lib.hid (K4.out.trans (b5.mono K4.out.size))
        clear b5 T4 K4
        go_wp2_with fail
        (with_reducible refine (B1.out _ T5.out).mono ?_)
        rintro e w6 ⟨rfl, b6⟩
        have K6 := Lib.hid (K5.out.trans (b6.mono K5.out.size))
        clear b6 T5 K5 N1 B1 O1 O2
        go_wp2
        go_ret
        exact ⟨rfl, K6.out⟩
      | some y =>
        have g5 : (y == 1 + R) = false := beq_eq_false_iff_ne.2 (fun h => NP (by rw [h]))
        have hba : b = a := by
          have h1 := A1.out
          have h2 : ¬ a < b := NL
          omega
        clear NL NP hz A1 A2 A3 A4 A5 A6 A7
        subst hba
        unfold ans at N1 B1
        simp only at N1 B1
        go_wp2_with fail
        (with_reducible refine (N1.out _ T4.out).mono ?_)
        rintro e w5 ⟨rfl, b5⟩
        have T5 := Lib.hid (T4.out.call b5)
        have K5 := Lib.hid (K4.out.trans (b5.mono K4.out.size))
        clear b5 T4 K4
        go_wp2_with fail
        (with_reducible refine (B1.out _ T5.out).mono ?_)
        rintro e w6 ⟨rfl, b6⟩
        have K6 := Lib.hid (K5.out.trans (b6.mono K5.out.size))
        clear b6 T5 K5 N1 B1 O1 O2
        go_wp2
        go_ret
        exact ⟨rfl, K6.out⟩

set_option maxRecDepth 100000 in
set_option maxHeartbeats 1600000 in
theorem lifted (os : Os) (started : os.Started) (H : Type) (enc : TypeId × Value → H) :
    ReturnsInHanded {} Try.checked os 5 .any (Rows.demandStepsSpec.pre6 enc Try.prog Try.f5 Rows.demandStepsRow.domain false) (Rows.demandStepsSpec.post enc Try.prog Try.f5 false true false false) := by
  refine returnsInHanded_of_change (C := Try.checked) own started (by kernel_rfl) Try.func5
    (ChangeSpec.witness6 (enc := enc) (C := Try.checked) false ⟨#[], #[.slice none 0 0, .int .i64 0], []⟩ 8 (by kernel_rfl) (by kernel_rfl) (by kernel_rfl) (by kernel_rfl)) ?_
  intro W base args ds gs before hval0 hW hcnd _
  have hval : ∀ (j : Nat) t v, Try.f5.params[j]? = some t → args[j]? = some v → Value.okWide Try.prog W .any base t v := hval0
  have hW' := hW
  obtain ⟨p, q, hA0, hV, rfl, hfz, hnd⟩ := hW
  have hA : DataW.TrodAll enc Try.prog W 0 (fun _ => true) true Try.f5.params.toList args.toList ds p := hA0
  rw [Try.params5] at hA hval
  obtain ⟨v0, vs0, d0, ds0, p0, q0, hargs, rfl, rfl, h0, r0⟩ := trodAll_cons hA
  obtain ⟨v1, vs1, d1, ds1, p1, q1, rfl, rfl, rfl, h1, r1⟩ := trodAll_cons r0
  obtain ⟨rfl, rfl, rfl⟩ := trodAll_nil r1
  obtain rfl : args = #[v0, v1] := by cases args; simp_all
  obtain ⟨rfl, rfl⟩ := trodVars_none hV
  have lt0 : ∀ x ∈ p0, x.block < W.heap.size := by obtain ⟨m, hm⟩ := h0; exact DataW.trod_lt m _ _ _ hm
  obtain ⟨aol, ll, capl, rfl, lel, val, okl⟩ := open_tris (hval 0 23 v0 rfl rfl) h0
  have lt1 : ∀ x ∈ p1, x.block < W.heap.size := by obtain ⟨m, hm⟩ := h1; exact DataW.trod_lt m _ _ _ hm
  obtain ⟨x, e1, -, -, wfx⟩ := open_int Try.underlying2 (hval 1 2 v1 rfl rfl) h1
  subst e1
  clear hA0 hval0
  refine (walk ll aol capl x W val lel okl (i64_wf wfx)).mono fun e W' ⟨he, bel⟩ => ?_
  subst he
  exact ⟨_, rfl, _, _, _, [], _, [], hW', trodAll_mk1 (shut_bool Try.underlying4 _), (trodAll_cons_mk (Below.trod laidOut (by kernel_rfl) (of_decide_eq_true (by kernel_rfl)) h0 bel lt0) (trodAll_cons_mk (Below.trod laidOut (by kernel_rfl) (of_decide_eq_true (by kernel_rfl)) h1 bel lt1) trodAll_mk0)), rfl, bel.frame _, fun h => by cases h⟩

theorem proved : Rows.DemandStepsSaid :=
  OpenClaim.holds_of_wide 5 Try.f5 rfl rfl rfl rfl rfl rfl rfl ⟨rfl, rfl, rfl, rfl, rfl⟩ rfl rfl rfl rfl rfl (by kernel_rfl) Try.func5 (by kernel_rfl)
    (of_decide_eq_true (by kernel_rfl)) (by unfold Func.isWrapper; first | (rw [if_pos (by decide +kernel)]; kernel_rfl) | (rw [if_neg (by decide +kernel)]; exact ⟨rfl, rfl⟩))
    (fun os started H enc _ => lifted os started H enc)
#print axioms proved
end Go.Proofs.Ytldaikpchggogaa.demandSteps
