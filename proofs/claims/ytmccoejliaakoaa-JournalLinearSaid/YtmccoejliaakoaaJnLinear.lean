/- horariumlaw08.JournalLinear answers true at every three numbers: to open a journal takes at most as many reads as its disk has sectors. No condition. -/
import Derived.Test.YtmccoejliaakoaaJnH
import Derived.Test.YtmccoejliaakoaaMDc
import Derived.Deep.DeepCutAuto
import Derived.Deep.RegionHeld3
import Derived.BigQuiet
namespace Go.Proofs.Ytmccoejliaakoaa.journalLinear
open Go.ChangeShapes Go.WideShapes Go.ChangeAt Go.RowKit Go.Joins
set_option maxRecDepth 100000
set_option linter.unusedVariables false
set_option linter.unusedSimpArgs false
open Dk (own laidOut in64_wf ptr DS)
open Jn (JL JI Kp noFound FdAt)
theorem min_i64 (x y : Int) (w : World) : (Builtin.min_ #[3, 3] 3 #[.int .i64 x, .int .i64 y]).run Try.prog w = .ok (.int .i64 (min x y)) w := by
  simp [Builtin.min_, Builtin.min2]
  repeat' split
  all_goals first | (simp; omega) | omega | simp_all
/-- one record more, if there is room -/
theorem app_next (B b j l q k n nx N E i r : Nat) (d : List UInt8) (S : List (List UInt8)) (w0 w : World) (h : JL B b j l q k n nx N E d (List.replicate (min i n) [114]) S 0 r w0 w) (hN : N < 256) :
    Calls Try.prog 14 #[ptr j, .string ⟨#[114]⟩] w fun x w' => ∃ e S', x = .returned (.int .i64 e) ∧ JL B b j l q k n nx N E d (List.replicate (min (i + 1) n) [114]) S' 0 r w0 w' := by
  rcases Nat.lt_or_ge i n with hlt | hge
  · have e1 : min i n = i := by omega
    have e2 : min (i + 1) n = i + 1 := by omega
    rw [e1] at h
    rw [e2]
    have AP : Calls Try.prog 14 #[ptr j, .string ⟨#[114]⟩] w _ := Jn.append_t B b j l q k n nx N E r d [114] (List.replicate i [114]) S w0 w h hN (by simp) (by simp; exact hlt)
    refine AP.mono ?_
    rintro x w' ⟨hx, S', h', -⟩
    rw [← List.replicate_succ'] at h'
    exact ⟨_, S', hx, h'⟩
  · have e1 : min i n = n := by omega
    have e2 : min (i + 1) n = n := by omega
    rw [e1] at h
    rw [e2]
    have AP : Calls Try.prog 14 #[ptr j, .string ⟨#[114]⟩] w _ := Jn.append_full B b j l q k n nx N E r d [114] (List.replicate n [114]) S w0 w h hN (by simp) (by simp)
    refine AP.mono ?_
    rintro x w' ⟨hx, h', -⟩
    exact ⟨_, S, hx, h'⟩
theorem flush_f (S : List (List UInt8)) (F r : Nat) (h : F ≠ 1) : Dk.flushR ⟨S, [], F, r⟩ = (⟨S, [], F - 1, r⟩, 0) := by
  unfold Dk.flushR; rw [if_neg (by show ¬ F = 1; omega)]; rfl
def BRel (B b j l q K M m : Nat) (w : World) (g : Nat) (s14 : Value) (wx : World) : Prop :=
  ∃ i S, i + g = m ∧ s14 = .int .i64 (i : Int) ∧ JL B b j l q K M 1 1 1 [120] (List.replicate (min i M) [114]) S 0 (2 * K) w wx

set_option maxRecDepth 100000 in
set_option maxHeartbeats 8000000 in
theorem walk (n k x : Int) (w : World) (hn : Dk.In64 n) (hk : Dk.In64 k) (hx : Dk.In64 x) :
    Calls Try.prog 5 #[.int .i64 n, .int .i64 k, .int .i64 x] w fun e w' => e = .returned (.bool true) ∧ Below w.heap.size w w' := by
  have t1 := Int.lt_tmod_of_pos x (show (0 : Int) < 31 by omega)
  have t2 := Int.tmod_lt_of_pos x (show (0 : Int) < 31 by omega)
  have t3 := Int.lt_tmod_of_pos n (show (0 : Int) < 20 by omega)
  have t4 := Int.tmod_lt_of_pos n (show (0 : Int) < 20 by omega)
  have h3 := Dk.i64_and3 k
  obtain ⟨m, hm⟩ : ∃ m : Nat, x.tmod 31 % 31 = (m : Int) := ⟨(x.tmod 31 % 31).toNat, by omega⟩
  obtain ⟨K, hK⟩ : ∃ K : Nat, 1 + bits .and .i64 k 3 = (K : Int) := ⟨(1 + k % 4).toNat, by rw [h3]; omega⟩
  obtain ⟨M, hM⟩ : ∃ M : Nat, 1 + n.tmod 20 % 20 = (M : Int) := ⟨(1 + n.tmod 20 % 20).toNat, by omega⟩
  have hm2 : (x.tmod 31 + 31) % 31 = (m : Int) := by omega
  have K1 : 1 ≤ K := by omega
  have K4 : K ≤ 4 := by omega
  clear h3
  have Ki : (K : Int) ≤ 4 := by omega
  have Kj : 1 ≤ (K : Int) := by omega
  have hKw : IntKind.i64.wrap (1 + bits .and .i64 k 3) = (K : Int) := by rw [hK]; exact IntWalk.i64_in _ (by omega)
  have M1 : 1 ≤ M := by omega
  have M20 : M ≤ 20 := by omega
  have Mi : (M : Int) ≤ 20 := by omega
  have Mj : 1 ≤ (M : Int) := by omega
  have mi : (m : Int) ≤ 30 := by omega
  have mj : 0 ≤ (m : Int) := by omega
  obtain ⟨many, hmany⟩ : ∃ many : Nat, many = 2 * K + M := ⟨_, rfl⟩
  have hma : 2 * (K : Int) + 1 + n.tmod 20 % 20 = (many : Int) := by omega
  have hmb : 2 * (K : Int) + 1 + (n.tmod 20 + 20) % 20 = (many : Int) := by omega
  have HMM := Lib.hid hmany
  have many1 : 1 ≤ many := by omega
  have many2 : many ≤ 28 := by omega
  have manyi : (many : Int) ≤ 28 := by omega
  have manyj : 1 ≤ (many : Int) := by omega
  have m3 : (many : Int) - 2 * (K : Int) = (M : Int) := by omega
  clear hmany hM hK
  have AW := Lib.hid (fun w => Jn.awake_any w)
  have mn := min_i64
  go_enter Try.func5, Try.ntmps5
  go_wp2_with fail
  (with_reducible refine (AW.out _).mono ?_)
  rintro e w1 ⟨rfl, b1⟩
  have ND := Lib.hid (Jn.disk_t many w w1 b1 many1 (by omega))
  generalize w1.heap.size + 1 = d at *
  clear AW b1
  go_wp2_with fail
  (try simp only [hma, hmb])
  (with_reducible refine ND.out.mono ?_)
  rintro e w2 ⟨rfl, d2, b2⟩
  rw [HMM.out] at d2
  have FO : Hid (Calls Try.prog 10 #[ptr d, .int .i64 (K : Int), .string ⟨#[120]⟩] w2 fun x w' => ∃ j l q S, x = .returned (.tuple #[ptr j, .int .i64 0]) ∧ JL w.heap.size d j l q K M 1 1 1 [120] [] S 0 (0 + 2 * K) w w' ∧ Kp w2 w') := Lib.hid (Jn.format_t w.heap.size d K M 0 [120] w w2 d2 b2 K1 (by omega) M1 (by omega) (by omega) (by simp) (by simp; omega))
  rw [Nat.zero_add] at FO
  clear ND d2 b2
  go_wp2_with fail
  (with_reducible refine FO.out.mono ?_)
  rintro e w3 ⟨j, l, q, S3, rfl, J3, -⟩
  have J3H := Lib.hid J3
  clear FO J3
  go_wp2_with fail
  (try simp only [hm2, hm])
  go_loopg [14] m (BRel w.heap.size d j l q K M m w)
  case atStart => exact ⟨0, S3, by omega, rfl, by rw [Nat.zero_min]; exact J3H.out⟩
  case round =>
    clear J3H
    obtain ⟨i, S, hi, rfl, hj⟩ := hrel
    (try simp only [hm2, hm])
    rcases Nat.lt_or_ge i m with hlt | hge
    · have il : (i : Int) < (m : Int) := by omega
      have AP := Lib.hid (app_next w.heap.size d j l q K M 1 1 1 i (2 * K) [120] S w wr hj (by omega))
      clear hj
      go_wp2_with fail
      (with_reducible refine AP.out.mono ?_)
      rintro e w4 ⟨x4, S4, rfl, J4⟩
      have J4H := Lib.hid J4
      clear AP J4
      go_wp2
      go_roundg (gk - 1)
      case measure => omega
      case rel => exact ⟨i + 1, S4, by omega, by go_num, J4H.out⟩
    · obtain rfl : i = m := by omega
      have JH := Lib.hid hj
      clear hj
      have CR : Hid (Calls Try.prog 15 #[ptr d, .slice none 0 0] wr fun e w' => e = .returned (.int .i64 (((Dk.crashR ⟨S, [], 0, 2 * K⟩ []).2 : Nat) : Int)) ∧ Dk.Dk w.heap.size d (Dk.crashR ⟨S, [], 0, 2 * K⟩ []).1 w' ∧ Dk.Moved d wr w') := Lib.hid (Dk.crash_any w.heap.size d ⟨S, [], 0, 2 * K⟩ none [] 0 wr JH.out.jn.dk ⟨fun p hp => (by cases hp), fun h0 => (by simp at h0)⟩ (fun h0 => by simp at h0) (by show 0 ≤ 1000000; omega) (by simp))
      rw [Wl.crash_calm] at CR
      go_wp2_with fail
      (with_reducible refine CR.out.mono ?_)
      rintro e w5 ⟨rfl, d5, m5⟩
      obtain ⟨R, hR⟩ : ∃ R : Nat, R = min i M := ⟨_, rfl⟩
      have OP := Jn.open_c w.heap.size d K M 1 1 1 0 [120] _ S w w5 d5 (JH.out.jn.goD d5 m5).bel JH.out.ji (by omega) (by omega)
      obtain ⟨RD, hRD⟩ : ∃ RD : Nat, RD = 0 + 2 * K + Wl.readsN (List.replicate (min i M) [(114 : UInt8)]).length M := ⟨_, rfl⟩
      have RDb : 2 * K ≤ RD ∧ RD ≤ many := by
        have hmm := HMM.out
        have := Wl.readsN_le (k := (List.replicate (min i M) [(114 : UInt8)]).length) (n := M) (by simp; omega)
        omega
      rw [← hRD] at OP
      have OP' : Hid (Calls Try.prog 16 #[ptr d, .int .i64 (K : Int)] w5 fun x w' => ∃ j' va cap S', x = .returned (.tuple #[ptr j', .agg #[.string ⟨#[120]⟩, .slice va R cap], .int .i64 0]) ∧ Dk.Dk w.heap.size d ⟨S', [], 0, RD⟩ w' ∧ Below w.heap.size w w') := Lib.hid (by
        refine OP.mono ?_
        rintro x w' ⟨j', l', q', v, N', hx, st, -, hj', -⟩
        obtain ⟨va, cap, hv⟩ := Wl.strs_form st
        rw [List.length_replicate, ← hR] at hv
        exact ⟨j', va, cap, S, by rw [hx, hv]; rfl, hj'.jn.dk, hj'.jn.bel⟩)
      have mm : min (i : Int) (M : Int) = (R : Int) := by omega
      have z1 : (RD : Int) ≤ (many : Int) := by omega
      have z2 : 2 * (K : Int) ≤ (RD : Int) := by omega
      have z3 : decide ((RD : Int) ≤ (many : Int)) = true := by simp; omega
      have z4 : decide (2 * (K : Int) ≤ (RD : Int)) = true := by simp; omega
      clear CR d5 m5 JH OP hRD RDb hR
      go_wp2_with fail
      (with_reducible refine OP'.out.mono ?_)
      rintro e w6 ⟨j', va, cap, S', rfl, d6, b6⟩
      have bA := (Below.refl w6.heap.size w6).alloc (Nat.le_refl _) (.cells #[.string ⟨#[120]⟩, .slice va R cap] 32)
      have D7 := Lib.hid (And.intro (d6.call bA) (b6.trans (bA.mono b6.size)))
      clear OP' d6 b6 bA
      have RS := Lib.hid (Dk.reads_any w.heap.size d ⟨S', [], 0, RD⟩ _ D7.out.1)
      go_wp2_with fail
      (with_reducible refine RS.out.mono ?_)
      rintro e w8 ⟨rfl, rfl⟩
      go_wp2_with fail
      (with_reducible refine RS.out.mono ?_)
      rintro e w9 ⟨rfl, rfl⟩
      go_wp2
      try simp only [Exit.noGoto]
      go_ret
      exact ⟨rfl, D7.out.2⟩

set_option maxRecDepth 100000 in
set_option maxHeartbeats 1600000 in
theorem lifted (os : Os) (started : os.Started) (H : Type) (enc : TypeId × Value → H) :
    ReturnsInHanded {} Try.checked os 5 .any (Rows.journalLinearSpec.pre6 enc Try.prog Try.f5 Rows.journalLinearRow.domain false) (Rows.journalLinearSpec.post enc Try.prog Try.f5 false true false false) := by
  refine returnsInHanded_of_change (C := Try.checked) own started (by kernel_rfl) Try.func5
    (ChangeSpec.witness6 (enc := enc) (C := Try.checked) false ⟨#[], #[.int .i64 0, .int .i64 0, .int .i64 0], []⟩ 8 (by kernel_rfl) (by kernel_rfl) (by kernel_rfl) (by kernel_rfl)) ?_
  intro W base args ds gs before hval0 hW hcnd _
  have hval : ∀ (j : Nat) t v, Try.f5.params[j]? = some t → args[j]? = some v → Value.okWide Try.prog W .any base t v := hval0
  have hW' := hW
  obtain ⟨p, q, hA0, hV, rfl, hfz, hnd⟩ := hW
  have hA : DataW.TrodAll enc Try.prog W 0 (fun _ => true) true Try.f5.params.toList args.toList ds p := hA0
  rw [Try.params5] at hA hval
  obtain ⟨v0, vs0, d0, ds0, p0, q0, hargs, rfl, rfl, h0, r0⟩ := trodAll_cons hA
  obtain ⟨v1, vs1, d1, ds1, p1, q1, rfl, rfl, rfl, h1, r1⟩ := trodAll_cons r0
  obtain ⟨v2, vs2, d2, ds2, p2, q2, rfl, rfl, rfl, h2, r2⟩ := trodAll_cons r1
  obtain ⟨rfl, rfl, rfl⟩ := trodAll_nil r2
  obtain rfl : args = #[v0, v1, v2] := by cases args; simp_all
  obtain ⟨rfl, rfl⟩ := trodVars_none hV
  have lt0 : ∀ x ∈ p0, x.block < W.heap.size := by obtain ⟨m, hm⟩ := h0; exact DataW.trod_lt m _ _ _ hm
  obtain ⟨n, e0, -, -, wfn⟩ := open_int Try.underlying3 (hval 0 3 v0 rfl rfl) h0
  subst e0
  have lt1 : ∀ x ∈ p1, x.block < W.heap.size := by obtain ⟨m, hm⟩ := h1; exact DataW.trod_lt m _ _ _ hm
  obtain ⟨k, e1, -, -, wfk⟩ := open_int Try.underlying3 (hval 1 3 v1 rfl rfl) h1
  subst e1
  have lt2 : ∀ x ∈ p2, x.block < W.heap.size := by obtain ⟨m, hm⟩ := h2; exact DataW.trod_lt m _ _ _ hm
  obtain ⟨x, e2, -, -, wfx⟩ := open_int Try.underlying3 (hval 2 3 v2 rfl rfl) h2
  subst e2
  clear hA0 hval0
  refine (walk n k x W (in64_wf wfn) (in64_wf wfk) (in64_wf wfx)).mono fun e W' ⟨he, bel⟩ => ?_
  subst he
  exact ⟨_, rfl, _, _, _, [], _, [], hW', trodAll_mk1 (shut_bool Try.underlying4 _), (trodAll_cons_mk (Below.trod laidOut (by kernel_rfl) (of_decide_eq_true (by kernel_rfl)) h0 bel lt0) (trodAll_cons_mk (Below.trod laidOut (by kernel_rfl) (of_decide_eq_true (by kernel_rfl)) h1 bel lt1) (trodAll_cons_mk (Below.trod laidOut (by kernel_rfl) (of_decide_eq_true (by kernel_rfl)) h2 bel lt2) trodAll_mk0))), rfl, bel.frame _, fun h => by cases h⟩

theorem proved : Rows.JournalLinearSaid :=
  OpenClaim.holds_of_wide 5 Try.f5 rfl rfl rfl rfl rfl rfl rfl ⟨rfl, rfl, rfl, rfl, rfl⟩ rfl rfl rfl rfl rfl (by kernel_rfl) Try.func5 (by kernel_rfl)
    (of_decide_eq_true (by kernel_rfl)) (by unfold Func.isWrapper; first | (rw [if_pos (by decide +kernel)]; kernel_rfl) | (rw [if_neg (by decide +kernel)]; exact ⟨rfl, rfl⟩))
    (fun os started H enc _ => lifted os started H enc)
#print axioms proved
end Go.Proofs.Ytmccoejliaakoaa.journalLinear
