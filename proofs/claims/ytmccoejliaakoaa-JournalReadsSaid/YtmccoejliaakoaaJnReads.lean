/- horariumlaw08.JournalReads answers true at every two numbers: a journal whose disk can not be read, or flushed, is not opened, and nothing is found. No condition. -/
import Derived.Test.YtmccoejliaakoaaJnH
import Derived.Test.YtmccoejliaakoaaMDc
import Derived.Deep.DeepCutAuto
import Derived.Deep.RegionHeld3
import Derived.BigQuiet
namespace Go.Proofs.Ytmccoejliaakoaa.journalReads
open Go.ChangeShapes Go.WideShapes Go.ChangeAt Go.RowKit Go.Joins
set_option maxRecDepth 100000
set_option linter.unusedVariables false
set_option linter.unusedSimpArgs false
open Dk (own laidOut in64_wf ptr DS)
open Jn (JL JI Kp noFound FdAt)
theorem min_i64 (x y : Int) (w : World) : (Builtin.min_ #[3, 3] 3 #[.int .i64 x, .int .i64 y]).run Try.prog w = .ok (.int .i64 (min x y)) w := by
  simp [Builtin.min_, Builtin.min2]
  repeat' split
  all_goals first | (simp; omega) | omega | simp_all
/-- one record more, if there is room -/
theorem app_next (B b j l q k n nx N E i r : Nat) (d : List UInt8) (S : List (List UInt8)) (w0 w : World) (h : JL B b j l q k n nx N E d (List.replicate (min i n) [114]) S 0 r w0 w) (hN : N < 256) :
    Calls Try.prog 14 #[ptr j, .string ⟨#[114]⟩] w fun x w' => ∃ e S', x = .returned (.int .i64 e) ∧ JL B b j l q k n nx N E d (List.replicate (min (i + 1) n) [114]) S' 0 r w0 w' := by
  rcases Nat.lt_or_ge i n with hlt | hge
  · have e1 : min i n = i := by omega
    have e2 : min (i + 1) n = i + 1 := by omega
    rw [e1] at h
    rw [e2]
    have AP : Calls Try.prog 14 #[ptr j, .string ⟨#[114]⟩] w _ := Jn.append_t B b j l q k n nx N E r d [114] (List.replicate i [114]) S w0 w h hN (by simp) (by simp; exact hlt)
    refine AP.mono ?_
    rintro x w' ⟨hx, S', h', -⟩
    rw [← List.replicate_succ'] at h'
    exact ⟨_, S', hx, h'⟩
  · have e1 : min i n = n := by omega
    have e2 : min (i + 1) n = n := by omega
    rw [e1] at h
    rw [e2]
    have AP : Calls Try.prog 14 #[ptr j, .string ⟨#[114]⟩] w _ := Jn.append_full B b j l q k n nx N E r d [114] (List.replicate n [114]) S w0 w h hN (by simp) (by simp)
    refine AP.mono ?_
    rintro x w' ⟨hx, h', -⟩
    exact ⟨_, S, hx, h'⟩
theorem flush_f (S : List (List UInt8)) (F r : Nat) (h : F ≠ 1) : Dk.flushR ⟨S, [], F, r⟩ = (⟨S, [], F - 1, r⟩, 0) := by
  unfold Dk.flushR; rw [if_neg (by show ¬ F = 1; omega)]; rfl
def ARel (B b j l q m : Nat) (w : World) (g : Nat) (s10 : Value) (wx : World) : Prop :=
  ∃ i S, i + g = m ∧ s10 = .int .i64 (i : Int) ∧ JL B b j l q 2 5 1 1 1 [120] (List.replicate (min i 5) [114]) S 0 4 w wx

set_option maxRecDepth 100000 in
set_option maxHeartbeats 8000000 in
theorem walk (x n : Int) (w : World) (hx : Dk.In64 x) (hn : Dk.In64 n) :
    Calls Try.prog 6 #[.int .i64 x, .int .i64 n] w fun e w' => e = .returned (.bool true) ∧ Below w.heap.size w w' := by
  have t1 := Int.lt_tmod_of_pos x (show (0 : Int) < 6 by omega)
  have t2 := Int.tmod_lt_of_pos x (show (0 : Int) < 6 by omega)
  have t3 := Int.lt_tmod_of_pos n (show (0 : Int) < 12 by omega)
  have t4 := Int.tmod_lt_of_pos n (show (0 : Int) < 12 by omega)
  obtain ⟨m, hm⟩ : ∃ m : Nat, x.tmod 6 % 6 = (m : Int) := ⟨(x.tmod 6 % 6).toNat, by omega⟩
  obtain ⟨F, hF⟩ : ∃ F : Nat, 1 + n.tmod 12 % 12 = (F : Int) := ⟨(1 + n.tmod 12 % 12).toNat, by omega⟩
  have hm2 : (x.tmod 6 + 6) % 6 = (m : Int) := by omega
  have hF2 : 1 + (n.tmod 12 + 12) % 12 = (F : Int) := by omega
  have m5 : m ≤ 5 := by omega
  have mi : (m : Int) ≤ 5 := by omega
  have mj : 0 ≤ (m : Int) := by omega
  have F1 : 1 ≤ F := by omega
  have F12 : F ≤ 12 := by omega
  have Fi : (F : Int) ≤ 12 := by omega
  have Fj : 1 ≤ (F : Int) := by omega
  have AW := Lib.hid (fun w => Jn.awake_any w)
  have mn := min_i64
  go_enter Try.func6, Try.ntmps6
  go_wp2_with fail
  (with_reducible refine (AW.out _).mono ?_)
  rintro e w1 ⟨rfl, b1⟩
  have ND : Hid (Calls Try.prog 9 #[.int .i64 9] w1 fun e w' => e = .returned (ptr (w1.heap.size + 1)) ∧ Dk.Dk w.heap.size (w1.heap.size + 1) ⟨List.replicate (2 * 2 + 5) (List.replicate 64 0), [], 0, 0⟩ w' ∧ Below w.heap.size w w') := Lib.hid (Jn.disk_t 9 w w1 b1 (by omega) (by omega))
  generalize w1.heap.size + 1 = d at *
  clear AW b1
  go_wp2_with fail
  (with_reducible refine ND.out.mono ?_)
  rintro e w2 ⟨rfl, d2, b2⟩
  have FO : Hid (Calls Try.prog 10 #[ptr d, .int .i64 2, .string ⟨#[120]⟩] w2 fun x w' => ∃ j l q S, x = .returned (.tuple #[ptr j, .int .i64 0]) ∧ JL w.heap.size d j l q 2 5 1 1 1 [120] [] S 0 4 w w' ∧ Kp w2 w') := Lib.hid (Jn.format_t w.heap.size d 2 5 0 [120] w w2 d2 b2 (by omega) (by omega) (by omega) (by omega) (by omega) (by simp) (by simp))
  clear ND d2 b2
  go_wp2_with fail
  (with_reducible refine FO.out.mono ?_)
  rintro e w3 ⟨j, l, q, S3, rfl, J3, -⟩
  have J3H := Lib.hid J3
  clear FO J3
  go_wp2_with fail
  (try simp only [hm2, hm])
  go_loopg [10] m (ARel w.heap.size d j l q m w)
  case atStart => exact ⟨0, S3, by omega, rfl, J3H.out⟩
  case round =>
    clear J3H
    obtain ⟨i, S, hi, rfl, hj⟩ := hrel
    (try simp only [hm2, hm])
    rcases Nat.lt_or_ge i m with hlt | hge
    · have il : (i : Int) < (m : Int) := by omega
      have AP := Lib.hid (app_next w.heap.size d j l q 2 5 1 1 1 i 4 [120] S w wr hj (by omega))
      clear hj
      go_wp2_with fail
      (with_reducible refine AP.out.mono ?_)
      rintro e w4 ⟨x4, S4, rfl, J4⟩
      have J4H := Lib.hid J4
      clear AP J4
      go_wp2
      go_roundg (gk - 1)
      case measure => omega
      case rel => exact ⟨i + 1, S4, by omega, by go_num, J4H.out⟩
    · obtain rfl : i = m := by omega
      have e5 : min i 5 = i := by omega
      rw [e5] at hj
      have JH := Lib.hid hj
      clear hj e5
      have FA := Lib.hid (Dk.fail_any w.heap.size d _ (F : Int) wr JH.out.jn.dk (by omega))
      have mm : min ((i : Int) + 1) 5 = ((min (i + 1) 5 : Nat) : Int) := by omega
      obtain ⟨R, hR⟩ : ∃ R : Nat, R = min (i + 1) 5 := ⟨_, rfl⟩
      rw [← hR] at mm
      have mm2 : min 5 ((i : Int) + 1) = (R : Int) := by omega
      have hRN : Wl.readsN (List.replicate i [(114 : UInt8)]).length 5 = R := by rw [List.length_replicate, hR]; unfold Wl.readsN; split <;> omega
      have R5 : (R : Int) ≤ 5 := by omega
      have R0 : 0 ≤ (R : Int) := by omega
      go_wp2_with fail
      (with_reducible refine FA.out.mono ?_)
      rintro e w5 ⟨rfl, d5, m5'⟩
      have D5 : Hid (Dk.Dk w.heap.size d ⟨S, [], F, 4⟩ w5 ∧ Below w.heap.size w w5) := Lib.hid ⟨by have := d5; unfold Dk.failR at this; rw [Int.toNat_natCast] at this; exact this, (JH.out.jn.goD d5 m5').bel⟩
      clear FA d5 m5'
      rcases Nat.lt_or_ge (5 + R) F with hFR | hFR
      · have gt : 5 + (R : Int) < (F : Int) := by omega
        have OP : Hid (Calls Try.prog 16 #[ptr d, .int .i64 2] w5 fun x w' => ∃ j' va cap, x = .returned (.tuple #[ptr j', .agg #[.string ⟨#[120]⟩, .slice va i cap], .int .i64 0]) ∧ Below w.heap.size w w') := Lib.hid (by
          have := Jn.open_t w.heap.size d 2 5 1 1 1 (F - 1) 4 [120] (List.replicate i [114]) S ⟨S, [], F, 4⟩ w w5 D5.out.1 D5.out.2 JH.out.ji (by omega) (by show 0 ≤ 1000000; omega) (by show F < _; omega) (flush_f S F 4 (by omega)) JH.out.ji.jb.len (by omega) (by omega) (by rw [hRN]; omega)
          refine this.mono ?_
          rintro x w' ⟨j', l', q', v, N', hx, st, -, hj', -⟩
          obtain ⟨va, cap, hv⟩ := Wl.strs_form st
          rw [List.length_replicate] at hv
          exact ⟨j', va, cap, by rw [hx, hv]; rfl, hj'.jn.bel⟩)
        clear JH D5
        go_wp2_with fail
        (with_reducible refine OP.out.mono ?_)
        rintro e w6 ⟨j', va, cap, rfl, b6⟩
        have FIN := Lib.hid (b6.alloc b6.size (.cells #[.string ⟨#[120]⟩, .slice va i cap] 32))
        clear OP b6
        go_wp2
        try simp only [Exit.noGoto]
        go_ret
        exact ⟨rfl, FIN.out⟩
      · have gt : (F : Int) ≤ 5 + (R : Int) := by omega
        have OP : Hid (Calls Try.prog 16 #[ptr d, .int .i64 2] w5 fun x w' => x = .returned (.tuple #[.pointer none, .agg #[.string ⟨#[]⟩, .slice none 0 0], .int .i64 18]) ∧ Below w.heap.size w w') := Lib.hid (Jn.open_f w.heap.size d 2 5 1 1 1 F 4 [120] (List.replicate i [114]) S w w5 D5.out.1 D5.out.2 JH.out.ji (by omega) (by omega) F1 (by rw [hRN]; omega))
        clear JH D5
        go_wp2_with fail
        (with_reducible refine OP.out.mono ?_)
        rintro e w6 ⟨rfl, b6⟩
        have FIN := Lib.hid (b6.alloc b6.size (.cells #[.string ⟨#[]⟩, .slice none 0 0] 32))
        clear OP b6
        go_wp2
        try simp only [Exit.noGoto]
        go_ret
        exact ⟨rfl, FIN.out⟩

set_option maxRecDepth 100000 in
set_option maxHeartbeats 1600000 in
theorem lifted (os : Os) (started : os.Started) (H : Type) (enc : TypeId × Value → H) :
    ReturnsInHanded {} Try.checked os 6 .any (Rows.journalReadsSpec.pre6 enc Try.prog Try.f6 Rows.journalReadsRow.domain false) (Rows.journalReadsSpec.post enc Try.prog Try.f6 false true false false) := by
  refine returnsInHanded_of_change (C := Try.checked) own started (by kernel_rfl) Try.func6
    (ChangeSpec.witness6 (enc := enc) (C := Try.checked) false ⟨#[], #[.int .i64 0, .int .i64 0], []⟩ 8 (by kernel_rfl) (by kernel_rfl) (by kernel_rfl) (by kernel_rfl)) ?_
  intro W base args ds gs before hval0 hW hcnd _
  have hval : ∀ (j : Nat) t v, Try.f6.params[j]? = some t → args[j]? = some v → Value.okWide Try.prog W .any base t v := hval0
  have hW' := hW
  obtain ⟨p, q, hA0, hV, rfl, hfz, hnd⟩ := hW
  have hA : DataW.TrodAll enc Try.prog W 0 (fun _ => true) true Try.f6.params.toList args.toList ds p := hA0
  rw [Try.params6] at hA hval
  obtain ⟨v0, vs0, d0, ds0, p0, q0, hargs, rfl, rfl, h0, r0⟩ := trodAll_cons hA
  obtain ⟨v1, vs1, d1, ds1, p1, q1, rfl, rfl, rfl, h1, r1⟩ := trodAll_cons r0
  obtain ⟨rfl, rfl, rfl⟩ := trodAll_nil r1
  obtain rfl : args = #[v0, v1] := by cases args; simp_all
  obtain ⟨rfl, rfl⟩ := trodVars_none hV
  have lt0 : ∀ x ∈ p0, x.block < W.heap.size := by obtain ⟨m, hm⟩ := h0; exact DataW.trod_lt m _ _ _ hm
  obtain ⟨x, e0, -, -, wfx⟩ := open_int Try.underlying3 (hval 0 3 v0 rfl rfl) h0
  subst e0
  have lt1 : ∀ x ∈ p1, x.block < W.heap.size := by obtain ⟨m, hm⟩ := h1; exact DataW.trod_lt m _ _ _ hm
  obtain ⟨n, e1, -, -, wfn⟩ := open_int Try.underlying3 (hval 1 3 v1 rfl rfl) h1
  subst e1
  clear hA0 hval0
  refine (walk x n W (in64_wf wfx) (in64_wf wfn)).mono fun e W' ⟨he, bel⟩ => ?_
  subst he
  exact ⟨_, rfl, _, _, _, [], _, [], hW', trodAll_mk1 (shut_bool Try.underlying4 _), (trodAll_cons_mk (Below.trod laidOut (by kernel_rfl) (of_decide_eq_true (by kernel_rfl)) h0 bel lt0) (trodAll_cons_mk (Below.trod laidOut (by kernel_rfl) (of_decide_eq_true (by kernel_rfl)) h1 bel lt1) trodAll_mk0)), rfl, bel.frame _, fun h => by cases h⟩

theorem proved : Rows.JournalReadsSaid :=
  OpenClaim.holds_of_wide 6 Try.f6 rfl rfl rfl rfl rfl rfl rfl ⟨rfl, rfl, rfl, rfl, rfl⟩ rfl rfl rfl rfl rfl (by kernel_rfl) Try.func6 (by kernel_rfl)
    (of_decide_eq_true (by kernel_rfl)) (by unfold Func.isWrapper; first | (rw [if_pos (by decide +kernel)]; kernel_rfl) | (rw [if_neg (by decide +kernel)]; exact ⟨rfl, rfl⟩))
    (fun os started H enc _ => lifted os started H enc)
#print axioms proved
end Go.Proofs.Ytmccoejliaakoaa.journalReads
