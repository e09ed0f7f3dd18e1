/- horariumlaw02.CrcTells answers true at every two texts and every sum, and leaves its arguments as they were: sums, and their bytes, are the document's. No condition. -/
import Derived.Test.YtjogdkljimbpcaaCcG
namespace Go.Proofs.Ytjogdkljimbpcaa.crcTells
open Go.ChangeShapes Go.WideShapes Go.ChangeAt Go.RowKit Go.Joins
set_option linter.unusedVariables false
set_option linter.unusedSimpArgs false

set_option maxRecDepth 100000 in
set_option maxHeartbeats 4000000 in
theorem walk (s m : ByteArray) (x : Nat) (w : World) (hx : Is32 x) :
    Calls Try.prog 3 #[.string s, .string m, .int .u32 (x : Int)] w fun e w' => e = .returned (.bool true) ∧ Below w.heap.size w w' := by
  have S1 : Hid (∀ w : World, Calls Try.prog 10 #[.string s, .int .i64 300] w fun e w' => e = .returned (.string (cut s 300)) ∧ w' = w) := Lib.hid (fun w => short_any s 300 w (by omega))
  have S2 : Hid (∀ w : World, Calls Try.prog 10 #[.string m, .int .i64 300] w fun e w' => e = .returned (.string (cut m 300)) ∧ w' = w) := Lib.hid (fun w => short_any m 300 w (by omega))
  have z1 := cut_size s 300
  have z2 := cut_size m 300
  generalize cut s 300 = s1 at *
  generalize cut m 300 = m1 at *
  have d : ((more 0 s1 : Int) == (x : Int)) = decide (more 0 s1 = x) := by
    by_cases e : more 0 s1 = x
    · simp [e]
    · rw [decide_eq_false e]; simp; omega
  have SA := Lib.hid (fun b w ht => sum_any b s1 w ht (by omega))
  have SR := Lib.hid (fun w => sum_rf s1 w (by omega))
  have MA := Lib.hid (fun b w ht => more_any b x m1 w ht hx (by omega))
  have MR := Lib.hid (fun w => more_rf x m1 w hx (by omega))
  have RA := Lib.hid (fun b w ht => right_any b s1 x w ht (by omega))
  have BA := Lib.hid (fun w => bytes_any x w hx)
  have BR := Lib.hid (fun w => bytes_rf x w hx)
  clear hx z1 z2
  go_enter Try.func3, Try.ntmps3
  go_wp2_with fail
  (with_reducible refine (awake_any _).mono ?_)
  rintro e w1 ⟨rfl, b1⟩
  go_wp2_with fail
  (with_reducible refine (S1.out _).mono ?_)
  rintro e w2 ⟨rfl, rfl⟩
  go_wp2_with fail
  (with_reducible refine (S2.out _).mono ?_)
  rintro e w3 ⟨rfl, rfl⟩
  clear S1 S2
  go_wp2_with fail
  (with_reducible refine (new_any _).mono ?_)
  rintro e w4 ⟨rfl, hw⟩
  have t4 : Tbl w4 w3.heap.size := by rw [hw]; exact (fresh_new _ _).tbl
  have b4 : Below w.heap.size w w4 := by rw [hw]; exact b1.alloc b1.size _
  have zb : w.heap.size ≤ w3.heap.size := b1.size
  generalize w3.heap.size = b at *
  clear hw b1
  go_wp2_with fail
  (with_reducible refine (read_any _ _).mono ?_)
  rintro e w5 ⟨rfl, b5⟩
  replace t4 := t4.call b5
  replace b4 := b4.trans (b5.mono b4.size)
  clear b5
  go_wp2_with fail
  (with_reducible refine (read_rf _ _).mono ?_)
  rintro e w6 ⟨rfl, b6⟩
  replace t4 := t4.call b6
  replace b4 := b4.trans (b6.mono b4.size)
  clear b6
  go_wp2_with fail
  (with_reducible refine (SA.out _ _ t4).mono ?_)
  rintro e w7 ⟨rfl, t7, a7⟩
  replace t4 := t7.tbl
  replace b4 := b4.trans (a7.far zb b4.size)
  clear t7 a7
  go_wp2_with fail
  (with_reducible refine (SR.out _).mono ?_)
  rintro e w8 ⟨rfl, rfl⟩
  go_wp2_with fail
  (with_reducible refine (MA.out _ _ t4).mono ?_)
  rintro e w9 ⟨rfl, t7, a7⟩
  replace t4 := t7.tbl
  replace b4 := b4.trans (a7.far zb b4.size)
  clear t7 a7
  go_wp2_with fail
  (with_reducible refine (MR.out _).mono ?_)
  rintro e wA ⟨rfl, rfl⟩
  go_wp2_with fail
  (with_reducible refine (RA.out _ _ t4).mono ?_)
  rintro e wB ⟨rfl, t7, a7⟩
  replace b4 := b4.trans (a7.far zb b4.size)
  clear t7 a7 t4
  go_wp2_with fail
  (with_reducible refine (SR.out _).mono ?_)
  rintro e wC ⟨rfl, rfl⟩
  go_wp2_with fail
  (with_reducible refine (BA.out _).mono ?_)
  rintro e wD ⟨rfl, b5⟩
  replace b4 := b4.trans (b5.mono b4.size)
  clear b5
  go_wp2_with fail
  (with_reducible refine (BR.out _).mono ?_)
  rintro e wE ⟨rfl, b5⟩
  replace b4 := b4.trans (b5.mono b4.size)
  clear b5 SA SR MA MR RA BA BR
  go_wp2
  go_ret
  exact ⟨rfl, b4⟩

set_option maxRecDepth 100000 in
theorem lifted (os : Os) (started : os.Started) (H : Type) (enc : TypeId × Value → H) :
    ReturnsInHanded {} Try.checked os 3 .any (Rows.crcTellsSpec.pre6 enc Try.prog Try.f3 Rows.crcTellsRow.domain false) (Rows.crcTellsSpec.post enc Try.prog Try.f3 false true false false) := by
  refine returnsInHanded_of_change (C := Try.checked) own started (by kernel_rfl) Try.func3
    (ChangeSpec.witness6 (enc := enc) (C := Try.checked) false ⟨#[], #[.string ⟨#[]⟩, .string ⟨#[]⟩, .int .u32 0], []⟩ 8 (by kernel_rfl) (by kernel_rfl) (by kernel_rfl) (by kernel_rfl)) ?_
  intro W base args ds gs before hval0 hW hcnd _
  have hval : ∀ (j : Nat) t v, Try.f3.params[j]? = some t → args[j]? = some v → Value.okWide Try.prog W .any base t v := hval0
  have hW' := hW
  obtain ⟨p, q, hA0, hV, rfl, hfz, hnd⟩ := hW
  have hA : DataW.TrodAll enc Try.prog W 0 (fun _ => true) true Try.f3.params.toList args.toList ds p := hA0
  rw [Try.params3] at hA hval
  obtain ⟨v0, vs0, d0, ds0, p0, q0, hargs, rfl, rfl, h0, r0⟩ := trodAll_cons hA
  obtain ⟨v1, vs1, d1, ds1, p1, q1, rfl, rfl, rfl, h1, r1⟩ := trodAll_cons r0
  obtain ⟨v2, vs2, d2, ds2, p2, q2, rfl, rfl, rfl, h2, r2⟩ := trodAll_cons r1
  obtain ⟨rfl, rfl, rfl⟩ := trodAll_nil r2
  obtain rfl : args = #[v0, v1, v2] := by cases args; simp_all
  obtain ⟨rfl, rfl⟩ := trodVars_none hV
  have lt0 : ∀ x ∈ p0, x.block < W.heap.size := by obtain ⟨m, hm⟩ := h0; exact DataW.trod_lt m _ _ _ hm
  obtain ⟨s, e0, -, -, szs⟩ := Go.ChangeMaps.open_string Try.underlying9 (hval 0 9 v0 rfl rfl) h0
  subst e0
  have lt1 : ∀ x ∈ p1, x.block < W.heap.size := by obtain ⟨m, hm⟩ := h1; exact DataW.trod_lt m _ _ _ hm
  obtain ⟨m, e1, -, -, szm⟩ := Go.ChangeMaps.open_string Try.underlying9 (hval 1 9 v1 rfl rfl) h1
  subst e1
  have lt2 : ∀ x ∈ p2, x.block < W.heap.size := by obtain ⟨m, hm⟩ := h2; exact DataW.trod_lt m _ _ _ hm
  obtain ⟨n2, e2, -, -, wfx⟩ := open_int Try.underlying22 (hval 2 22 v2 rfl rfl) h2
  subst e2
  obtain ⟨x, rfl, wx⟩ := is32_wf wfx
  clear hA0 hval0
  refine (walk s m x W wx).mono fun e W' ⟨he, bel⟩ => ?_
  subst he
  exact ⟨_, rfl, _, _, _, [], _, [], hW', trodAll_mk1 (shut_bool Try.underlying4 _), (trodAll_cons_mk (Below.trod laidOut (by kernel_rfl) (of_decide_eq_true (by kernel_rfl)) h0 bel lt0) (trodAll_cons_mk (Below.trod laidOut (by kernel_rfl) (of_decide_eq_true (by kernel_rfl)) h1 bel lt1) (trodAll_cons_mk (Below.trod laidOut (by kernel_rfl) (of_decide_eq_true (by kernel_rfl)) h2 bel lt2) trodAll_mk0))), rfl, bel.frame _, fun h => by cases h⟩

theorem proved : Rows.CrcTellsSaid :=
  OpenClaim.holds_of_wide 3 Try.f3 rfl rfl rfl rfl rfl rfl rfl ⟨rfl, rfl, rfl, rfl, rfl⟩ rfl rfl rfl rfl rfl (by kernel_rfl) Try.func3 (by kernel_rfl)
    (of_decide_eq_true (by kernel_rfl)) (by unfold Func.isWrapper; first | (rw [if_pos (by decide +kernel)]; kernel_rfl) | (rw [if_neg (by decide +kernel)]; exact ⟨rfl, rfl⟩))
    (fun os started H enc _ => lifted os started H enc)
#print axioms proved
end Go.Proofs.Ytjogdkljimbpcaa.crcTells
