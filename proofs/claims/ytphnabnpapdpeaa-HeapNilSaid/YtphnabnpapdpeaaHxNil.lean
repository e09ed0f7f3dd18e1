/- horariumlaw16.HeapNil answers true at every number: of no heap, and of one without an order, nothing comes. No condition. -/
import Derived.Test.YtphnabnpapdpeaaHpK
namespace Go.Proofs.Ytphnabnpapdpeaa.heapNil
open Go.ChangeShapes Go.WideShapes Go.ChangeAt Go.RowKit Go.Joins
set_option maxRecDepth 100000
set_option linter.unusedVariables false
set_option linter.unusedSimpArgs false
open Hp
theorem none_is (W : World) : NilH none W := .inl rfl

set_option maxRecDepth 100000 in
set_option maxHeartbeats 16000000 in
theorem walk (x : Int) (w : World) : Calls Try.prog 7 #[.int .i64 x] w fun e w' => e = .returned (.bool true) ∧ Below w.heap.size w w' := by
  have AW := Lib.hid awake_any
  have NW := Lib.hid nnew_any
  have NLE := Lib.hid nlen_any
  have NMI := Lib.hid nmin_any
  have NTA := Lib.hid ntake_any
  have NPU := Lib.hid (fun p W h => nput_any p x W h)
  have NCH := Lib.hid (fun p W h => nchange_any p x W h)
  have NDR := Lib.hid (fun p W h => ndrop_any p 17 W h)
  have NLI := Lib.hid nlist_any
  have b1 : Below (w.alloc (.cells #[.nilFunc, .slice none 0 0] 40)).heap.size (w.alloc (.cells #[.nilFunc, .slice none 0 0] 40)) ((w.alloc (.cells #[.nilFunc, .slice none 0 0] 40)).alloc (.cells #[.nilFunc, .slice none 0 0] 40)) := (Below.refl _ _).alloc (Nat.le_refl _) _
  have B2 : Hid (Below w.heap.size w ((w.alloc (.cells #[.nilFunc, .slice none 0 0] 40)).alloc (.cells #[.nilFunc, .slice none 0 0] 40))) := Lib.hid (((Below.refl w.heap.size w).alloc (Nat.le_refl _) (.cells #[.nilFunc, .slice none 0 0] 40)).trans (b1.mono (by simp)))
  have O2 : Hid (NilH (some ⟨w.heap.size, 0, none⟩) ((w.alloc (.cells #[.nilFunc, .slice none 0 0] 40)).alloc (.cells #[.nilFunc, .slice none 0 0] 40))) := Lib.hid ((nil_made w).call b1)
  have E2 : Hid (NilH (some ⟨w.heap.size + 1, 0, none⟩) ((w.alloc (.cells #[.nilFunc, .slice none 0 0] 40)).alloc (.cells #[.nilFunc, .slice none 0 0] 40))) := Lib.hid (by have := nil_made (w.alloc (.cells #[.nilFunc, .slice none 0 0] 40)); rw [World.size_alloc] at this; exact this)
  clear b1
  go_enter Try.func7, Try.ntmps7
  go_wp2_with fail
  (with_reducible refine (NW.out _).mono ?_)
  rintro e w1 ⟨rfl, rfl⟩
  clear NW
  go_wp2_with fail
  generalize (w.alloc (.cells #[.nilFunc, .slice none 0 0] 40)).alloc (.cells #[.nilFunc, .slice none 0 0] 40) = W2 at *
  go_wp2_with fail
  (with_reducible refine (NTA.out none _ (none_is _)).mono ?_)
  rintro e w1 ⟨rfl, rfl⟩
  go_wp2_with fail
  (with_reducible refine (NMI.out _ _ O2.out).mono ?_)
  rintro e w1 ⟨rfl, rfl⟩
  go_wp2_with fail
  (with_reducible refine (NTA.out _ _ E2.out).mono ?_)
  rintro e w1 ⟨rfl, rfl⟩
  go_wp2_with fail
  (with_reducible refine (AW.out _).mono ?_)
  rintro e w3 ⟨rfl, b3⟩
  have O3 := Lib.hid (O2.out.call b3)
  have E3 := Lib.hid (E2.out.call b3)
  have B3 := Lib.hid (B2.out.trans (b3.mono B2.out.size))
  clear b3 O2 E2 B2
  go_wp2_with fail
  (with_reducible refine (NPU.out none _ (none_is _)).mono ?_)
  rintro e w4 ⟨rfl, b4⟩
  have O4 := Lib.hid (O3.out.call b4)
  have E4 := Lib.hid (E3.out.call b4)
  have B4 := Lib.hid (B3.out.trans (b4.mono B3.out.size))
  clear b4 O3 E3 B3
  go_wp2_with fail
  (with_reducible refine (NPU.out _ _ O4.out).mono ?_)
  rintro e w5 ⟨rfl, b5⟩
  have O5 := Lib.hid (O4.out.call b5)
  have E5 := Lib.hid (E4.out.call b5)
  have B5 := Lib.hid (B4.out.trans (b5.mono B4.out.size))
  clear b5 O4 E4 B4
  go_wp2_with fail
  (with_reducible refine (NPU.out _ _ E5.out).mono ?_)
  rintro e w6 ⟨rfl, b6⟩
  have O6 := Lib.hid (O5.out.call b6)
  have E6 := Lib.hid (E5.out.call b6)
  have B6 := Lib.hid (B5.out.trans (b6.mono B5.out.size))
  clear b6 O5 E5 B5
  go_wp2_with fail
  (with_reducible refine (NCH.out none _ (none_is _)).mono ?_)
  rintro e w7 ⟨rfl, b7⟩
  have O7 := Lib.hid (O6.out.call b7)
  have E7 := Lib.hid (E6.out.call b7)
  have B7 := Lib.hid (B6.out.trans (b7.mono B6.out.size))
  clear b7 O6 E6 B6
  go_wp2_with fail
  (with_reducible refine (NCH.out _ _ O7.out).mono ?_)
  rintro e w8 ⟨rfl, b8⟩
  have O8 := Lib.hid (O7.out.call b8)
  have E8 := Lib.hid (E7.out.call b8)
  have B8 := Lib.hid (B7.out.trans (b8.mono B7.out.size))
  clear b8 O7 E7 B7
  go_wp2_with fail
  (with_reducible refine (NDR.out none _ (none_is _)).mono ?_)
  rintro e w9 ⟨rfl, b9⟩
  have O9 := Lib.hid (O8.out.call b9)
  have E9 := Lib.hid (E8.out.call b9)
  have B9 := Lib.hid (B8.out.trans (b9.mono B8.out.size))
  clear b9 O8 E8 B8
  go_wp2_with fail
  (with_reducible refine (NDR.out _ _ O9.out).mono ?_)
  rintro e w10 ⟨rfl, b10⟩
  have O10 := Lib.hid (O9.out.call b10)
  have E10 := Lib.hid (E9.out.call b10)
  have B10 := Lib.hid (B9.out.trans (b10.mono B9.out.size))
  clear b10 O9 E9 B9
  go_wp2_with fail
  (with_reducible refine (NLE.out none _ (none_is _)).mono ?_)
  rintro e v1 ⟨rfl, rfl⟩
  go_wp2_with fail
  (with_reducible refine (NLE.out _ _ O10.out).mono ?_)
  rintro e v1 ⟨rfl, rfl⟩
  go_wp2_with fail
  (with_reducible refine (NLI.out none _ (none_is _)).mono ?_)
  rintro e w11 ⟨rfl, b11⟩
  have O11 := Lib.hid (O10.out.call b11)
  have E11 := Lib.hid (E10.out.call b11)
  have B11 := Lib.hid (B10.out.trans (b11.mono B10.out.size))
  clear b11 O10 E10 B10
  go_wp2_with fail
  (with_reducible refine (NLI.out _ _ O11.out).mono ?_)
  rintro e w12 ⟨rfl, b12⟩
  have O12 := Lib.hid (O11.out.call b12)
  have E12 := Lib.hid (E11.out.call b12)
  have B12 := Lib.hid (B11.out.trans (b12.mono B11.out.size))
  clear b12 O11 E11 B11
  go_wp2
  go_ret
  exact ⟨rfl, B12.out⟩

set_option maxRecDepth 100000 in
set_option maxHeartbeats 1600000 in
theorem lifted (os : Os) (started : os.Started) (H : Type) (enc : TypeId × Value → H) :
    ReturnsInHanded {} Try.checked os 7 .any (Rows.heapNilSpec.pre6 enc Try.prog Try.f7 Rows.heapNilRow.domain false) (Rows.heapNilSpec.post enc Try.prog Try.f7 false true false false) := by
  refine returnsInHanded_of_change (C := Try.checked) own started (by kernel_rfl) Try.func7
    (ChangeSpec.witness6 (enc := enc) (C := Try.checked) false ⟨#[], #[.int .i64 0], []⟩ 8 (by kernel_rfl) (by kernel_rfl) (by kernel_rfl) (by kernel_rfl)) ?_
  intro W base args ds gs before hval0 hW hcnd _
  have hval : ∀ (j : Nat) t v, Try.f7.params[j]? = some t → args[j]? = some v → Value.okWide Try.prog W .any base t v := hval0
  have hW' := hW
  obtain ⟨p, q, hA0, hV, rfl, hfz, hnd⟩ := hW
  have hA : DataW.TrodAll enc Try.prog W 0 (fun _ => true) true Try.f7.params.toList args.toList ds p := hA0
  rw [Try.params7] at hA hval
  obtain ⟨v0, vs0, d0, ds0, p0, q0, hargs, rfl, rfl, h0, r0⟩ := trodAll_cons hA
  obtain ⟨rfl, rfl, rfl⟩ := trodAll_nil r0
  obtain rfl : args = #[v0] := by cases args; simp_all
  obtain ⟨rfl, rfl⟩ := trodVars_none hV
  have lt0 : ∀ x ∈ p0, x.block < W.heap.size := by obtain ⟨m, hm⟩ := h0; exact DataW.trod_lt m _ _ _ hm
  obtain ⟨x, e0, -, -, wfx⟩ := open_int Try.underlying3 (hval 0 3 v0 rfl rfl) h0
  subst e0
  clear hA0 hval0
  refine (walk x W).mono fun e W' ⟨he, bel⟩ => ?_
  subst he
  exact ⟨_, rfl, _, _, _, [], _, [], hW', trodAll_mk1 (shut_bool Try.underlying4 _), (trodAll_cons_mk (Below.trod laidOut (by kernel_rfl) (of_decide_eq_true (by kernel_rfl)) h0 bel lt0) trodAll_mk0), rfl, bel.frame _, fun h => by cases h⟩

theorem proved : Rows.HeapNilSaid :=
  OpenClaim.holds_of_wide 7 Try.f7 rfl rfl rfl rfl rfl rfl rfl ⟨rfl, rfl, rfl, rfl, rfl⟩ rfl rfl rfl rfl rfl (by kernel_rfl) Try.func7 (by kernel_rfl)
    (of_decide_eq_true (by kernel_rfl)) (by unfold Func.isWrapper; first | (rw [if_pos (by decide +kernel)]; kernel_rfl) | (rw [if_neg (by decide +kernel)]; exact ⟨rfl, rfl⟩))
    (fun os started H enc _ => lifted os started H enc)
#print axioms proved
end Go.Proofs.Ytphnabnpapdpeaa.heapNil
