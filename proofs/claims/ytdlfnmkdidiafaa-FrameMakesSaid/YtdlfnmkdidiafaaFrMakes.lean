/- horariumlaw04.FrameMakes answers true at every cell and every text, and leaves its arguments as they were: cells are made into sectors, and texts into chunks, as the document's own answer makes them. No condition. -/
import Derived.Test.YtdlfnmkdidiafaaFrG
import Derived.Deep.RegionHeld3
import Derived.Deep.DeepCutAuto
import Derived.BigQuiet
namespace Go.Proofs.Ytdlfnmkdidiafaa.frameMakes
open Go.ChangeShapes Go.WideShapes Go.ChangeAt Go.RowKit Go.Joins
set_option linter.unusedVariables false
set_option linter.unusedSimpArgs false

set_option maxRecDepth 100000 in
set_option maxHeartbeats 8000000 in
theorem walk (p : ByteArray) (e n : Nat) (s : ByteArray) (w : World) (we : e < 18446744073709551616) (wn : n < 18446744073709551616) :
    Calls Try.prog 3 #[.agg #[.string p, .int .u64 (e : Int), .int .u64 (n : Int)], .string s] w fun r w' => r = .returned (.bool true) ∧ Below w.heap.size w w' := by
  have S1 : Hid (∀ w : World, Calls Try.prog 9 #[.string p, .int .i64 50] w fun e w' => e = .returned (.string (cut p 50)) ∧ w' = w) := Lib.hid (fun w => short_any p 50 w (by omega))
  have S2 : Hid (∀ w : World, Calls Try.prog 9 #[.string s, .int .i64 200] w fun e w' => e = .returned (.string (cut s 200)) ∧ w' = w) := Lib.hid (fun w => short_any s 200 w (by omega))
  have z2 := cut_size s 200
  generalize cut p 50 = p1 at *
  generalize cut s 200 = s1 at *
  have MA := Lib.hid (fun w => make_any p1 e n w we wn)
  have MB := Lib.hid (fun w => make_rf p1 e n w we wn)
  have CA := Lib.hid (fun w => chunks_any s1 w (by omega))
  have CB := Lib.hid (fun w => chunks_rf s1 w (by omega))
  have nz : (chunks s1.data.toList).length ≤ 100000 := by have := chunks_len s1.data.toList; rw [← size_list] at this; omega
  have SA := Lib.hid (fun B C v u w hv hu => same_rf B C v u (chunks s1.data.toList) w hv hu (chunks_ne _) nz)
  have t1 : ((mkB (madeOf p1.data.toList e n).1).toList == (mkB (madeOf p1.data.toList e n).1).toList) = true := by simp
  have t2 : (((madeOf p1.data.toList e n).2 : Int) == ((madeOf p1.data.toList e n).2 : Int)) = true := by simp
  generalize mkB (madeOf p1.data.toList e n).1 = X at *
  generalize ((madeOf p1.data.toList e n).2 : Int) = k at *
  generalize chunks s1.data.toList = ds at *
  go_enter Try.func3, Try.ntmps3
  go_wp2_with fail
  (with_reducible refine (awake_any _).mono ?_)
  rintro r w1 ⟨rfl, b1⟩
  have c0 := carry b1 (p := ⟨w.heap.size, 0, none⟩) (v := .string p) (by simp [go_sem])
  have c1 := carry b1 (p := ⟨w.heap.size, 1, none⟩) (v := .int .u64 (e : Int)) (by simp [go_sem])
  have c2 := carry b1 (p := ⟨w.heap.size, 2, none⟩) (v := .int .u64 (n : Int)) (by simp [go_sem])
  have f0 : w1.frozen? ⟨w.heap.size, 0, none⟩ = false := by rw [b1.frozen (p := ⟨w.heap.size, 0, none⟩) (by simp)]; simp [go_sem]
  have bl1 : Below w.heap.size w w1 := ((Below.refl _ _).alloc (Nat.le_refl _) _).trans (b1.mono (by simp))
  have lt1 : w.heap.size < w1.heap.size := lt_of_cell c0
  clear b1
  go_wp2_with fail
  (with_reducible refine (S1.out _).mono ?_)
  rintro r w2 ⟨rfl, rfl⟩
  have K1 : Hid ((w2.setCell ⟨w.heap.size, 0, none⟩ (.string p1)).cell? ⟨w.heap.size, 0, none⟩ = some (.string p1) ∧ (w2.setCell ⟨w.heap.size, 0, none⟩ (.string p1)).cell? ⟨w.heap.size, 1, none⟩ = some (.int .u64 (e : Int)) ∧ (w2.setCell ⟨w.heap.size, 0, none⟩ (.string p1)).cell? ⟨w.heap.size, 2, none⟩ = some (.int .u64 (n : Int)) ∧ Below w.heap.size w (w2.setCell ⟨w.heap.size, 0, none⟩ (.string p1))) :=
    Lib.hid ⟨World.cell?_setCell_same _ _ _ c0, by rw [World.cell?_setCell_other _ _ _ _ (by simp)]; exact c1, by rw [World.cell?_setCell_other _ _ _ _ (by simp)]; exact c2, bl1.setCell (Nat.le_refl _) _⟩
  clear S1
  go_wp2_with fail
  (with_reducible refine (S2.out _).mono ?_)
  rintro r w3 ⟨rfl, rfl⟩
  have k1 := K1.out.1
  have k2 := K1.out.2.1
  have k3 := K1.out.2.2.1
  clear S2 c0 c1 c2 f0 bl1
  go_wp2_with fail
  (with_reducible refine (MA.out _).mono ?_)
  rintro r w4 ⟨rfl, b4⟩
  have K4 := h3_call K1.out b4
  clear K1 b4 MA k1 k2 k3
  have k1 := K4.1
  have k2 := K4.2.1
  have k3 := K4.2.2.1
  have B4 := Lib.hid K4.2.2.2
  clear K4
  go_wp2_with fail
  (with_reducible refine (MB.out _).mono ?_)
  rintro r w5 ⟨rfl, b5⟩
  have B5 := Lib.hid (B4.out.trans (b5.mono B4.out.size))
  clear B4 b5 MB k1 k2 k3
  go_wp2_with fail
  (with_reducible refine (CA.out _).mono ?_)
  rintro r w6 ⟨⟨v, rfl, s6⟩, b6⟩
  have B6 := Lib.hid (B5.out.trans (b6.mono B5.out.size))
  clear B5 b6 CA
  go_wp2_with fail
  (with_reducible refine (CB.out _).mono ?_)
  rintro r w7 ⟨⟨u, rfl, s7⟩, b7⟩
  have s6' := s6.call b7
  have B7 := Lib.hid (B6.out.trans (b7.mono B6.out.size))
  clear B6 b7 CB s6
  go_wp2_with fail
  (with_reducible refine (SA.out _ _ _ _ _ s6' s7).mono ?_)
  rintro r w8 ⟨rfl, b8⟩
  have B8 := Lib.hid (B7.out.trans (b8.mono B7.out.size))
  clear B7 b8 SA s6' s7
  go_wp2
  go_ret
  exact ⟨rfl, B8.out⟩

set_option maxRecDepth 100000 in
set_option maxHeartbeats 1600000 in
theorem lifted (os : Os) (started : os.Started) (H : Type) (enc : TypeId × Value → H) :
    ReturnsInHanded {} Try.checked os 3 .any (Rows.frameMakesSpec.pre6 enc Try.prog Try.f3 Rows.frameMakesRow.domain false) (Rows.frameMakesSpec.post enc Try.prog Try.f3 false true false false) := by
  refine returnsInHanded_of_change (C := Try.checked) own started (by kernel_rfl) Try.func3
    (ChangeSpec.witness6 (enc := enc) (C := Try.checked) false ⟨#[], #[.agg #[.string ⟨#[]⟩, .int .u64 0, .int .u64 0], .string ⟨#[]⟩], []⟩ 8 (by kernel_rfl) (by kernel_rfl) (by kernel_rfl) (by kernel_rfl)) ?_
  intro W base args ds gs before hval0 hW hcnd _
  have hval : ∀ (j : Nat) t v, Try.f3.params[j]? = some t → args[j]? = some v → Value.okWide Try.prog W .any base t v := hval0
  have hW' := hW
  obtain ⟨p, q, hA0, hV, rfl, hfz, hnd⟩ := hW
  have hA : DataW.TrodAll enc Try.prog W 0 (fun _ => true) true Try.f3.params.toList args.toList ds p := hA0
  rw [Try.params3] at hA hval
  obtain ⟨v0, vs0, d0, ds0, p0, q0, hargs, rfl, rfl, h0, r0⟩ := trodAll_cons hA
  obtain ⟨v1, vs1, d1, ds1, p1, q1, rfl, rfl, rfl, h1, r1⟩ := trodAll_cons r0
  obtain ⟨rfl, rfl, rfl⟩ := trodAll_nil r1
  obtain rfl : args = #[v0, v1] := by cases args; simp_all
  obtain ⟨rfl, rfl⟩ := trodVars_none hV
  have lt0 : ∀ x ∈ p0, x.block < W.heap.size := by obtain ⟨m, hm⟩ := h0; exact DataW.trod_lt m _ _ _ hm
  obtain ⟨p, e, n, rfl, we, wn⟩ := open_cell (hval 0 24 v0 rfl rfl) h0
  have lt1 : ∀ x ∈ p1, x.block < W.heap.size := by obtain ⟨m, hm⟩ := h1; exact DataW.trod_lt m _ _ _ hm
  obtain ⟨s, e1, -, -, szs⟩ := Go.ChangeMaps.open_string Try.underlying9 (hval 1 9 v1 rfl rfl) h1
  subst e1
  clear hA0 hval0
  refine (walk p e n s W we wn).mono fun e W' ⟨he, bel⟩ => ?_
  subst he
  exact ⟨_, rfl, _, _, _, [], _, [], hW', trodAll_mk1 (shut_bool Try.underlying4 _), (trodAll_cons_mk (Below.trod laidOut (by kernel_rfl) (of_decide_eq_true (by kernel_rfl)) h0 bel lt0) (trodAll_cons_mk (Below.trod laidOut (by kernel_rfl) (of_decide_eq_true (by kernel_rfl)) h1 bel lt1) trodAll_mk0)), rfl, bel.frame _, fun h => by cases h⟩

theorem proved : Rows.FrameMakesSaid :=
  OpenClaim.holds_of_wide 3 Try.f3 rfl rfl rfl rfl rfl rfl rfl ⟨rfl, rfl, rfl, rfl, rfl⟩ rfl rfl rfl rfl rfl (by kernel_rfl) Try.func3 (by kernel_rfl)
    (of_decide_eq_true (by kernel_rfl)) (by unfold Func.isWrapper; first | (rw [if_pos (by decide +kernel)]; kernel_rfl) | (rw [if_neg (by decide +kernel)]; exact ⟨rfl, rfl⟩))
    (fun os started H enc _ => lifted os started H enc)
#print axioms proved
end Go.Proofs.Ytdlfnmkdidiafaa.frameMakes
