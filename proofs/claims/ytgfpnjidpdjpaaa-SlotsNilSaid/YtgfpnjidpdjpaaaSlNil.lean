/- horariumlaw06.SlotsNil answers true at every three numbers: slots are where a disk has room for them; of none nothing comes. No condition. -/
import Derived.Test.YtgfpnjidpdjpaaaSlR
import Derived.Test.YtgfpnjidpdjpaaaDkG
import Derived.Deep.DeepCutAuto
import Derived.Deep.RegionHeld3
import Derived.BigQuiet
namespace Go.Proofs.Ytgfpnjidpdjpaaa.slotsNil
open Go.ChangeShapes Go.WideShapes Go.ChangeAt Go.RowKit Go.Joins
set_option maxRecDepth 100000
set_option linter.unusedVariables false
set_option linter.unusedSimpArgs false
open Dk (own laidOut in64_wf ptr DS)
open Sl (Lw Few snapV InvD gotR newR SS)

theorem read_nil (w : World) :
    Calls Try.prog 10 #[.pointer none] w fun e w' => e = .returned (.tuple #[.agg #[.int .u64 0, .string ⟨#[]⟩], .bool false, .int .i64 1]) ∧ Below w.heap.size w w' := by
  have RM := Lib.hid (fun w => Sl.room_nil w)
  have S0 := Lib.hid (Sl.snAt_new w)
  have c0 := S0.out.c0
  have c1 := S0.out.c1
  have f0 := S0.out.fz 0
  have f1 := S0.out.fz 1
  have FIN := Lib.hid ((((Below.refl w.heap.size w).alloc (Nat.le_refl _) (.cells #[.int .u64 0, .string ⟨#[]⟩] 33)).setCell (p := ⟨w.heap.size, 0, none⟩) (Nat.le_refl _) (.int .u64 0)).setCell (p := ⟨w.heap.size, 1, none⟩) (Nat.le_refl _) (.string ⟨#[]⟩))
  generalize hW : w.alloc (.cells #[.int .u64 0, .string ⟨#[]⟩] 33) = W at *
  clear S0
  go_enter Try.func10, Try.ntmps10
  go_wp2_with fail
  (with_reducible refine (RM.out _).mono ?_)
  rintro e w1 ⟨rfl, rfl⟩
  clear RM
  go_wp2
  refine bodyPost_ret (v := .tuple #[.agg #[.int .u64 0, .string ⟨#[]⟩], .bool false, .int .i64 1]) (by simp [results, Try.results10, go_sem, c0, c1]) rfl ⟨rfl, FIN.out⟩
set_option maxRecDepth 100000 in
set_option maxHeartbeats 8000000 in
theorem walk_yes (n a k : Int) (w : World) (hn : Dk.In64 n) (ha : Dk.In64 a) (hk : Dk.In64 k) (h : Sl.May (1 + n.tmod 20 % 20).toNat a k) :
    Calls Try.prog 6 #[.int .i64 n, .int .i64 a, .int .i64 k] w fun e w' => e = .returned (.bool true) ∧ Below w.heap.size w w' := by
  have t20 : -20 < n.tmod 20 ∧ n.tmod 20 < 20 := ⟨Int.lt_tmod_of_pos n (by omega), Int.tmod_lt_of_pos n (by omega)⟩
  obtain ⟨t1, t2⟩ := t20
  obtain ⟨many, hm⟩ : ∃ m : Nat, 1 + n.tmod 20 % 20 = (m : Int) := ⟨(1 + n.tmod 20 % 20).toNat, by omega⟩
  have m1 : 1 ≤ many := by omega
  have m2 : many ≤ 20 := by omega
  have mi : (many : Int) ≤ 20 := by omega
  have mj : 1 ≤ (many : Int) := by omega
  have ND := Lib.hid (Dk.new_yes many w m1 (by omega))
  have RN := Lib.hid (fun w => read_nil w)
  have WN := Lib.hid (fun w => Sl.write_nil ⟨#[]⟩ w)
  have AW := Lib.hid (fun w => Sl.awake_any w)
  have RO := Lib.hid (fun w => Sl.room_nil w)
  have NN := Lib.hid (fun w => Sl.newest_nil w)
  have NZ := Lib.hid (fun w => Sl.new_nil w)
  obtain ⟨k1, k2, k3, k4⟩ := h
  rw [hm, Int.toNat_natCast] at k4
  obtain ⟨A, rfl⟩ : ∃ A : Nat, a = (A : Int) := ⟨a.toNat, by omega⟩
  obtain ⟨K, rfl⟩ : ∃ K : Nat, k = (K : Int) := ⟨k.toNat, by omega⟩
  have NS := Lib.hid (fun w1 (hd : Dk.Dk w.heap.size (w.heap.size + 1) (Dk.newR many) w1) => Sl.new_yes w.heap.size (w.heap.size + 1) (Dk.newR many) A K w1 hd (by omega) (by omega) (by simp [Dk.newR]; omega))
  go_enter Try.func6, Try.ntmps6
  go_wp2_with fail
  (with_reducible refine ND.out.mono ?_)
  rintro e w1 ⟨rfl, d1, b1⟩
  go_wp2_with fail
  (with_reducible refine (NS.out w1 d1).mono ?_)
  rintro e w2 ⟨rfl, s2, b2⟩
  have l2 := Lib.hid (b1.trans (b2.mono b1.size))
  clear ND NS d1 b1 s2 b2
  go_wp2_with fail
  (with_reducible refine (RN.out _).mono ?_)
  rintro e w3 ⟨rfl, b3⟩
  have l3 := Lib.hid ((l2.out.trans (b3.mono l2.out.size)).alloc (Nat.le_trans l2.out.size b3.size) (.cells #[.int .u64 0, .string ⟨#[]⟩] 33))
  clear b3 l2 RN
  go_wp2_with fail
  (with_reducible refine (WN.out _).mono ?_)
  rintro e w4 ⟨rfl, rfl⟩
  clear WN
  go_wp2_with fail
  (with_reducible refine (AW.out _).mono ?_)
  rintro e w5 ⟨rfl, b5⟩
  have l5 := Lib.hid (l3.out.trans (b5.mono l3.out.size))
  clear b5 l3 AW
  go_wp2_with fail
  (with_reducible refine (RO.out _).mono ?_)
  rintro e w6 ⟨rfl, rfl⟩
  go_wp2_with fail
  (with_reducible refine (NN.out _).mono ?_)
  rintro e w7 ⟨rfl, rfl⟩
  go_wp2_with fail
  (with_reducible refine (NZ.out _).mono ?_)
  rintro e w8 ⟨rfl, rfl⟩
  go_wp2
  go_ret
  exact ⟨rfl, l5.out⟩
set_option maxRecDepth 100000 in
set_option maxHeartbeats 8000000 in
theorem walk_no (n a k : Int) (w : World) (hn : Dk.In64 n) (ha : Dk.In64 a) (hk : Dk.In64 k) (h : ¬ Sl.May (1 + n.tmod 20 % 20).toNat a k) :
    Calls Try.prog 6 #[.int .i64 n, .int .i64 a, .int .i64 k] w fun e w' => e = .returned (.bool true) ∧ Below w.heap.size w w' := by
  have t20 : -20 < n.tmod 20 ∧ n.tmod 20 < 20 := ⟨Int.lt_tmod_of_pos n (by omega), Int.tmod_lt_of_pos n (by omega)⟩
  obtain ⟨t1, t2⟩ := t20
  obtain ⟨many, hm⟩ : ∃ m : Nat, 1 + n.tmod 20 % 20 = (m : Int) := ⟨(1 + n.tmod 20 % 20).toNat, by omega⟩
  have m1 : 1 ≤ many := by omega
  have m2 : many ≤ 20 := by omega
  have mi : (many : Int) ≤ 20 := by omega
  have mj : 1 ≤ (many : Int) := by omega
  have ND := Lib.hid (Dk.new_yes many w m1 (by omega))
  have RN := Lib.hid (fun w => read_nil w)
  have WN := Lib.hid (fun w => Sl.write_nil ⟨#[]⟩ w)
  have AW := Lib.hid (fun w => Sl.awake_any w)
  have RO := Lib.hid (fun w => Sl.room_nil w)
  have NN := Lib.hid (fun w => Sl.newest_nil w)
  have NZ := Lib.hid (fun w => Sl.new_nil w)
  rw [hm, Int.toNat_natCast] at h
  have NS := Lib.hid (fun w1 (hd : Dk.Dk w.heap.size (w.heap.size + 1) (Dk.newR many) w1) => Sl.new_no w.heap.size (w.heap.size + 1) (Dk.newR many) a k w1 hd (by simpa [Dk.newR] using h))
  unfold Sl.May at h
  rcases (show a < 0 ∨ (0 ≤ a ∧ k < 1) ∨ (0 ≤ a ∧ 1 ≤ k ∧ 64 < k) ∨ (0 ≤ a ∧ 1 ≤ k ∧ k ≤ 64 ∧ (many : Int) - 2 * k < a) by omega) with h1 | ⟨h1, h2⟩ | ⟨h1, h2, h3⟩ | ⟨h1, h2, h3, h4⟩
  all_goals
    (try (have dd : decide (a ≤ (many : Int) - 2 * k) = false := by (simp; omega)))
    clear h
    go_enter Try.func6, Try.ntmps6
    go_wp2_with fail
    (with_reducible refine ND.out.mono ?_)
    rintro e w1 ⟨rfl, d1, b1⟩
    go_wp2_with fail
    (with_reducible refine (NS.out w1 d1).mono ?_)
    rintro e w2 ⟨rfl, rfl⟩
    have l2 := Lib.hid b1
    clear ND NS d1 b1
    go_wp2_with fail
    (with_reducible refine (RN.out _).mono ?_)
    rintro e w3 ⟨rfl, b3⟩
    have l3 := Lib.hid ((l2.out.trans (b3.mono l2.out.size)).alloc (Nat.le_trans l2.out.size b3.size) (.cells #[.int .u64 0, .string ⟨#[]⟩] 33))
    clear b3 l2 RN
    go_wp2_with fail
    (with_reducible refine (WN.out _).mono ?_)
    rintro e w4 ⟨rfl, rfl⟩
    clear WN
    go_wp2_with fail
    (with_reducible refine (AW.out _).mono ?_)
    rintro e w5 ⟨rfl, b5⟩
    have l5 := Lib.hid (l3.out.trans (b5.mono l3.out.size))
    clear b5 l3 AW
    go_wp2_with fail
    (with_reducible refine (RO.out _).mono ?_)
    rintro e w6 ⟨rfl, rfl⟩
    go_wp2_with fail
    (with_reducible refine (NN.out _).mono ?_)
    rintro e w7 ⟨rfl, rfl⟩
    go_wp2_with fail
    (with_reducible refine (NZ.out _).mono ?_)
    rintro e w8 ⟨rfl, rfl⟩
    go_wp2
    go_ret
    exact ⟨rfl, l5.out⟩
theorem walk (n a k : Int) (w : World) (hn : Dk.In64 n) (ha : Dk.In64 a) (hk : Dk.In64 k) :
    Calls Try.prog 6 #[.int .i64 n, .int .i64 a, .int .i64 k] w fun e w' => e = .returned (.bool true) ∧ Below w.heap.size w w' := by
  by_cases h : Sl.May (1 + n.tmod 20 % 20).toNat a k
  · exact walk_yes n a k w hn ha hk h
  · exact walk_no n a k w hn ha hk h

set_option maxRecDepth 100000 in
set_option maxHeartbeats 1600000 in
theorem lifted (os : Os) (started : os.Started) (H : Type) (enc : TypeId × Value → H) :
    ReturnsInHanded {} Try.checked os 6 .any (Rows.slotsNilSpec.pre6 enc Try.prog Try.f6 Rows.slotsNilRow.domain false) (Rows.slotsNilSpec.post enc Try.prog Try.f6 false true false false) := by
  refine returnsInHanded_of_change (C := Try.checked) own started (by kernel_rfl) Try.func6
    (ChangeSpec.witness6 (enc := enc) (C := Try.checked) false ⟨#[], #[.int .i64 0, .int .i64 0, .int .i64 0], []⟩ 8 (by kernel_rfl) (by kernel_rfl) (by kernel_rfl) (by kernel_rfl)) ?_
  intro W base args ds gs before hval0 hW hcnd _
  have hval : ∀ (j : Nat) t v, Try.f6.params[j]? = some t → args[j]? = some v → Value.okWide Try.prog W .any base t v := hval0
  have hW' := hW
  obtain ⟨p, q, hA0, hV, rfl, hfz, hnd⟩ := hW
  have hA : DataW.TrodAll enc Try.prog W 0 (fun _ => true) true Try.f6.params.toList args.toList ds p := hA0
  rw [Try.params6] at hA hval
  obtain ⟨v0, vs0, d0, ds0, p0, q0, hargs, rfl, rfl, h0, r0⟩ := trodAll_cons hA
  obtain ⟨v1, vs1, d1, ds1, p1, q1, rfl, rfl, rfl, h1, r1⟩ := trodAll_cons r0
  obtain ⟨v2, vs2, d2, ds2, p2, q2, rfl, rfl, rfl, h2, r2⟩ := trodAll_cons r1
  obtain ⟨rfl, rfl, rfl⟩ := trodAll_nil r2
  obtain rfl : args = #[v0, v1, v2] := by cases args; simp_all
  obtain ⟨rfl, rfl⟩ := trodVars_none hV
  have lt0 : ∀ x ∈ p0, x.block < W.heap.size := by obtain ⟨m, hm⟩ := h0; exact DataW.trod_lt m _ _ _ hm
  obtain ⟨n, e0, -, -, wfn⟩ := open_int Try.underlying3 (hval 0 3 v0 rfl rfl) h0
  subst e0
  have lt1 : ∀ x ∈ p1, x.block < W.heap.size := by obtain ⟨m, hm⟩ := h1; exact DataW.trod_lt m _ _ _ hm
  obtain ⟨a, e1, -, -, wfa⟩ := open_int Try.underlying3 (hval 1 3 v1 rfl rfl) h1
  subst e1
  have lt2 : ∀ x ∈ p2, x.block < W.heap.size := by obtain ⟨m, hm⟩ := h2; exact DataW.trod_lt m _ _ _ hm
  obtain ⟨k, e2, -, -, wfk⟩ := open_int Try.underlying3 (hval 2 3 v2 rfl rfl) h2
  subst e2
  clear hA0 hval0
  refine (walk n a k W (in64_wf wfn) (in64_wf wfa) (in64_wf wfk)).mono fun e W' ⟨he, bel⟩ => ?_
  subst he
  exact ⟨_, rfl, _, _, _, [], _, [], hW', trodAll_mk1 (shut_bool Try.underlying4 _), (trodAll_cons_mk (Below.trod laidOut (by kernel_rfl) (of_decide_eq_true (by kernel_rfl)) h0 bel lt0) (trodAll_cons_mk (Below.trod laidOut (by kernel_rfl) (of_decide_eq_true (by kernel_rfl)) h1 bel lt1) (trodAll_cons_mk (Below.trod laidOut (by kernel_rfl) (of_decide_eq_true (by kernel_rfl)) h2 bel lt2) trodAll_mk0))), rfl, bel.frame _, fun h => by cases h⟩

theorem proved : Rows.SlotsNilSaid :=
  OpenClaim.holds_of_wide 6 Try.f6 rfl rfl rfl rfl rfl rfl rfl ⟨rfl, rfl, rfl, rfl, rfl⟩ rfl rfl rfl rfl rfl (by kernel_rfl) Try.func6 (by kernel_rfl)
    (of_decide_eq_true (by kernel_rfl)) (by unfold Func.isWrapper; first | (rw [if_pos (by decide +kernel)]; kernel_rfl) | (rw [if_neg (by decide +kernel)]; exact ⟨rfl, rfl⟩))
    (fun os started H enc _ => lifted os started H enc)
#print axioms proved
end Go.Proofs.Ytgfpnjidpdjpaaa.slotsNil
