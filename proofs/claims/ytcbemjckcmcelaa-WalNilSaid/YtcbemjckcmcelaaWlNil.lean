/- horariumlaw07.WalNil answers true at every three numbers: a log is where a disk has room for it; of none nothing comes. No condition. -/
import Derived.Test.YtcbemjckcmcelaaWlH
import Derived.Test.YtcbemjckcmcelaaDkG
import Derived.Deep.DeepCutAuto
import Derived.Deep.RegionHeld3
import Derived.BigQuiet
namespace Go.Proofs.Ytcbemjckcmcelaa.walNil
open Go.ChangeShapes Go.WideShapes Go.ChangeAt Go.RowKit Go.Joins
set_option maxRecDepth 100000
set_option linter.unusedVariables false
set_option linter.unusedSimpArgs false
open Dk (own laidOut in64_wf ptr DS)
open Sl (Mv)
open Wl (Lg WS Inv rw_ Ep)

set_option maxRecDepth 100000 in
set_option maxHeartbeats 8000000 in
theorem walk_yes (n a k : Int) (w : World) (hn : Dk.In64 n) (ha : Dk.In64 a) (hk : Dk.In64 k) (h : Wl.May (1 + n.tmod 20 % 20).toNat a k) :
    Calls Try.prog 7 #[.int .i64 n, .int .i64 a, .int .i64 k] w fun e w' => e = .returned (.bool true) ∧ Below w.heap.size w w' := by
  have t20 : -20 < n.tmod 20 ∧ n.tmod 20 < 20 := ⟨Int.lt_tmod_of_pos n (by omega), Int.tmod_lt_of_pos n (by omega)⟩
  obtain ⟨t1, t2⟩ := t20
  obtain ⟨many, hm⟩ : ∃ m : Nat, 1 + n.tmod 20 % 20 = (m : Int) := ⟨(1 + n.tmod 20 % 20).toNat, by omega⟩
  have m1 : 1 ≤ many := by omega
  have m2 : many ≤ 20 := by omega
  have mi : (many : Int) ≤ 20 := by omega
  have mj : 1 ≤ (many : Int) := by omega
  have ND := Lib.hid (Dk.new_yes many w m1 (by omega))
  have SN := Lib.hid (fun w => Wl.scan_nil 1 w)
  have TN := Lib.hid (fun w => Wl.start_nil 1 w)
  have AN := Lib.hid (fun w => Wl.append_nil ⟨#[]⟩ w)
  have AW := Lib.hid (fun w => Wl.awake_any w)
  have LN := Lib.hid (fun w => Wl.left_nil w)
  have EN := Lib.hid (fun w => Wl.len_nil w)
  have NZ := Lib.hid (fun w => Wl.new_nil w)
  have hk1 := hk.1
  have hk2 := hk.2
  clear hk
  obtain ⟨k1, k2, k4⟩ := h
  rw [hm, Int.toNat_natCast] at k4
  obtain ⟨A, rfl⟩ : ∃ A : Nat, a = (A : Int) := ⟨a.toNat, by omega⟩
  obtain ⟨K, rfl⟩ : ∃ K : Nat, k = (K : Int) := ⟨k.toNat, by omega⟩
  have NS := Lib.hid (fun w1 (hd : Dk.Dk w.heap.size (w.heap.size + 1) (Dk.newR many) w1) => Wl.new_yes w.heap.size (w.heap.size + 1) (Dk.newR many) A K w1 hd (by omega) (by simp [Dk.newR]; omega))
  go_enter Try.func7, Try.ntmps7
  go_wp2_with fail
  (with_reducible refine ND.out.mono ?_)
  rintro e w1 ⟨rfl, d1, b1⟩
  go_wp2_with fail
  (with_reducible refine (NS.out w1 d1).mono ?_)
  rintro e w2 ⟨rfl, s2, b2⟩
  have l2 := Lib.hid (b1.trans (b2.mono b1.size))
  clear ND NS d1 b1 s2 b2
  go_wp2_with fail
  (with_reducible refine (SN.out _).mono ?_)
  rintro e w3 ⟨rfl, rfl⟩
  clear SN
  go_wp2_with fail
  (with_reducible refine (AW.out _).mono ?_)
  rintro e w5 ⟨rfl, b5⟩
  have l5 := Lib.hid (l2.out.trans (b5.mono l2.out.size))
  clear b5 l2 AW
  go_wp2_with fail
  (with_reducible refine (TN.out _).mono ?_)
  rintro e w6 ⟨rfl, rfl⟩
  go_wp2_with fail
  (with_reducible refine (AN.out _).mono ?_)
  rintro e w7 ⟨rfl, rfl⟩
  go_wp2_with fail
  (with_reducible refine (LN.out _).mono ?_)
  rintro e w8 ⟨rfl, rfl⟩
  go_wp2_with fail
  (with_reducible refine (EN.out _).mono ?_)
  rintro e w9 ⟨rfl, rfl⟩
  go_wp2_with fail
  (with_reducible refine (NZ.out _).mono ?_)
  rintro e w10 ⟨rfl, rfl⟩
  go_wp2
  go_ret
  exact ⟨rfl, l5.out⟩
set_option maxRecDepth 100000 in
set_option maxHeartbeats 8000000 in
theorem walk_no (n a k : Int) (w : World) (hn : Dk.In64 n) (ha : Dk.In64 a) (hk : Dk.In64 k) (h : ¬ Wl.May (1 + n.tmod 20 % 20).toNat a k) :
    Calls Try.prog 7 #[.int .i64 n, .int .i64 a, .int .i64 k] w fun e w' => e = .returned (.bool true) ∧ Below w.heap.size w w' := by
  have t20 : -20 < n.tmod 20 ∧ n.tmod 20 < 20 := ⟨Int.lt_tmod_of_pos n (by omega), Int.tmod_lt_of_pos n (by omega)⟩
  obtain ⟨t1, t2⟩ := t20
  obtain ⟨many, hm⟩ : ∃ m : Nat, 1 + n.tmod 20 % 20 = (m : Int) := ⟨(1 + n.tmod 20 % 20).toNat, by omega⟩
  have m1 : 1 ≤ many := by omega
  have m2 : many ≤ 20 := by omega
  have mi : (many : Int) ≤ 20 := by omega
  have mj : 1 ≤ (many : Int) := by omega
  have ND := Lib.hid (Dk.new_yes many w m1 (by omega))
  have SN := Lib.hid (fun w => Wl.scan_nil 1 w)
  have TN := Lib.hid (fun w => Wl.start_nil 1 w)
  have AN := Lib.hid (fun w => Wl.append_nil ⟨#[]⟩ w)
  have AW := Lib.hid (fun w => Wl.awake_any w)
  have LN := Lib.hid (fun w => Wl.left_nil w)
  have EN := Lib.hid (fun w => Wl.len_nil w)
  have NZ := Lib.hid (fun w => Wl.new_nil w)
  have hk1 := hk.1
  have hk2 := hk.2
  clear hk
  rw [hm, Int.toNat_natCast] at h
  have NS := Lib.hid (fun w1 (hd : Dk.Dk w.heap.size (w.heap.size + 1) (Dk.newR many) w1) => Wl.new_no w.heap.size (w.heap.size + 1) (Dk.newR many) a k w1 hd hk1 hk2 (by simpa [Dk.newR] using h))
  unfold Wl.May at h
  rcases (show a < 0 ∨ (0 ≤ a ∧ k < 1) ∨ (0 ≤ a ∧ 1 ≤ k ∧ (many : Int) - k < a) by omega) with h1 | ⟨h1, h2⟩ | ⟨h1, h2, h4⟩
  all_goals
    (try (have dd : decide (a ≤ (many : Int) - k) = false := by (simp; omega)))
    clear h
    go_enter Try.func7, Try.ntmps7
    go_wp2_with fail
    (with_reducible refine ND.out.mono ?_)
    rintro e w1 ⟨rfl, d1, b1⟩
    go_wp2_with fail
    (with_reducible refine (NS.out w1 d1).mono ?_)
    rintro e w2 ⟨rfl, rfl⟩
    have l2 := Lib.hid b1
    clear ND NS d1 b1
    go_wp2_with fail
    (with_reducible refine (SN.out _).mono ?_)
    rintro e w3 ⟨rfl, rfl⟩
    clear SN
    go_wp2_with fail
    (with_reducible refine (AW.out _).mono ?_)
    rintro e w5 ⟨rfl, b5⟩
    have l5 := Lib.hid (l2.out.trans (b5.mono l2.out.size))
    clear b5 l2 AW
    go_wp2_with fail
    (with_reducible refine (TN.out _).mono ?_)
    rintro e w6 ⟨rfl, rfl⟩
    go_wp2_with fail
    (with_reducible refine (AN.out _).mono ?_)
    rintro e w7 ⟨rfl, rfl⟩
    go_wp2_with fail
    (with_reducible refine (LN.out _).mono ?_)
    rintro e w8 ⟨rfl, rfl⟩
    go_wp2_with fail
    (with_reducible refine (EN.out _).mono ?_)
    rintro e w9 ⟨rfl, rfl⟩
    go_wp2_with fail
    (with_reducible refine (NZ.out _).mono ?_)
    rintro e w10 ⟨rfl, rfl⟩
    go_wp2
    go_ret
    exact ⟨rfl, l5.out⟩
theorem walk (n a k : Int) (w : World) (hn : Dk.In64 n) (ha : Dk.In64 a) (hk : Dk.In64 k) :
    Calls Try.prog 7 #[.int .i64 n, .int .i64 a, .int .i64 k] w fun e w' => e = .returned (.bool true) ∧ Below w.heap.size w w' := by
  by_cases h : Wl.May (1 + n.tmod 20 % 20).toNat a k
  · exact walk_yes n a k w hn ha hk h
  · exact walk_no n a k w hn ha hk h

set_option maxRecDepth 100000 in
set_option maxHeartbeats 1600000 in
theorem lifted (os : Os) (started : os.Started) (H : Type) (enc : TypeId × Value → H) :
    ReturnsInHanded {} Try.checked os 7 .any (Rows.walNilSpec.pre6 enc Try.prog Try.f7 Rows.walNilRow.domain false) (Rows.walNilSpec.post enc Try.prog Try.f7 false true false false) := by
  refine returnsInHanded_of_change (C := Try.checked) own started (by kernel_rfl) Try.func7
    (ChangeSpec.witness6 (enc := enc) (C := Try.checked) false ⟨#[], #[.int .i64 0, .int .i64 0, .int .i64 0], []⟩ 8 (by kernel_rfl) (by kernel_rfl) (by kernel_rfl) (by kernel_rfl)) ?_
  intro W base args ds gs before hval0 hW hcnd _
  have hval : ∀ (j : Nat) t v, Try.f7.params[j]? = some t → args[j]? = some v → Value.okWide Try.prog W .any base t v := hval0
  have hW' := hW
  obtain ⟨p, q, hA0, hV, rfl, hfz, hnd⟩ := hW
  have hA : DataW.TrodAll enc Try.prog W 0 (fun _ => true) true Try.f7.params.toList args.toList ds p := hA0
  rw [Try.params7] at hA hval
  obtain ⟨v0, vs0, d0, ds0, p0, q0, hargs, rfl, rfl, h0, r0⟩ := trodAll_cons hA
  obtain ⟨v1, vs1, d1, ds1, p1, q1, rfl, rfl, rfl, h1, r1⟩ := trodAll_cons r0
  obtain ⟨v2, vs2, d2, ds2, p2, q2, rfl, rfl, rfl, h2, r2⟩ := trodAll_cons r1
  obtain ⟨rfl, rfl, rfl⟩ := trodAll_nil r2
  obtain rfl : args = #[v0, v1, v2] := by cases args; simp_all
  obtain ⟨rfl, rfl⟩ := trodVars_none hV
  have lt0 : ∀ x ∈ p0, x.block < W.heap.size := by obtain ⟨m, hm⟩ := h0; exact DataW.trod_lt m _ _ _ hm
  obtain ⟨n, e0, -, -, wfn⟩ := open_int Try.underlying3 (hval 0 3 v0 rfl rfl) h0
  subst e0
  have lt1 : ∀ x ∈ p1, x.block < W.heap.size := by obtain ⟨m, hm⟩ := h1; exact DataW.trod_lt m _ _ _ hm
  obtain ⟨a, e1, -, -, wfa⟩ := open_int Try.underlying3 (hval 1 3 v1 rfl rfl) h1
  subst e1
  have lt2 : ∀ x ∈ p2, x.block < W.heap.size := by obtain ⟨m, hm⟩ := h2; exact DataW.trod_lt m _ _ _ hm
  obtain ⟨k, e2, -, -, wfk⟩ := open_int Try.underlying3 (hval 2 3 v2 rfl rfl) h2
  subst e2
  clear hA0 hval0
  refine (walk n a k W (in64_wf wfn) (in64_wf wfa) (in64_wf wfk)).mono fun e W' ⟨he, bel⟩ => ?_
  subst he
  exact ⟨_, rfl, _, _, _, [], _, [], hW', trodAll_mk1 (shut_bool Try.underlying4 _), (trodAll_cons_mk (Below.trod laidOut (by kernel_rfl) (of_decide_eq_true (by kernel_rfl)) h0 bel lt0) (trodAll_cons_mk (Below.trod laidOut (by kernel_rfl) (of_decide_eq_true (by kernel_rfl)) h1 bel lt1) (trodAll_cons_mk (Below.trod laidOut (by kernel_rfl) (of_decide_eq_true (by kernel_rfl)) h2 bel lt2) trodAll_mk0))), rfl, bel.frame _, fun h => by cases h⟩

theorem proved : Rows.WalNilSaid :=
  OpenClaim.holds_of_wide 7 Try.f7 rfl rfl rfl rfl rfl rfl rfl ⟨rfl, rfl, rfl, rfl, rfl⟩ rfl rfl rfl rfl rfl (by kernel_rfl) Try.func7 (by kernel_rfl)
    (of_decide_eq_true (by kernel_rfl)) (by unfold Func.isWrapper; first | (rw [if_pos (by decide +kernel)]; kernel_rfl) | (rw [if_neg (by decide +kernel)]; exact ⟨rfl, rfl⟩))
    (fun os started H enc _ => lifted os started H enc)
#print axioms proved
end Go.Proofs.Ytcbemjckcmcelaa.walNil
