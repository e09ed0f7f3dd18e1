/- horariumlaw08.JournalNil answers true at every two numbers: a journal is of a disk that may be; of none nothing comes; an empty disk has none. No condition. -/
import Derived.Test.YtmccoejliaakoaaJnH
import Derived.Test.YtmccoejliaakoaaMDc
import Derived.Deep.DeepCutAuto
import Derived.Deep.RegionHeld3
import Derived.BigQuiet
namespace Go.Proofs.Ytmccoejliaakoaa.journalNil
open Go.ChangeShapes Go.WideShapes Go.ChangeAt Go.RowKit Go.Joins
set_option maxRecDepth 100000
set_option linter.unusedVariables false
set_option linter.unusedSimpArgs false
open Dk (own laidOut in64_wf ptr DS)
open Jn (JL JI Kp noFound FdAt)

set_option maxRecDepth 100000 in
set_option maxHeartbeats 8000000 in
theorem walk_yes (n : Int) (K M : Nat) (w : World) (hn : Dk.In64 n) (hk : Dk.In64 (K : Int)) (k1 : 1 ≤ K) (k2 : K ≤ 64) (k3 : 1 ≤ M) (k4 : 1 + n.tmod 20 % 20 = ((2 * K + M : Nat) : Int)) :
    Calls Try.prog 7 #[.int .i64 n, .int .i64 (K : Int)] w fun e w' => e = .returned (.bool true) ∧ Below w.heap.size w w' := by
  have t20 : -20 < n.tmod 20 ∧ n.tmod 20 < 20 := ⟨Int.lt_tmod_of_pos n (by omega), Int.tmod_lt_of_pos n (by omega)⟩
  obtain ⟨t1, t2⟩ := t20
  obtain ⟨many, hm⟩ : ∃ m : Nat, 1 + n.tmod 20 % 20 = (m : Int) := ⟨(1 + n.tmod 20 % 20).toNat, by omega⟩
  have m1 : 1 ≤ many := by omega
  have m2 : many ≤ 20 := by omega
  have mi : (many : Int) ≤ 20 := by omega
  have mj : 1 ≤ (many : Int) := by omega
  have ND := Lib.hid (Jn.disk_t many w w (Below.refl _ _) m1 (by omega))
  have FN := Lib.hid (fun w => Jn.format_nil w)
  have AW := Lib.hid (fun w => Jn.awake_any w)
  have AN := Lib.hid (fun w => Jn.append_nil ⟨#[]⟩ w)
  have SN := Lib.hid (fun w => Jn.snapshot_nil ⟨#[]⟩ w)
  have LN := Lib.hid (fun w => Jn.left_nil w)
  have GN := Lib.hid (fun w => Jn.good_nil w)
  have EN := Lib.hid (fun w => Jn.epoch_nil w)
  have hk1 := hk.1
  have hk2 := hk.2
  clear hk
  have hmm : many = 2 * K + M := by omega
  have OP := Lib.hid (fun w1 (h0 : Dk.Dk w.heap.size (w.heap.size + 1) ⟨List.replicate many (List.replicate 64 0), [], 0, 0⟩ w1) (b1 : Below w.heap.size w w1) => have h1 : Dk.Dk w.heap.size (w.heap.size + 1) ⟨List.replicate (2 * K + M) (List.replicate 64 0), [], 0, 0⟩ w1 := hmm ▸ h0; Jn.open_new w.heap.size (w.heap.size + 1) K M 0 w w1 h1 b1 k1 k2 k3 (by omega) (by omega))
  have FO := Lib.hid (fun w1 (h1 : Dk.Dk w.heap.size (w.heap.size + 1) ⟨List.replicate (2 * K + M) (List.replicate 64 0), [], 0, 0 + 2 * K⟩ w1) (b1 : Below w.heap.size w w1) => Jn.format_t w.heap.size (w.heap.size + 1) K M (0 + 2 * K) [] w w1 h1 b1 k1 k2 k3 (by omega) (by omega) (by simp) (by simp))
  have e0 : (mkB [] : ByteArray) = ⟨#[]⟩ := rfl
  have ki1 : 1 ≤ (K : Int) := by omega
  have ki2 : (K : Int) ≤ 64 := by omega
  have ki3 : 2 * (K : Int) < (many : Int) := by omega
  clear hmm k4
  have EF : noFound = .agg #[.string ⟨#[]⟩, .slice none 0 0] := rfl
  rw [EF] at OP
  rw [e0] at FO
  clear e0 EF
  go_enter Try.func7, Try.ntmps7
  go_wp2_with fail
  (with_reducible refine ND.out.mono ?_)
  rintro e w1 ⟨rfl, d1, b1⟩
  have OP1 := Lib.hid (OP.out w1 d1 b1)
  clear ND OP d1 b1
  go_wp2_with fail
  (with_reducible refine OP1.out.mono ?_)
  rintro e w2 ⟨rfl, d2, b2⟩
  have bA := (Below.refl w2.heap.size w2).alloc (Nat.le_refl _) (.cells #[.string ⟨#[]⟩, .slice none 0 0] 32)
  have FO2 := Lib.hid (FO.out _ (d2.call bA) (b2.trans (bA.mono b2.size)))
  clear OP1 FO d2 b2 bA
  go_wp2_with fail
  (with_reducible refine FO2.out.mono ?_)
  rintro e w3 ⟨j, l, q, S, rfl, j3, -⟩
  have l3 := Lib.hid j3.jn.bel
  clear FO2 j3
  go_wp2_with fail
  (with_reducible refine (FN.out _).mono ?_)
  rintro e w4 ⟨rfl, rfl⟩
  clear FN
  go_wp2_with fail
  (with_reducible refine (AW.out _).mono ?_)
  rintro e w5 ⟨rfl, b5⟩
  have l5 := Lib.hid (l3.out.trans (b5.mono l3.out.size))
  clear b5 l3 AW
  go_wp2_with fail
  (with_reducible refine (AN.out _).mono ?_)
  rintro e w6 ⟨rfl, b6⟩
  have l6 := Lib.hid (l5.out.trans (b6.mono l5.out.size))
  clear b6 l5 AN
  go_wp2_with fail
  (with_reducible refine (SN.out _).mono ?_)
  rintro e w7 ⟨rfl, b7⟩
  have l7 := Lib.hid (l6.out.trans (b7.mono l6.out.size))
  clear b7 l6 SN
  go_wp2_with fail
  (with_reducible refine (LN.out _).mono ?_)
  rintro e w8 ⟨rfl, rfl⟩
  go_wp2_with fail
  (with_reducible refine (GN.out _).mono ?_)
  rintro e w9 ⟨rfl, rfl⟩
  go_wp2_with fail
  (with_reducible refine (EN.out _).mono ?_)
  rintro e w10 ⟨rfl, rfl⟩
  go_wp2
  go_ret
  exact ⟨rfl, l7.out⟩
set_option maxRecDepth 100000 in
set_option maxHeartbeats 8000000 in
theorem walk_no (n k : Int) (w : World) (hn : Dk.In64 n) (hk : Dk.In64 k) (h : ¬ (1 ≤ k ∧ k ≤ 64 ∧ 2 * k < 1 + n.tmod 20 % 20)) :
    Calls Try.prog 7 #[.int .i64 n, .int .i64 k] w fun e w' => e = .returned (.bool true) ∧ Below w.heap.size w w' := by
  have t20 : -20 < n.tmod 20 ∧ n.tmod 20 < 20 := ⟨Int.lt_tmod_of_pos n (by omega), Int.tmod_lt_of_pos n (by omega)⟩
  obtain ⟨t1, t2⟩ := t20
  obtain ⟨many, hm⟩ : ∃ m : Nat, 1 + n.tmod 20 % 20 = (m : Int) := ⟨(1 + n.tmod 20 % 20).toNat, by omega⟩
  have m1 : 1 ≤ many := by omega
  have m2 : many ≤ 20 := by omega
  have mi : (many : Int) ≤ 20 := by omega
  have mj : 1 ≤ (many : Int) := by omega
  have ND := Lib.hid (Jn.disk_t many w w (Below.refl _ _) m1 (by omega))
  have FN := Lib.hid (fun w => Jn.format_nil w)
  have AW := Lib.hid (fun w => Jn.awake_any w)
  have AN := Lib.hid (fun w => Jn.append_nil ⟨#[]⟩ w)
  have SN := Lib.hid (fun w => Jn.snapshot_nil ⟨#[]⟩ w)
  have LN := Lib.hid (fun w => Jn.left_nil w)
  have GN := Lib.hid (fun w => Jn.good_nil w)
  have EN := Lib.hid (fun w => Jn.epoch_nil w)
  have hk1 := hk.1
  have hk2 := hk.2
  clear hk
  rw [hm] at h
  have OP := Lib.hid (fun w1 (h1 : Dk.Dk w.heap.size (w.heap.size + 1) ⟨List.replicate many (List.replicate 64 0), [], 0, 0⟩ w1) => Jn.open_no w.heap.size (w.heap.size + 1) _ k w1 h1 (by simpa using h))
  have FO := Lib.hid (fun w1 (h1 : Dk.Dk w.heap.size (w.heap.size + 1) ⟨List.replicate many (List.replicate 64 0), [], 0, 0⟩ w1) => Jn.format_no w.heap.size (w.heap.size + 1) _ k ⟨#[]⟩ w1 h1 (by simpa using h))
  have EF : noFound = .agg #[.string ⟨#[]⟩, .slice none 0 0] := rfl
  rw [EF] at OP
  clear EF
  rcases (show k < 1 ∨ (1 ≤ k ∧ 64 < k) ∨ (1 ≤ k ∧ k ≤ 64 ∧ (many : Int) ≤ 2 * k) by omega) with h1 | ⟨h1, h2⟩ | ⟨h1, h2, h4⟩
  all_goals
    clear h
    go_enter Try.func7, Try.ntmps7
    go_wp2_with fail
    (with_reducible refine ND.out.mono ?_)
    rintro e w1 ⟨rfl, d1, b1⟩
    have OP1 := Lib.hid (OP.out w1 d1)
    have D1 := Lib.hid (And.intro d1 b1)
    clear ND OP d1 b1
    go_wp2_with fail
    (with_reducible refine OP1.out.mono ?_)
    rintro e w2 ⟨rfl, b2⟩
    have bA := b2.trans (((Below.refl w2.heap.size w2).alloc (Nat.le_refl _) (.cells #[.string ⟨#[]⟩, .slice none 0 0] 32)).mono b2.size)
    have FO2 := Lib.hid (FO.out _ (D1.out.1.call bA))
    have l2 := Lib.hid (D1.out.2.trans (bA.mono D1.out.2.size))
    clear OP1 FO b2 bA D1
    go_wp2_with fail
    (with_reducible refine FO2.out.mono ?_)
    rintro e w3 ⟨rfl, b3⟩
    have l3 := Lib.hid (l2.out.trans (b3.mono l2.out.size))
    clear FO2 b3 l2
    go_wp2_with fail
    (with_reducible refine (FN.out _).mono ?_)
    rintro e w4 ⟨rfl, rfl⟩
    clear FN
    go_wp2_with fail
    (with_reducible refine (AW.out _).mono ?_)
    rintro e w5 ⟨rfl, b5⟩
    have l5 := Lib.hid (l3.out.trans (b5.mono l3.out.size))
    clear b5 l3 AW
    go_wp2_with fail
    (with_reducible refine (AN.out _).mono ?_)
    rintro e w6 ⟨rfl, b6⟩
    have l6 := Lib.hid (l5.out.trans (b6.mono l5.out.size))
    clear b6 l5 AN
    go_wp2_with fail
    (with_reducible refine (SN.out _).mono ?_)
    rintro e w7 ⟨rfl, b7⟩
    have l7 := Lib.hid (l6.out.trans (b7.mono l6.out.size))
    clear b7 l6 SN
    go_wp2_with fail
    (with_reducible refine (LN.out _).mono ?_)
    rintro e w8 ⟨rfl, rfl⟩
    go_wp2_with fail
    (with_reducible refine (GN.out _).mono ?_)
    rintro e w9 ⟨rfl, rfl⟩
    go_wp2_with fail
    (with_reducible refine (EN.out _).mono ?_)
    rintro e w10 ⟨rfl, rfl⟩
    go_wp2
    go_ret
    exact ⟨rfl, l7.out⟩
theorem walk (n k : Int) (w : World) (hn : Dk.In64 n) (hk : Dk.In64 k) :
    Calls Try.prog 7 #[.int .i64 n, .int .i64 k] w fun e w' => e = .returned (.bool true) ∧ Below w.heap.size w w' := by
  by_cases h : 1 ≤ k ∧ k ≤ 64 ∧ 2 * k < 1 + n.tmod 20 % 20
  · obtain ⟨K, rfl⟩ : ∃ K : Nat, k = (K : Int) := ⟨k.toNat, by omega⟩
    obtain ⟨M, hM⟩ : ∃ M : Nat, 1 + n.tmod 20 % 20 = ((2 * K + M : Nat) : Int) := ⟨(1 + n.tmod 20 % 20 - 2 * (K : Int)).toNat, by omega⟩
    exact walk_yes n K M w hn hk (by omega) (by omega) (by omega) hM
  · exact walk_no n k w hn hk h

set_option maxRecDepth 100000 in
set_option maxHeartbeats 1600000 in
theorem lifted (os : Os) (started : os.Started) (H : Type) (enc : TypeId × Value → H) :
    ReturnsInHanded {} Try.checked os 7 .any (Rows.journalNilSpec.pre6 enc Try.prog Try.f7 Rows.journalNilRow.domain false) (Rows.journalNilSpec.post enc Try.prog Try.f7 false true false false) := by
  refine returnsInHanded_of_change (C := Try.checked) own started (by kernel_rfl) Try.func7
    (ChangeSpec.witness6 (enc := enc) (C := Try.checked) false ⟨#[], #[.int .i64 0, .int .i64 0], []⟩ 8 (by kernel_rfl) (by kernel_rfl) (by kernel_rfl) (by kernel_rfl)) ?_
  intro W base args ds gs before hval0 hW hcnd _
  have hval : ∀ (j : Nat) t v, Try.f7.params[j]? = some t → args[j]? = some v → Value.okWide Try.prog W .any base t v := hval0
  have hW' := hW
  obtain ⟨p, q, hA0, hV, rfl, hfz, hnd⟩ := hW
  have hA : DataW.TrodAll enc Try.prog W 0 (fun _ => true) true Try.f7.params.toList args.toList ds p := hA0
  rw [Try.params7] at hA hval
  obtain ⟨v0, vs0, d0, ds0, p0, q0, hargs, rfl, rfl, h0, r0⟩ := trodAll_cons hA
  obtain ⟨v1, vs1, d1, ds1, p1, q1, rfl, rfl, rfl, h1, r1⟩ := trodAll_cons r0
  obtain ⟨rfl, rfl, rfl⟩ := trodAll_nil r1
  obtain rfl : args = #[v0, v1] := by cases args; simp_all
  obtain ⟨rfl, rfl⟩ := trodVars_none hV
  have lt0 : ∀ x ∈ p0, x.block < W.heap.size := by obtain ⟨m, hm⟩ := h0; exact DataW.trod_lt m _ _ _ hm
  obtain ⟨n, e0, -, -, wfn⟩ := open_int Try.underlying3 (hval 0 3 v0 rfl rfl) h0
  subst e0
  have lt1 : ∀ x ∈ p1, x.block < W.heap.size := by obtain ⟨m, hm⟩ := h1; exact DataW.trod_lt m _ _ _ hm
  obtain ⟨k, e1, -, -, wfk⟩ := open_int Try.underlying3 (hval 1 3 v1 rfl rfl) h1
  subst e1
  clear hA0 hval0
  refine (walk n k W (in64_wf wfn) (in64_wf wfk)).mono fun e W' ⟨he, bel⟩ => ?_
  subst he
  exact ⟨_, rfl, _, _, _, [], _, [], hW', trodAll_mk1 (shut_bool Try.underlying4 _), (trodAll_cons_mk (Below.trod laidOut (by kernel_rfl) (of_decide_eq_true (by kernel_rfl)) h0 bel lt0) (trodAll_cons_mk (Below.trod laidOut (by kernel_rfl) (of_decide_eq_true (by kernel_rfl)) h1 bel lt1) trodAll_mk0)), rfl, bel.frame _, fun h => by cases h⟩

theorem proved : Rows.JournalNilSaid :=
  OpenClaim.holds_of_wide 7 Try.f7 rfl rfl rfl rfl rfl rfl rfl ⟨rfl, rfl, rfl, rfl, rfl⟩ rfl rfl rfl rfl rfl (by kernel_rfl) Try.func7 (by kernel_rfl)
    (of_decide_eq_true (by kernel_rfl)) (by unfold Func.isWrapper; first | (rw [if_pos (by decide +kernel)]; kernel_rfl) | (rw [if_neg (by decide +kernel)]; exact ⟨rfl, rfl⟩))
    (fun os started H enc _ => lifted os started H enc)
#print axioms proved
end Go.Proofs.Ytmccoejliaakoaa.journalNil
