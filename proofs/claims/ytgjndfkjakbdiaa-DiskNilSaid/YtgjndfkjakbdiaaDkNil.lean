/- horariumlaw05.DiskNil answers true at every number, and leaves it as it was: a disk has 1 to 1024 sectors; of none nothing comes. No condition. -/
import Derived.Test.YtgjndfkjakbdiaaDkG
import Derived.Deep.DeepCutAuto
import Derived.Deep.RegionHeld3
import Derived.BigQuiet
namespace Go.Proofs.Ytgjndfkjakbdiaa.diskNil
open Go.ChangeShapes Go.WideShapes Go.ChangeAt Go.RowKit Go.Joins
set_option linter.unusedVariables false
set_option linter.unusedSimpArgs false
open Dk

set_option maxRecDepth 100000 in
set_option maxHeartbeats 8000000 in
theorem walk_no (n : Int) (w : World) (h : n < 1 ∨ 1024 < n) :
    Calls Try.prog 7 #[.int .i64 n] w fun e w' => e = .returned (.bool true) ∧ Below w.heap.size w w' := by
  have N := Lib.hid (new_no n w h)
  have FZ : Hid (∀ w : World, Calls Try.prog 12 #[.int .u8 0] w fun e w' => e = .returned (.string (mkB (List.replicate 64 0))) ∧ Below w.heap.size w w') := Lib.hid (fun w => fill_any 0 w (by omega))
  generalize mkB (List.replicate 64 0) = T at *
  have t : (decide (1 ≤ n) && decide (n ≤ 1024)) = false := by simp; omega
  rcases h with h | h
  all_goals
    (try (have t2 : decide (n ≤ 1024) = false := by (simp; omega)))
    go_enter Try.func7, Try.ntmps7
    go_wp2_with fail
    (with_reducible refine N.out.mono ?_)
    rintro e w1 ⟨rfl, rfl⟩
    have l1 := Lib.hid (Below.refl w1.heap.size w1)
    clear N
    go_wp2_with fail
    (with_reducible refine (fail_nil 1 _).mono ?_)
    rintro e w2 ⟨rfl, rfl⟩
    go_wp2_with fail
    (with_reducible refine (read_nil 0 _).mono ?_)
    rintro e w3 ⟨rfl, rfl⟩
    go_wp2_with fail
    (with_reducible refine (awake_any _).mono ?_)
    rintro e w4 ⟨rfl, b4⟩
    have l4 := Lib.hid (l1.out.trans (b4.mono l1.out.size))
    clear b4 l1
    go_wp2_with fail
    (with_reducible refine (FZ.out _).mono ?_)
    rintro e w5 ⟨rfl, b5⟩
    have l5 := Lib.hid (l4.out.trans (b5.mono l4.out.size))
    clear b5 l4 FZ
    go_wp2_with fail
    (with_reducible refine (write_nil 0 _ _).mono ?_)
    rintro e w6 ⟨rfl, rfl⟩
    go_wp2_with fail
    (with_reducible refine (flush_nil _).mono ?_)
    rintro e w7 ⟨rfl, rfl⟩
    go_wp2_with fail
    (with_reducible refine (len_nil _).mono ?_)
    rintro e w8 ⟨rfl, rfl⟩
    go_wp2_with fail
    (with_reducible refine (open_nil _).mono ?_)
    rintro e w9 ⟨rfl, rfl⟩
    go_wp2_with fail
    (with_reducible refine (reads_nil _).mono ?_)
    rintro e w10 ⟨rfl, rfl⟩
    go_wp2_with fail
    (with_reducible refine (crash_nil none 0 0 _).mono ?_)
    rintro e w11 ⟨rfl, rfl⟩
    go_wp2
    go_ret
    exact ⟨rfl, l5.out⟩
set_option maxRecDepth 100000 in
set_option maxHeartbeats 8000000 in
theorem walk_yes (n : Nat) (w : World) (h0 : 1 ≤ n) (h1 : n ≤ 1024) :
    Calls Try.prog 7 #[.int .i64 (n : Int)] w fun e w' => e = .returned (.bool true) ∧ Below w.heap.size w w' := by
  have N := Lib.hid (new_yes n w h0 h1)
  have FZ : Hid (∀ w : World, Calls Try.prog 12 #[.int .u8 0] w fun e w' => e = .returned (.string (mkB (List.replicate 64 0))) ∧ Below w.heap.size w w') := Lib.hid (fun w => fill_any 0 w (by omega))
  generalize mkB (List.replicate 64 0) = T at *
  have i0 : (1 : Int) ≤ (n : Int) := by omega
  have i1 : (n : Int) ≤ 1024 := by omega
  go_enter Try.func7, Try.ntmps7
  go_wp2_with fail
  (with_reducible refine N.out.mono ?_)
  rintro e w1 ⟨rfl, k1, b1⟩
  have l1 := Lib.hid b1
  clear N k1 b1
  go_wp2_with fail
  (with_reducible refine (fail_nil 1 _).mono ?_)
  rintro e w2 ⟨rfl, rfl⟩
  go_wp2_with fail
  (with_reducible refine (read_nil 0 _).mono ?_)
  rintro e w3 ⟨rfl, rfl⟩
  go_wp2_with fail
  (with_reducible refine (awake_any _).mono ?_)
  rintro e w4 ⟨rfl, b4⟩
  have l4 := Lib.hid (l1.out.trans (b4.mono l1.out.size))
  clear b4 l1
  go_wp2_with fail
  (with_reducible refine (FZ.out _).mono ?_)
  rintro e w5 ⟨rfl, b5⟩
  have l5 := Lib.hid (l4.out.trans (b5.mono l4.out.size))
  clear b5 l4 FZ
  go_wp2_with fail
  (with_reducible refine (write_nil 0 _ _).mono ?_)
  rintro e w6 ⟨rfl, rfl⟩
  go_wp2_with fail
  (with_reducible refine (flush_nil _).mono ?_)
  rintro e w7 ⟨rfl, rfl⟩
  go_wp2_with fail
  (with_reducible refine (len_nil _).mono ?_)
  rintro e w8 ⟨rfl, rfl⟩
  go_wp2_with fail
  (with_reducible refine (open_nil _).mono ?_)
  rintro e w9 ⟨rfl, rfl⟩
  go_wp2_with fail
  (with_reducible refine (reads_nil _).mono ?_)
  rintro e w10 ⟨rfl, rfl⟩
  go_wp2_with fail
  (with_reducible refine (crash_nil none 0 0 _).mono ?_)
  rintro e w11 ⟨rfl, rfl⟩
  go_wp2
  go_ret
  exact ⟨rfl, l5.out⟩
theorem walk (n : Int) (w : World) :
    Calls Try.prog 7 #[.int .i64 n] w fun e w' => e = .returned (.bool true) ∧ Below w.heap.size w w' := by
  by_cases h : n < 1 ∨ 1024 < n
  · exact walk_no n w h
  · have := walk_yes n.toNat w (by omega) (by omega)
    rwa [show ((n.toNat : Nat) : Int) = n by omega] at this

set_option maxRecDepth 100000 in
set_option maxHeartbeats 1600000 in
theorem lifted (os : Os) (started : os.Started) (H : Type) (enc : TypeId × Value → H) :
    ReturnsInHanded {} Try.checked os 7 .any (Rows.diskNilSpec.pre6 enc Try.prog Try.f7 Rows.diskNilRow.domain false) (Rows.diskNilSpec.post enc Try.prog Try.f7 false true false false) := by
  refine returnsInHanded_of_change (C := Try.checked) own started (by kernel_rfl) Try.func7
    (ChangeSpec.witness6 (enc := enc) (C := Try.checked) false ⟨#[], #[.int .i64 0], []⟩ 8 (by kernel_rfl) (by kernel_rfl) (by kernel_rfl) (by kernel_rfl)) ?_
  intro W base args ds gs before hval0 hW hcnd _
  have hval : ∀ (j : Nat) t v, Try.f7.params[j]? = some t → args[j]? = some v → Value.okWide Try.prog W .any base t v := hval0
  have hW' := hW
  obtain ⟨p, q, hA0, hV, rfl, hfz, hnd⟩ := hW
  have hA : DataW.TrodAll enc Try.prog W 0 (fun _ => true) true Try.f7.params.toList args.toList ds p := hA0
  rw [Try.params7] at hA hval
  obtain ⟨v0, vs0, d0, ds0, p0, q0, hargs, rfl, rfl, h0, r0⟩ := trodAll_cons hA
  obtain ⟨rfl, rfl, rfl⟩ := trodAll_nil r0
  obtain rfl : args = #[v0] := by cases args; simp_all
  obtain ⟨rfl, rfl⟩ := trodVars_none hV
  have lt0 : ∀ x ∈ p0, x.block < W.heap.size := by obtain ⟨m, hm⟩ := h0; exact DataW.trod_lt m _ _ _ hm
  obtain ⟨n, e0, -, -, wfn⟩ := open_int Try.underlying3 (hval 0 3 v0 rfl rfl) h0
  subst e0
  clear hA0 hval0
  refine (walk n W).mono fun e W' ⟨he, bel⟩ => ?_
  subst he
  exact ⟨_, rfl, _, _, _, [], _, [], hW', trodAll_mk1 (shut_bool Try.underlying4 _), (trodAll_cons_mk (Below.trod laidOut (by kernel_rfl) (of_decide_eq_true (by kernel_rfl)) h0 bel lt0) trodAll_mk0), rfl, bel.frame _, fun h => by cases h⟩

theorem proved : Rows.DiskNilSaid :=
  OpenClaim.holds_of_wide 7 Try.f7 rfl rfl rfl rfl rfl rfl rfl ⟨rfl, rfl, rfl, rfl, rfl⟩ rfl rfl rfl rfl rfl (by kernel_rfl) Try.func7 (by kernel_rfl)
    (of_decide_eq_true (by kernel_rfl)) (by unfold Func.isWrapper; first | (rw [if_pos (by decide +kernel)]; kernel_rfl) | (rw [if_neg (by decide +kernel)]; exact ⟨rfl, rfl⟩))
    (fun os started H enc _ => lifted os started H enc)
#print axioms proved
end Go.Proofs.Ytgjndfkjakbdiaa.diskNil
