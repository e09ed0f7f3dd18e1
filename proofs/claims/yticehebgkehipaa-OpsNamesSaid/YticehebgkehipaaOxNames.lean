/- horariumlaw13.OpsNames answers true at every two kinds: each kind of op has a name of its own, no other kind has one of these. No condition. -/
import Derived.Test.YticehebgkehipaaOpW
import Derived.Test.YticehebgkehipaaOcG
import Derived.Deep.DeepCutAuto
import Derived.Deep.RegionHeld3
import Derived.Deep.RegionWith
import Derived.BigQuiet
namespace Go.Proofs.Yticehebgkehipaa.opsNames
open Go.ChangeShapes Go.WideShapes Go.ChangeAt Go.RowKit Go.Joins
open Oc
set_option maxRecDepth 100000
set_option linter.unusedVariables false
set_option linter.unusedSimpArgs false
open Pm Ox
theorem neB {a b : List UInt8} (h : ¬ a = b) : (a == b) = false := by simpa using h
theorem name_out {a : Int} (h : a < 1 ∨ 4 < a) : nameR a = ⟨#[110, 111, 110, 101]⟩ := by
  unfold nameR
  rw [if_neg (by omega), if_neg (by omega), if_neg (by omega), if_neg (by omega)]
theorem four {a : Int} (h : 1 ≤ a ∧ a ≤ 4) : a = 1 ∨ a = 2 ∨ a = 3 ∨ a = 4 := by omega
theorem name_in {a : Int} (h : 1 ≤ a ∧ a ≤ 4) : ¬ (nameR a).toList = [110, 111, 110, 101] := by
  rcases four h with rfl | rfl | rfl | rfl <;> (rw [ByteArray.toList_eq]; decide)
theorem name_two {a b : Int} (h : 1 ≤ a ∧ a ≤ 4) (k : 1 ≤ b ∧ b ≤ 4) (n : ¬ a = b) : ¬ (nameR a).toList = (nameR b).toList := by
  rw [ByteArray.toList_eq, ByteArray.toList_eq]
  rcases four h with rfl | rfl | rfl | rfl <;> rcases four k with rfl | rfl | rfl | rfl <;> first | exact absurd rfl n | decide

set_option maxRecDepth 100000 in
set_option maxHeartbeats 8000000 in
theorem walk (a b : Int) (w : World) :
    Calls Try.prog 8 #[.int .i64 a, .int .i64 b] w fun e w' => e = .returned (.bool true) ∧ Below w.heap.size w w' := by
  have AW := Lib.hid awake_any
  have NA := Lib.hid (name_any a)
  have NB := Lib.hid (name_any b)
  have N1 := Lib.hid (name_any 1)
  have e1 : nameR 1 = ⟨#[97, 100, 109, 105, 116]⟩ := rfl
  rw [e1] at N1
  clear e1
  have N2 := Lib.hid (name_any 2)
  have e2 : nameR 2 = ⟨#[114, 101, 109, 111, 118, 101]⟩ := rfl
  rw [e2] at N2
  clear e2
  have N3 := Lib.hid (name_any 3)
  have e3 : nameR 3 = ⟨#[114, 101, 115, 105, 122, 101]⟩ := rfl
  rw [e3] at N3
  clear e3
  have N4 := Lib.hid (name_any 4)
  have e4 : nameR 4 = ⟨#[109, 111, 100, 101]⟩ := rfl
  rw [e4] at N4
  clear e4
  have EA := Lib.hid (fun h => name_out (a := a) h)
  have EB := Lib.hid (fun h => name_out (a := b) h)
  have IA := Lib.hid (fun h => name_in (a := a) h)
  have IB := Lib.hid (fun h => name_in (a := b) h)
  have IC := Lib.hid (fun h k n => name_two (a := a) (b := b) h k n)
  have SM := Lib.hid (fun (h : a = b) => congrArg nameR h)
  generalize nameR a = xa at *
  generalize nameR b = xb at *
  go_enter Try.func8, Try.ntmps8
  go_wp2_with fail
  (with_reducible refine (AW.out _).mono ?_)
  rintro e w1 ⟨rfl, b1⟩
  have K1 := Lib.hid b1
  clear b1 AW
  go_wp2_with fail
  (with_reducible refine (NA.out _).mono ?_)
  rintro e w2 ⟨rfl, b2⟩
  have K2 := Lib.hid (K1.out.trans (b2.mono K1.out.size))
  clear b2 NA K1
  go_wp2_with fail
  (with_reducible refine (NB.out _).mono ?_)
  rintro e w3 ⟨rfl, b3⟩
  have K3 := Lib.hid (K2.out.trans (b3.mono K2.out.size))
  clear b3 NB K2
  have FIN : Hid (∀ u1 u2 u3 u4, Below w3.heap.size w3 u1 → Below u1.heap.size u1 u2 → Below u2.heap.size u2 u3 → Below u3.heap.size u3 u4 → Below w.heap.size w u4) := Lib.hid (fun u1 u2 u3 u4 h1 h2 h3 h4 => by
    have g1 := K3.out.trans (h1.mono K3.out.size)
    have g2 := g1.trans (h2.mono g1.size)
    have g3 := g2.trans (h3.mono g2.size)
    exact g3.trans (h4.mono g3.size))
  clear K3
  have CL : ∀ x : Int, x < 1 ∨ (1 ≤ x ∧ x ≤ 4) ∨ 4 < x := fun x => by omega
  rcases CL a with ha | ha | ha
  · have ag : decide (1 ≤ a) = false := by simp; omega
    have al : decide (a < 1) = true := by simp; omega
    have fa := EA.out (.inl ha)
    subst fa
    by_cases hab : a = b
    · have fb := SM.out hab
      subst fb
      subst hab
      have ab : (a == a) = true := by simp
      clear EA EB IA IB IC SM CL ha
      go_wp2_with fail
      (with_reducible refine (N1.out _).mono ?_)
      rintro e u1 ⟨rfl, c1⟩
      go_wp2_with fail
      (with_reducible refine (N2.out _).mono ?_)
      rintro e u2 ⟨rfl, c2⟩
      go_wp2_with fail
      (with_reducible refine (N3.out _).mono ?_)
      rintro e u3 ⟨rfl, c3⟩
      go_wp2_with fail
      (with_reducible refine (N4.out _).mono ?_)
      rintro e u4 ⟨rfl, c4⟩
      have HF := Lib.hid (FIN.out _ _ _ _ c1 c2 c3 c4)
      clear c1 c2 c3 c4 FIN
      go_wp2
      go_ret
      exact ⟨rfl, HF.out⟩
    have ab : (a == b) = false := by simpa using hab
    rcases CL b with hb | hb | hb
    · have bl : decide (b < 1) = true := by simp; omega
      have fb := EB.out (.inl hb)
      subst fb
      clear EA EB IA IB IC SM CL ha hb hab
      go_wp2_with fail
      (with_reducible refine (N1.out _).mono ?_)
      rintro e u1 ⟨rfl, c1⟩
      go_wp2_with fail
      (with_reducible refine (N2.out _).mono ?_)
      rintro e u2 ⟨rfl, c2⟩
      go_wp2_with fail
      (with_reducible refine (N3.out _).mono ?_)
      rintro e u3 ⟨rfl, c3⟩
      go_wp2_with fail
      (with_reducible refine (N4.out _).mono ?_)
      rintro e u4 ⟨rfl, c4⟩
      have HF := Lib.hid (FIN.out _ _ _ _ c1 c2 c3 c4)
      clear c1 c2 c3 c4 FIN
      go_wp2
      go_ret
      exact ⟨rfl, HF.out⟩
    · have bl : decide (b < 1) = false := by simp; omega
      have bu : decide (4 < b) = false := by simp; omega
      have fb := IB.out hb
      have fb2 : ¬ [110, 111, 110, 101] = xb.toList := fun h => fb h.symm
      have fb3 := neB fb2
      clear fb
      clear EA EB IA IB IC SM CL ha hb hab
      go_wp2_with fail
      (with_reducible refine (N1.out _).mono ?_)
      rintro e u1 ⟨rfl, c1⟩
      go_wp2_with fail
      (with_reducible refine (N2.out _).mono ?_)
      rintro e u2 ⟨rfl, c2⟩
      go_wp2_with fail
      (with_reducible refine (N3.out _).mono ?_)
      rintro e u3 ⟨rfl, c3⟩
      go_wp2_with fail
      (with_reducible refine (N4.out _).mono ?_)
      rintro e u4 ⟨rfl, c4⟩
      have HF := Lib.hid (FIN.out _ _ _ _ c1 c2 c3 c4)
      clear c1 c2 c3 c4 FIN
      go_wp2
      go_ret
      exact ⟨rfl, HF.out⟩
    · have bl : decide (b < 1) = false := by simp; omega
      have bu : decide (4 < b) = true := by simp; omega
      have fb := EB.out (.inr hb)
      subst fb
      clear EA EB IA IB IC SM CL ha hb hab
      go_wp2_with fail
      (with_reducible refine (N1.out _).mono ?_)
      rintro e u1 ⟨rfl, c1⟩
      go_wp2_with fail
      (with_reducible refine (N2.out _).mono ?_)
      rintro e u2 ⟨rfl, c2⟩
      go_wp2_with fail
      (with_reducible refine (N3.out _).mono ?_)
      rintro e u3 ⟨rfl, c3⟩
      go_wp2_with fail
      (with_reducible refine (N4.out _).mono ?_)
      rintro e u4 ⟨rfl, c4⟩
      have HF := Lib.hid (FIN.out _ _ _ _ c1 c2 c3 c4)
      clear c1 c2 c3 c4 FIN
      go_wp2
      go_ret
      exact ⟨rfl, HF.out⟩
  · have ag : decide (1 ≤ a) = true := by simp; omega
    have ah : decide (a ≤ 4) = true := by simp; omega
    have al : decide (a < 1) = false := by simp; omega
    have au : decide (4 < a) = false := by simp; omega
    have fa := IA.out ha
    have fa2 := neB fa
    by_cases hab : a = b
    · have fb := SM.out hab
      subst fb
      subst hab
      have ab : (a == a) = true := by simp
      clear EA EB IA IB IC SM CL ha
      go_wp2_with fail
      (with_reducible refine (N1.out _).mono ?_)
      rintro e u1 ⟨rfl, c1⟩
      go_wp2_with fail
      (with_reducible refine (N2.out _).mono ?_)
      rintro e u2 ⟨rfl, c2⟩
      go_wp2_with fail
      (with_reducible refine (N3.out _).mono ?_)
      rintro e u3 ⟨rfl, c3⟩
      go_wp2_with fail
      (with_reducible refine (N4.out _).mono ?_)
      rintro e u4 ⟨rfl, c4⟩
      have HF := Lib.hid (FIN.out _ _ _ _ c1 c2 c3 c4)
      clear c1 c2 c3 c4 FIN
      go_wp2
      go_ret
      exact ⟨rfl, HF.out⟩
    have ab : (a == b) = false := by simpa using hab
    rcases CL b with hb | hb | hb
    · have bl : decide (b < 1) = true := by simp; omega
      have fb := EB.out (.inl hb)
      subst fb
      clear EA EB IA IB IC SM CL ha hb hab
      go_wp2_with fail
      (with_reducible refine (N1.out _).mono ?_)
      rintro e u1 ⟨rfl, c1⟩
      go_wp2_with fail
      (with_reducible refine (N2.out _).mono ?_)
      rintro e u2 ⟨rfl, c2⟩
      go_wp2_with fail
      (with_reducible refine (N3.out _).mono ?_)
      rintro e u3 ⟨rfl, c3⟩
      go_wp2_with fail
      (with_reducible refine (N4.out _).mono ?_)
      rintro e u4 ⟨rfl, c4⟩
      have HF := Lib.hid (FIN.out _ _ _ _ c1 c2 c3 c4)
      clear c1 c2 c3 c4 FIN
      go_wp2
      go_ret
      exact ⟨rfl, HF.out⟩
    · have bl : decide (b < 1) = false := by simp; omega
      have bu : decide (4 < b) = false := by simp; omega
      have fb := IC.out ha hb hab
      have fb2 := neB fb
      clear EA EB IA IB IC SM CL ha hb hab
      go_wp2_with fail
      (with_reducible refine (N1.out _).mono ?_)
      rintro e u1 ⟨rfl, c1⟩
      go_wp2_with fail
      (with_reducible refine (N2.out _).mono ?_)
      rintro e u2 ⟨rfl, c2⟩
      go_wp2_with fail
      (with_reducible refine (N3.out _).mono ?_)
      rintro e u3 ⟨rfl, c3⟩
      go_wp2_with fail
      (with_reducible refine (N4.out _).mono ?_)
      rintro e u4 ⟨rfl, c4⟩
      have HF := Lib.hid (FIN.out _ _ _ _ c1 c2 c3 c4)
      clear c1 c2 c3 c4 FIN
      go_wp2
      go_ret
      exact ⟨rfl, HF.out⟩
    · have bl : decide (b < 1) = false := by simp; omega
      have bu : decide (4 < b) = true := by simp; omega
      have fb := EB.out (.inr hb)
      subst fb
      clear EA EB IA IB IC SM CL ha hb hab
      go_wp2_with fail
      (with_reducible refine (N1.out _).mono ?_)
      rintro e u1 ⟨rfl, c1⟩
      go_wp2_with fail
      (with_reducible refine (N2.out _).mono ?_)
      rintro e u2 ⟨rfl, c2⟩
      go_wp2_with fail
      (with_reducible refine (N3.out _).mono ?_)
      rintro e u3 ⟨rfl, c3⟩
      go_wp2_with fail
      (with_reducible refine (N4.out _).mono ?_)
      rintro e u4 ⟨rfl, c4⟩
      have HF := Lib.hid (FIN.out _ _ _ _ c1 c2 c3 c4)
      clear c1 c2 c3 c4 FIN
      go_wp2
      go_ret
      exact ⟨rfl, HF.out⟩
  · have ag : decide (1 ≤ a) = true := by simp; omega
    have ah : decide (a ≤ 4) = false := by simp; omega
    have al : decide (a < 1) = false := by simp; omega
    have au : decide (4 < a) = true := by simp; omega
    have fa := EA.out (.inr ha)
    subst fa
    by_cases hab : a = b
    · have fb := SM.out hab
      subst fb
      subst hab
      have ab : (a == a) = true := by simp
      clear EA EB IA IB IC SM CL ha
      go_wp2_with fail
      (with_reducible refine (N1.out _).mono ?_)
      rintro e u1 ⟨rfl, c1⟩
      go_wp2_with fail
      (with_reducible refine (N2.out _).mono ?_)
      rintro e u2 ⟨rfl, c2⟩
      go_wp2_with fail
      (with_reducible refine (N3.out _).mono ?_)
      rintro e u3 ⟨rfl, c3⟩
      go_wp2_with fail
      (with_reducible refine (N4.out _).mono ?_)
      rintro e u4 ⟨rfl, c4⟩
      have HF := Lib.hid (FIN.out _ _ _ _ c1 c2 c3 c4)
      clear c1 c2 c3 c4 FIN
      go_wp2
      go_ret
      exact ⟨rfl, HF.out⟩
    have ab : (a == b) = false := by simpa using hab
    rcases CL b with hb | hb | hb
    · have bl : decide (b < 1) = true := by simp; omega
      have fb := EB.out (.inl hb)
      subst fb
      clear EA EB IA IB IC SM CL ha hb hab
      go_wp2_with fail
      (with_reducible refine (N1.out _).mono ?_)
      rintro e u1 ⟨rfl, c1⟩
      go_wp2_with fail
      (with_reducible refine (N2.out _).mono ?_)
      rintro e u2 ⟨rfl, c2⟩
      go_wp2_with fail
      (with_reducible refine (N3.out _).mono ?_)
      rintro e u3 ⟨rfl, c3⟩
      go_wp2_with fail
      (with_reducible refine (N4.out _).mono ?_)
      rintro e u4 ⟨rfl, c4⟩
      have HF := Lib.hid (FIN.out _ _ _ _ c1 c2 c3 c4)
      clear c1 c2 c3 c4 FIN
      go_wp2
      go_ret
      exact ⟨rfl, HF.out⟩
    · have bl : decide (b < 1) = false := by simp; omega
      have bu : decide (4 < b) = false := by simp; omega
      have fb := IB.out hb
      have fb2 : ¬ [110, 111, 110, 101] = xb.toList := fun h => fb h.symm
      have fb3 := neB fb2
      clear fb
      clear EA EB IA IB IC SM CL ha hb hab
      go_wp2_with fail
      (with_reducible refine (N1.out _).mono ?_)
      rintro e u1 ⟨rfl, c1⟩
      go_wp2_with fail
      (with_reducible refine (N2.out _).mono ?_)
      rintro e u2 ⟨rfl, c2⟩
      go_wp2_with fail
      (with_reducible refine (N3.out _).mono ?_)
      rintro e u3 ⟨rfl, c3⟩
      go_wp2_with fail
      (with_reducible refine (N4.out _).mono ?_)
      rintro e u4 ⟨rfl, c4⟩
      have HF := Lib.hid (FIN.out _ _ _ _ c1 c2 c3 c4)
      clear c1 c2 c3 c4 FIN
      go_wp2
      go_ret
      exact ⟨rfl, HF.out⟩
    · have bl : decide (b < 1) = false := by simp; omega
      have bu : decide (4 < b) = true := by simp; omega
      have fb := EB.out (.inr hb)
      subst fb
      clear EA EB IA IB IC SM CL ha hb hab
      go_wp2_with fail
      (with_reducible refine (N1.out _).mono ?_)
      rintro e u1 ⟨rfl, c1⟩
      go_wp2_with fail
      (with_reducible refine (N2.out _).mono ?_)
      rintro e u2 ⟨rfl, c2⟩
      go_wp2_with fail
      (with_reducible refine (N3.out _).mono ?_)
      rintro e u3 ⟨rfl, c3⟩
      go_wp2_with fail
      (with_reducible refine (N4.out _).mono ?_)
      rintro e u4 ⟨rfl, c4⟩
      have HF := Lib.hid (FIN.out _ _ _ _ c1 c2 c3 c4)
      clear c1 c2 c3 c4 FIN
      go_wp2
      go_ret
      exact ⟨rfl, HF.out⟩

set_option maxRecDepth 100000 in
set_option maxHeartbeats 1600000 in
theorem lifted (os : Os) (started : os.Started) (H : Type) (enc : TypeId × Value → H) :
    ReturnsInHanded {} Try.checked os 8 .any (Rows.opsNamesSpec.pre6 enc Try.prog Try.f8 Rows.opsNamesRow.domain false) (Rows.opsNamesSpec.post enc Try.prog Try.f8 false true false false) := by
  refine returnsInHanded_of_change (C := Try.checked) own started (by kernel_rfl) Try.func8
    (ChangeSpec.witness6 (enc := enc) (C := Try.checked) false ⟨#[], #[.int .i64 0, .int .i64 0], []⟩ 8 (by kernel_rfl) (by kernel_rfl) (by kernel_rfl) (by kernel_rfl)) ?_
  intro W base args ds gs before hval0 hW hcnd _
  have hval : ∀ (j : Nat) t v, Try.f8.params[j]? = some t → args[j]? = some v → Value.okWide Try.prog W .any base t v := hval0
  have hW' := hW
  obtain ⟨p, q, hA0, hV, rfl, hfz, hnd⟩ := hW
  have hA : DataW.TrodAll enc Try.prog W 0 (fun _ => true) true Try.f8.params.toList args.toList ds p := hA0
  rw [Try.params8] at hA hval
  obtain ⟨v0, vs0, d0, ds0, p0, q0, hargs, rfl, rfl, h0, r0⟩ := trodAll_cons hA
  obtain ⟨v1, vs1, d1, ds1, p1, q1, rfl, rfl, rfl, h1, r1⟩ := trodAll_cons r0
  obtain ⟨rfl, rfl, rfl⟩ := trodAll_nil r1
  obtain rfl : args = #[v0, v1] := by cases args; simp_all
  obtain ⟨rfl, rfl⟩ := trodVars_none hV
  have lt0 : ∀ x ∈ p0, x.block < W.heap.size := by obtain ⟨m, hm⟩ := h0; exact DataW.trod_lt m _ _ _ hm
  obtain ⟨a, e0, -, -, wfa⟩ := open_int Try.underlying3 (hval 0 3 v0 rfl rfl) h0
  subst e0
  have lt1 : ∀ x ∈ p1, x.block < W.heap.size := by obtain ⟨m, hm⟩ := h1; exact DataW.trod_lt m _ _ _ hm
  obtain ⟨b, e1, -, -, wfb⟩ := open_int Try.underlying3 (hval 1 3 v1 rfl rfl) h1
  subst e1
  clear hA0 hval0
  refine (walk a b W).mono fun e W' ⟨he, bel⟩ => ?_
  subst he
  exact ⟨_, rfl, _, _, _, [], _, [], hW', trodAll_mk1 (shut_bool Try.underlying4 _), (trodAll_cons_mk (Below.trod laidOut (by kernel_rfl) (of_decide_eq_true (by kernel_rfl)) h0 bel lt0) (trodAll_cons_mk (Below.trod laidOut (by kernel_rfl) (of_decide_eq_true (by kernel_rfl)) h1 bel lt1) trodAll_mk0)), rfl, bel.frame _, fun h => by cases h⟩

theorem proved : Rows.OpsNamesSaid :=
  OpenClaim.holds_of_wide 8 Try.f8 rfl rfl rfl rfl rfl rfl rfl ⟨rfl, rfl, rfl, rfl, rfl⟩ rfl rfl rfl rfl rfl (by kernel_rfl) Try.func8 (by kernel_rfl)
    (of_decide_eq_true (by kernel_rfl)) (by unfold Func.isWrapper; first | (rw [if_pos (by decide +kernel)]; kernel_rfl) | (rw [if_neg (by decide +kernel)]; exact ⟨rfl, rfl⟩))
    (fun os started H enc _ => lifted os started H enc)
#print axioms proved
end Go.Proofs.Yticehebgkehipaa.opsNames
