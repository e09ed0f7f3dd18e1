/- horariumlaw13.OpsWrite answers true at every op and every kind: ops are told, bared, written and named as the document does. No condition. -/
import Derived.Test.YticehebgkehipaaOpW
import Derived.Test.YticehebgkehipaaOcG
import Derived.Deep.DeepCutAuto
import Derived.Deep.RegionHeld3
import Derived.Deep.RegionWith
import Derived.BigQuiet
namespace Go.Proofs.Yticehebgkehipaa.opsWrite
open Go.ChangeShapes Go.WideShapes Go.ChangeAt Go.RowKit Go.Joins
open Oc
set_option maxRecDepth 100000
set_option linter.unusedVariables false
set_option linter.unusedSimpArgs false
open Pm Ox

set_option maxRecDepth 100000 in
set_option maxHeartbeats 8000000 in
theorem walk (o : Od) (kind : Int) (w : World) :
    Calls Try.prog 3 #[o.v, .int .i64 kind] w fun e w' => e = .returned (.bool true) ∧ Below w.heap.size w w' := by
  have AW := Lib.hid awake_any
  have TA := Lib.hid (tells_any o)
  have TB := Lib.hid (tells_any (bareR o))
  have RA := Lib.hid (rbare_any o)
  have NK := Lib.hid (name_any kind)
  have RK := Lib.hid (rname_any kind)
  have NO := Lib.hid (name_any o.kind)
  have RO := Lib.hid (rname_any o.kind)
  have H0 := Lib.hid (bx_new w o.cs)
  generalize bareR o = b at *
  obtain ⟨k, ⟨i, c, d, t, m⟩, s, id, cc, mo⟩ := o
  obtain ⟨bk, ⟨bi, bc, bd, bt, bm⟩, bs, bid, bcc, bmo⟩ := b
  simp only [Od.v, Od.cs] at *
  generalize nameR kind = nk at *
  generalize nameR k = no at *
  go_enter Try.func3, Try.ntmps3
  go_wp2_with fail
  (with_reducible refine (AW.out _).mono ?_)
  rintro e w1 ⟨rfl, b1⟩
  have H1 := Lib.hid (H0.out.call b1)
  have D1 := Lib.hid (H1.out.call (Below.refl _ _).drew)
  have K1 := Lib.hid (cons10 H1.out.cell)
  have KD := Lib.hid (cons10 D1.out.cell)
  clear b1 AW H0
  go_wp2_with fail
  go_region_held3 (fun w' => w'.cell? ⟨w.heap.size, 0, none⟩ = some (.int .i64 k) ∧ w'.cell? ⟨w.heap.size, 1, none⟩ = some (.int .i64 i) ∧ w'.cell? ⟨w.heap.size, 2, none⟩ = some (.int .i64 c) ∧ w'.cell? ⟨w.heap.size, 3, none⟩ = some (.int .i64 d) ∧ w'.cell? ⟨w.heap.size, 4, none⟩ = some (.int .i64 t) ∧ w'.cell? ⟨w.heap.size, 5, none⟩ = some (.int .i64 m) ∧ w'.cell? ⟨w.heap.size, 6, none⟩ = some (.bool s) ∧ w'.cell? ⟨w.heap.size, 7, none⟩ = some (.int .i64 id) ∧ w'.cell? ⟨w.heap.size, 8, none⟩ = some (.int .i64 cc) ∧ w'.cell? ⟨w.heap.size, 9, none⟩ = some (.int .i64 mo)) (first | exact KD.out | exact K1.out | assumption | fail) (first | (go_at_call 10; (with_reducible refine (TA.out _).mono ?_); rintro e x1 ⟨rfl, b1⟩; (have X1 := Lib.hid (D1.out.call b1)); (have k1 := cons10 X1.out.cell); clear b1) | (go_at_call 11; (with_reducible refine (RA.out _).mono ?_); rintro e x2 ⟨rfl, b2⟩; (have X2 := Lib.hid (X1.out.call b2)); (have k2 := cons10 X2.out.cell); clear b2) | (go_at_call 10; (with_reducible refine (TB.out _).mono ?_); rintro e x3 ⟨rfl, b3⟩; (have X3 := Lib.hid (X2.out.call b3)); (have k3 := cons10 X3.out.cell); clear b3) | (go_at_call 12; (with_reducible refine (NK.out _).mono ?_); rintro e x4 ⟨rfl, b4⟩; (have X4 := Lib.hid (X3.out.call b4)); (have k4 := cons10 X4.out.cell); clear b4) | (go_at_call 13; (with_reducible refine (RK.out _).mono ?_); rintro e x5 ⟨rfl, b5⟩; (have X5 := Lib.hid (X4.out.call b5)); (have k5 := cons10 X5.out.cell); clear b5) | (go_at_call 12; (with_reducible refine (NO.out _).mono ?_); rintro e x6 ⟨rfl, b6⟩; (have X6 := Lib.hid (X5.out.call b6)); (have k6 := cons10 X6.out.cell); clear b6) | (go_at_call 13; (with_reducible refine (RO.out _).mono ?_); rintro e x7 ⟨rfl, b7⟩; (have X7 := Lib.hid (X6.out.call b7)); (have k7 := cons10 X7.out.cell); clear b7) | fail)
  all_goals go_wp2
  all_goals go_ret
  all_goals exact ⟨rfl, X7.out.bl⟩

set_option maxRecDepth 100000 in
set_option maxHeartbeats 1600000 in
theorem lifted (os : Os) (started : os.Started) (H : Type) (enc : TypeId × Value → H) :
    ReturnsInHanded {} Try.checked os 3 .any (Rows.opsWriteSpec.pre6 enc Try.prog Try.f3 Rows.opsWriteRow.domain false) (Rows.opsWriteSpec.post enc Try.prog Try.f3 false true false false) := by
  refine returnsInHanded_of_change (C := Try.checked) own started (by kernel_rfl) Try.func3
    (ChangeSpec.witness6 (enc := enc) (C := Try.checked) false ⟨#[], #[.agg #[.int .i64 0, .int .i64 0, .int .i64 0, .int .i64 0, .int .i64 0, .int .i64 0, .bool false, .int .i64 0, .int .i64 0, .int .i64 0], .int .i64 0], []⟩ 8 (by kernel_rfl) (by kernel_rfl) (by kernel_rfl) (by kernel_rfl)) ?_
  intro W base args ds gs before hval0 hW hcnd _
  have hval : ∀ (j : Nat) t v, Try.f3.params[j]? = some t → args[j]? = some v → Value.okWide Try.prog W .any base t v := hval0
  have hW' := hW
  obtain ⟨p, q, hA0, hV, rfl, hfz, hnd⟩ := hW
  have hA : DataW.TrodAll enc Try.prog W 0 (fun _ => true) true Try.f3.params.toList args.toList ds p := hA0
  rw [Try.params3] at hA hval
  obtain ⟨v0, vs0, d0, ds0, p0, q0, hargs, rfl, rfl, h0, r0⟩ := trodAll_cons hA
  obtain ⟨v1, vs1, d1, ds1, p1, q1, rfl, rfl, rfl, h1, r1⟩ := trodAll_cons r0
  obtain ⟨rfl, rfl, rfl⟩ := trodAll_nil r1
  obtain rfl : args = #[v0, v1] := by cases args; simp_all
  obtain ⟨rfl, rfl⟩ := trodVars_none hV
  have lt0 : ∀ x ∈ p0, x.block < W.heap.size := by obtain ⟨m, hm⟩ := h0; exact DataW.trod_lt m _ _ _ hm
  obtain ⟨o, rfl, oko⟩ := open_op (hval 0 25 v0 rfl rfl) h0
  have lt1 : ∀ x ∈ p1, x.block < W.heap.size := by obtain ⟨m, hm⟩ := h1; exact DataW.trod_lt m _ _ _ hm
  obtain ⟨k, e1, -, -, wfk⟩ := open_int Try.underlying3 (hval 1 3 v1 rfl rfl) h1
  subst e1
  clear hA0 hval0
  refine (walk o k W).mono fun e W' ⟨he, bel⟩ => ?_
  subst he
  exact ⟨_, rfl, _, _, _, [], _, [], hW', trodAll_mk1 (shut_bool Try.underlying4 _), (trodAll_cons_mk (Below.trod laidOut (by kernel_rfl) (of_decide_eq_true (by kernel_rfl)) h0 bel lt0) (trodAll_cons_mk (Below.trod laidOut (by kernel_rfl) (of_decide_eq_true (by kernel_rfl)) h1 bel lt1) trodAll_mk0)), rfl, bel.frame _, fun h => by cases h⟩

theorem proved : Rows.OpsWriteSaid :=
  OpenClaim.holds_of_wide 3 Try.f3 rfl rfl rfl rfl rfl rfl rfl ⟨rfl, rfl, rfl, rfl, rfl⟩ rfl rfl rfl rfl rfl (by kernel_rfl) Try.func3 (by kernel_rfl)
    (of_decide_eq_true (by kernel_rfl)) (by unfold Func.isWrapper; first | (rw [if_pos (by decide +kernel)]; kernel_rfl) | (rw [if_neg (by decide +kernel)]; exact ⟨rfl, rfl⟩))
    (fun os started H enc _ => lifted os started H enc)
#print axioms proved
end Go.Proofs.Yticehebgkehipaa.opsWrite
