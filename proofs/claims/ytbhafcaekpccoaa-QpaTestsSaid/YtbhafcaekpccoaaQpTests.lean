/- horariumlaw12.QpaTests answers true at every row of tasks and every row of three numbers: whether tasks fit, the first time of too much work, and both by modes, are told as the document tells them. No condition. -/
import Derived.Test.YtbhafcaekpccoaaQpK
import Derived.Test.YtbhafcaekpccoaaQpT
import Derived.Deep.DeepCutAuto
import Derived.BigQuiet
namespace Go.Proofs.Ytbhafcaekpccoaa.qpaTests
open Go.ChangeShapes Go.WideShapes Go.ChangeAt Go.RowKit Go.Joins
set_option maxRecDepth 100000
set_option linter.unusedVariables false
set_option linter.unusedSimpArgs false
open Pm Qp

set_option maxRecDepth 100000 in
set_option maxHeartbeats 8000000 in
theorem walk (ar : Option Addr) (r : List Tk) (cr : Nat) (ao : Option Addr) (l : List Tri) (cap : Nat) (w : World) (hR : Ts ar r w) (hr : r.length ≤ 9223372036854775807) (hrc : r.length ≤ cr) (hT : Tris ao l w) (hl : l.length ≤ 9223372036854775807) (hok : ∀ x ∈ l, x.Ok) :
    Calls Try.prog 3 #[.slice ar r.length cr, .slice ao l.length cap] w fun e w' => e = .returned (.bool true) ∧ Below w.heap.size w w' := by
  have AW := Lib.hid awake_any
  have FE := Lib.hid (fun w h => few_any r ar cr w h hr)
  have TE := Lib.hid (fun am cm w h => tests_any (fewL r) am cm w h (by have := fewL_len r; omega))
  have RT := Lib.hid hR
  have MA := Lib.hid (fun w h => made_any l ao cap w h hl hok)
  have TI := Lib.hid hT
  have TM := Lib.hid (fun am cm w h => tests_any (made12 l) am cm w h (by rw [made12_len]; omega))
  clear hR hT hok hrc
  go_enter Try.func3, Try.ntmps3
  go_wp2_with fail
  (with_reducible refine (AW.out _).mono ?_)
  rintro e w1 ⟨rfl, b1⟩
  have K1 := Lib.hid b1
  clear b1 AW
  go_wp2_with fail
  (with_reducible refine (FE.out _ (RT.out.call K1.out)).mono ?_)
  rintro e w2 ⟨v, rfl, tr, b2⟩
  have K2 := Lib.hid (K1.out.trans (b2.mono K1.out.size))
  obtain ⟨am2, cm2, rfl, -, hts⟩ := tr.form
  have T2 := Lib.hid (TE.out am2 cm2 _ hts)
  clear b2 tr hts K1
  go_wp2_with fail
  (with_reducible refine (T2.out).mono ?_)
  rintro e w3 ⟨rfl, b3⟩
  have K3 := Lib.hid (K2.out.trans (b3.mono K2.out.size))
  clear b3 T2 K2
  go_wp2_with fail
  (with_reducible refine (MA.out _ (TI.out.below K3.out (Nat.le_refl _))).mono ?_)
  rintro e w4 ⟨v, rfl, tr, b4⟩
  have K4 := Lib.hid (K3.out.trans (b4.mono K3.out.size))
  obtain ⟨am4, cm4, rfl, -, hts⟩ := tr.form
  have T4 := Lib.hid (TM.out am4 cm4 _ hts)
  clear b4 tr hts K3
  go_wp2_with fail
  (with_reducible refine (T4.out).mono ?_)
  rintro e w5 ⟨rfl, b5⟩
  have K5 := Lib.hid (K4.out.trans (b5.mono K4.out.size))
  clear b5 T4 K4
  go_wp2
  go_ret
  exact ⟨rfl, K5.out⟩

set_option maxRecDepth 100000 in
set_option maxHeartbeats 1600000 in
theorem lifted (os : Os) (started : os.Started) (H : Type) (enc : TypeId × Value → H) :
    ReturnsInHanded {} Try.checked os 3 .any (Rows.qpaTestsSpec.pre6 enc Try.prog Try.f3 Rows.qpaTestsRow.domain false) (Rows.qpaTestsSpec.post enc Try.prog Try.f3 false true false false) := by
  refine returnsInHanded_of_change (C := Try.checked) own started (by kernel_rfl) Try.func3
    (ChangeSpec.witness6 (enc := enc) (C := Try.checked) false ⟨#[], #[.slice none 0 0, .slice none 0 0], []⟩ 8 (by kernel_rfl) (by kernel_rfl) (by kernel_rfl) (by kernel_rfl)) ?_
  intro W base args ds gs before hval0 hW hcnd _
  have hval : ∀ (j : Nat) t v, Try.f3.params[j]? = some t → args[j]? = some v → Value.okWide Try.prog W .any base t v := hval0
  have hW' := hW
  obtain ⟨p, q, hA0, hV, rfl, hfz, hnd⟩ := hW
  have hA : DataW.TrodAll enc Try.prog W 0 (fun _ => true) true Try.f3.params.toList args.toList ds p := hA0
  rw [Try.params3] at hA hval
  obtain ⟨v0, vs0, d0, ds0, p0, q0, hargs, rfl, rfl, h0, r0⟩ := trodAll_cons hA
  obtain ⟨v1, vs1, d1, ds1, p1, q1, rfl, rfl, rfl, h1, r1⟩ := trodAll_cons r0
  obtain ⟨rfl, rfl, rfl⟩ := trodAll_nil r1
  obtain rfl : args = #[v0, v1] := by cases args; simp_all
  obtain ⟨rfl, rfl⟩ := trodVars_none hV
  have lt0 : ∀ x ∈ p0, x.block < W.heap.size := by obtain ⟨m, hm⟩ := h0; exact DataW.trod_lt m _ _ _ hm
  obtain ⟨aor, lr, capr, rfl, ler, lcr, var, okr⟩ := open_tasks (hval 0 22 v0 rfl rfl) h0
  have lt1 : ∀ x ∈ p1, x.block < W.heap.size := by obtain ⟨m, hm⟩ := h1; exact DataW.trod_lt m _ _ _ hm
  obtain ⟨aol, ll, capl, rfl, lel, val, okl⟩ := open_tris (hval 1 23 v1 rfl rfl) h1
  clear hA0 hval0
  refine (walk aor lr capr aol ll capl W var ler lcr val lel okl).mono fun e W' ⟨he, bel⟩ => ?_
  subst he
  exact ⟨_, rfl, _, _, _, [], _, [], hW', trodAll_mk1 (shut_bool Try.underlying4 _), (trodAll_cons_mk (Below.trod laidOut (by kernel_rfl) (of_decide_eq_true (by kernel_rfl)) h0 bel lt0) (trodAll_cons_mk (Below.trod laidOut (by kernel_rfl) (of_decide_eq_true (by kernel_rfl)) h1 bel lt1) trodAll_mk0)), rfl, bel.frame _, fun h => by cases h⟩

theorem proved : Rows.QpaTestsSaid :=
  OpenClaim.holds_of_wide 3 Try.f3 rfl rfl rfl rfl rfl rfl rfl ⟨rfl, rfl, rfl, rfl, rfl⟩ rfl rfl rfl rfl rfl (by kernel_rfl) Try.func3 (by kernel_rfl)
    (of_decide_eq_true (by kernel_rfl)) (by unfold Func.isWrapper; first | (rw [if_pos (by decide +kernel)]; kernel_rfl) | (rw [if_neg (by decide +kernel)]; exact ⟨rfl, rfl⟩))
    (fun os started H enc _ => lifted os started H enc)
#print axioms proved
end Go.Proofs.Ytbhafcaekpccoaa.qpaTests
