/- horariumlaw12.QpaPaths answers true at every row of tasks and every row of three numbers: the times by which tasks are tested are the document's. No condition. -/
import Derived.Test.YtbhafcaekpccoaaQpK
import Derived.Test.YtbhafcaekpccoaaQpF
import Derived.Test.YtbhafcaekpccoaaBsI
import Derived.Deep.DeepCutAuto
import Derived.BigQuiet
namespace Go.Proofs.Ytbhafcaekpccoaa.qpaPaths
open Go.ChangeShapes Go.WideShapes Go.ChangeAt Go.RowKit Go.Joins
set_option maxRecDepth 100000
set_option linter.unusedVariables false
set_option linter.unusedSimpArgs false
open Pm Qp

theorem pathOf_len {r : List Int} (T : List Tk) (h : PathOf T (pathO T) r) : r.length ≤ 4000000 := by
  by_cases he : (Bs.lengthR T).e = 0
  · obtain ⟨-, m, hg, hE⟩ := length_may he
    unfold pathO at h
    rw [if_pos he] at h
    have h1 := (chainP_fall (m := m) (fun y hy => start_in hg hE hy) (pathOf_chain h).1).2.1
    have := hg.2.1
    split at h1 <;> omega
  · unfold pathO at h
    rw [if_neg he, pathOf_none] at h
    subst h; simp
set_option maxRecDepth 100000 in
set_option maxHeartbeats 8000000 in
theorem walk (ar : Option Addr) (r : List Tk) (cr : Nat) (ao : Option Addr) (l : List Tri) (cap : Nat) (w : World) (hR : Ts ar r w) (hr : r.length ≤ 9223372036854775807) (hrc : r.length ≤ cr) (hT : Tris ao l w) (hl : l.length ≤ 9223372036854775807) (hok : ∀ x ∈ l, x.Ok) :
    Calls Try.prog 4 #[.slice ar r.length cr, .slice ao l.length cap] w fun e w' => e = .returned (.bool true) ∧ Below w.heap.size w w' := by
  have AW := Lib.hid awake_any
  have FE := Lib.hid (fun w h => few_any r ar cr w h hr)
  have F1 := Lib.hid (fun am cm w h => path_any (fewL r) am cm w h (by have := fewL_len r; omega))
  have F2 := Lib.hid (fun am cm w h => rpath_any (fewL r) am cm w h (by have := fewL_len r; omega))
  have RT := Lib.hid hR
  have MA := Lib.hid (fun w h => made_any l ao cap w h hl hok)
  have TI := Lib.hid hT
  have M1 := Lib.hid (fun am cm w h => path_any (made12 l) am cm w h (by rw [made12_len]; omega))
  have M2 := Lib.hid (fun am cm w h => rpath_any (made12 l) am cm w h (by rw [made12_len]; omega))
  clear hR hT hok hrc
  go_enter Try.func4, Try.ntmps4
  go_wp2_with fail
  (with_reducible refine (AW.out _).mono ?_)
  rintro e w1 ⟨rfl, b1⟩
  have K1 := Lib.hid b1
  clear b1 AW
  go_wp2_with fail
  (with_reducible refine (FE.out _ (RT.out.call K1.out)).mono ?_)
  rintro e w2 ⟨v, rfl, tr, b2⟩
  have K2 := Lib.hid (K1.out.trans (b2.mono K1.out.size))
  obtain ⟨am2, cm2, rfl, -, hts⟩ := tr.form
  have T2 := Lib.hid (F1.out am2 cm2 _ hts)
  clear b2 tr hts K1
  go_wp2_with fail
  (with_reducible refine (T2.out).mono ?_)
  rintro e w3 ⟨v, ra, rfl, na, ha, b3⟩
  have K3 := Lib.hid (K2.out.trans (b3.mono K2.out.size))
  have Pa := Lib.hid ha
  obtain ⟨pa, pc, rfl, -, nsa⟩ := na.form
  have Na := Lib.hid nsa
  clear nsa
  clear b3 T2 na ha K2
  go_wp2_with fail
  (with_reducible refine (FE.out _ (RT.out.call K3.out)).mono ?_)
  rintro e w4 ⟨v, rfl, tr, b4⟩
  have K4 := Lib.hid (K3.out.trans (b4.mono K3.out.size))
  obtain ⟨am4, cm4, rfl, -, hts⟩ := tr.form
  have T4 := Lib.hid (F2.out am4 cm4 _ hts)
  have Na := Lib.hid (Na.out.call b4)
  clear b4 tr hts K3
  go_wp2_with fail
  (with_reducible refine (T4.out).mono ?_)
  rintro e w5 ⟨v, rb, rfl, nb, hb, b5⟩
  have K5 := Lib.hid (K4.out.trans (b5.mono K4.out.size))
  have Pb := Lib.hid hb
  have e := PathOf.uniq Pb.out Pa.out
  subst e
  obtain ⟨qa, qc, rfl, -, nsb⟩ := nb.form
  have S5 := Lib.hid (Bs.same_any rb pa qa pc qc _ (Na.out.call b5) nsb (pathOf_len _ Pa.out))
  clear nsb Na Pa Pb
  clear b5 T4 nb hb K4
  go_wp2_with fail
  (with_reducible refine (S5.out).mono ?_)
  rintro e w6 ⟨rfl, b6⟩
  have K6 := Lib.hid (K5.out.trans (b6.mono K5.out.size))
  clear b6 S5 K5
  go_wp2_with fail
  (with_reducible refine (MA.out _ (TI.out.below K6.out (Nat.le_refl _))).mono ?_)
  rintro e w7 ⟨v, rfl, tr, b7⟩
  have K7 := Lib.hid (K6.out.trans (b7.mono K6.out.size))
  obtain ⟨am7, cm7, rfl, -, hts⟩ := tr.form
  have T7 := Lib.hid (M1.out am7 cm7 _ hts)
  clear b7 tr hts K6
  go_wp2_with fail
  (with_reducible refine (T7.out).mono ?_)
  rintro e w8 ⟨v, ra, rfl, na, ha, b8⟩
  have K8 := Lib.hid (K7.out.trans (b8.mono K7.out.size))
  have Pa := Lib.hid ha
  obtain ⟨pa, pc, rfl, -, nsa⟩ := na.form
  have Na := Lib.hid nsa
  clear nsa
  clear b8 T7 na ha K7
  go_wp2_with fail
  (with_reducible refine (MA.out _ (TI.out.below K8.out (Nat.le_refl _))).mono ?_)
  rintro e w9 ⟨v, rfl, tr, b9⟩
  have K9 := Lib.hid (K8.out.trans (b9.mono K8.out.size))
  obtain ⟨am9, cm9, rfl, -, hts⟩ := tr.form
  have T9 := Lib.hid (M2.out am9 cm9 _ hts)
  have Na := Lib.hid (Na.out.call b9)
  clear b9 tr hts K8
  go_wp2_with fail
  (with_reducible refine (T9.out).mono ?_)
  rintro e w10 ⟨v, rb, rfl, nb, hb, b10⟩
  have K10 := Lib.hid (K9.out.trans (b10.mono K9.out.size))
  have Pb := Lib.hid hb
  have e := PathOf.uniq Pb.out Pa.out
  subst e
  obtain ⟨qa, qc, rfl, -, nsb⟩ := nb.form
  have S10 := Lib.hid (Bs.same_any rb pa qa pc qc _ (Na.out.call b10) nsb (pathOf_len _ Pa.out))
  clear nsb Na Pa Pb
  clear b10 T9 nb hb K9
  go_wp2_with fail
  (with_reducible refine (S10.out).mono ?_)
  rintro e w11 ⟨rfl, b11⟩
  have K11 := Lib.hid (K10.out.trans (b11.mono K10.out.size))
  clear b11 S10 K10
  go_wp2
  go_ret
  exact ⟨rfl, K11.out⟩

set_option maxRecDepth 100000 in
set_option maxHeartbeats 1600000 in
theorem lifted (os : Os) (started : os.Started) (H : Type) (enc : TypeId × Value → H) :
    ReturnsInHanded {} Try.checked os 4 .any (Rows.qpaPathsSpec.pre6 enc Try.prog Try.f4 Rows.qpaPathsRow.domain false) (Rows.qpaPathsSpec.post enc Try.prog Try.f4 false true false false) := by
  refine returnsInHanded_of_change (C := Try.checked) own started (by kernel_rfl) Try.func4
    (ChangeSpec.witness6 (enc := enc) (C := Try.checked) false ⟨#[], #[.slice none 0 0, .slice none 0 0], []⟩ 8 (by kernel_rfl) (by kernel_rfl) (by kernel_rfl) (by kernel_rfl)) ?_
  intro W base args ds gs before hval0 hW hcnd _
  have hval : ∀ (j : Nat) t v, Try.f4.params[j]? = some t → args[j]? = some v → Value.okWide Try.prog W .any base t v := hval0
  have hW' := hW
  obtain ⟨p, q, hA0, hV, rfl, hfz, hnd⟩ := hW
  have hA : DataW.TrodAll enc Try.prog W 0 (fun _ => true) true Try.f4.params.toList args.toList ds p := hA0
  rw [Try.params4] at hA hval
  obtain ⟨v0, vs0, d0, ds0, p0, q0, hargs, rfl, rfl, h0, r0⟩ := trodAll_cons hA
  obtain ⟨v1, vs1, d1, ds1, p1, q1, rfl, rfl, rfl, h1, r1⟩ := trodAll_cons r0
  obtain ⟨rfl, rfl, rfl⟩ := trodAll_nil r1
  obtain rfl : args = #[v0, v1] := by cases args; simp_all
  obtain ⟨rfl, rfl⟩ := trodVars_none hV
  have lt0 : ∀ x ∈ p0, x.block < W.heap.size := by obtain ⟨m, hm⟩ := h0; exact DataW.trod_lt m _ _ _ hm
  obtain ⟨aor, lr, capr, rfl, ler, lcr, var, okr⟩ := open_tasks (hval 0 22 v0 rfl rfl) h0
  have lt1 : ∀ x ∈ p1, x.block < W.heap.size := by obtain ⟨m, hm⟩ := h1; exact DataW.trod_lt m _ _ _ hm
  obtain ⟨aol, ll, capl, rfl, lel, val, okl⟩ := open_tris (hval 1 23 v1 rfl rfl) h1
  clear hA0 hval0
  refine (walk aor lr capr aol ll capl W var ler lcr val lel okl).mono fun e W' ⟨he, bel⟩ => ?_
  subst he
  exact ⟨_, rfl, _, _, _, [], _, [], hW', trodAll_mk1 (shut_bool Try.underlying4 _), (trodAll_cons_mk (Below.trod laidOut (by kernel_rfl) (of_decide_eq_true (by kernel_rfl)) h0 bel lt0) (trodAll_cons_mk (Below.trod laidOut (by kernel_rfl) (of_decide_eq_true (by kernel_rfl)) h1 bel lt1) trodAll_mk0)), rfl, bel.frame _, fun h => by cases h⟩

theorem proved : Rows.QpaPathsSaid :=
  OpenClaim.holds_of_wide 4 Try.f4 rfl rfl rfl rfl rfl rfl rfl ⟨rfl, rfl, rfl, rfl, rfl⟩ rfl rfl rfl rfl rfl (by kernel_rfl) Try.func4 (by kernel_rfl)
    (of_decide_eq_true (by kernel_rfl)) (by unfold Func.isWrapper; first | (rw [if_pos (by decide +kernel)]; kernel_rfl) | (rw [if_neg (by decide +kernel)]; exact ⟨rfl, rfl⟩))
    (fun os started H enc _ => lifted os started H enc)
#print axioms proved
end Go.Proofs.Ytbhafcaekpccoaa.qpaPaths
