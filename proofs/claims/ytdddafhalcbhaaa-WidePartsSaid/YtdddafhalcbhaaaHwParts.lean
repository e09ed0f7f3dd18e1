/- Parts are compared, divided and written as the document says. For every number of 128 bits, every divisor and every four numbers, without a condition. -/
import Derived.Test.YtdddafhalcbhaaaHrText
import Derived.Test.YtdddafhalcbhaaaHwFA
namespace Go.Proofs.Ytdddafhalcbhaaa.wideParts
open Go.ChangeShapes Go.WideShapes Go.ChangeAt Go.RowKit Go.Joins
set_option linter.unusedVariables false
set_option linter.unusedSimpArgs false

def PartsS (w w1 w2 w3 : World) (a b n0 n1 n2 n3 qh ql r : Int) (ok : Bool) (w' : World) : Prop := w'.cell? ⟨w.heap.size, 0, none⟩ = some (.int .u64 a) ∧ w'.cell? ⟨w.heap.size, 1, none⟩ = some (.int .u64 b) ∧ w'.cell? ⟨w.heap.size + 1, 0, none⟩ = some (.int .u64 n0) ∧ w'.cell? ⟨w.heap.size + 1, 1, none⟩ = some (.int .u64 n1) ∧ w'.cell? ⟨w.heap.size + 1, 2, none⟩ = some (.int .u64 n2) ∧ w'.cell? ⟨w.heap.size + 1, 3, none⟩ = some (.int .u64 n3) ∧ w'.cell? ⟨w2.heap.size, 0, none⟩ = some (.int .u64 qh) ∧ w'.cell? ⟨w2.heap.size, 1, none⟩ = some (.int .u64 ql) ∧ w'.cell? ⟨w3.heap.size, 0, none⟩ = some (.int .u64 qh) ∧ w'.cell? ⟨w3.heap.size, 1, none⟩ = some (.int .u64 ql) ∧ w'.cell? ⟨w3.heap.size, 2, none⟩ = some (.int .u64 r) ∧ w'.cell? ⟨w3.heap.size, 3, none⟩ = some (.bool ok) ∧ Below w.heap.size w w'
theorem parts_call {w w1 w2 w3 W w' : World} {a b n0 n1 n2 n3 qh ql r : Int} {ok : Bool} (h : PartsS w w1 w2 w3 a b n0 n1 n2 n3 qh ql r ok W) (hb : Below W.heap.size W w') : PartsS w w1 w2 w3 a b n0 n1 n2 n3 qh ql r ok w' := by
  obtain ⟨h0, h1, h2, h3, h4, h5, h6, h7, h8, h9, h10, h11, bl⟩ := h
  exact ⟨carry hb h0, carry hb h1, carry hb h2, carry hb h3, carry hb h4, carry hb h5, carry hb h6, carry hb h7, carry hb h8, carry hb h9, carry hb h10, carry hb h11, bl.trans (hb.mono bl.size)⟩
theorem parts_drew {w w1 w2 w3 W : World} {a b n0 n1 n2 n3 qh ql r : Int} {ok : Bool} (h : PartsS w w1 w2 w3 a b n0 n1 n2 n3 qh ql r ok W) : PartsS w w1 w2 w3 a b n0 n1 n2 n3 qh ql r ok W.drew := by
  obtain ⟨h0, h1, h2, h3, h4, h5, h6, h7, h8, h9, h10, h11, bl⟩ := h
  exact ⟨by simpa [go_sem] using h0, by simpa [go_sem] using h1, by simpa [go_sem] using h2, by simpa [go_sem] using h3, by simpa [go_sem] using h4, by simpa [go_sem] using h5, by simpa [go_sem] using h6, by simpa [go_sem] using h7, by simpa [go_sem] using h8, by simpa [go_sem] using h9, by simpa [go_sem] using h10, by simpa [go_sem] using h11, bl.drew⟩
set_option maxRecDepth 100000 in
set_option maxHeartbeats 8000000 in
theorem walk0 (a b d n0 n1 n2 n3 qh ql r : Int) (ok lt : Bool) (T : ByteArray) (w : World)
    (DG : Hid (∀ w, Calls Try.prog 20 #[.agg #[.int .u64 a, .int .u64 b], .int .u64 d] w fun e w' => e = .returned (.tuple #[.agg #[.int .u64 qh, .int .u64 ql], .int .u64 r, .bool ok]) ∧ Below w.heap.size w w')) (DR : Hid (∀ w, Calls Try.prog 21 #[.agg #[.int .u64 a, .int .u64 b], .int .u64 d] w fun e w' => e = .returned (.agg #[.int .u64 qh, .int .u64 ql, .int .u64 r, .bool ok]) ∧ Below w.heap.size w w'))
    (TG : Hid (∀ w, Calls Try.prog 22 #[.agg #[.int .u64 a, .int .u64 b]] w fun e w' => e = .returned (.string T) ∧ Below w.heap.size w w')) (TR : Hid (∀ w, Calls Try.prog 23 #[.agg #[.int .u64 a, .int .u64 b]] w fun e w' => e = .returned (.string T) ∧ Below w.heap.size w w'))
    (LG : Hid (∀ w, Calls Try.prog 24 #[.int .u64 n0, .int .u64 n1, .int .u64 n2, .int .u64 n3] w fun e w' => e = .returned (.bool lt) ∧ Below w.heap.size w w')) (LR : Hid (∀ w, Calls Try.prog 25 #[.int .u64 n0, .int .u64 n1, .int .u64 n2, .int .u64 n3] w fun e w' => e = .returned (.bool lt) ∧ Below w.heap.size w w')) :
    Calls Try.prog 4 #[.agg #[.int .u64 a, .int .u64 b], .int .u64 d, .agg #[.int .u64 n0, .int .u64 n1, .int .u64 n2, .int .u64 n3]] w fun e w' => e = .returned (.bool true) ∧ Below w.heap.size w w' := by
  go_enter Try.func4, Try.ntmps4
  go_wp2_with fail
  (with_reducible refine (awake_any _).mono ?_)
  rintro e w1 ⟨rfl, hb1⟩
  have k1 := carry hb1 (p := ⟨w.heap.size, 0, none⟩) (v := .int .u64 a) (by first | (simp [go_sem]; done) | (simp [go_sem]; omega))
  have k2 := carry hb1 (p := ⟨w.heap.size, 1, none⟩) (v := .int .u64 b) (by first | (simp [go_sem]; done) | (simp [go_sem]; omega))
  have k3 := carry hb1 (p := ⟨w.heap.size + 1, 0, none⟩) (v := .int .u64 n0) (by first | (simp [go_sem]; done) | (simp [go_sem]; omega))
  have k4 := carry hb1 (p := ⟨w.heap.size + 1, 1, none⟩) (v := .int .u64 n1) (by first | (simp [go_sem]; done) | (simp [go_sem]; omega))
  have k5 := carry hb1 (p := ⟨w.heap.size + 1, 2, none⟩) (v := .int .u64 n2) (by first | (simp [go_sem]; done) | (simp [go_sem]; omega))
  have k6 := carry hb1 (p := ⟨w.heap.size + 1, 3, none⟩) (v := .int .u64 n3) (by first | (simp [go_sem]; done) | (simp [go_sem]; omega))
  have bl : Below w.heap.size w w1 := by repeat (first | exact Below.refl _ _ | refine Below.trans ?_ (hb1.mono (by first | omega | (simp; done) | (simp; omega))) | refine Below.setCell ?_ (by first | omega | (simp; done) | (simp; omega)) _ | refine Below.alloc ?_ (by first | omega | (simp; done) | (simp; omega)) _ | refine Below.drew ?_)
  have zz := hb1.size
  try simp at zz
  have y0 : w.heap.size < w1.heap.size := by omega
  have y1 : w.heap.size + 1 < w1.heap.size := by omega
  have bn : w.heap.size ≤ w1.heap.size := by omega
  clear hb1 zz
  go_wp2_with fail
  (with_reducible refine (DG.out _).mono ?_)
  rintro e w2 ⟨rfl, hb2⟩
  replace k1 := carry hb2 (p := ⟨w.heap.size, 0, none⟩) (v := .int .u64 a) (by first | exact k1 | (simp [go_sem, k1, y0, y1]; done) | (simp [go_sem, k1, y0, y1]; omega))
  replace k2 := carry hb2 (p := ⟨w.heap.size, 1, none⟩) (v := .int .u64 b) (by first | exact k2 | (simp [go_sem, k2, y0, y1]; done) | (simp [go_sem, k2, y0, y1]; omega))
  replace k3 := carry hb2 (p := ⟨w.heap.size + 1, 0, none⟩) (v := .int .u64 n0) (by first | exact k3 | (simp [go_sem, k3, y0, y1]; done) | (simp [go_sem, k3, y0, y1]; omega))
  replace k4 := carry hb2 (p := ⟨w.heap.size + 1, 1, none⟩) (v := .int .u64 n1) (by first | exact k4 | (simp [go_sem, k4, y0, y1]; done) | (simp [go_sem, k4, y0, y1]; omega))
  replace k5 := carry hb2 (p := ⟨w.heap.size + 1, 2, none⟩) (v := .int .u64 n2) (by first | exact k5 | (simp [go_sem, k5, y0, y1]; done) | (simp [go_sem, k5, y0, y1]; omega))
  replace k6 := carry hb2 (p := ⟨w.heap.size + 1, 3, none⟩) (v := .int .u64 n3) (by first | exact k6 | (simp [go_sem, k6, y0, y1]; done) | (simp [go_sem, k6, y0, y1]; omega))
  replace bl : Below w.heap.size w w2 := by repeat (first | exact bl | refine Below.trans ?_ (hb2.mono (by first | omega | (simp; done) | (simp; omega))) | refine Below.setCell ?_ (by first | omega | (simp; done) | (simp; omega)) _ | refine Below.alloc ?_ (by first | omega | (simp; done) | (simp; omega)) _ | refine Below.drew ?_)
  have zz := hb2.size
  try simp at zz
  replace y0 : w.heap.size < w2.heap.size := by omega
  replace y1 : w.heap.size + 1 < w2.heap.size := by omega
  replace bn : w.heap.size ≤ w2.heap.size := by omega
  clear hb2 zz
  go_wp2_with fail
  (with_reducible refine (DR.out _).mono ?_)
  rintro e w3 ⟨rfl, hb3⟩
  replace k1 := carry hb3 (p := ⟨w.heap.size, 0, none⟩) (v := .int .u64 a) (by first | exact k1 | (simp [go_sem, k1, y0, y1]; done) | (simp [go_sem, k1, y0, y1]; omega))
  replace k2 := carry hb3 (p := ⟨w.heap.size, 1, none⟩) (v := .int .u64 b) (by first | exact k2 | (simp [go_sem, k2, y0, y1]; done) | (simp [go_sem, k2, y0, y1]; omega))
  replace k3 := carry hb3 (p := ⟨w.heap.size + 1, 0, none⟩) (v := .int .u64 n0) (by first | exact k3 | (simp [go_sem, k3, y0, y1]; done) | (simp [go_sem, k3, y0, y1]; omega))
  replace k4 := carry hb3 (p := ⟨w.heap.size + 1, 1, none⟩) (v := .int .u64 n1) (by first | exact k4 | (simp [go_sem, k4, y0, y1]; done) | (simp [go_sem, k4, y0, y1]; omega))
  replace k5 := carry hb3 (p := ⟨w.heap.size + 1, 2, none⟩) (v := .int .u64 n2) (by first | exact k5 | (simp [go_sem, k5, y0, y1]; done) | (simp [go_sem, k5, y0, y1]; omega))
  replace k6 := carry hb3 (p := ⟨w.heap.size + 1, 3, none⟩) (v := .int .u64 n3) (by first | exact k6 | (simp [go_sem, k6, y0, y1]; done) | (simp [go_sem, k6, y0, y1]; omega))
  have k7 := carry hb3 (p := ⟨w2.heap.size, 0, none⟩) (v := .int .u64 qh) (by first | (simp [go_sem, y0, y1]; done) | (simp [go_sem, y0, y1]; omega))
  have k8 := carry hb3 (p := ⟨w2.heap.size, 1, none⟩) (v := .int .u64 ql) (by first | (simp [go_sem, y0, y1]; done) | (simp [go_sem, y0, y1]; omega))
  replace bl : Below w.heap.size w w3 := by repeat (first | exact bl | refine Below.trans ?_ (hb3.mono (by first | omega | (simp; done) | (simp; omega))) | refine Below.setCell ?_ (by first | omega | (simp; done) | (simp; omega)) _ | refine Below.alloc ?_ (by first | omega | (simp; done) | (simp; omega)) _ | refine Below.drew ?_)
  have zz := hb3.size
  try simp at zz
  replace y0 : w.heap.size < w3.heap.size := by omega
  replace y1 : w.heap.size + 1 < w3.heap.size := by omega
  have y2 : w2.heap.size < w3.heap.size := by omega
  replace bn : w.heap.size ≤ w3.heap.size := by omega
  clear hb3 zz
  have bsz := bl.size
  have K0 : PartsS w w1 w2 w3 a b n0 n1 n2 n3 qh ql r ok (w3.alloc (.cells #[.int .u64 qh, .int .u64 ql, .int .u64 r, .bool ok] 37)) := ⟨(by simp [go_sem, k1, y0, y1, y2]), (by simp [go_sem, k2, y0, y1, y2]), (by simp [go_sem, k3, y0, y1, y2]), (by simp [go_sem, k4, y0, y1, y2]), (by simp [go_sem, k5, y0, y1, y2]), (by simp [go_sem, k6, y0, y1, y2]), (by simp [go_sem, k7, y0, y1, y2]), (by simp [go_sem, k8, y0, y1, y2]), (by simp [go_sem]), (by simp [go_sem]), (by simp [go_sem]), (by simp [go_sem]), bl.alloc bsz _⟩
  have HK := Lib.hid (parts_drew K0)
  clear K0 k1 k2 k3 k4 k5 k6 k7 k8
  go_upto_region 4 with (fail)
  go_region_held3 (fun w' => w'.cell? ⟨w.heap.size, 0, none⟩ = some (.int .u64 a) ∧ w'.cell? ⟨w.heap.size, 1, none⟩ = some (.int .u64 b) ∧ w'.cell? ⟨w.heap.size + 1, 0, none⟩ = some (.int .u64 n0) ∧ w'.cell? ⟨w.heap.size + 1, 1, none⟩ = some (.int .u64 n1) ∧ w'.cell? ⟨w.heap.size + 1, 2, none⟩ = some (.int .u64 n2) ∧ w'.cell? ⟨w.heap.size + 1, 3, none⟩ = some (.int .u64 n3) ∧ w'.cell? ⟨w2.heap.size, 0, none⟩ = some (.int .u64 qh) ∧ w'.cell? ⟨w2.heap.size, 1, none⟩ = some (.int .u64 ql) ∧ w'.cell? ⟨w3.heap.size, 0, none⟩ = some (.int .u64 qh) ∧ w'.cell? ⟨w3.heap.size, 1, none⟩ = some (.int .u64 ql) ∧ w'.cell? ⟨w3.heap.size, 2, none⟩ = some (.int .u64 r) ∧ w'.cell? ⟨w3.heap.size, 3, none⟩ = some (.bool ok) ∧ Below w.heap.size w w') (first | exact HK.out | assumption | exact kkhA | exact kkhB | exact kkhC | exact kkhD)
    (first
      | (go_at_call 22; (with_reducible refine (TG.out _).mono ?_); rintro e wa ⟨rfl, hA⟩; (have kkhA : PartsS w w1 w2 w3 a b n0 n1 n2 n3 qh ql r ok wa := parts_call (by first | assumption | exact HK.out) hA))
      | (go_at_call 23; (with_reducible refine (TR.out _).mono ?_); rintro e wb ⟨rfl, hB⟩; (have kkhB : PartsS w w1 w2 w3 a b n0 n1 n2 n3 qh ql r ok wb := parts_call (by first | assumption | exact HK.out) hB))
      | (go_at_call 24; (with_reducible refine (LG.out _).mono ?_); rintro e wc ⟨rfl, hC⟩; (have kkhC : PartsS w w1 w2 w3 a b n0 n1 n2 n3 qh ql r ok wc := parts_call (by first | assumption | exact HK.out) hC))
      | (go_at_call 25; (with_reducible refine (LR.out _).mono ?_); rintro e wd ⟨rfl, hD⟩; (have kkhD : PartsS w w1 w2 w3 a b n0 n1 n2 n3 qh ql r ok wd := parts_call (by first | assumption | exact HK.out) hD)))
  all_goals
    go_wp2
    all_goals (go_ret; exact ⟨rfl, by first | exact kkhD.2.2.2.2.2.2.2.2.2.2.2.2 | exact kkhC.2.2.2.2.2.2.2.2.2.2.2.2⟩)
theorem walk (a b d n0 n1 n2 n3 : Int) (w : World) (ha : Is64 a) (hb : Is64 b) (hd : Is64 d) (h0 : Is64 n0) (h1 : Is64 n1) (h2 : Is64 n2) (h3 : Is64 n3) :
    Calls Try.prog 4 #[.agg #[.int .u64 a, .int .u64 b], .int .u64 d, .agg #[.int .u64 n0, .int .u64 n1, .int .u64 n2, .int .u64 n3]] w fun e w' => e = .returned (.bool true) ∧ Below w.heap.size w w' := by
  have eN := V_nat ha hb
  have TG := Lib.hid (fun w => text_any a b (V a b).toNat w ha hb eN.symm)
  have TR := Lib.hid (fun w => text_rf a b (V a b).toNat w ha hb eN.symm)
  have LG := Lib.hid (fun w => less_gen n0 n1 n2 n3 w h0 h1 h2 h3)
  have LR := Lib.hid (fun w => less_rf n0 n1 n2 n3 w h0 h1 h2 h3)
  by_cases hz : d = 0
  · subst hz
    exact walk0 a b 0 n0 n1 n2 n3 0 0 0 false _ _ w (Lib.hid (fun w => div_zero a b w)) (Lib.hid (fun w => div_rf_zero a b w)) TG TR LG LR
  · have hz' : (d == 0) = false := by simpa using hz
    have ed : (d.toNat : Int) = d := Int.toNat_of_nonneg hd.1
    refine walk0 a b d n0 n1 n2 n3 _ _ _ true _ _ w (Lib.hid (fun w => ?_)) (Lib.hid (fun w => div_rf_yes a b d (V a b).toNat d.toNat w ha hb hd hz' rfl rfl)) TG TR LG LR
    have := div_any a b d w ha hb hd hz'
    have e1 : V a b / d = (((V a b).toNat / d.toNat : Nat) : Int) := by rw [Int.natCast_ediv, eN, ed]
    have e2 : V a b % d = (((V a b).toNat % d.toNat : Nat) : Int) := by rw [Int.natCast_emod, eN, ed]
    rw [e1, e2] at this
    exact this

set_option maxRecDepth 100000 in
theorem lifted (os : Os) (started : os.Started) (H : Type) (enc : TypeId × Value → H) :
    ReturnsInHanded {} Try.checked os 4 .any (Rows.widePartsSpec.pre6 enc Try.prog Try.f4 Rows.widePartsRow.domain false) (Rows.widePartsSpec.post enc Try.prog Try.f4 false true false false) := by
  refine returnsInHanded_of_change (C := Try.checked) own started (by kernel_rfl) Try.func4
    (ChangeSpec.witness6 (enc := enc) (C := Try.checked) false ⟨#[], #[.agg #[.int .u64 0, .int .u64 0], .int .u64 0, .agg #[.int .u64 0, .int .u64 0, .int .u64 0, .int .u64 0]], []⟩ 8 (by kernel_rfl) (by kernel_rfl) (by kernel_rfl) (by kernel_rfl)) ?_
  intro W base args ds gs before hval0 hW hcnd _
  have hval : ∀ (j : Nat) t v, Try.f4.params[j]? = some t → args[j]? = some v → Value.okWide Try.prog W .any base t v := hval0
  have hW' := hW
  obtain ⟨p, q, hA0, hV, rfl, hfz, hnd⟩ := hW
  have hA : DataW.TrodAll enc Try.prog W 0 (fun _ => true) true Try.f4.params.toList args.toList ds p := hA0
  rw [Try.params4] at hA hval
  obtain ⟨v0, vs0, d0, ds0, p0, q0, hargs, rfl, rfl, h0, r0⟩ := trodAll_cons hA
  obtain ⟨v1, vs1, d1, ds1, p1, q1, rfl, rfl, rfl, h1, r1⟩ := trodAll_cons r0
  obtain ⟨v2, vs2, d2, ds2, p2, q2, rfl, rfl, rfl, h2, r2⟩ := trodAll_cons r1
  obtain ⟨rfl, rfl, rfl⟩ := trodAll_nil r2
  obtain rfl : args = #[v0, v1, v2] := by cases args; simp_all
  obtain ⟨rfl, rfl⟩ := trodVars_none hV
  have lt0 : ∀ x ∈ p0, x.block < W.heap.size := by obtain ⟨m, hm⟩ := h0; exact DataW.trod_lt m _ _ _ hm
  obtain ⟨a, b, rfl, wa, wb⟩ := open_wide (hval 0 24 v0 rfl rfl) h0
  have lt1 : ∀ x ∈ p1, x.block < W.heap.size := by obtain ⟨m, hm⟩ := h1; exact DataW.trod_lt m _ _ _ hm
  obtain ⟨d, e1, -, -, wfd⟩ := open_int Try.underlying22 (hval 1 22 v1 rfl rfl) h1
  subst e1
  have wd := is64_wf wfd
  have lt2 : ∀ x ∈ p2, x.block < W.heap.size := by obtain ⟨m, hm⟩ := h2; exact DataW.trod_lt m _ _ _ hm
  obtain ⟨n0, n1, n2, n3, rfl, wn0, wn1, wn2, wn3⟩ := open_arr4 Try.underlying33 (by kernel_rfl) (hval 2 33 v2 rfl rfl) h2
  clear hA0 hval0
  refine (walk a b d n0 n1 n2 n3 W wa wb wd wn0 wn1 wn2 wn3).mono fun e W' ⟨he, bel⟩ => ?_
  subst he
  exact ⟨_, rfl, _, _, _, [], _, [], hW', trodAll_mk1 (shut_bool Try.underlying4 _), (trodAll_cons_mk (Below.trod laidOut (by kernel_rfl) (of_decide_eq_true (by kernel_rfl)) h0 bel lt0) (trodAll_cons_mk (Below.trod laidOut (by kernel_rfl) (of_decide_eq_true (by kernel_rfl)) h1 bel lt1) (trodAll_cons_mk (Below.trod laidOut (by kernel_rfl) (of_decide_eq_true (by kernel_rfl)) h2 bel lt2) trodAll_mk0))), rfl, bel.frame _, fun h => by cases h⟩

theorem proved : Rows.WidePartsSaid :=
  OpenClaim.holds_of_wide 4 Try.f4 rfl rfl rfl rfl rfl rfl rfl ⟨rfl, rfl, rfl, rfl, rfl⟩ rfl rfl rfl rfl rfl (by kernel_rfl) Try.func4 (by kernel_rfl)
    (of_decide_eq_true (by kernel_rfl)) (by unfold Func.isWrapper; first | (rw [if_pos (by decide +kernel)]; kernel_rfl) | (rw [if_neg (by decide +kernel)]; exact ⟨rfl, rfl⟩))
    (fun os started H enc _ => lifted os started H enc)
#print axioms proved
end Go.Proofs.Ytdddafhalcbhaaa.wideParts
