/- horariumlaw15.JudgeLess answers true at every row of numbers and any two: a set that fits, fits without any of its tasks, and with less work of one. No condition. -/
import Derived.Test.YtgbnoifaknlkhaaJuS
import Derived.Test.YtgbnoifaknlkhaaJuO
namespace Go.Proofs.Ytgbnoifaknlkhaa.judgeLess
open Go.ChangeShapes Go.WideShapes Go.ChangeAt Go.RowKit Go.Joins
set_option maxRecDepth 100000
set_option linter.unusedVariables false
set_option linter.unusedSimpArgs false
open Tb
open Ju
open Pm (Tk)
open Ox (Od tk0)
open Ge (Seen Row)
open Qp (testR)

set_option maxRecDepth 100000 in
set_option maxHeartbeats 16000000 in
theorem walk (l : List Nm) (lo : Option Addr) (lc : Nat) (z c : Int) (w : World) (hl : l.length ≤ 9223372036854775807) (hL : Seen Nm.cs 7 lo l w) :
    Calls Try.prog 5 #[.slice lo l.length lc, .int .i64 z, .int .i64 c] w fun e w' => e = .returned (.bool true) ∧ Below w.heap.size w w' := by
  have AW := Lib.hid awake_any
  have MT : Hid (∀ W, Below w.heap.size w W → Calls Try.prog 10 #[.slice lo l.length lc, .bool true] W fun e w' => ∃ v, e = .returned v ∧ Tb.Told v (madeT true l) w' ∧ Below W.heap.size W w') := Lib.hid (fun W hb => made_true_any l lo lc W (hL.below hb (Nat.le_refl _)) hl)
  have HT : Hid (fitsR (madeT true l) = 0 ∧ DV (madeT true l).rows ∧ chkT (madeT true l) = true) := Lib.hid ⟨made_fits l, made_dv true l, made_chk true l⟩
  generalize madeT true l = t at *
  generalize l.length = n at *
  clear hL
  have hl16 := (chkT_iff.1 HT.out.2.2).2.2.1
  have FT : Hid (∀ W a k, Sl (.slice a t.rows.length k) t.rows W a k → Calls Try.prog 17 #[tv a t.rows.length k t.mode] W fun e w' => e = .returned (.int .i64 0) ∧ Below W.heap.size W w') := Lib.hid (fun W a k h => by
    have := fits_any t a k W h.seen (by omega)
    rw [HT.out.1] at this
    exact this)
  go_enter Try.func5, Try.ntmps5
  go_wp2_with fail
  (with_reducible refine (AW.out _).mono ?_)
  rintro e w1 ⟨rfl, b1⟩
  have H1 := Lib.hid (show Bos [] w w1 from ⟨by simp, by simp, b1⟩)
  clear b1 AW
  go_wp2_with fail
  (with_reducible refine (MT.out _ H1.out.bl).mono ?_)
  rintro e w2 ⟨v, rfl, ⟨ao, cap, rfl, sl⟩, b2⟩
  have HX := Lib.hid ((H1.out.call b2).new #[.slice ao t.rows.length cap, .int .i64 t.mode] 29)
  have SX := Lib.hid (sl.call ((Below.refl _ _).alloc (Nat.le_refl _) (.cells #[.slice ao t.rows.length cap, .int .i64 t.mode] 29)))
  clear b2 sl MT H1
  unfold tv at *
  obtain ⟨t0, t1⟩ := cell2 (HX.out.cell 0 rfl)
  by_cases h0 : t.rows.length = 0
  · have h0' : ((t.rows.length : Int) == 0) = true := by rw [h0]; rfl
    have FC := Lib.hid (FT.out _ ao cap SX.out)
    clear HT FT SX
    generalize t.rows.length = R at *
    clear h0
    go_wp2_with fail
    (with_reducible refine FC.out.mono ?_)
    rintro e w4 ⟨rfl, b4⟩
    have Z := Lib.hid (HX.out.call b4).bl
    clear b4 FC HX t0 t1
    go_wp2
    go_ret
    exact ⟨rfl, Z.out⟩
  have hR0 : 0 < t.rows.length := by omega
  have hr := rm_in z (m := (t.rows.length : Int)) (by omega)
  have hz5 : (z.tmod (t.rows.length : Int) + (t.rows.length : Int)).tmod (t.rows.length : Int) = rm z t.rows.length := rfl
  have hz6 := (Int.tmod_eq_emod_of_nonneg (b := (t.rows.length : Int)) (show 0 ≤ z.tmod (t.rows.length : Int) + (t.rows.length : Int) by omega)).symm.trans hz5
  obtain ⟨k, hk⟩ : ∃ k : Nat, rm z t.rows.length = (k : Int) := ⟨(rm z t.rows.length).toNat, by omega⟩
  rw [hk] at hz5 hz6 hr
  have hkl : k < t.rows.length := by omega
  have hrk := List.getElem?_eq_getElem hkl
  have LM := Lib.hid (less_may HT.out.1 HT.out.2.1 hrk)
  have hrc := Pm.chk_iff.1 (okW_iff.1 ((chkT_iff.1 HT.out.2.2).1 _ (List.getElem_mem hkl))).1
  have ROW : Hid (∀ W, Sl (.slice ao t.rows.length cap) t.rows W ao cap → ∃ b off, ao = some ⟨b, off, none⟩ ∧ (W.cell? ⟨b, off + k * 6, none⟩ = some (.int .i64 t.rows[k].t.id) ∧ W.cell? ⟨b, off + k * 6 + 1, none⟩ = some (.int .i64 t.rows[k].t.c))) := Lib.hid (fun W h => by
    obtain ⟨b, off, e, hb, hat⟩ := h.seen hR0
    have := row_cells hat hrk
    exact ⟨b, off, e, this.1, this.2.1⟩)
  have MA2 : Hid (∀ W a cc, Sl (.slice a t.rows.length cc) t.rows W a cc → Calls Try.prog 13 #[tv a t.rows.length cc t.mode, (⟨2, tk0, false, t.rows[k].t.id, 0, 0⟩ : Od).v, .slice none 0 0] W fun e w' => ∃ v, e = .returned (.tuple #[v, .int .i64 0]) ∧ Tb.Told v (mayR t ⟨2, tk0, false, t.rows[k].t.id, 0, 0⟩ []).1 w' ∧ Below W.heap.size W w') := Lib.hid (fun W a cc h => by
    have := may_any t ⟨2, tk0, false, t.rows[k].t.id, 0, 0⟩ [] a cc none 0 W h (by omega) (Ge.seen_nil _ _) (by simp)
    rw [LM.out.1] at this
    exact this)
  have MA3 : Hid (∀ W a cc d, 1 ≤ d → d ≤ t.rows[k].t.c → Sl (.slice a t.rows.length cc) t.rows W a cc → Calls Try.prog 13 #[tv a t.rows.length cc t.mode, (⟨3, tk0, false, t.rows[k].t.id, d, 0⟩ : Od).v, .slice none 0 0] W fun e w' => ∃ v, e = .returned (.tuple #[v, .int .i64 0]) ∧ Tb.Told v (mayR t ⟨3, tk0, false, t.rows[k].t.id, d, 0⟩ []).1 w' ∧ Below W.heap.size W w') := Lib.hid (fun W a cc d h1 h2 h => by
    have := may_any t ⟨3, tk0, false, t.rows[k].t.id, d, 0⟩ [] a cc none 0 W h (by omega) (Ge.seen_nil _ _) (by simp)
    rw [LM.out.2 d h1 h2] at this
    exact this)
  have HD := Lib.hid HX.out.drew
  have SD := Lib.hid (SX.out.call (Below.refl _ _).drew)
  obtain ⟨b, off, eao, r0, r1⟩ := ROW.out _ SD.out
  subst eao
  have h0' : ((t.rows.length : Int) == 0) = false := by rw [beq_eq_false_iff_ne]; omega
  have h00 : ¬ (t.rows.length : Int) = 0 := by omega
  have wz1 : IntKind.i64.wrap (z.tmod (t.rows.length : Int) + (t.rows.length : Int)) = z.tmod (t.rows.length : Int) + (t.rows.length : Int) := IntWalk.i64_in _ (by omega)
  have wz2 : IntKind.i64.wrap (z.tmod (t.rows.length : Int)) = z.tmod (t.rows.length : Int) := IntWalk.i64_in _ (by omega)
  have wk : IntKind.i64.wrap (k : Int) = (k : Int) := IntWalk.i64_in _ (by omega)
  have hk' : (k : Int) < (t.rows.length : Int) := Int.ofNat_lt.2 hkl
  clear hk hrk LM ROW HT h0
  unfold tv Od.v Od.cs tk0 at MA2 MA3
  simp only at MA2 MA3
  generalize t.rows[k].t.id = ri at *
  generalize t.rows[k].t.c = rc at *
  have hrc1 : 1 ≤ rc ∧ rc ≤ 2147483648 := by omega
  clear hrc
  have hc := rm_in c (m := rc) (by omega)
  have hc5 : (c.tmod rc + rc).tmod rc = rm c rc := rfl
  have hc6 := (Int.tmod_eq_emod_of_nonneg (b := rc) (show 0 ≤ c.tmod rc + rc by omega)).symm.trans hc5
  generalize rm c rc = Q at *
  have wc1 : IntKind.i64.wrap (c.tmod rc + rc) = c.tmod rc + rc := IntWalk.i64_in _ (by omega)
  have wc2 : IntKind.i64.wrap (c.tmod rc) = c.tmod rc := IntWalk.i64_in _ (by omega)
  have wc3 : IntKind.i64.wrap (1 + Q) = 1 + Q := IntWalk.i64_in _ (by omega)
  have rz : ¬ rc = 0 := by omega
  have rz2 : (rc == 0) = false := by simp [rz]
  have M3 := Lib.hid (fun W a cc h => MA3.out W a cc (1 + Q) (by omega) (by omega) h)
  clear MA3
  obtain ⟨hc1, hc2, hc3, hc4⟩ := hc
  obtain ⟨hr1, hr2, hr3, hr4⟩ := hr
  generalize (mayR t ⟨2, ⟨0, 0, 0, 0, 0⟩, false, ri, 0, 0⟩ []).1 = X1 at *
  generalize (mayR t ⟨3, ⟨0, 0, 0, 0, 0⟩, false, ri, 1 + Q, 0⟩ []).1 = X2 at *
  generalize t.rows.length = R at *
  have hn0 : ¬ R = 0 := by omega
  clear SX
  go_wp2_with fail
  refine wp_region_held_drew (S := (fun W' => W'.cell? ⟨w2.heap.size, 0, none⟩ = some (.slice (some ⟨b, off, none⟩) R cap))) (by kernel_rfl) ((cell2 (HD.out.cell 0 rfl)).1) (fun hHeld => ?_)
  refine Gh.tk 0 ?_
  refine Gh.tk 1 ?_
  refine Gh.tk 2 ?_
  refine Gh.tk 3 ?_
  refine Gh.tk 4 ?_
  refine Gh.tk 5 ?_
  refine Gh.tk 6 ?_
  refine Gh.tk 7 ?_
  refine Gh.tk 8 ?_
  refine Gh.tk 9 ?_
  refine Gh.tk 10 ?_
  refine Gh.tk 11 ?_
  refine Gh.tk 12 ?_
  refine Gh.tk 13 ?_
  refine wpAnyH_done (by kernel_rfl) ?_ _
  have hk1 := hk'
  go_wp2_with fail
  (with_reducible refine (MA2.out _ _ _ SD.out).mono ?_)
  rintro e w4 ⟨v, rfl, ⟨a4, c4, rfl, -⟩, b4⟩
  unfold tv
  have H4 := Lib.hid ((HD.out.call b4).new #[.slice a4 X1.rows.length c4, .int .i64 X1.mode] 29)
  have S4 := Lib.hid ((SD.out.call b4).call ((Below.refl _ _).alloc (Nat.le_refl _) (.cells #[.slice a4 X1.rows.length c4, .int .i64 X1.mode] 29)))
  clear b4 MA2 HD SD HX t0 t1 r0 r1
  obtain ⟨t0, t1⟩ := cell2 (H4.out.cell 1 rfl)
  go_wp2_with fail
  (with_reducible refine (M3.out _ _ _ S4.out).mono ?_)
  rintro e w5 ⟨v, rfl, ⟨a5, c5, rfl, -⟩, b5⟩
  unfold tv
  have H5 := Lib.hid (((H4.out.call b5).sub (List.sublist_cons_self _ _)).new #[.slice a5 X2.rows.length c5, .int .i64 X2.mode] 29)
  have S5 := Lib.hid ((S4.out.call b5).call ((Below.refl _ _).alloc (Nat.le_refl _) (.cells #[.slice a5 X2.rows.length c5, .int .i64 X2.mode] 29)))
  have FC := Lib.hid (FT.out _ _ _ S5.out)
  clear b5 M3 H4 S4 S5 FT t0 t1
  obtain ⟨t0, t1⟩ := cell2 (H5.out.cell 1 rfl)
  go_wp2_with fail
  (with_reducible refine FC.out.mono ?_)
  rintro e w6 ⟨rfl, b6⟩
  have Z := Lib.hid (H5.out.call b6).bl
  clear b6 FC H5 t0 t1
  go_wp2
  go_ret
  exact ⟨rfl, Z.out⟩

set_option maxRecDepth 100000 in
set_option maxHeartbeats 1600000 in
theorem lifted (os : Os) (started : os.Started) (H : Type) (enc : TypeId × Value → H) :
    ReturnsInHanded {} Try.checked os 5 .any (Rows.judgeLessSpec.pre6 enc Try.prog Try.f5 Rows.judgeLessRow.domain false) (Rows.judgeLessSpec.post enc Try.prog Try.f5 false true false false) := by
  refine returnsInHanded_of_change (C := Try.checked) own started (by kernel_rfl) Try.func5
    (ChangeSpec.witness6 (enc := enc) (C := Try.checked) false ⟨#[], #[.slice none 0 0, .int .i64 0, .int .i64 0], []⟩ 8 (by kernel_rfl) (by kernel_rfl) (by kernel_rfl) (by kernel_rfl)) ?_
  intro W base args ds gs before hval0 hW hcnd _
  have hval : ∀ (j : Nat) t v, Try.f5.params[j]? = some t → args[j]? = some v → Value.okWide Try.prog W .any base t v := hval0
  have hW' := hW
  obtain ⟨p, q, hA0, hV, rfl, hfz, hnd⟩ := hW
  have hA : DataW.TrodAll enc Try.prog W 0 (fun _ => true) true Try.f5.params.toList args.toList ds p := hA0
  rw [Try.params5] at hA hval
  obtain ⟨v0, vs0, d0, ds0, p0, q0, hargs, rfl, rfl, h0, r0⟩ := trodAll_cons hA
  obtain ⟨v1, vs1, d1, ds1, p1, q1, rfl, rfl, rfl, h1, r1⟩ := trodAll_cons r0
  obtain ⟨v2, vs2, d2, ds2, p2, q2, rfl, rfl, rfl, h2, r2⟩ := trodAll_cons r1
  obtain ⟨rfl, rfl, rfl⟩ := trodAll_nil r2
  obtain rfl : args = #[v0, v1, v2] := by cases args; simp_all
  obtain ⟨rfl, rfl⟩ := trodVars_none hV
  have lt0 : ∀ x ∈ p0, x.block < W.heap.size := by obtain ⟨m, hm⟩ := h0; exact DataW.trod_lt m _ _ _ hm
  obtain ⟨lo, l, lc, rfl, ll, lm, ls⟩ := open_nms (hval 0 22 v0 rfl rfl) h0
  have lt1 : ∀ x ∈ p1, x.block < W.heap.size := by obtain ⟨m, hm⟩ := h1; exact DataW.trod_lt m _ _ _ hm
  obtain ⟨z, e1, -, -, wfz⟩ := open_int Try.underlying3 (hval 1 3 v1 rfl rfl) h1
  subst e1
  have lt2 : ∀ x ∈ p2, x.block < W.heap.size := by obtain ⟨m, hm⟩ := h2; exact DataW.trod_lt m _ _ _ hm
  obtain ⟨c, e2, -, -, wfc⟩ := open_int Try.underlying3 (hval 2 3 v2 rfl rfl) h2
  subst e2
  clear hA0 hval0
  refine (walk l lo lc z c W ll ls).mono fun e W' ⟨he, bel⟩ => ?_
  subst he
  exact ⟨_, rfl, _, _, _, [], _, [], hW', trodAll_mk1 (shut_bool Try.underlying4 _), (trodAll_cons_mk (Below.trod laidOut (by kernel_rfl) (of_decide_eq_true (by kernel_rfl)) h0 bel lt0) (trodAll_cons_mk (Below.trod laidOut (by kernel_rfl) (of_decide_eq_true (by kernel_rfl)) h1 bel lt1) (trodAll_cons_mk (Below.trod laidOut (by kernel_rfl) (of_decide_eq_true (by kernel_rfl)) h2 bel lt2) trodAll_mk0))), rfl, bel.frame _, fun h => by cases h⟩

theorem proved : Rows.JudgeLessSaid :=
  OpenClaim.holds_of_wide 5 Try.f5 rfl rfl rfl rfl rfl rfl rfl ⟨rfl, rfl, rfl, rfl, rfl⟩ rfl rfl rfl rfl rfl (by kernel_rfl) Try.func5 (by kernel_rfl)
    (of_decide_eq_true (by kernel_rfl)) (by unfold Func.isWrapper; first | (rw [if_pos (by decide +kernel)]; kernel_rfl) | (rw [if_neg (by decide +kernel)]; exact ⟨rfl, rfl⟩))
    (fun os started H enc _ => lifted os started H enc)
#print axioms proved
end Go.Proofs.Ytgbnoifaknlkhaa.judgeLess
