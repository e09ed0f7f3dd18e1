/- horariumlaw18.EdfMeets answers true at all tasks, releases and work by numbers: who fits is never late. No condition. -/
import Derived.Test.YteagimnlhopjpaaEdN
import Derived.Deep.CutBlock
import Derived.Deep.DeepCutAuto
import Derived.Test.YteagimnlhopjpaaGnH
namespace Go.Proofs.Yteagimnlhopjpaa.edfMeets
open Go.ChangeShapes Go.WideShapes Go.ChangeAt Go.RowKit Go.Joins
set_option maxRecDepth 100000
set_option linter.unusedVariables false
set_option linter.unusedSimpArgs false
open Hj
open Ed (Jo hasR lateR leftR addR runR mayJ)
theorem kcells {i S Q p : Int} {kb : Nat} {W : World} (h : Pm.TkAt kb 0 ⟨i, 1 + S, 1 + Q, p, 1⟩ W) : W.cell? ⟨kb, 0, none⟩ = some (.int .i64 i) ∧ W.cell? ⟨kb, 1, none⟩ = some (.int .i64 (1 + S)) ∧ W.cell? ⟨kb, 2, none⟩ = some (.int .i64 (1 + Q)) ∧ W.cell? ⟨kb, 3, none⟩ = some (.int .i64 p) ∧ W.cell? ⟨kb, 4, none⟩ = some (.int .i64 1) :=
  ⟨h.c0, by simpa using h.c1, by simpa using h.c2, by simpa using h.c3, by simpa using h.c4⟩

set_option maxRecDepth 100000 in
set_option maxHeartbeats 16000000 in
theorem walk (l : List Pm.Tri) (lo : Option Addr) (lc : Nat) (a : List Int) (ao : Option Addr) (ac : Nat) (b : List Int) (bo : Option Addr) (bc : Nat) (w : World) (hl : l.length ≤ 9223372036854775807) (hL : Pm.Tris lo l w) (hok : ∀ x ∈ l, x.Ok) (hal : a.length ≤ 9223372036854775807) (hA : Ge.Seen nc 1 ao a w) (hbl : b.length ≤ 9223372036854775807) (hB : Ge.Seen nc 1 bo b w) :
    Calls Try.prog 5 #[.slice lo l.length lc, .slice ao a.length ac, .slice bo b.length bc] w fun e w' => e = .returned (.bool true) ∧ Below w.heap.size w w' := by
  have AW := Lib.hid awake_any
  have NW := Lib.hid xnew_any
  have AD := Lib.hid (fun LB x K s j hi hl W h => xadd_any LB x K s j hi hl W h)
  have RU := Lib.hid (fun LB x K s hl W h => xrun_any LB x K s hl W h)
  have LT := Lib.hid (fun LB x K s t hl W h => xlate_any LB x K s t hl W h)
  have TE := Lib.hid (fun (L : List Pm.Tk) ao cap W h hl => Qp.rtest_any L ao cap W h hl)
  have NL := Lib.hid hL
  have NA := Lib.hid hA
  have NB := Lib.hid hB
  have OK := Lib.hid hok
  clear hL hA hB hok
  go_enter Try.func5, Try.ntmps5
  go_wp2_with fail
  (with_reducible refine (AW.out _).mono ?_)
  rintro e w1 ⟨rfl, b1⟩
  have B1 := Lib.hid b1
  clear b1 AW
  have P0 := Lib.hid (per8_new w1)
  have B2 := Lib.hid (B1.out.alloc B1.out.size per8)
  have hpb : w1.heap.size < (w1.alloc per8).heap.size := by simp
  unfold per8 at P0 B2 hpb
  go_upto_block 0 with (fail)
  generalize w1.alloc (.cells #[.int .i64 2, .int .i64 3, .int .i64 4, .int .i64 5, .int .i64 6, .int .i64 8, .int .i64 10, .int .i64 12] 51) = W1 at *
  clear B1
  generalize w1.heap.size = pb at *
  obtain ⟨n, hn⟩ : ∃ n, n = min l.length 6 := ⟨_, rfl⟩
  have HN := Lib.hid hn
  clear hn
  go_cut [8] (MtEnd W1)
  case first =>
    clear NW AD RU LT NA NB hal hbl
    go_wp2_with fail
    go_loopg [8, 10] n (MtRel n W1)
    case atStart => exact ⟨0, [], _, by omega, rfl, rfl, fits_nil, Pm.trow_nil _ _, Below.refl _ _⟩
    case round =>
      obtain ⟨i, ts, v, hi, rfl, rfl, hf, hr, hb⟩ := hrel
      obtain ⟨ta, tc, rfl, -, hts⟩ := hr.form
      have HF := Lib.hid hf
      have HR := Lib.hid hr
      have HB := Lib.hid hb
      have TS := Lib.hid hts
      have HI := Lib.hid hi
      have hlen := hf.len
      clear hf hr hb hts
      by_cases hlt : i < n
      · have hil : i < l.length := by have := HN.out; omega
        have hi6 : i < 6 := by have := HN.out; omega
        have NS := NL.out.below (B2.out.trans (HB.out.mono B2.out.size)) (Nat.le_refl _)
        obtain ⟨b0, off, rfl, hbs, hat⟩ := NS (by omega)
        have hx := hat i l[i] (List.getElem?_eq_getElem hil)
        have hxo := OK.out _ (List.getElem_mem hil)
        clear NS hat hi
        generalize l[i] = tr at *
        obtain ⟨c0, c1, c2⟩ := hx
        obtain ⟨xa, xb, xc⟩ := tr
        obtain ⟨oa, ob, oc⟩ := hxo
        unfold Pm.I64 at oa ob oc
        simp only at *
        obtain ⟨k, hk, hk8⟩ : ∃ k : Nat, bits .and .i64 xc 7 = (k : Int) ∧ k < 8 := ⟨(xc % 8).toNat, by rw [and_pow xc 7 3 (by decide) (by decide)]; omega, by omega⟩
        obtain ⟨p, cp0, hp2, hp12⟩ := P0.out k hk8
        have cp := carry (p := ⟨pb, k, none⟩) (HB.out.mono (Nat.le_refl _)) cp0
        clear cp0
        obtain ⟨r2, p2, q2⟩ := rest6 (x := xb) (m := p) (by omega)
        have m3 := Int.emod_nonneg xb (show p ≠ 0 by omega)
        have m4 := Int.emod_lt_of_pos xb (show 0 < p by omega)
        generalize hQ : xb % p = Q at *
        obtain ⟨r3, p3, q3⟩ := rest6 (x := xa) (m := 1 + Q) (by omega)
        have m5 := Int.emod_nonneg xa (show 1 + Q ≠ 0 by omega)
        have m6 := Int.emod_lt_of_pos xa (show 0 < 1 + Q by omega)
        generalize hS : xa % (1 + Q) = S at *
        clear hQ hS
        have hpz : ¬ p = 0 := by omega
        have hqz : ¬ (1 + Q) = 0 := by omega
        have i1 : (i : Int) < (l.length : Int) := by omega
        have i2 : (i : Int) < 6 := by omega
        have k2 : (k : Int) < 8 := by omega
        have bA : Below wr.heap.size wr (wr.alloc (.cells #[.int .i64 (i : Int), .int .i64 (1 + S), .int .i64 (1 + Q), .int .i64 p, .int .i64 1] 54)) := (Below.refl _ _).alloc (Nat.le_refl _) _
        have J0 : Hid (Pm.TkAt wr.heap.size 0 (⟨(i : Int), 1 + S, 1 + Q, p, 1⟩ : Pm.Tk) (wr.alloc (.cells #[.int .i64 (i : Int), .int .i64 (1 + S), .int .i64 (1 + Q), .int .i64 p, .int .i64 1] 54))) := Lib.hid (by constructor <;> simp [go_sem])
        have HRV := Lib.hid (HR.out.call bA)
        have TV := Lib.hid (TS.out.call bA)
        have HBV := Lib.hid (HB.out.trans (bA.mono HB.out.size))
        have hkb : wr.heap.size < (wr.alloc (.cells #[.int .i64 (i : Int), .int .i64 (1 + S), .int .i64 (1 + Q), .int .i64 p, .int .i64 1] 54)).heap.size := by simp
        clear bA HR HB TS
        go_upto_region 10 with (fail)
        generalize wr.alloc (.cells #[.int .i64 (i : Int), .int .i64 (1 + S), .int .i64 (1 + Q), .int .i64 p, .int .i64 1] 54) = V at *
        generalize wr.heap.size = kb at *
        go_cut [76] (fun s wx => s = .bool (decide (Qp.testR (ts ++ [(⟨(i : Int), 1 + S, 1 + Q, p, 1⟩ : Pm.Tk)]) = 0)) ∧ Below V.heap.size V wx)
        case first =>
          have BB := Lib.hid ((Below.refl V.heap.size V).drew)
          have cS := kcells (J0.out.of_block (BB.out.block kb hkb))
          clear c0 c1 c2 cp HBV HRV P0 B2 OK NL
          refine wp_region_held_drew (S := (fun W' => W'.cell? ⟨kb, 0, none⟩ = some (.int .i64 (i : Int)) ∧ W'.cell? ⟨kb, 1, none⟩ = some (.int .i64 (1 + S)) ∧ W'.cell? ⟨kb, 2, none⟩ = some (.int .i64 (1 + Q)) ∧ W'.cell? ⟨kb, 3, none⟩ = some (.int .i64 p) ∧ W'.cell? ⟨kb, 4, none⟩ = some (.int .i64 1))) (by kernel_rfl) (cS) (fun hHeld => ?_)
          refine Gh.tk 1 ?_
          refine Gh.tk 3 ?_
          refine wpAnyH_ready (rs := [0, 4]) (by kernel_rfl) (by simp) ?_
          refine AllReadyH.cons rfl (fun K hK => ?_) ?_
          · rw [if_pos (by rfl)]
            obtain ⟨v0, d1, r0, t0, b0, ow0, sz0⟩ := Pm.build_none V.heap.size V.drew BB.out.size
            refine Pm.wp_val (Pm.exec_none rfl r0) ?_
            have ZZ := Lib.hid t0
            replace BB := Lib.hid (BB.out.trans (b0.mono BB.out.size))
            clear cS r0 t0 b0 ow0 sz0
            have cS := kcells (J0.out.of_block (BB.out.block kb hkb))
            refine hK.out _ _ (cS) (fun hHeld => ?_)
            clear hK K
            refine Gh.pt ?_
            refine wpAnyH_ready (rs := [2, 4]) (by kernel_rfl) (by simp) ?_
            refine AllReadyH.cons rfl (fun K hK => ?_) ?_
            · rw [if_pos (by rfl)]
              obtain ⟨v2, d2, ap2, t2, b2, fr2⟩ := Pm.trow_all V.heap.size d1 v0 [] ts ta tc ZZ.out (TV.out.below BB.out (Nat.le_refl _)) BB.out.size (by simp; omega)
              rw [List.nil_append] at t2
              refine Lib.wp_append_run _ _ _ _ _ rfl _ _ rfl rfl _ _ ap2 ?_
              have RR := Lib.hid t2
              replace BB := Lib.hid (BB.out.trans b2)
              clear cS ap2 t2 b2 fr2 ZZ
              have cS := kcells (J0.out.of_block (BB.out.block kb hkb))
              refine hK.out _ _ (cS) (fun hHeld => ?_)
              clear hK K
              refine Gh.pt ?_
              refine Gh.rd 4 (fun K hK => ?_)
              rw [if_pos (by rfl)]
              obtain ⟨q, d3, r4, t4, b4, eq4, sz4⟩ := Pm.build_one V.heap.size d2 (⟨(i : Int), 1 + S, 1 + Q, p, 1⟩ : Pm.Tk)
              refine Pm.wp_val (Pm.exec_build1 rfl rfl r4) ?_
              replace RR := Lib.hid (RR.out.call b4)
              have YQ := Lib.hid t4
              replace BB := Lib.hid (BB.out.trans (b4.mono BB.out.size))
              clear cS r4 t4 b4 eq4 sz4
              have cS := kcells (J0.out.of_block (BB.out.block kb hkb))
              refine hK.out _ _ (cS) (fun hHeld => ?_)
              clear hK K
              refine Gh.pt ?_
              refine Gh.rd 5 (fun K hK => ?_)
              rw [if_pos (by rfl)]
              obtain ⟨v5, d4, ap5, t5, b5, fr5⟩ := Pm.trow_all V.heap.size d3 v2 ts [(⟨(i : Int), 1 + S, 1 + Q, p, 1⟩ : Pm.Tk)] (some ⟨q, 0, none⟩) 1 RR.out (Pm.tk_ts YQ.out) BB.out.size (by simp; omega)
              obtain ⟨fa, fc, rfl, -, ht5⟩ := t5.form
              refine Lib.wp_append_run _ _ _ _ _ rfl _ _ rfl rfl _ _ ap5 ?_
              have T5 := Lib.hid ht5
              replace BB := Lib.hid (BB.out.trans b5)
              clear cS ap5 t5 b5 fr5 RR YQ ht5
              have cS := kcells (J0.out.of_block (BB.out.block kb hkb))
              refine hK.out _ _ (cS) (fun hHeld => ?_)
              clear hK K
              refine Gh.pt ?_
              refine Gh.rd 6 (fun K hK => ?_)
              have TT := TE.out _ fa fc d4 T5.out (by simp; omega)
              rw [show (ts ++ [(⟨(i : Int), 1 + S, 1 + Q, p, 1⟩ : Pm.Tk)]).length = ts.length + 1 by simp] at TT
              go_simp
              (with_reducible refine TT.mono ?_)
              rintro e d5 ⟨rfl, b6⟩
              replace BB := Lib.hid (BB.out.trans (b6.mono BB.out.size))
              clear cS b6 TE T5 TT
              have cS := kcells (J0.out.of_block (BB.out.block kb hkb))
              go_simp
              refine hK.out _ _ (cS) (fun hHeld => ?_)
              clear hK K
              refine Gh.pt ?_
              refine Gh.tk 7 ?_
              refine wpAnyH_done (by kernel_rfl) ?_ _
              go_wp2_with fail
              go_meet
              exact ⟨by first | rfl | simp, BB.out⟩
            refine AllReadyH.cons rfl (fun K hK => ?_) ?_
            · rw [if_pos (by rfl)]
              obtain ⟨q, d2, r4, t4, b4, eq4, sz4⟩ := Pm.build_one V.heap.size d1 (⟨(i : Int), 1 + S, 1 + Q, p, 1⟩ : Pm.Tk)
              refine Pm.wp_val (Pm.exec_build1 rfl rfl r4) ?_
              have YY : Hid (Pm.TkAt q 0 (⟨(i : Int), 1 + S, 1 + Q, p, 1⟩ : Pm.Tk) d2 ∧ v0.ownBlock ≠ some q) := Lib.hid ⟨t4, fun e => by have := (ZZ.out.lt q e).2; omega⟩
              replace ZZ := Lib.hid (ZZ.out.call b4)
              replace BB := Lib.hid (BB.out.trans (b4.mono BB.out.size))
              clear cS r4 t4 b4 eq4 sz4
              have cS := kcells (J0.out.of_block (BB.out.block kb hkb))
              refine hK.out _ _ (cS) (fun hHeld => ?_)
              clear hK K
              refine Gh.pt ?_
              refine Gh.rd 2 (fun K hK => ?_)
              rw [if_pos (by rfl)]
              obtain ⟨v2, d3, ap2, t2, b2, fr2⟩ := Pm.trow_all V.heap.size d2 v0 [] ts ta tc ZZ.out (TV.out.below BB.out (Nat.le_refl _)) BB.out.size (by simp; omega)
              rw [List.nil_append] at t2
              refine Lib.wp_append_run _ _ _ _ _ rfl _ _ rfl rfl _ _ ap2 ?_
              have RR := Lib.hid t2
              have YQ := Lib.hid (YY.out.1.of_block (fr2 q YY.out.1.lt YY.out.2))
              clear YY
              replace BB := Lib.hid (BB.out.trans b2)
              clear cS ap2 t2 b2 fr2 ZZ
              have cS := kcells (J0.out.of_block (BB.out.block kb hkb))
              refine hK.out _ _ (cS) (fun hHeld => ?_)
              clear hK K
              refine Gh.pt ?_
              refine Gh.rd 5 (fun K hK => ?_)
              rw [if_pos (by rfl)]
              obtain ⟨v5, d4, ap5, t5, b5, fr5⟩ := Pm.trow_all V.heap.size d3 v2 ts [(⟨(i : Int), 1 + S, 1 + Q, p, 1⟩ : Pm.Tk)] (some ⟨q, 0, none⟩) 1 RR.out (Pm.tk_ts YQ.out) BB.out.size (by simp; omega)
              obtain ⟨fa, fc, rfl, -, ht5⟩ := t5.form
              refine Lib.wp_append_run _ _ _ _ _ rfl _ _ rfl rfl _ _ ap5 ?_
              have T5 := Lib.hid ht5
              replace BB := Lib.hid (BB.out.trans b5)
              clear cS ap5 t5 b5 fr5 RR YQ ht5
              have cS := kcells (J0.out.of_block (BB.out.block kb hkb))
              refine hK.out _ _ (cS) (fun hHeld => ?_)
              clear hK K
              refine Gh.pt ?_
              refine Gh.rd 6 (fun K hK => ?_)
              have TT := TE.out _ fa fc d4 T5.out (by simp; omega)
              rw [show (ts ++ [(⟨(i : Int), 1 + S, 1 + Q, p, 1⟩ : Pm.Tk)]).length = ts.length + 1 by simp] at TT
              go_simp
              (with_reducible refine TT.mono ?_)
              rintro e d5 ⟨rfl, b6⟩
              replace BB := Lib.hid (BB.out.trans (b6.mono BB.out.size))
              clear cS b6 TE T5 TT
              have cS := kcells (J0.out.of_block (BB.out.block kb hkb))
              go_simp
              refine hK.out _ _ (cS) (fun hHeld => ?_)
              clear hK K
              refine Gh.pt ?_
              refine Gh.tk 7 ?_
              refine wpAnyH_done (by kernel_rfl) ?_ _
              go_wp2_with fail
              go_meet
              exact ⟨by first | rfl | simp, BB.out⟩
            exact AllReadyH.nil
          refine AllReadyH.cons rfl (fun K hK => ?_) ?_
          · rw [if_pos (by rfl)]
            obtain ⟨q, d1, r4, t4, b4, eq4, sz4⟩ := Pm.build_one V.heap.size V.drew (⟨(i : Int), 1 + S, 1 + Q, p, 1⟩ : Pm.Tk)
            refine Pm.wp_val (Pm.exec_build1 rfl rfl r4) ?_
            have YQ := Lib.hid t4
            replace BB := Lib.hid (BB.out.trans (b4.mono BB.out.size))
            clear cS r4 t4 b4 eq4 sz4
            have cS := kcells (J0.out.of_block (BB.out.block kb hkb))
            refine hK.out _ _ (cS) (fun hHeld => ?_)
            clear hK K
            refine Gh.pt ?_
            refine Gh.rd 0 (fun K hK => ?_)
            rw [if_pos (by rfl)]
            obtain ⟨v0, d2, r0, t0, b0, ow0, sz0⟩ := Pm.build_none V.heap.size d1 BB.out.size
            refine Pm.wp_val (Pm.exec_none rfl r0) ?_
            have ZZ := Lib.hid t0
            have YY : Hid (Pm.TkAt q 0 (⟨(i : Int), 1 + S, 1 + Q, p, 1⟩ : Pm.Tk) d2 ∧ v0.ownBlock ≠ some q) := Lib.hid ⟨YQ.out.of_block (b0.block q YQ.out.lt), by rw [ow0]; intro e; have := YQ.out.lt; have := Option.some.inj e; omega⟩
            replace BB := Lib.hid (BB.out.trans (b0.mono BB.out.size))
            clear cS r0 t0 b0 ow0 sz0
            have cS := kcells (J0.out.of_block (BB.out.block kb hkb))
            refine hK.out _ _ (cS) (fun hHeld => ?_)
            clear hK K
            refine Gh.pt ?_
            refine Gh.rd 2 (fun K hK => ?_)
            rw [if_pos (by rfl)]
            obtain ⟨v2, d3, ap2, t2, b2, fr2⟩ := Pm.trow_all V.heap.size d2 v0 [] ts ta tc ZZ.out (TV.out.below BB.out (Nat.le_refl _)) BB.out.size (by simp; omega)
            rw [List.nil_append] at t2
            refine Lib.wp_append_run _ _ _ _ _ rfl _ _ rfl rfl _ _ ap2 ?_
            have RR := Lib.hid t2
            have YQ := Lib.hid (YY.out.1.of_block (fr2 q YY.out.1.lt YY.out.2))
            clear YY
            replace BB := Lib.hid (BB.out.trans b2)
            clear cS ap2 t2 b2 fr2 ZZ
            have cS := kcells (J0.out.of_block (BB.out.block kb hkb))
            refine hK.out _ _ (cS) (fun hHeld => ?_)
            clear hK K
            refine Gh.pt ?_
            refine Gh.rd 5 (fun K hK => ?_)
            rw [if_pos (by rfl)]
            obtain ⟨v5, d4, ap5, t5, b5, fr5⟩ := Pm.trow_all V.heap.size d3 v2 ts [(⟨(i : Int), 1 + S, 1 + Q, p, 1⟩ : Pm.Tk)] (some ⟨q, 0, none⟩) 1 RR.out (Pm.tk_ts YQ.out) BB.out.size (by simp; omega)
            obtain ⟨fa, fc, rfl, -, ht5⟩ := t5.form
            refine Lib.wp_append_run _ _ _ _ _ rfl _ _ rfl rfl _ _ ap5 ?_
            have T5 := Lib.hid ht5
            replace BB := Lib.hid (BB.out.trans b5)
            clear cS ap5 t5 b5 fr5 RR YQ ht5
            have cS := kcells (J0.out.of_block (BB.out.block kb hkb))
            refine hK.out _ _ (cS) (fun hHeld => ?_)
            clear hK K
            refine Gh.pt ?_
            refine Gh.rd 6 (fun K hK => ?_)
            have TT := TE.out _ fa fc d4 T5.out (by simp; omega)
            rw [show (ts ++ [(⟨(i : Int), 1 + S, 1 + Q, p, 1⟩ : Pm.Tk)]).length = ts.length + 1 by simp] at TT
            go_simp
            (with_reducible refine TT.mono ?_)
            rintro e d5 ⟨rfl, b6⟩
            replace BB := Lib.hid (BB.out.trans (b6.mono BB.out.size))
            clear cS b6 TE T5 TT
            have cS := kcells (J0.out.of_block (BB.out.block kb hkb))
            go_simp
            refine hK.out _ _ (cS) (fun hHeld => ?_)
            clear hK K
            refine Gh.pt ?_
            refine Gh.tk 7 ?_
            refine wpAnyH_done (by kernel_rfl) ?_ _
            go_wp2_with fail
            go_meet
            exact ⟨by first | rfl | simp, BB.out⟩
          exact AllReadyH.nil
        case rest =>
          obtain ⟨rfl, hb2⟩ := hcut
          have HRX := Lib.hid (HRV.out.call hb2)
          have HBX := Lib.hid (HBV.out.trans (hb2.mono HBV.out.size))
          have JX := J0.out.of_block (hb2.block kb hkb)
          obtain ⟨j0, j1, j2, j3, j4⟩ := JX
          clear hb2
          by_cases hT : Qp.testR (ts ++ [(⟨(i : Int), 1 + S, 1 + Q, p, 1⟩ : Pm.Tk)]) = 0
          · have hd : decide (Qp.testR (ts ++ [(⟨(i : Int), 1 + S, 1 + Q, p, 1⟩ : Pm.Tk)]) = 0) = true := decide_eq_true hT
            rw [hd]
            obtain ⟨v', w', hap, hrow, hbw⟩ := Pm.trow_append W1.heap.size wc _ ts (⟨(i : Int), 1 + S, 1 + Q, p, 1⟩ : Pm.Tk) HRX.out HBX.out.size (by omega)
            have HRW := Lib.hid hrow
            have HBW := Lib.hid hbw
            have HM := Lib.hid (HF.out.more (k := (⟨(i : Int), 1 + S, 1 + Q, p, 1⟩ : Pm.Tk)) rfl hT)
            clear hrow hbw hd hT HF
            go_wp2_with (at_builtin; refine Lib.wpList_append_run _ rfl _ _ _ _ rfl _ _ rfl rfl _ _ hap ?_)
            go_roundg (n - (i + 1))
            case measure => have := HI.out; omega
            case rel => exact ⟨i + 1, _, _, by omega, by go_num, rfl, HM.out, HRW.out, HBX.out.trans HBW.out⟩
          · have hd : decide (Qp.testR (ts ++ [(⟨(i : Int), 1 + S, 1 + Q, p, 1⟩ : Pm.Tk)]) = 0) = false := decide_eq_false hT
            rw [hd]
            have HM := Lib.hid (HF.out.up (Nat.le_succ i))
            clear hd hT HF
            go_wp2
            go_roundg (n - (i + 1))
            case measure => have := HI.out; omega
            case rel => exact ⟨i + 1, ts, _, by omega, by go_num, rfl, HM.out, HRX.out, HBX.out⟩
      · have hend : (l.length : Int) ≤ (i : Int) ∨ ((i : Int) < (l.length : Int) ∧ (6 : Int) ≤ (i : Int)) := by have := HN.out; omega
        have hi6 : i ≤ 6 := by have := HN.out; omega
        have FN := Lib.hid (HF.out.up hi6)
        clear hi hlt HF TS OK NL P0
        rcases hend with hge | ⟨hge1, hge2⟩
        · have hdec : decide (i < l.length) = false := decide_eq_false (by omega)
          go_wp2_with fail
          go_meet
          exact ⟨ts, _, rfl, FN.out, HR.out, HB.out⟩
        · go_wp2_with fail
          go_meet
          exact ⟨ts, _, rfl, FN.out, HR.out, HB.out⟩
  case rest =>
    obtain ⟨ts, v, rfl, hf, hr, hb⟩ := hcut
    obtain ⟨ta, tc, rfl, -, hts⟩ := hr.form
    have HF := Lib.hid hf
    have TS := Lib.hid hts
    have HWC := Lib.hid (B2.out.trans (hb.mono B2.out.size))
    have hlen := hf.len
    clear hf hr hb hts TE NL OK P0 B2 hpb
    go_wp2_with fail
    (with_reducible refine (NW.out wc).mono ?_)
    rintro e W2 ⟨x, K1, rfl, h1, b2⟩
    have c0 : W2.heap.size ∉ K1 := fun hk => by have := (h1.lt _ hk).2; omega
    have bz : Below W2.heap.size W2 (W2.alloc z6) := (Below.refl _ _).alloc (Nat.le_refl _) _
    have X3 := Lib.hid (h1.call bz)
    have A3 := Lib.hid (ar6_new W2)
    have B3 := Lib.hid (b2.trans (bz.mono b2.size))
    have HC := Lib.hid b2.size
    have HC0 := Lib.hid c0
    clear h1 b2 bz c0 NW
    unfold z6 at X3 A3 B3
    go_upto_block 2 with (fail)
    generalize W2.alloc (.cells #[.int .i64 0, .int .i64 0, .int .i64 0, .int .i64 0, .int .i64 0, .int .i64 0] 56) = W3 at *
    generalize W2.heap.size = c at *
    go_wp2_with fail
    go_loopg [16, 17] 100 (SlRel ts x c wc)
    case atStart => exact ⟨0, 0, K1, [], fun _ => 0, rfl, rfl, rfl, X3.out, A3.out, HC0.out, Ed.met_start _ _ _, by simp, by omega, B3.out⟩
    case round =>
      obtain ⟨now, n0, K, s, nx, hnow, rfl, rfl, hx, ha, hc, hm, hsl, hn0, hb⟩ := hrel
      have HX := Lib.hid hx
      have HA := Lib.hid ha
      have HKc := Lib.hid hc
      have HM := Lib.hid hm
      have HB := Lib.hid hb
      have HNOW := Lib.hid hnow
      clear X3 A3 B3 HC0 hx ha hc hm hb
      by_cases hlt : now < 100
      · have hlt1 : (now : Int) < 100 := by omega
        have hL := Ed.met_late HM.out HF.out.chk HF.out.fit
        have hE := Ed.late_none hL
        have HL := Lib.hid hL
        have LT1 := LT.out wc.heap.size x K s (now : Int) (by omega) wr HX.out
        rw [hE] at LT1
        have LT2 := Lib.hid LT1
        clear LT1 hE hL hnow
        go_wp2_with fail
        (with_reducible refine LT2.out.mono ?_)
        rintro e w3 ⟨u3, rfl, r3, b3⟩
        obtain ⟨pa, pc, rfl, -, -⟩ := r3.form
        have X3 := Lib.hid (HX.out.call b3)
        have A3 := Lib.hid (HA.out.call b3)
        have B3 := Lib.hid (HB.out.trans (b3.mono HB.out.size))
        clear r3 b3 HX HA HB LT2
        simp only [List.length_nil]
        go_upto_block 4 with (fail)
        go_wp2_with fail
        go_loopg [16, 18] ts.length (TkRel ts x c wc now n0)
        case atStart => exact ⟨0, n0, K, s, nx, by omega, rfl, rfl, X3.out, A3.out, HKc.out, HM.out, HL.out, hsl, by omega, B3.out⟩
        case round =>
          obtain ⟨i, n1, K1, s1, nx1, hi, rfl, rfl, hx, ha, hc, hm, hl1, hsl1, hn1, hb⟩ := hrel
          have HX1 := Lib.hid hx
          have HA1 := Lib.hid ha
          have HK1 := Lib.hid hc
          have HM1 := Lib.hid hm
          have HL1 := Lib.hid hl1
          have HB1 := Lib.hid hb
          have HI := Lib.hid hi
          clear X3 A3 B3 HM HL HKc hx ha hc hm hl1 hb
          by_cases hi1 : i < ts.length
          · obtain ⟨t, ht⟩ : ∃ t, ts[i]? = some t := ⟨_, List.getElem?_eq_getElem hi1⟩
            have htm : t ∈ ts := List.mem_of_getElem? ht
            have hck := HF.out.chk t htm
            have hti := HF.out.id t htm
            have hch := Pm.chk_iff.1 hck
            obtain ⟨tb, off, rfl, htb, hat⟩ := TS.out (by omega)
            have TA : Hid (∀ W, Below wc.heap.size wc W → Pm.TkAt tb (off + i * 5) t W) := Lib.hid (fun W h => (hat i t ht).of_block (h.block tb htb))
            have hTw := TA.out wr HB1.out
            have hi6 : i < 6 := by omega
            have i6 : (i : Int) < 6 := by omega
            have iL : (i : Int) < (ts.length : Int) := by omega
            have cn := HA1.out.c i hi6
            have zn := HA1.out.z i hi6
            have hiw : IntKind.i64.wrap (i : Int) = (i : Int) := IntWalk.i64_in _ (by omega)
            have hi1w : IntKind.i64.wrap ((i : Int) + 1) = (i : Int) + 1 := IntWalk.i64_in _ (by omega)
            have hn1w : IntKind.i64.wrap ((n1 : Int) + 1) = (n1 : Int) + 1 := IntWalk.i64_in _ (by omega)
            have HCK := Lib.hid (And.intro hck (And.intro hti ht))
            clear hat hi htm hck ht
            by_cases hgo : (now : Int) < nx1 i
            · clear hTw zn
              go_wp2
              go_roundg (ts.length - (i + 1))
              case measure => have := HI.out; omega
              case rel => exact ⟨i + 1, n1, K1, s1, nx1, by omega, rfl, by go_num, HX1.out, HA1.out, HK1.out, HM1.out, HL1.out, hsl1, by omega, HB1.out⟩
            · obtain ⟨tid, tcc, td, tt, tmm⟩ := t
              obtain ⟨t0, t1, t2, t3, t4⟩ := hTw
              simp only at t0 t1 t2 t3 t4 hch hti
              have hw1 : IntKind.i64.wrap ((now : Int) + td) = (now : Int) + td := IntWalk.i64_in _ (by omega)
              have hw2 : IntKind.i64.wrap ((now : Int) + tt) = (now : Int) + tt := IntWalk.i64_in _ (by omega)
              have NA1 := Lib.hid (NA.out.below (HWC.out.trans (HB1.out.mono HWC.out.size)) (Nat.le_refl _))
              have NB1 := Lib.hid (NB.out.below (HWC.out.trans (HB1.out.mono HWC.out.size)) (Nat.le_refl _))
              clear t4
              by_cases hA1 : n1 < a.length
              · have hA2 : (n1 : Int) < (a.length : Int) := by omega
                obtain ⟨ab, aof, hao, ca⟩ := seen_num NA1.out hA1
                obtain ⟨wv, hwv, hwv0, hwv7⟩ : ∃ wv, bits .and .i64 (a[n1]) 7 = wv ∧ 0 ≤ wv ∧ wv ≤ 7 := ⟨_, and_pow (a[n1]) 7 3 (by decide) (by decide), by omega, by omega⟩
                generalize a[n1] = av at *
                by_cases hB1 : n1 < b.length
                · have hB2 : (n1 : Int) < (b.length : Int) := by omega
                  obtain ⟨bb, bof, hbo, cb⟩ := seen_num NB1.out hB1
                  generalize b[n1] = bv at *
                  obtain ⟨r2, p2, q2⟩ := rest6 (x := bv) (m := tcc) (by omega)
                  have m3 := Int.emod_nonneg bv (show tcc ≠ 0 by omega)
                  have m4 := Int.emod_lt_of_pos bv (show 0 < tcc by omega)
                  have hcz : ¬ tcc = 0 := by omega
                  generalize hQ : bv % tcc = Q at *
                  clear hQ
                  subst hao
                  subst hbo
                  have hw3 : IntKind.i64.wrap ((now : Int) + tt + wv) = (now : Int) + tt + wv := IntWalk.i64_in _ (by omega)
                  have MA := Ed.met_add (c := (1 + Q)) (nx' := updN nx1 i ((now : Int) + tt + wv)) HM1.out HL1.out HF.out.nd HCK.out.2.2 HCK.out.1 (by omega) (by omega) (by omega) (by omega) (by show (1 + Q) ≤ tcc; omega) (by rw [updN_same]; show (now : Int) + tt ≤ _; omega) (fun j hj => updN_ne hj)
                  simp only at MA
                  obtain ⟨hz2, hM2, hL2⟩ := MA
                  have hle2 := add_len6 s1 ⟨tid, (now : Int), (now : Int) + td, (1 + Q)⟩
                  have AD1 : Hid (∀ W, Xq wc.heap.size W x K1 s1 → Calls Try.prog 14 #[.pointer (some ⟨x, 0, none⟩), .agg #[.int .i64 tid, .int .i64 (now : Int), .int .i64 ((now : Int) + td), .int .i64 (1 + Q)]] W fun e w' => e = .returned (.int .i64 0) ∧ ∃ K', Xq wc.heap.size w' x K' (Ed.addR s1 ⟨tid, (now : Int), (now : Int) + td, (1 + Q)⟩).1 ∧ MvK K1 W w' ∧ NwK W K1 K') := Lib.hid (fun W h => by
                    have := AD.out wc.heap.size x K1 s1 ⟨tid, (now : Int), (now : Int) + td, (1 + Q)⟩ (by unfold I64; show -9223372036854775808 ≤ tid ∧ tid ≤ 9223372036854775807; omega) (by omega) W h
                    rw [hz2] at this
                    exact this)
                  have HM2 := Lib.hid hM2
                  have HL2 := Lib.hid hL2
                  clear hz2 hM2 hL2 HM1 HL1 zn
                  generalize (Ed.addR s1 ⟨tid, (now : Int), (now : Int) + td, (1 + Q)⟩).1 = s2 at *
                  go_upto_region 33 with (fail)
                  have XD := Lib.hid (HX1.out.call (Below.refl wr.heap.size wr).drew)
                  have A1 := Lib.hid (HA1.out.call (Below.refl wr.heap.size wr).drew)
                  have BD := Lib.hid (HB1.out.trans ((Below.refl wr.heap.size wr).drew.mono HB1.out.size))
                  have cD : wr.drew.cell? ⟨tb, off + i * 5, none⟩ = some (.int .i64 tid) ∧ wr.drew.cell? ⟨tb, off + i * 5 + 2, none⟩ = some (.int .i64 td) := ⟨t0, t2⟩
                  clear t0 t1 t2 t3 cn HX1 HA1 HB1 NA1 NB1
                  refine wp_region_held_drew (S := (fun W' => W'.cell? ⟨tb, off + i * 5, none⟩ = some (.int .i64 tid) ∧ W'.cell? ⟨tb, off + i * 5 + 2, none⟩ = some (.int .i64 td))) (by kernel_rfl) (cD) (fun hHeld => ?_)
                  refine Gh.tk 0 ?_
                  refine Gh.tk 1 ?_
                  refine Gh.tk 2 ?_
                  refine Gh.tk 3 ?_
                  refine Gh.tk 4 ?_
                  refine Gh.tk 5 ?_
                  refine Gh.tk 6 ?_
                  refine Gh.tk 7 ?_
                  refine Gh.tk 8 ?_
                  refine Gh.tk 9 ?_
                  refine Gh.tk 10 ?_
                  refine Gh.tk 11 ?_
                  refine Gh.tk 12 ?_
                  refine Gh.tk 13 ?_
                  refine Gh.tk 14 ?_
                  refine Gh.tk 15 ?_
                  refine Gh.rd 16 (fun K hK => ?_)
                  go_simp
                  (with_reducible refine (AD1.out _ XD.out).mono ?_)
                  rintro e w6 ⟨rfl, K6, h6, m6, n6⟩
                  obtain ⟨hA6, hK6⟩ := A1.out.left HK1.out m6 n6
                  have X6 := Lib.hid h6
                  have A6 := Lib.hid hA6
                  have K6c := Lib.hid hK6
                  have B6 := Lib.hid (m6.below XD.out BD.out)
                  have t6 := TA.out w6 B6.out
                  obtain ⟨t60, -, t62, t63, -⟩ := t6
                  simp only at t60 t62 t63
                  have c6 := And.intro t60 t62
                  clear h6 m6 n6 hA6 hK6 XD A1 BD cD AD1 HK1
                  go_simp
                  refine hK.out _ _ (c6) (fun hHeld => ?_)
                  clear hK K
                  refine Gh.pt ?_
                  refine Gh.tk 17 ?_
                  refine wpAnyH_done (by kernel_rfl) ?_ _
                  clear hHeld
                  clear hHeld
                  have z6c := A6.out.z i hi6
                  have y6c := A6.out.c i hi6
                  have X7 := Lib.hid (X6.out.put6 (o := i) (.int .i64 ((now : Int) + tt + wv)) K6c.out)
                  have A7 := Lib.hid (A6.out.set i ((now : Int) + tt + wv))
                  have B7 := Lib.hid (B6.out.setCell (p := ⟨c, i, none⟩) HC.out (.int .i64 ((now : Int) + tt + wv)))
                  have hz0 := hwv7
                  clear X6 A6 B6 t60 t62 c6 TA
                  go_wp2
                  go_roundg (ts.length - (i + 1))
                  case measure => have := HI.out; omega
                  case rel => exact ⟨i + 1, n1 + 1, K6, s2, _, by omega, by go_num, by go_num, X7.out, A7.out, K6c.out, HM2.out, HL2.out, by omega, by omega, B7.out⟩
                · have hB2 : (b.length : Int) ≤ (n1 : Int) := by omega
                  have hB3 : decide (n1 < b.length) = false := decide_eq_false hB1
                  subst hao
                  have hw3 : IntKind.i64.wrap ((now : Int) + tt + wv) = (now : Int) + tt + wv := IntWalk.i64_in _ (by omega)
                  have MA := Ed.met_add (c := tcc) (nx' := updN nx1 i ((now : Int) + tt + wv)) HM1.out HL1.out HF.out.nd HCK.out.2.2 HCK.out.1 (by omega) (by omega) (by omega) (by omega) (by show tcc ≤ tcc; omega) (by rw [updN_same]; show (now : Int) + tt ≤ _; omega) (fun j hj => updN_ne hj)
                  simp only at MA
                  obtain ⟨hz2, hM2, hL2⟩ := MA
                  have hle2 := add_len6 s1 ⟨tid, (now : Int), (now : Int) + td, tcc⟩
                  have AD1 : Hid (∀ W, Xq wc.heap.size W x K1 s1 → Calls Try.prog 14 #[.pointer (some ⟨x, 0, none⟩), .agg #[.int .i64 tid, .int .i64 (now : Int), .int .i64 ((now : Int) + td), .int .i64 tcc]] W fun e w' => e = .returned (.int .i64 0) ∧ ∃ K', Xq wc.heap.size w' x K' (Ed.addR s1 ⟨tid, (now : Int), (now : Int) + td, tcc⟩).1 ∧ MvK K1 W w' ∧ NwK W K1 K') := Lib.hid (fun W h => by
                    have := AD.out wc.heap.size x K1 s1 ⟨tid, (now : Int), (now : Int) + td, tcc⟩ (by unfold I64; show -9223372036854775808 ≤ tid ∧ tid ≤ 9223372036854775807; omega) (by omega) W h
                    rw [hz2] at this
                    exact this)
                  have HM2 := Lib.hid hM2
                  have HL2 := Lib.hid hL2
                  clear hz2 hM2 hL2 HM1 HL1 zn
                  generalize (Ed.addR s1 ⟨tid, (now : Int), (now : Int) + td, tcc⟩).1 = s2 at *
                  go_upto_region 33 with (fail)
                  have XD := Lib.hid (HX1.out.call (Below.refl wr.heap.size wr).drew)
                  have A1 := Lib.hid (HA1.out.call (Below.refl wr.heap.size wr).drew)
                  have BD := Lib.hid (HB1.out.trans ((Below.refl wr.heap.size wr).drew.mono HB1.out.size))
                  have cD : wr.drew.cell? ⟨tb, off + i * 5, none⟩ = some (.int .i64 tid) ∧ wr.drew.cell? ⟨tb, off + i * 5 + 2, none⟩ = some (.int .i64 td) := ⟨t0, t2⟩
                  clear t0 t1 t2 t3 cn HX1 HA1 HB1 NA1 NB1
                  refine wp_region_held_drew (S := (fun W' => W'.cell? ⟨tb, off + i * 5, none⟩ = some (.int .i64 tid) ∧ W'.cell? ⟨tb, off + i * 5 + 2, none⟩ = some (.int .i64 td))) (by kernel_rfl) (cD) (fun hHeld => ?_)
                  refine Gh.tk 0 ?_
                  refine Gh.tk 1 ?_
                  refine Gh.tk 2 ?_
                  refine Gh.tk 3 ?_
                  refine Gh.tk 4 ?_
                  refine Gh.tk 5 ?_
                  refine Gh.tk 6 ?_
                  refine Gh.tk 7 ?_
                  refine Gh.tk 8 ?_
                  refine Gh.tk 9 ?_
                  refine Gh.tk 10 ?_
                  refine Gh.tk 11 ?_
                  refine Gh.tk 12 ?_
                  refine Gh.tk 13 ?_
                  refine Gh.tk 14 ?_
                  refine Gh.tk 15 ?_
                  refine Gh.rd 16 (fun K hK => ?_)
                  go_simp
                  (with_reducible refine (AD1.out _ XD.out).mono ?_)
                  rintro e w6 ⟨rfl, K6, h6, m6, n6⟩
                  obtain ⟨hA6, hK6⟩ := A1.out.left HK1.out m6 n6
                  have X6 := Lib.hid h6
                  have A6 := Lib.hid hA6
                  have K6c := Lib.hid hK6
                  have B6 := Lib.hid (m6.below XD.out BD.out)
                  have t6 := TA.out w6 B6.out
                  obtain ⟨t60, -, t62, t63, -⟩ := t6
                  simp only at t60 t62 t63
                  have c6 := And.intro t60 t62
                  clear h6 m6 n6 hA6 hK6 XD A1 BD cD AD1 HK1
                  go_simp
                  refine hK.out _ _ (c6) (fun hHeld => ?_)
                  clear hK K
                  refine Gh.pt ?_
                  refine Gh.tk 17 ?_
                  refine wpAnyH_done (by kernel_rfl) ?_ _
                  clear hHeld
                  clear hHeld
                  have z6c := A6.out.z i hi6
                  have y6c := A6.out.c i hi6
                  have X7 := Lib.hid (X6.out.put6 (o := i) (.int .i64 ((now : Int) + tt + wv)) K6c.out)
                  have A7 := Lib.hid (A6.out.set i ((now : Int) + tt + wv))
                  have B7 := Lib.hid (B6.out.setCell (p := ⟨c, i, none⟩) HC.out (.int .i64 ((now : Int) + tt + wv)))
                  have hz0 := hwv7
                  clear X6 A6 B6 t60 t62 c6 TA
                  go_wp2
                  go_roundg (ts.length - (i + 1))
                  case measure => have := HI.out; omega
                  case rel => exact ⟨i + 1, n1 + 1, K6, s2, _, by omega, by go_num, by go_num, X7.out, A7.out, K6c.out, HM2.out, HL2.out, by omega, by omega, B7.out⟩
              · have hA2 : (a.length : Int) ≤ (n1 : Int) := by omega
                have hA3 : decide (n1 < a.length) = false := decide_eq_false hA1
                obtain ⟨wv, hwv0, hwv7⟩ : ∃ wv : Int, wv = 0 ∧ wv ≤ 7 := ⟨0, rfl, by omega⟩
                subst hwv0
                have hwv0 : (0 : Int) ≤ 0 := by omega
                by_cases hB1 : n1 < b.length
                · have hB2 : (n1 : Int) < (b.length : Int) := by omega
                  obtain ⟨bb, bof, hbo, cb⟩ := seen_num NB1.out hB1
                  generalize b[n1] = bv at *
                  obtain ⟨r2, p2, q2⟩ := rest6 (x := bv) (m := tcc) (by omega)
                  have m3 := Int.emod_nonneg bv (show tcc ≠ 0 by omega)
                  have m4 := Int.emod_lt_of_pos bv (show 0 < tcc by omega)
                  have hcz : ¬ tcc = 0 := by omega
                  generalize hQ : bv % tcc = Q at *
                  clear hQ
                  subst hbo
                  have hw3 : IntKind.i64.wrap ((now : Int) + tt + 0) = (now : Int) + tt + 0 := IntWalk.i64_in _ (by omega)
                  have MA := Ed.met_add (c := (1 + Q)) (nx' := updN nx1 i ((now : Int) + tt)) HM1.out HL1.out HF.out.nd HCK.out.2.2 HCK.out.1 (by omega) (by omega) (by omega) (by omega) (by show (1 + Q) ≤ tcc; omega) (by rw [updN_same]; show (now : Int) + tt ≤ _; omega) (fun j hj => updN_ne hj)
                  simp only at MA
                  obtain ⟨hz2, hM2, hL2⟩ := MA
                  have hle2 := add_len6 s1 ⟨tid, (now : Int), (now : Int) + td, (1 + Q)⟩
                  have AD1 : Hid (∀ W, Xq wc.heap.size W x K1 s1 → Calls Try.prog 14 #[.pointer (some ⟨x, 0, none⟩), .agg #[.int .i64 tid, .int .i64 (now : Int), .int .i64 ((now : Int) + td), .int .i64 (1 + Q)]] W fun e w' => e = .returned (.int .i64 0) ∧ ∃ K', Xq wc.heap.size w' x K' (Ed.addR s1 ⟨tid, (now : Int), (now : Int) + td, (1 + Q)⟩).1 ∧ MvK K1 W w' ∧ NwK W K1 K') := Lib.hid (fun W h => by
                    have := AD.out wc.heap.size x K1 s1 ⟨tid, (now : Int), (now : Int) + td, (1 + Q)⟩ (by unfold I64; show -9223372036854775808 ≤ tid ∧ tid ≤ 9223372036854775807; omega) (by omega) W h
                    rw [hz2] at this
                    exact this)
                  have HM2 := Lib.hid hM2
                  have HL2 := Lib.hid hL2
                  clear hz2 hM2 hL2 HM1 HL1 zn
                  generalize (Ed.addR s1 ⟨tid, (now : Int), (now : Int) + td, (1 + Q)⟩).1 = s2 at *
                  go_upto_region 33 with (fail)
                  have XD := Lib.hid (HX1.out.call (Below.refl wr.heap.size wr).drew)
                  have A1 := Lib.hid (HA1.out.call (Below.refl wr.heap.size wr).drew)
                  have BD := Lib.hid (HB1.out.trans ((Below.refl wr.heap.size wr).drew.mono HB1.out.size))
                  have cD : wr.drew.cell? ⟨tb, off + i * 5, none⟩ = some (.int .i64 tid) ∧ wr.drew.cell? ⟨tb, off + i * 5 + 2, none⟩ = some (.int .i64 td) := ⟨t0, t2⟩
                  clear t0 t1 t2 t3 cn HX1 HA1 HB1 NA1 NB1
                  refine wp_region_held_drew (S := (fun W' => W'.cell? ⟨tb, off + i * 5, none⟩ = some (.int .i64 tid) ∧ W'.cell? ⟨tb, off + i * 5 + 2, none⟩ = some (.int .i64 td))) (by kernel_rfl) (cD) (fun hHeld => ?_)
                  refine Gh.tk 0 ?_
                  refine Gh.tk 1 ?_
                  refine Gh.tk 2 ?_
                  refine Gh.tk 3 ?_
                  refine Gh.tk 4 ?_
                  refine Gh.tk 5 ?_
                  refine Gh.tk 6 ?_
                  refine Gh.tk 7 ?_
                  refine Gh.tk 8 ?_
                  refine Gh.tk 9 ?_
                  refine Gh.tk 10 ?_
                  refine Gh.tk 11 ?_
                  refine Gh.tk 12 ?_
                  refine Gh.tk 13 ?_
                  refine Gh.tk 14 ?_
                  refine Gh.tk 15 ?_
                  refine Gh.rd 16 (fun K hK => ?_)
                  go_simp
                  (with_reducible refine (AD1.out _ XD.out).mono ?_)
                  rintro e w6 ⟨rfl, K6, h6, m6, n6⟩
                  obtain ⟨hA6, hK6⟩ := A1.out.left HK1.out m6 n6
                  have X6 := Lib.hid h6
                  have A6 := Lib.hid hA6
                  have K6c := Lib.hid hK6
                  have B6 := Lib.hid (m6.below XD.out BD.out)
                  have t6 := TA.out w6 B6.out
                  obtain ⟨t60, -, t62, t63, -⟩ := t6
                  simp only at t60 t62 t63
                  have c6 := And.intro t60 t62
                  clear h6 m6 n6 hA6 hK6 XD A1 BD cD AD1 HK1
                  go_simp
                  refine hK.out _ _ (c6) (fun hHeld => ?_)
                  clear hK K
                  refine Gh.pt ?_
                  refine Gh.tk 17 ?_
                  refine wpAnyH_done (by kernel_rfl) ?_ _
                  clear hHeld
                  clear hHeld
                  have z6c := A6.out.z i hi6
                  have y6c := A6.out.c i hi6
                  have X7 := Lib.hid (X6.out.put6 (o := i) (.int .i64 ((now : Int) + tt)) K6c.out)
                  have A7 := Lib.hid (A6.out.set i ((now : Int) + tt))
                  have B7 := Lib.hid (B6.out.setCell (p := ⟨c, i, none⟩) HC.out (.int .i64 ((now : Int) + tt)))
                  have hz0 : (now : Int) + tt + 0 = (now : Int) + tt := by omega
                  clear X6 A6 B6 t60 t62 c6 TA
                  go_wp2
                  go_roundg (ts.length - (i + 1))
                  case measure => have := HI.out; omega
                  case rel => exact ⟨i + 1, n1 + 1, K6, s2, _, by omega, by go_num, by go_num, X7.out, A7.out, K6c.out, HM2.out, HL2.out, by omega, by omega, B7.out⟩
                · have hB2 : (b.length : Int) ≤ (n1 : Int) := by omega
                  have hB3 : decide (n1 < b.length) = false := decide_eq_false hB1
                  have hw3 : IntKind.i64.wrap ((now : Int) + tt + 0) = (now : Int) + tt + 0 := IntWalk.i64_in _ (by omega)
                  have MA := Ed.met_add (c := tcc) (nx' := updN nx1 i ((now : Int) + tt)) HM1.out HL1.out HF.out.nd HCK.out.2.2 HCK.out.1 (by omega) (by omega) (by omega) (by omega) (by show tcc ≤ tcc; omega) (by rw [updN_same]; show (now : Int) + tt ≤ _; omega) (fun j hj => updN_ne hj)
                  simp only at MA
                  obtain ⟨hz2, hM2, hL2⟩ := MA
                  have hle2 := add_len6 s1 ⟨tid, (now : Int), (now : Int) + td, tcc⟩
                  have AD1 : Hid (∀ W, Xq wc.heap.size W x K1 s1 → Calls Try.prog 14 #[.pointer (some ⟨x, 0, none⟩), .agg #[.int .i64 tid, .int .i64 (now : Int), .int .i64 ((now : Int) + td), .int .i64 tcc]] W fun e w' => e = .returned (.int .i64 0) ∧ ∃ K', Xq wc.heap.size w' x K' (Ed.addR s1 ⟨tid, (now : Int), (now : Int) + td, tcc⟩).1 ∧ MvK K1 W w' ∧ NwK W K1 K') := Lib.hid (fun W h => by
                    have := AD.out wc.heap.size x K1 s1 ⟨tid, (now : Int), (now : Int) + td, tcc⟩ (by unfold I64; show -9223372036854775808 ≤ tid ∧ tid ≤ 9223372036854775807; omega) (by omega) W h
                    rw [hz2] at this
                    exact this)
                  have HM2 := Lib.hid hM2
                  have HL2 := Lib.hid hL2
                  clear hz2 hM2 hL2 HM1 HL1 zn
                  generalize (Ed.addR s1 ⟨tid, (now : Int), (now : Int) + td, tcc⟩).1 = s2 at *
                  go_upto_region 33 with (fail)
                  have XD := Lib.hid (HX1.out.call (Below.refl wr.heap.size wr).drew)
                  have A1 := Lib.hid (HA1.out.call (Below.refl wr.heap.size wr).drew)
                  have BD := Lib.hid (HB1.out.trans ((Below.refl wr.heap.size wr).drew.mono HB1.out.size))
                  have cD : wr.drew.cell? ⟨tb, off + i * 5, none⟩ = some (.int .i64 tid) ∧ wr.drew.cell? ⟨tb, off + i * 5 + 2, none⟩ = some (.int .i64 td) := ⟨t0, t2⟩
                  clear t0 t1 t2 t3 cn HX1 HA1 HB1 NA1 NB1
                  refine wp_region_held_drew (S := (fun W' => W'.cell? ⟨tb, off + i * 5, none⟩ = some (.int .i64 tid) ∧ W'.cell? ⟨tb, off + i * 5 + 2, none⟩ = some (.int .i64 td))) (by kernel_rfl) (cD) (fun hHeld => ?_)
                  refine Gh.tk 0 ?_
                  refine Gh.tk 1 ?_
                  refine Gh.tk 2 ?_
                  refine Gh.tk 3 ?_
                  refine Gh.tk 4 ?_
                  refine Gh.tk 5 ?_
                  refine Gh.tk 6 ?_
                  refine Gh.tk 7 ?_
                  refine Gh.tk 8 ?_
                  refine Gh.tk 9 ?_
                  refine Gh.tk 10 ?_
                  refine Gh.tk 11 ?_
                  refine Gh.tk 12 ?_
                  refine Gh.tk 13 ?_
                  refine Gh.tk 14 ?_
                  refine Gh.tk 15 ?_
                  refine Gh.rd 16 (fun K hK => ?_)
                  go_simp
                  (with_reducible refine (AD1.out _ XD.out).mono ?_)
                  rintro e w6 ⟨rfl, K6, h6, m6, n6⟩
                  obtain ⟨hA6, hK6⟩ := A1.out.left HK1.out m6 n6
                  have X6 := Lib.hid h6
                  have A6 := Lib.hid hA6
                  have K6c := Lib.hid hK6
                  have B6 := Lib.hid (m6.below XD.out BD.out)
                  have t6 := TA.out w6 B6.out
                  obtain ⟨t60, -, t62, t63, -⟩ := t6
                  simp only at t60 t62 t63
                  have c6 := And.intro t60 t62
                  clear h6 m6 n6 hA6 hK6 XD A1 BD cD AD1 HK1
                  go_simp
                  refine hK.out _ _ (c6) (fun hHeld => ?_)
                  clear hK K
                  refine Gh.pt ?_
                  refine Gh.tk 17 ?_
                  refine wpAnyH_done (by kernel_rfl) ?_ _
                  clear hHeld
                  clear hHeld
                  have z6c := A6.out.z i hi6
                  have y6c := A6.out.c i hi6
                  have X7 := Lib.hid (X6.out.put6 (o := i) (.int .i64 ((now : Int) + tt)) K6c.out)
                  have A7 := Lib.hid (A6.out.set i ((now : Int) + tt))
                  have B7 := Lib.hid (B6.out.setCell (p := ⟨c, i, none⟩) HC.out (.int .i64 ((now : Int) + tt)))
                  have hz0 : (now : Int) + tt + 0 = (now : Int) + tt := by omega
                  clear X6 A6 B6 t60 t62 c6 TA
                  go_wp2
                  go_roundg (ts.length - (i + 1))
                  case measure => have := HI.out; omega
                  case rel => exact ⟨i + 1, n1 + 1, K6, s2, _, by omega, by go_num, by go_num, X7.out, A7.out, K6c.out, HM2.out, HL2.out, by omega, by omega, B7.out⟩
          · have hge : (ts.length : Int) ≤ (i : Int) := by omega
            have hdec : decide (i < ts.length) = false := decide_eq_false hi1
            have RU1 := Lib.hid (RU.out wc.heap.size x K1 s1 (by omega) wr HX1.out)
            have hr6 := run_len6 s1
            have hn16 : n1 ≤ n0 + 6 := by omega
            have HM2 := Lib.hid (Ed.met_run HM1.out)
            clear hi hi1
            generalize (Ed.runR s1).2.1 = rid at *
            generalize (Ed.runR s1).2.2 = rdn at *
            generalize (Ed.runR s1).1 = s2 at *
            go_wp2_with fail
            (with_reducible refine RU1.out.mono ?_)
            rintro e w6 ⟨rfl, K6, h6, m6, n6⟩
            obtain ⟨hA6, hK6⟩ := HA1.out.left HK1.out m6 n6
            have X6 := Lib.hid h6
            have A6 := Lib.hid hA6
            have K6c := Lib.hid hK6
            have B6 := Lib.hid (m6.below HX1.out HB1.out)
            have hnw : IntKind.i64.wrap ((now : Int) + 1) = (now : Int) + 1 := IntWalk.i64_in _ (by omega)
            clear h6 m6 n6 hA6 hK6 HX1 HA1 HB1 HM1 HL1 RU1 HK1
            go_wp2
            go_roundg (100 - (now + 1))
            case measure => have := HNOW.out; omega
            case rel => exact ⟨now + 1, n1, K6, s2, nx1, by omega, rfl, by go_num, X6.out, A6.out, K6c.out, by have := HM2.out; simpa using this, by omega, by omega, B6.out⟩
      · have hge : (100 : Int) ≤ (now : Int) := by omega
        have hdec : decide (now < 100) = false := decide_eq_false hlt
        clear hnow hlt
        go_wp2
        go_ret
        exact ⟨rfl, HWC.out.trans (HB.out.mono HWC.out.size)⟩

set_option maxRecDepth 100000 in
set_option maxHeartbeats 1600000 in
theorem lifted (os : Os) (started : os.Started) (H : Type) (enc : TypeId × Value → H) :
    ReturnsInHanded {} Try.checked os 5 .any (Rows.edfMeetsSpec.pre6 enc Try.prog Try.f5 Rows.edfMeetsRow.domain false) (Rows.edfMeetsSpec.post enc Try.prog Try.f5 false true false false) := by
  refine returnsInHanded_of_change (C := Try.checked) own started (by kernel_rfl) Try.func5
    (ChangeSpec.witness6 (enc := enc) (C := Try.checked) false ⟨#[], #[.slice none 0 0, .slice none 0 0, .slice none 0 0], []⟩ 8 (by kernel_rfl) (by kernel_rfl) (by kernel_rfl) (by kernel_rfl)) ?_
  intro W base args ds gs before hval0 hW hcnd _
  have hval : ∀ (j : Nat) t v, Try.f5.params[j]? = some t → args[j]? = some v → Value.okWide Try.prog W .any base t v := hval0
  have hW' := hW
  obtain ⟨p, q, hA0, hV, rfl, hfz, hnd⟩ := hW
  have hA : DataW.TrodAll enc Try.prog W 0 (fun _ => true) true Try.f5.params.toList args.toList ds p := hA0
  rw [Try.params5] at hA hval
  obtain ⟨v0, vs0, d0, ds0, p0, q0, hargs, rfl, rfl, h0, r0⟩ := trodAll_cons hA
  obtain ⟨v1, vs1, d1, ds1, p1, q1, rfl, rfl, rfl, h1, r1⟩ := trodAll_cons r0
  obtain ⟨v2, vs2, d2, ds2, p2, q2, rfl, rfl, rfl, h2, r2⟩ := trodAll_cons r1
  obtain ⟨rfl, rfl, rfl⟩ := trodAll_nil r2
  obtain rfl : args = #[v0, v1, v2] := by cases args; simp_all
  obtain ⟨rfl, rfl⟩ := trodVars_none hV
  have lt0 : ∀ x ∈ p0, x.block < W.heap.size := by obtain ⟨m, hm⟩ := h0; exact DataW.trod_lt m _ _ _ hm
  obtain ⟨lo, l, lc, rfl, ll, ls, lok⟩ := Pm.open_tris (hval 0 48 v0 rfl rfl) h0
  have lt1 : ∀ x ∈ p1, x.block < W.heap.size := by obtain ⟨m, hm⟩ := h1; exact DataW.trod_lt m _ _ _ hm
  obtain ⟨uo, u, uc, rfl, ul, us⟩ := open_ints (hval 1 49 v1 rfl rfl) h1
  have lt2 : ∀ x ∈ p2, x.block < W.heap.size := by obtain ⟨m, hm⟩ := h2; exact DataW.trod_lt m _ _ _ hm
  obtain ⟨yo, y, yc, rfl, yl, ys⟩ := open_ints (hval 2 49 v2 rfl rfl) h2
  clear hA0 hval0
  refine (walk l lo lc u uo uc y yo yc W ll ls lok ul us yl ys).mono fun e W' ⟨he, bel⟩ => ?_
  subst he
  exact ⟨_, rfl, _, _, _, [], _, [], hW', trodAll_mk1 (shut_bool Try.underlying4 _), (trodAll_cons_mk (Below.trod laidOut (by kernel_rfl) (of_decide_eq_true (by kernel_rfl)) h0 bel lt0) (trodAll_cons_mk (Below.trod laidOut (by kernel_rfl) (of_decide_eq_true (by kernel_rfl)) h1 bel lt1) (trodAll_cons_mk (Below.trod laidOut (by kernel_rfl) (of_decide_eq_true (by kernel_rfl)) h2 bel lt2) trodAll_mk0))), rfl, bel.frame _, fun h => by cases h⟩

theorem proved : Rows.EdfMeetsSaid :=
  OpenClaim.holds_of_wide 5 Try.f5 rfl rfl rfl rfl rfl rfl rfl ⟨rfl, rfl, rfl, rfl, rfl⟩ rfl rfl rfl rfl rfl (by kernel_rfl) Try.func5 (by kernel_rfl)
    (of_decide_eq_true (by kernel_rfl)) (by unfold Func.isWrapper; first | (rw [if_pos (by decide +kernel)]; kernel_rfl) | (rw [if_neg (by decide +kernel)]; exact ⟨rfl, rfl⟩))
    (fun os started H enc _ => lifted os started H enc)
#print axioms proved
end Go.Proofs.Yteagimnlhopjpaa.edfMeets
