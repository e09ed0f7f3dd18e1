/- horariumlaw12.QpaRoom answers true at every row of three numbers and every three numbers: room is the greatest work that fits. No condition. -/
import Derived.Test.YtbhafcaekpccoaaQpP
import Derived.Deep.DeepCutAuto
import Derived.BigQuiet
import Derived.BigRegion
namespace Go.Proofs.Ytbhafcaekpccoaa.qpaRoom
open Go.ChangeShapes Go.WideShapes Go.ChangeAt Go.RowKit Go.Joins
set_option maxRecDepth 100000
set_option linter.unusedVariables false
set_option linter.unusedSimpArgs false
open Pm Qp

theorem tris_one (w : World) (a : Tri) (T : TypeId) : Tris (some ⟨w.heap.size, 0, none⟩) [a] (w.alloc (.cells #[.int .i64 a.a, .int .i64 a.b, .int .i64 a.c] T)) := fun _ => by
  refine ⟨_, _, rfl, by simp, fun i x hi => ?_⟩
  match i, hi with
  | 0, hi => obtain rfl : _ = x := by simpa using hi
             exact ⟨by simp [go_sem], by simp [go_sem], by simp [go_sem]⟩
  | i + 1, hi => simp at hi
theorem made_one (a : Tri) : made12 [a] = [mkQ 0 a] := rfl
/-- what stands of the tasks behind the cut -/
def CutRel (T : List Tk) (B : Nat) (w : World) (s : Value) (wx : World) : Prop := ∃ ao cap, s = .slice ao T.length cap ∧ Ts ao T wx ∧ Below B w wx
set_option maxRecDepth 100000 in
set_option maxHeartbeats 8000000 in
theorem walk (l : List Tri) (ao : Option Addr) (cap : Nat) (x : Tri) (w : World) (hT : Tris ao l w) (hl : l.length ≤ 9223372036854775807) (hok : ∀ x ∈ l, x.Ok) (hx : x.Ok) :
    Calls Try.prog 7 #[.slice ao l.length cap, .agg #[.int .i64 x.a, .int .i64 x.b, .int .i64 x.c]] w fun e w' => e = .returned (.bool true) ∧ Below w.heap.size w w' := by
  have AW := Lib.hid awake_any
  have MA := Lib.hid (fun w h => made_any l ao cap w h hl hok)
  have MX : Hid (∀ w, Calls Try.prog 13 #[.slice (some ⟨w.heap.size, 0, none⟩) 1 1] (w.alloc (.cells #[.int .i64 x.a, .int .i64 x.b, .int .i64 x.c] 44)) fun e w' => ∃ (g cap : Nat), e = .returned (.slice (some ⟨g, 0, none⟩) 1 cap) ∧ g < w'.heap.size ∧ TkAt g 0 (mkQ 0 x) w' ∧ Below w.heap.size w w') := Lib.hid (fun w => by
    refine (made_any [x] _ 1 _ (tris_one w x _) (by simp) (by simp [hx])).mono fun e w' ⟨v, he, tr, bb⟩ => ?_
    rw [made_one] at tr
    have bel : Below w.heap.size w w' := ((Below.refl _ _).alloc (Nat.le_refl _) _).trans (bb.mono (by simp))
    rcases tr.2 with ⟨-, h0⟩ | ⟨g, cap, cur, rfl, hB, hg, -⟩
    · simp at h0
    · obtain ⟨ao, cap', hv, -, hts⟩ := tr.form
      cases hv
      obtain ⟨g', off, hgo, hgl, hat⟩ := hts (by simp)
      cases hgo
      exact ⟨g, cap, he, hgl, hat 0 _ rfl, bel⟩)
  have hxc := mkQ_chk (i := 0) (by omega) x
  have hxd : (mkQ 0 x).t.toNat ∣ 240 := Nat.dvd_trans (mkQ_dvd 0 x) (by decide)
  have TI : Hid (∀ o, Tris ao l (w.alloc o)) := Lib.hid (fun o => hT.below ((Below.refl _ _).alloc (Nat.le_refl _) o) (Nat.le_refl _))
  have KA := Lib.hid (fun (o : Obj) => (Below.refl w.heap.size w).alloc (Nat.le_refl _) o)
  have hml := made12_len l
  have CKA : Hid (∀ t ∈ made12 l, chk t = true ∧ t.t.toNat ∣ 120) := Lib.hid (fun t ht => ⟨(made12_mem ht).1, (made12_mem ht).2.2⟩)
  clear hT hok hx
  generalize mkQ 0 x = X at *
  obtain ⟨xa, xb0, xc0⟩ := x
  simp only at MX ⊢
  go_enter Try.func7, Try.ntmps7
  go_wp2_with fail
  (with_reducible refine (AW.out _).mono ?_)
  rintro e w1 ⟨rfl, b1⟩
  have K1 := Lib.hid ((KA.out _).trans (b1.mono (by simp)))
  have M1 := Lib.hid (MA.out _ ((TI.out _).below b1 (Nat.le_refl _)))
  have a0 := carry b1 (p := ⟨w.heap.size, 0, none⟩) (v := .int .i64 xa) (by simp [go_sem])
  have a1 := carry b1 (p := ⟨w.heap.size, 1, none⟩) (v := .int .i64 xb0) (by simp [go_sem])
  have a2 := carry b1 (p := ⟨w.heap.size, 2, none⟩) (v := .int .i64 xc0) (by simp [go_sem])
  clear b1 MA AW TI KA
  go_wp2_with fail
  (with_reducible refine (M1.out).mono ?_)
  rintro e w2 ⟨v, rfl, tr, b2⟩
  obtain ⟨am, cm, rfl, hcm, hts⟩ := tr.form
  have a0 := carry b2 a0
  have a1 := carry b2 a1
  have a2 := carry b2 a2
  have T2 := Lib.hid hts
  have K2 := Lib.hid (K1.out.trans (b2.mono K1.out.size))
  have CK : Hid (∀ t ∈ (made12 l).take 5, chk t = true ∧ t.t.toNat ∣ 120) := Lib.hid (fun t ht => CKA.out t (List.mem_of_mem_take ht))
  have T6 : Hid (Ts am ((made12 l).take 5) w2) := Lib.hid (T2.out.take 5)
  have LN : Hid (((made12 l).take 5).length ≤ 5) := Lib.hid (by rw [List.length_take]; omega)
  have LE : Hid ((made12 l).length ≤ 5 → (made12 l).length = ((made12 l).take 5).length) := Lib.hid (fun h => by rw [List.length_take]; omega)
  have LF : Hid (5 < (made12 l).length → 5 = ((made12 l).take 5).length) := Lib.hid (fun h => by rw [List.length_take]; omega)
  generalize (made12 l).take 5 = T at *
  clear tr hts b2 K1 M1 T2 CKA
  generalize (made12 l).length = m at *
  have hm : m ≤ 16 := by omega
  clear hml
  have KC : Hid (w2.cell? ⟨w.heap.size, 0, none⟩ = some (.int .i64 xa) ∧ w2.cell? ⟨w.heap.size, 1, none⟩ = some (.int .i64 xb0) ∧ w2.cell? ⟨w.heap.size, 2, none⟩ = some (.int .i64 xc0)) := Lib.hid ⟨a0, a1, a2⟩
  clear a0 a1 a2
  go_upto_if 14 with (fail)
  go_cut [6] (fun s wx => CutRel T w.heap.size w s wx ∧ wx.cell? ⟨w.heap.size, 0, none⟩ = some (.int .i64 xa) ∧ wx.cell? ⟨w.heap.size, 1, none⟩ = some (.int .i64 xb0) ∧ wx.cell? ⟨w.heap.size, 2, none⟩ = some (.int .i64 xc0))
  case first =>
    by_cases h6 : 5 < m
    · have h1 : (5 : Int) < (m : Int) := by omega
      have hc2 : 5 ≤ cm := by omega
      have e := LF.out h6
      have sl : (Instr.sliceAt 22 (.slice am m cm) none (some (.int .i64 5)) none).run Try.prog w2 = .ok (.slice am 5 cm) w2 := by
        rw [run_sliceAt_slice w2 _ _ _ _ _ (by kernel_rfl), run_slice_h w2 _ _ _ _ (by kernel_rfl) _ _ (by omega) (by omega)]
        have e : (sizeOf (Try.prog.elem 22)).run Try.prog w2 = .ok 5 w2 := by kernel_rfl
        rw [e]
        simp only [Result.andThen, sliced]
        have : am.map (fun x => x.add (0 * 5)) = am := by cases am <;> simp [Addr.add]
        rw [this]
        simp
      have EE := Lib.hid e
      clear h6 e
      go_wp2_with fail
      go_meet
      exact ⟨⟨am, cm, by rw [← EE.out], T6.out, K2.out⟩, KC.out⟩
    · have h1 : (m : Int) ≤ 5 := by omega
      have EE := Lib.hid (LE.out (by omega))
      clear h6
      go_wp2_with fail
      go_meet
      exact ⟨⟨am, cm, by rw [← EE.out], T6.out, K2.out⟩, KC.out⟩
  case rest =>
    obtain ⟨⟨an, cn, rfl, hts, hB⟩, a0, a1, a2⟩ := hcut
    have hlen := LN.out
    have hr : rowB T = true := rowB_yes (by omega) (fun t h => (CK.out t h).1)
    have hN : Nice T := ⟨hr, fun t h => Nat.dvd_trans (CK.out t h).2 (by decide)⟩
    have TS := Lib.hid hts
    have KB := Lib.hid hB
    have RO := Lib.hid (fun w h => room_any T an cn X w h (by omega) hN hxc hxd)
    have RR := Lib.hid (fun w h => rroom_any T an cn X w h (by omega) hN hxc hxd)
    have TE := Lib.hid (fun w h => rtest_any T an cn w h (by omega))
    have NT := Lib.hid (nice_test hN)
    have hxx := chk_iff.1 hxc
    have UQ : Hid (∀ r s, RoomIs T X r → RoomIs T X s → r = s) := Lib.hid (fun r s h k => h.uniq (by omega) k)
    have ZR : Hid (∀ r, ¬ fit T → RoomIs T X r → r = 0) := Lib.hid (fun r h k => by
      by_cases h0 : 0 < r
      · exact absurd (fit_drop (t := Qp.wc X r) (by show 0 < X.t; omega) (by show 0 ≤ r; omega) (k.yes h0)) h
      · have := k.lo; omega)
    have MO : Hid (∀ r, r < X.d → RoomIs T X r → testR (T ++ [Qp.wc X (r + 1)]) = 17) := Lib.hid (fun r h k => by
      refine nice_unfit (nice_snoc hN (by omega) (wc_chk hxc (by have := k.lo; omega) (by omega)) hxd) (fun hf => k.no h (fit_turn.1 hf)))
    have TA : Hid (∀ Y am cm W, Ts am (T ++ [Y]) W → Calls Try.prog 23 #[.slice am (T.length + 1) cm] W fun e w' => e = .returned (.int .i64 (testR (T ++ [Y]))) ∧ Below W.heap.size W w') := Lib.hid (fun Y am cm W h => by
      have := rtest_any (T ++ [Y]) am cm W h (by simp; omega)
      rw [show (T ++ [Y]).length = T.length + 1 by simp] at this
      exact this)
    clear T6 K2 LE LF hts hB KC LN CK hcm hm hr hN hxc hxd
    go_wp2_with fail
    (with_reducible refine (MX.out _).mono ?_)
    rintro e w3 ⟨g, cp, rfl, hg, tx, b3⟩
    have K3 := Lib.hid (KB.out.trans (b3.mono KB.out.size))
    have T3 := Lib.hid (TS.out.call b3)
    have x0 := tx.c0
    have x1 := tx.c1
    have x2 := tx.c2
    have x3 := tx.c3
    have x4 := tx.c4
    simp only [Nat.zero_add, Nat.reduceAdd] at x0 x1 x2 x3 x4
    clear a0 a1 a2 MX b3 TS KB tx
    obtain ⟨xi, xc, xd, xt, xm⟩ := X
    simp only at *
    go_upto_region 6 with (fail)
    have tw : TkAt w3.heap.size 0 ⟨xi, xc, xd, xt, xm⟩ (w3.alloc (.cells #[.int .i64 xi, .int .i64 xc, .int .i64 xd, .int .i64 xt, .int .i64 xm] 42)) := ⟨by simp [go_sem], by simp [go_sem], by simp [go_sem], by simp [go_sem], by simp [go_sem]⟩
    have fz : (w3.alloc (.cells #[.int .i64 xi, .int .i64 xc, .int .i64 xd, .int .i64 xt, .int .i64 xm] 42)).frozen? ⟨w3.heap.size, 1, none⟩ = false := by simp [go_sem]
    have KW := Lib.hid (K3.out.alloc K3.out.size (.cells #[.int .i64 xi, .int .i64 xc, .int .i64 xd, .int .i64 xt, .int .i64 xm] 42))
    have TW := Lib.hid (T3.out.call ((Below.refl _ _).alloc (Nat.le_refl _) (.cells #[.int .i64 xi, .int .i64 xc, .int .i64 xd, .int .i64 xt, .int .i64 xm] 42)))
    have ZB := Lib.hid K3.out.size
    have BL : Hid (0 < T.length → ∀ k off, an = some ⟨k, off, none⟩ → k < w3.heap.size) := Lib.hid (fun h0 k off e => by
      obtain ⟨b, o, e2, hb, -⟩ := T3.out h0
      rw [e2] at e; cases e; exact hb)
    generalize (w3.alloc (.cells #[.int .i64 xi, .int .i64 xc, .int .i64 xd, .int .i64 xt, .int .i64 xm] 42)) = W0 at *
    obtain ⟨y0, y1, y2, y3, y4⟩ := tw
    simp only [Nat.zero_add] at y0 y1 y2 y3 y4
    clear x0 x1 x2 x3 x4 T3 K3 hg
    generalize w3.heap.size = xb at *
    unfold Tk.v at RO RR
    simp only at RO RR
    have FZ := Lib.hid fz
    clear fz
    go_wp2_with fail
    (with_reducible refine (RO.out _ TW.out).mono ?_)
    rintro e w4 ⟨r, hr, rfl, b4⟩
    have y0 := carry b4 y0
    have y1 := carry b4 y1
    have y2 := carry b4 y2
    have y3 := carry b4 y3
    have y4 := carry b4 y4
    have T4 := Lib.hid (TW.out.call b4)
    have F4 : Hid (w4.frozen? ⟨xb, 1, none⟩ = false) := Lib.hid (by rw [b4.frozen (p := ⟨xb, 1, none⟩) (World.block_lt_of_cell? _ _ (by assumption))]; exact FZ.out)
    have K4 := Lib.hid (KW.out.trans (b4.mono KW.out.size))
    clear b4 TW KW FZ RO
    go_wp2_with fail
    (with_reducible refine (RR.out _ T4.out).mono ?_)
    rintro e w5 ⟨s, hs, rfl, b5⟩
    obtain rfl := UQ.out r s hr hs
    have y0 := carry b5 y0
    have y1 := carry b5 y1
    have y2 := carry b5 y2
    have y3 := carry b5 y3
    have y4 := carry b5 y4
    have T5 := Lib.hid (T4.out.call b5)
    have F5 : Hid (w5.frozen? ⟨xb, 1, none⟩ = false) := Lib.hid (by rw [b5.frozen (p := ⟨xb, 1, none⟩) (World.block_lt_of_cell? _ _ (by assumption))]; exact F4.out)
    have K5 := Lib.hid (K4.out.trans (b5.mono K4.out.size))
    have hlo := hr.lo
    have hhi := hr.hi
    simp only at hhi
    have HR := Lib.hid hr
    have e1 : (r != r) = false := by simp
    clear b5 T4 K4 F4 RR hs hr UQ
    obtain ⟨te, hte⟩ : ∃ te, testR T = te := ⟨_, rfl⟩
    rw [hte] at TE
    go_wp2_with fail
    (with_reducible refine (TE.out _ T5.out).mono ?_)
    rintro e w6 ⟨rfl, b6⟩
    have y0 := carry b6 y0
    have y1 := carry b6 y1
    have y2 := carry b6 y2
    have y3 := carry b6 y3
    have y4 := carry b6 y4
    have T6 := Lib.hid (T5.out.call b6)
    have F6 : Hid (w6.frozen? ⟨xb, 1, none⟩ = false) := Lib.hid (by rw [b6.frozen (p := ⟨xb, 1, none⟩) (World.block_lt_of_cell? _ _ (by assumption))]; exact F5.out)
    have K6 := Lib.hid (K5.out.trans (b6.mono K5.out.size))
    clear b6 T5 K5 F5 TE
    rcases NT.out with ⟨-, hz⟩ | ⟨hf, hz⟩
    · obtain rfl : te = 0 := by omega
      clear NT hte hz ZR
      by_cases hd : r = xd
      · subst hd
        clear MO TA HR
        go_wp2
        go_ret
        exact ⟨rfl, K6.out⟩
      · have hlt : r < xd := by omega
        have h17 := MO.out r hlt HR.out
        have q1 : (r == xd) = false := by simpa using hd
        have S6 := Lib.hid F6.out
        have f6 := F6.out
        have hxs : TkAt xb 0 (Qp.wc ⟨xi, xc, xd, xt, xm⟩ (r + 1)) (w6.setCell ⟨xb, 1, none⟩ (.int .i64 (r + 1))) := ⟨by simp [go_sem, Qp.wc, y0], by simp [go_sem, Qp.wc, y1], by simp [go_sem, Qp.wc, y2], by simp [go_sem, Qp.wc, y3], by simp [go_sem, Qp.wc, y4]⟩
        have hBs := K6.out.setCell (p := ⟨xb, 1, none⟩) ZB.out (.int .i64 (r + 1))
        have hTs : Ts an T (w6.setCell ⟨xb, 1, none⟩ (.int .i64 (r + 1))) := fun h0 =>
          Ts.of_blocks T6.out (by simp [World.setCell]) (fun k off e _ => Below.heap_setCell _ _ _ _ (by have := BL.out h0 k off e; show k ≠ xb; omega)) h0
        clear hd MO HR K6 T6
        go_upto_region 14 with (fail)
        generalize (w6.setCell ⟨xb, 1, none⟩ (.int .i64 (r + 1))) = S at *
        have KS := Lib.hid hBs
        have HX := Lib.hid hxs
        have HT := Lib.hid hTs
        have TX := Lib.hid (TA.out (Qp.wc ⟨xi, xc, xd, xt, xm⟩ (r + 1)))
        rw [h17] at TX
        clear hBs hxs hTs h17 TA y0 y1 y2 y3 y4
        generalize (Qp.wc ⟨xi, xc, xd, xt, xm⟩ (r + 1)) = Y at *
        have xl := HX.out.lt
        have Hd := Lib.hid (show Hold S Y xb an T S.drew from ⟨(Below.refl _ _).drew, HX.out, HT.out⟩)
        refine wp_region_any (by kernel_rfl) ?_
        (try (change wpAny _ _ _ _ _ _ _ (World.drew _)))
        refine wpAny_take (i := 0) (v := ?_) rfl (by kernel_rfl) (by kernel_rfl) (by kernel_rfl) (fun _ _ _ h => h) (Or.inl ⟨by rfl, ?_⟩) ?_
        rotate_left
        · (intro wS; go_simp; try with_reducible rfl)
        (try simp only [Act.put, List.getElem_toArray, List.getElem_cons_succ, List.getElem_cons_zero, List.setIfInBounds_toArray, List.set_cons_zero, List.set_cons_succ])
        refine wpAny_take (i := 1) (v := ?_) rfl (by kernel_rfl) (by kernel_rfl) (by kernel_rfl) (fun _ _ _ h => h) (Or.inl ⟨by rfl, ?_⟩) ?_
        rotate_left
        · (intro wS; go_simp; try with_reducible rfl)
        (try simp only [Act.put, List.getElem_toArray, List.getElem_cons_succ, List.getElem_cons_zero, List.setIfInBounds_toArray, List.set_cons_zero, List.set_cons_succ])
        refine wpAny_take (i := 3) (v := ?_) rfl (by kernel_rfl) (by kernel_rfl) (by kernel_rfl) (fun _ _ _ h => h) (Or.inl ⟨by rfl, ?_⟩) ?_
        rotate_left
        · (intro wS; go_simp; try with_reducible rfl)
        (try simp only [Act.put, List.getElem_toArray, List.getElem_cons_succ, List.getElem_cons_zero, List.setIfInBounds_toArray, List.set_cons_zero, List.set_cons_succ])
        refine wpAny_ready (rs := [2, 5]) (by kernel_rfl) (by simp) ?_
        refine AllReady.cons rfl (fun K hK => ?_) ?_
        · rw [if_pos (by rfl)]
          obtain ⟨v1, wz1, r0, t0, b0, ow0, sz0⟩ := build_none S.heap.size (S.drew) Hd.out.size
          refine wp_val (exec_none rfl r0) (hK _ _ ?_)
          have H1 := Lib.hid (Hd.out.go (b0.mono Hd.out.size))
          have R1 := Lib.hid t0
          have O1 := Lib.hid ow0
          have Z1 := Lib.hid sz0
          clear r0 t0 b0 ow0 sz0
          clear hK K
          (try simp only [Act.put, List.getElem_toArray, List.getElem_cons_succ, List.getElem_cons_zero, List.setIfInBounds_toArray, List.set_cons_zero, List.set_cons_succ])
          refine wpAny_ready (rs := [4, 5]) (by kernel_rfl) (by simp) ?_
          refine AllReady.cons rfl (fun K hK => ?_) ?_
          · rw [if_pos (by rfl)]
            obtain ⟨v2, wz2, r2, t2, b2, k2⟩ := trow_all S.heap.size wz1 v1 [] T an cn R1.out H1.out.tt H1.out.size (by simp; omega)
            refine Lib.wp_append_run _ _ _ _ _ rfl _ _ rfl rfl _ _ r2 (hK _ _ ?_)
            have H2 := Lib.hid (H1.out.go b2)
            have R2 : Hid (TRow S.heap.size wz2 v2 T) := Lib.hid (by (have := t2; rw [List.nil_append] at this; exact this))
            clear r2 t2 b2 k2 R1 O1 Z1
            clear hK K
            (try simp only [Act.put, List.getElem_toArray, List.getElem_cons_succ, List.getElem_cons_zero, List.setIfInBounds_toArray, List.set_cons_zero, List.set_cons_succ])
            refine wpAny_ready (rs := [5]) (by kernel_rfl) (by simp) ?_
            refine AllReady.cons rfl (fun K hK => ?_) ?_
            · rw [if_pos (by rfl)]
              refine wp_val (exec_load1 rfl rfl (load_tk H2.out.xx)) (hK _ _ ?_)
              clear hK K
              (try simp only [Act.put, List.getElem_toArray, List.getElem_cons_succ, List.getElem_cons_zero, List.setIfInBounds_toArray, List.set_cons_zero, List.set_cons_succ])
              refine wpAny_ready (rs := [6]) (by kernel_rfl) (by simp) ?_
              refine AllReady.cons rfl (fun K hK => ?_) ?_
              · rw [if_pos (by rfl)]
                obtain ⟨q, wz3, r4, q4, b4, eq4, sz4⟩ := build_one S.heap.size wz2 Y
                refine wp_val (exec_build1 rfl rfl r4) (hK _ _ ?_)
                have H3 := Lib.hid (H2.out.go (b4.mono H2.out.size))
                have Q2 := Lib.hid q4
                have R4 := Lib.hid (R2.out.call b4)
                clear R2
                clear r4 q4 b4 eq4 sz4
                clear hK K
                (try simp only [Act.put, List.getElem_toArray, List.getElem_cons_succ, List.getElem_cons_zero, List.setIfInBounds_toArray, List.set_cons_zero, List.set_cons_succ])
                refine wpAny_ready (rs := [7]) (by kernel_rfl) (by simp) ?_
                refine AllReady.cons rfl (fun K hK => ?_) ?_
                · rw [if_pos (by rfl)]
                  obtain ⟨v3, wz4, r5, t5, b5, -⟩ := trow_all S.heap.size wz3 v2 T [Y] (some ⟨q, 0, none⟩) 1 R4.out (tk_ts Q2.out) H3.out.size (by simp; omega)
                  refine Lib.wp_append_run _ _ _ _ _ rfl _ _ rfl rfl _ _ r5 (hK _ _ ?_)
                  have H4 := Lib.hid (H3.out.go b5)
                  obtain ⟨a3, c3, rfl, -, ts3⟩ := t5.form
                  rw [show (T ++ [Y]).length = T.length + 1 by simp]
                  have LO := Lib.hid (TX.out a3 c3 _ ts3)
                  clear r5 t5 b5 ts3 R4 Q2
                  clear hK K
                  (try simp only [Act.put, List.getElem_toArray, List.getElem_cons_succ, List.getElem_cons_zero, List.setIfInBounds_toArray, List.set_cons_zero, List.set_cons_succ])
                  refine wpAny_ready (rs := [8]) (by kernel_rfl) (by simp) ?_
                  refine AllReady.cons rfl (fun K hK => ?_) ?_
                  · rw [if_pos (by rfl)]
                    go_simp
                    (with_reducible refine (LO.out).mono ?_)
                    rintro e wz5 ⟨rfl, b6⟩
                    go_simp
                    refine hK _ _ ?_
                    have H5 := Lib.hid (H4.out.go (b6.mono H4.out.size))
                    clear b6 LO
                    clear hK K
                    (try simp only [Act.put, List.getElem_toArray, List.getElem_cons_succ, List.getElem_cons_zero, List.setIfInBounds_toArray, List.set_cons_zero, List.set_cons_succ])
                    refine wpAny_take (i := 9) (v := ?_) rfl (by kernel_rfl) (by kernel_rfl) (by kernel_rfl) (fun _ _ _ h => h) (Or.inl ⟨by rfl, ?_⟩) ?_
                    rotate_left
                    · (intro wS; go_simp; try with_reducible rfl)
                    (try simp only [Act.put, List.getElem_toArray, List.getElem_cons_succ, List.getElem_cons_zero, List.setIfInBounds_toArray, List.set_cons_zero, List.set_cons_succ])
                    refine wpAny_take (i := 10) (v := ?_) rfl (by kernel_rfl) (by kernel_rfl) (by kernel_rfl) (fun _ _ _ h => h) (Or.inl ⟨by rfl, ?_⟩) ?_
                    rotate_left
                    · (intro wS; go_simp; try with_reducible rfl)
                    (try simp only [Act.put, List.getElem_toArray, List.getElem_cons_succ, List.getElem_cons_zero, List.setIfInBounds_toArray, List.set_cons_zero, List.set_cons_succ])
                    refine wpAny_take (i := 11) (v := ?_) rfl (by kernel_rfl) (by kernel_rfl) (by kernel_rfl) (fun _ _ _ h => h) (Or.inl ⟨by rfl, ?_⟩) ?_
                    rotate_left
                    · (intro wS; go_simp; try with_reducible rfl)
                    (try simp only [Act.put, List.getElem_toArray, List.getElem_cons_succ, List.getElem_cons_zero, List.setIfInBounds_toArray, List.set_cons_zero, List.set_cons_succ])
                    refine wpAny_done (by kernel_rfl) ?_ _
                    go_wp2
                    go_ret
                    exact ⟨rfl, KS.out.trans (H5.out.bel.mono KS.out.size)⟩
                  exact AllReady.nil
                exact AllReady.nil
              exact AllReady.nil
            exact AllReady.nil
          refine AllReady.cons rfl (fun K hK => ?_) ?_
          · rw [if_pos (by rfl)]
            refine wp_val (exec_load1 rfl rfl (load_tk H1.out.xx)) (hK _ _ ?_)
            clear hK K
            (try simp only [Act.put, List.getElem_toArray, List.getElem_cons_succ, List.getElem_cons_zero, List.setIfInBounds_toArray, List.set_cons_zero, List.set_cons_succ])
            refine wpAny_ready (rs := [4, 6]) (by kernel_rfl) (by simp) ?_
            refine AllReady.cons rfl (fun K hK => ?_) ?_
            · rw [if_pos (by rfl)]
              obtain ⟨v2, wz2, r2, t2, b2, k2⟩ := trow_all S.heap.size wz1 v1 [] T an cn R1.out H1.out.tt H1.out.size (by simp; omega)
              refine Lib.wp_append_run _ _ _ _ _ rfl _ _ rfl rfl _ _ r2 (hK _ _ ?_)
              have H2 := Lib.hid (H1.out.go b2)
              have R2 : Hid (TRow S.heap.size wz2 v2 T) := Lib.hid (by (have := t2; rw [List.nil_append] at this; exact this))
              clear r2 t2 b2 k2 R1 O1 Z1
              clear hK K
              (try simp only [Act.put, List.getElem_toArray, List.getElem_cons_succ, List.getElem_cons_zero, List.setIfInBounds_toArray, List.set_cons_zero, List.set_cons_succ])
              refine wpAny_ready (rs := [6]) (by kernel_rfl) (by simp) ?_
              refine AllReady.cons rfl (fun K hK => ?_) ?_
              · rw [if_pos (by rfl)]
                obtain ⟨q, wz3, r4, q4, b4, eq4, sz4⟩ := build_one S.heap.size wz2 Y
                refine wp_val (exec_build1 rfl rfl r4) (hK _ _ ?_)
                have H3 := Lib.hid (H2.out.go (b4.mono H2.out.size))
                have Q2 := Lib.hid q4
                have R4 := Lib.hid (R2.out.call b4)
                clear R2
                clear r4 q4 b4 eq4 sz4
                clear hK K
                (try simp only [Act.put, List.getElem_toArray, List.getElem_cons_succ, List.getElem_cons_zero, List.setIfInBounds_toArray, List.set_cons_zero, List.set_cons_succ])
                refine wpAny_ready (rs := [7]) (by kernel_rfl) (by simp) ?_
                refine AllReady.cons rfl (fun K hK => ?_) ?_
                · rw [if_pos (by rfl)]
                  obtain ⟨v3, wz4, r5, t5, b5, -⟩ := trow_all S.heap.size wz3 v2 T [Y] (some ⟨q, 0, none⟩) 1 R4.out (tk_ts Q2.out) H3.out.size (by simp; omega)
                  refine Lib.wp_append_run _ _ _ _ _ rfl _ _ rfl rfl _ _ r5 (hK _ _ ?_)
                  have H4 := Lib.hid (H3.out.go b5)
                  obtain ⟨a3, c3, rfl, -, ts3⟩ := t5.form
                  rw [show (T ++ [Y]).length = T.length + 1 by simp]
                  have LO := Lib.hid (TX.out a3 c3 _ ts3)
                  clear r5 t5 b5 ts3 R4 Q2
                  clear hK K
                  (try simp only [Act.put, List.getElem_toArray, List.getElem_cons_succ, List.getElem_cons_zero, List.setIfInBounds_toArray, List.set_cons_zero, List.set_cons_succ])
                  refine wpAny_ready (rs := [8]) (by kernel_rfl) (by simp) ?_
                  refine AllReady.cons rfl (fun K hK => ?_) ?_
                  · rw [if_pos (by rfl)]
                    go_simp
                    (with_reducible refine (LO.out).mono ?_)
                    rintro e wz5 ⟨rfl, b6⟩
                    go_simp
                    refine hK _ _ ?_
                    have H5 := Lib.hid (H4.out.go (b6.mono H4.out.size))
                    clear b6 LO
                    clear hK K
                    (try simp only [Act.put, List.getElem_toArray, List.getElem_cons_succ, List.getElem_cons_zero, List.setIfInBounds_toArray, List.set_cons_zero, List.set_cons_succ])
                    refine wpAny_take (i := 9) (v := ?_) rfl (by kernel_rfl) (by kernel_rfl) (by kernel_rfl) (fun _ _ _ h => h) (Or.inl ⟨by rfl, ?_⟩) ?_
                    rotate_left
                    · (intro wS; go_simp; try with_reducible rfl)
                    (try simp only [Act.put, List.getElem_toArray, List.getElem_cons_succ, List.getElem_cons_zero, List.setIfInBounds_toArray, List.set_cons_zero, List.set_cons_succ])
                    refine wpAny_take (i := 10) (v := ?_) rfl (by kernel_rfl) (by kernel_rfl) (by kernel_rfl) (fun _ _ _ h => h) (Or.inl ⟨by rfl, ?_⟩) ?_
                    rotate_left
                    · (intro wS; go_simp; try with_reducible rfl)
                    (try simp only [Act.put, List.getElem_toArray, List.getElem_cons_succ, List.getElem_cons_zero, List.setIfInBounds_toArray, List.set_cons_zero, List.set_cons_succ])
                    refine wpAny_take (i := 11) (v := ?_) rfl (by kernel_rfl) (by kernel_rfl) (by kernel_rfl) (fun _ _ _ h => h) (Or.inl ⟨by rfl, ?_⟩) ?_
                    rotate_left
                    · (intro wS; go_simp; try with_reducible rfl)
                    (try simp only [Act.put, List.getElem_toArray, List.getElem_cons_succ, List.getElem_cons_zero, List.setIfInBounds_toArray, List.set_cons_zero, List.set_cons_succ])
                    refine wpAny_done (by kernel_rfl) ?_ _
                    go_wp2
                    go_ret
                    exact ⟨rfl, KS.out.trans (H5.out.bel.mono KS.out.size)⟩
                  exact AllReady.nil
                exact AllReady.nil
              exact AllReady.nil
            refine AllReady.cons rfl (fun K hK => ?_) ?_
            · rw [if_pos (by rfl)]
              obtain ⟨q, wz2, r4, q4, b4, eq4, sz4⟩ := build_one S.heap.size wz1 Y
              refine wp_val (exec_build1 rfl rfl r4) (hK _ _ ?_)
              have H2 := Lib.hid (H1.out.go (b4.mono H1.out.size))
              have Q1 := Lib.hid q4
              have R3 := Lib.hid (R1.out.call b4)
              have NE : Hid (∀ k, v1.ownBlock = some k → k ≠ q) := Lib.hid (fun k hk => by (have h1 := Z1.out; have h2 := O1.out; rw [h2] at hk; cases hk; omega))
              clear R1
              have R1 := R3
              clear R3
              clear r4 q4 b4 eq4 sz4
              clear hK K
              (try simp only [Act.put, List.getElem_toArray, List.getElem_cons_succ, List.getElem_cons_zero, List.setIfInBounds_toArray, List.set_cons_zero, List.set_cons_succ])
              refine wpAny_ready (rs := [4]) (by kernel_rfl) (by simp) ?_
              refine AllReady.cons rfl (fun K hK => ?_) ?_
              · rw [if_pos (by rfl)]
                obtain ⟨v2, wz3, r2, t2, b2, k2⟩ := trow_all S.heap.size wz2 v1 [] T an cn R1.out H2.out.tt H2.out.size (by simp; omega)
                refine Lib.wp_append_run _ _ _ _ _ rfl _ _ rfl rfl _ _ r2 (hK _ _ ?_)
                have H3 := Lib.hid (H2.out.go b2)
                have Q2 := Lib.hid (Q1.out.of_block (k2 q Q1.out.lt (fun e => NE.out _ e rfl)))
                have R4 : Hid (TRow S.heap.size wz3 v2 T) := Lib.hid (by (have := t2; rw [List.nil_append] at this; exact this))
                clear Q1 NE
                clear r2 t2 b2 k2 R1 O1 Z1
                clear hK K
                (try simp only [Act.put, List.getElem_toArray, List.getElem_cons_succ, List.getElem_cons_zero, List.setIfInBounds_toArray, List.set_cons_zero, List.set_cons_succ])
                refine wpAny_ready (rs := [7]) (by kernel_rfl) (by simp) ?_
                refine AllReady.cons rfl (fun K hK => ?_) ?_
                · rw [if_pos (by rfl)]
                  obtain ⟨v3, wz4, r5, t5, b5, -⟩ := trow_all S.heap.size wz3 v2 T [Y] (some ⟨q, 0, none⟩) 1 R4.out (tk_ts Q2.out) H3.out.size (by simp; omega)
                  refine Lib.wp_append_run _ _ _ _ _ rfl _ _ rfl rfl _ _ r5 (hK _ _ ?_)
                  have H4 := Lib.hid (H3.out.go b5)
                  obtain ⟨a3, c3, rfl, -, ts3⟩ := t5.form
                  rw [show (T ++ [Y]).length = T.length + 1 by simp]
                  have LO := Lib.hid (TX.out a3 c3 _ ts3)
                  clear r5 t5 b5 ts3 R4 Q2
                  clear hK K
                  (try simp only [Act.put, List.getElem_toArray, List.getElem_cons_succ, List.getElem_cons_zero, List.setIfInBounds_toArray, List.set_cons_zero, List.set_cons_succ])
                  refine wpAny_ready (rs := [8]) (by kernel_rfl) (by simp) ?_
                  refine AllReady.cons rfl (fun K hK => ?_) ?_
                  · rw [if_pos (by rfl)]
                    go_simp
                    (with_reducible refine (LO.out).mono ?_)
                    rintro e wz5 ⟨rfl, b6⟩
                    go_simp
                    refine hK _ _ ?_
                    have H5 := Lib.hid (H4.out.go (b6.mono H4.out.size))
                    clear b6 LO
                    clear hK K
                    (try simp only [Act.put, List.getElem_toArray, List.getElem_cons_succ, List.getElem_cons_zero, List.setIfInBounds_toArray, List.set_cons_zero, List.set_cons_succ])
                    refine wpAny_take (i := 9) (v := ?_) rfl (by kernel_rfl) (by kernel_rfl) (by kernel_rfl) (fun _ _ _ h => h) (Or.inl ⟨by rfl, ?_⟩) ?_
                    rotate_left
                    · (intro wS; go_simp; try with_reducible rfl)
                    (try simp only [Act.put, List.getElem_toArray, List.getElem_cons_succ, List.getElem_cons_zero, List.setIfInBounds_toArray, List.set_cons_zero, List.set_cons_succ])
                    refine wpAny_take (i := 10) (v := ?_) rfl (by kernel_rfl) (by kernel_rfl) (by kernel_rfl) (fun _ _ _ h => h) (Or.inl ⟨by rfl, ?_⟩) ?_
                    rotate_left
                    · (intro wS; go_simp; try with_reducible rfl)
                    (try simp only [Act.put, List.getElem_toArray, List.getElem_cons_succ, List.getElem_cons_zero, List.setIfInBounds_toArray, List.set_cons_zero, List.set_cons_succ])
                    refine wpAny_take (i := 11) (v := ?_) rfl (by kernel_rfl) (by kernel_rfl) (by kernel_rfl) (fun _ _ _ h => h) (Or.inl ⟨by rfl, ?_⟩) ?_
                    rotate_left
                    · (intro wS; go_simp; try with_reducible rfl)
                    (try simp only [Act.put, List.getElem_toArray, List.getElem_cons_succ, List.getElem_cons_zero, List.setIfInBounds_toArray, List.set_cons_zero, List.set_cons_succ])
                    refine wpAny_done (by kernel_rfl) ?_ _
                    go_wp2
                    go_ret
                    exact ⟨rfl, KS.out.trans (H5.out.bel.mono KS.out.size)⟩
                  exact AllReady.nil
                exact AllReady.nil
              exact AllReady.nil
            exact AllReady.nil
          exact AllReady.nil
        refine AllReady.cons rfl (fun K hK => ?_) ?_
        · rw [if_pos (by rfl)]
          refine wp_val (exec_load1 rfl rfl (load_tk Hd.out.xx)) (hK _ _ ?_)
          clear hK K
          (try simp only [Act.put, List.getElem_toArray, List.getElem_cons_succ, List.getElem_cons_zero, List.setIfInBounds_toArray, List.set_cons_zero, List.set_cons_succ])
          refine wpAny_ready (rs := [2, 6]) (by kernel_rfl) (by simp) ?_
          refine AllReady.cons rfl (fun K hK => ?_) ?_
          · rw [if_pos (by rfl)]
            obtain ⟨v1, wz1, r0, t0, b0, ow0, sz0⟩ := build_none S.heap.size (S.drew) Hd.out.size
            refine wp_val (exec_none rfl r0) (hK _ _ ?_)
            have H1 := Lib.hid (Hd.out.go (b0.mono Hd.out.size))
            have R1 := Lib.hid t0
            have O1 := Lib.hid ow0
            have Z1 := Lib.hid sz0
            clear r0 t0 b0 ow0 sz0
            clear hK K
            (try simp only [Act.put, List.getElem_toArray, List.getElem_cons_succ, List.getElem_cons_zero, List.setIfInBounds_toArray, List.set_cons_zero, List.set_cons_succ])
            refine wpAny_ready (rs := [4, 6]) (by kernel_rfl) (by simp) ?_
            refine AllReady.cons rfl (fun K hK => ?_) ?_
            · rw [if_pos (by rfl)]
              obtain ⟨v2, wz2, r2, t2, b2, k2⟩ := trow_all S.heap.size wz1 v1 [] T an cn R1.out H1.out.tt H1.out.size (by simp; omega)
              refine Lib.wp_append_run _ _ _ _ _ rfl _ _ rfl rfl _ _ r2 (hK _ _ ?_)
              have H2 := Lib.hid (H1.out.go b2)
              have R2 : Hid (TRow S.heap.size wz2 v2 T) := Lib.hid (by (have := t2; rw [List.nil_append] at this; exact this))
              clear r2 t2 b2 k2 R1 O1 Z1
              clear hK K
              (try simp only [Act.put, List.getElem_toArray, List.getElem_cons_succ, List.getElem_cons_zero, List.setIfInBounds_toArray, List.set_cons_zero, List.set_cons_succ])
              refine wpAny_ready (rs := [6]) (by kernel_rfl) (by simp) ?_
              refine AllReady.cons rfl (fun K hK => ?_) ?_
              · rw [if_pos (by rfl)]
                obtain ⟨q, wz3, r4, q4, b4, eq4, sz4⟩ := build_one S.heap.size wz2 Y
                refine wp_val (exec_build1 rfl rfl r4) (hK _ _ ?_)
                have H3 := Lib.hid (H2.out.go (b4.mono H2.out.size))
                have Q2 := Lib.hid q4
                have R4 := Lib.hid (R2.out.call b4)
                clear R2
                clear r4 q4 b4 eq4 sz4
                clear hK K
                (try simp only [Act.put, List.getElem_toArray, List.getElem_cons_succ, List.getElem_cons_zero, List.setIfInBounds_toArray, List.set_cons_zero, List.set_cons_succ])
                refine wpAny_ready (rs := [7]) (by kernel_rfl) (by simp) ?_
                refine AllReady.cons rfl (fun K hK => ?_) ?_
                · rw [if_pos (by rfl)]
                  obtain ⟨v3, wz4, r5, t5, b5, -⟩ := trow_all S.heap.size wz3 v2 T [Y] (some ⟨q, 0, none⟩) 1 R4.out (tk_ts Q2.out) H3.out.size (by simp; omega)
                  refine Lib.wp_append_run _ _ _ _ _ rfl _ _ rfl rfl _ _ r5 (hK _ _ ?_)
                  have H4 := Lib.hid (H3.out.go b5)
                  obtain ⟨a3, c3, rfl, -, ts3⟩ := t5.form
                  rw [show (T ++ [Y]).length = T.length + 1 by simp]
                  have LO := Lib.hid (TX.out a3 c3 _ ts3)
                  clear r5 t5 b5 ts3 R4 Q2
                  clear hK K
                  (try simp only [Act.put, List.getElem_toArray, List.getElem_cons_succ, List.getElem_cons_zero, List.setIfInBounds_toArray, List.set_cons_zero, List.set_cons_succ])
                  refine wpAny_ready (rs := [8]) (by kernel_rfl) (by simp) ?_
                  refine AllReady.cons rfl (fun K hK => ?_) ?_
                  · rw [if_pos (by rfl)]
                    go_simp
                    (with_reducible refine (LO.out).mono ?_)
                    rintro e wz5 ⟨rfl, b6⟩
                    go_simp
                    refine hK _ _ ?_
                    have H5 := Lib.hid (H4.out.go (b6.mono H4.out.size))
                    clear b6 LO
                    clear hK K
                    (try simp only [Act.put, List.getElem_toArray, List.getElem_cons_succ, List.getElem_cons_zero, List.setIfInBounds_toArray, List.set_cons_zero, List.set_cons_succ])
                    refine wpAny_take (i := 9) (v := ?_) rfl (by kernel_rfl) (by kernel_rfl) (by kernel_rfl) (fun _ _ _ h => h) (Or.inl ⟨by rfl, ?_⟩) ?_
                    rotate_left
                    · (intro wS; go_simp; try with_reducible rfl)
                    (try simp only [Act.put, List.getElem_toArray, List.getElem_cons_succ, List.getElem_cons_zero, List.setIfInBounds_toArray, List.set_cons_zero, List.set_cons_succ])
                    refine wpAny_take (i := 10) (v := ?_) rfl (by kernel_rfl) (by kernel_rfl) (by kernel_rfl) (fun _ _ _ h => h) (Or.inl ⟨by rfl, ?_⟩) ?_
                    rotate_left
                    · (intro wS; go_simp; try with_reducible rfl)
                    (try simp only [Act.put, List.getElem_toArray, List.getElem_cons_succ, List.getElem_cons_zero, List.setIfInBounds_toArray, List.set_cons_zero, List.set_cons_succ])
                    refine wpAny_take (i := 11) (v := ?_) rfl (by kernel_rfl) (by kernel_rfl) (by kernel_rfl) (fun _ _ _ h => h) (Or.inl ⟨by rfl, ?_⟩) ?_
                    rotate_left
                    · (intro wS; go_simp; try with_reducible rfl)
                    (try simp only [Act.put, List.getElem_toArray, List.getElem_cons_succ, List.getElem_cons_zero, List.setIfInBounds_toArray, List.set_cons_zero, List.set_cons_succ])
                    refine wpAny_done (by kernel_rfl) ?_ _
                    go_wp2
                    go_ret
                    exact ⟨rfl, KS.out.trans (H5.out.bel.mono KS.out.size)⟩
                  exact AllReady.nil
                exact AllReady.nil
              exact AllReady.nil
            refine AllReady.cons rfl (fun K hK => ?_) ?_
            · rw [if_pos (by rfl)]
              obtain ⟨q, wz2, r4, q4, b4, eq4, sz4⟩ := build_one S.heap.size wz1 Y
              refine wp_val (exec_build1 rfl rfl r4) (hK _ _ ?_)
              have H2 := Lib.hid (H1.out.go (b4.mono H1.out.size))
              have Q1 := Lib.hid q4
              have R3 := Lib.hid (R1.out.call b4)
              have NE : Hid (∀ k, v1.ownBlock = some k → k ≠ q) := Lib.hid (fun k hk => by (have h1 := Z1.out; have h2 := O1.out; rw [h2] at hk; cases hk; omega))
              clear R1
              have R1 := R3
              clear R3
              clear r4 q4 b4 eq4 sz4
              clear hK K
              (try simp only [Act.put, List.getElem_toArray, List.getElem_cons_succ, List.getElem_cons_zero, List.setIfInBounds_toArray, List.set_cons_zero, List.set_cons_succ])
              refine wpAny_ready (rs := [4]) (by kernel_rfl) (by simp) ?_
              refine AllReady.cons rfl (fun K hK => ?_) ?_
              · rw [if_pos (by rfl)]
                obtain ⟨v2, wz3, r2, t2, b2, k2⟩ := trow_all S.heap.size wz2 v1 [] T an cn R1.out H2.out.tt H2.out.size (by simp; omega)
                refine Lib.wp_append_run _ _ _ _ _ rfl _ _ rfl rfl _ _ r2 (hK _ _ ?_)
                have H3 := Lib.hid (H2.out.go b2)
                have Q2 := Lib.hid (Q1.out.of_block (k2 q Q1.out.lt (fun e => NE.out _ e rfl)))
                have R4 : Hid (TRow S.heap.size wz3 v2 T) := Lib.hid (by (have := t2; rw [List.nil_append] at this; exact this))
                clear Q1 NE
                clear r2 t2 b2 k2 R1 O1 Z1
                clear hK K
                (try simp only [Act.put, List.getElem_toArray, List.getElem_cons_succ, List.getElem_cons_zero, List.setIfInBounds_toArray, List.set_cons_zero, List.set_cons_succ])
                refine wpAny_ready (rs := [7]) (by kernel_rfl) (by simp) ?_
                refine AllReady.cons rfl (fun K hK => ?_) ?_
                · rw [if_pos (by rfl)]
                  obtain ⟨v3, wz4, r5, t5, b5, -⟩ := trow_all S.heap.size wz3 v2 T [Y] (some ⟨q, 0, none⟩) 1 R4.out (tk_ts Q2.out) H3.out.size (by simp; omega)
                  refine Lib.wp_append_run _ _ _ _ _ rfl _ _ rfl rfl _ _ r5 (hK _ _ ?_)
                  have H4 := Lib.hid (H3.out.go b5)
                  obtain ⟨a3, c3, rfl, -, ts3⟩ := t5.form
                  rw [show (T ++ [Y]).length = T.length + 1 by simp]
                  have LO := Lib.hid (TX.out a3 c3 _ ts3)
                  clear r5 t5 b5 ts3 R4 Q2
                  clear hK K
                  (try simp only [Act.put, List.getElem_toArray, List.getElem_cons_succ, List.getElem_cons_zero, List.setIfInBounds_toArray, List.set_cons_zero, List.set_cons_succ])
                  refine wpAny_ready (rs := [8]) (by kernel_rfl) (by simp) ?_
                  refine AllReady.cons rfl (fun K hK => ?_) ?_
                  · rw [if_pos (by rfl)]
                    go_simp
                    (with_reducible refine (LO.out).mono ?_)
                    rintro e wz5 ⟨rfl, b6⟩
                    go_simp
                    refine hK _ _ ?_
                    have H5 := Lib.hid (H4.out.go (b6.mono H4.out.size))
                    clear b6 LO
                    clear hK K
                    (try simp only [Act.put, List.getElem_toArray, List.getElem_cons_succ, List.getElem_cons_zero, List.setIfInBounds_toArray, List.set_cons_zero, List.set_cons_succ])
                    refine wpAny_take (i := 9) (v := ?_) rfl (by kernel_rfl) (by kernel_rfl) (by kernel_rfl) (fun _ _ _ h => h) (Or.inl ⟨by rfl, ?_⟩) ?_
                    rotate_left
                    · (intro wS; go_simp; try with_reducible rfl)
                    (try simp only [Act.put, List.getElem_toArray, List.getElem_cons_succ, List.getElem_cons_zero, List.setIfInBounds_toArray, List.set_cons_zero, List.set_cons_succ])
                    refine wpAny_take (i := 10) (v := ?_) rfl (by kernel_rfl) (by kernel_rfl) (by kernel_rfl) (fun _ _ _ h => h) (Or.inl ⟨by rfl, ?_⟩) ?_
                    rotate_left
                    · (intro wS; go_simp; try with_reducible rfl)
                    (try simp only [Act.put, List.getElem_toArray, List.getElem_cons_succ, List.getElem_cons_zero, List.setIfInBounds_toArray, List.set_cons_zero, List.set_cons_succ])
                    refine wpAny_take (i := 11) (v := ?_) rfl (by kernel_rfl) (by kernel_rfl) (by kernel_rfl) (fun _ _ _ h => h) (Or.inl ⟨by rfl, ?_⟩) ?_
                    rotate_left
                    · (intro wS; go_simp; try with_reducible rfl)
                    (try simp only [Act.put, List.getElem_toArray, List.getElem_cons_succ, List.getElem_cons_zero, List.setIfInBounds_toArray, List.set_cons_zero, List.set_cons_succ])
                    refine wpAny_done (by kernel_rfl) ?_ _
                    go_wp2
                    go_ret
                    exact ⟨rfl, KS.out.trans (H5.out.bel.mono KS.out.size)⟩
                  exact AllReady.nil
                exact AllReady.nil
              exact AllReady.nil
            exact AllReady.nil
          refine AllReady.cons rfl (fun K hK => ?_) ?_
          · rw [if_pos (by rfl)]
            obtain ⟨q, wz1, r4, q4, b4, eq4, sz4⟩ := build_one S.heap.size (S.drew) Y
            refine wp_val (exec_build1 rfl rfl r4) (hK _ _ ?_)
            have H1 := Lib.hid (Hd.out.go (b4.mono Hd.out.size))
            have Q0 := Lib.hid q4
            have QL := Lib.hid sz4
            clear r4 q4 b4 eq4 sz4
            clear hK K
            (try simp only [Act.put, List.getElem_toArray, List.getElem_cons_succ, List.getElem_cons_zero, List.setIfInBounds_toArray, List.set_cons_zero, List.set_cons_succ])
            refine wpAny_ready (rs := [2]) (by kernel_rfl) (by simp) ?_
            refine AllReady.cons rfl (fun K hK => ?_) ?_
            · rw [if_pos (by rfl)]
              obtain ⟨v1, wz2, r0, t0, b0, ow0, sz0⟩ := build_none S.heap.size wz1 H1.out.size
              refine wp_val (exec_none rfl r0) (hK _ _ ?_)
              have H2 := Lib.hid (H1.out.go (b0.mono H1.out.size))
              have R1 := Lib.hid t0
              have O1 := Lib.hid ow0
              have Z1 := Lib.hid sz0
              have Q1 := Lib.hid (Q0.out.call b0)
              have NE : Hid (∀ k, v1.ownBlock = some k → k ≠ q) := Lib.hid (fun k hk => by (have h1 := QL.out; have h2 := O1.out; rw [h2] at hk; cases hk; omega))
              clear Q0 QL
              clear r0 t0 b0 ow0 sz0
              clear hK K
              (try simp only [Act.put, List.getElem_toArray, List.getElem_cons_succ, List.getElem_cons_zero, List.setIfInBounds_toArray, List.set_cons_zero, List.set_cons_succ])
              refine wpAny_ready (rs := [4]) (by kernel_rfl) (by simp) ?_
              refine AllReady.cons rfl (fun K hK => ?_) ?_
              · rw [if_pos (by rfl)]
                obtain ⟨v2, wz3, r2, t2, b2, k2⟩ := trow_all S.heap.size wz2 v1 [] T an cn R1.out H2.out.tt H2.out.size (by simp; omega)
                refine Lib.wp_append_run _ _ _ _ _ rfl _ _ rfl rfl _ _ r2 (hK _ _ ?_)
                have H3 := Lib.hid (H2.out.go b2)
                have Q2 := Lib.hid (Q1.out.of_block (k2 q Q1.out.lt (fun e => NE.out _ e rfl)))
                have R4 : Hid (TRow S.heap.size wz3 v2 T) := Lib.hid (by (have := t2; rw [List.nil_append] at this; exact this))
                clear Q1 NE
                clear r2 t2 b2 k2 R1 O1 Z1
                clear hK K
                (try simp only [Act.put, List.getElem_toArray, List.getElem_cons_succ, List.getElem_cons_zero, List.setIfInBounds_toArray, List.set_cons_zero, List.set_cons_succ])
                refine wpAny_ready (rs := [7]) (by kernel_rfl) (by simp) ?_
                refine AllReady.cons rfl (fun K hK => ?_) ?_
                · rw [if_pos (by rfl)]
                  obtain ⟨v3, wz4, r5, t5, b5, -⟩ := trow_all S.heap.size wz3 v2 T [Y] (some ⟨q, 0, none⟩) 1 R4.out (tk_ts Q2.out) H3.out.size (by simp; omega)
                  refine Lib.wp_append_run _ _ _ _ _ rfl _ _ rfl rfl _ _ r5 (hK _ _ ?_)
                  have H4 := Lib.hid (H3.out.go b5)
                  obtain ⟨a3, c3, rfl, -, ts3⟩ := t5.form
                  rw [show (T ++ [Y]).length = T.length + 1 by simp]
                  have LO := Lib.hid (TX.out a3 c3 _ ts3)
                  clear r5 t5 b5 ts3 R4 Q2
                  clear hK K
                  (try simp only [Act.put, List.getElem_toArray, List.getElem_cons_succ, List.getElem_cons_zero, List.setIfInBounds_toArray, List.set_cons_zero, List.set_cons_succ])
                  refine wpAny_ready (rs := [8]) (by kernel_rfl) (by simp) ?_
                  refine AllReady.cons rfl (fun K hK => ?_) ?_
                  · rw [if_pos (by rfl)]
                    go_simp
                    (with_reducible refine (LO.out).mono ?_)
                    rintro e wz5 ⟨rfl, b6⟩
                    go_simp
                    refine hK _ _ ?_
                    have H5 := Lib.hid (H4.out.go (b6.mono H4.out.size))
                    clear b6 LO
                    clear hK K
                    (try simp only [Act.put, List.getElem_toArray, List.getElem_cons_succ, List.getElem_cons_zero, List.setIfInBounds_toArray, List.set_cons_zero, List.set_cons_succ])
                    refine wpAny_take (i := 9) (v := ?_) rfl (by kernel_rfl) (by kernel_rfl) (by kernel_rfl) (fun _ _ _ h => h) (Or.inl ⟨by rfl, ?_⟩) ?_
                    rotate_left
                    · (intro wS; go_simp; try with_reducible rfl)
                    (try simp only [Act.put, List.getElem_toArray, List.getElem_cons_succ, List.getElem_cons_zero, List.setIfInBounds_toArray, List.set_cons_zero, List.set_cons_succ])
                    refine wpAny_take (i := 10) (v := ?_) rfl (by kernel_rfl) (by kernel_rfl) (by kernel_rfl) (fun _ _ _ h => h) (Or.inl ⟨by rfl, ?_⟩) ?_
                    rotate_left
                    · (intro wS; go_simp; try with_reducible rfl)
                    (try simp only [Act.put, List.getElem_toArray, List.getElem_cons_succ, List.getElem_cons_zero, List.setIfInBounds_toArray, List.set_cons_zero, List.set_cons_succ])
                    refine wpAny_take (i := 11) (v := ?_) rfl (by kernel_rfl) (by kernel_rfl) (by kernel_rfl) (fun _ _ _ h => h) (Or.inl ⟨by rfl, ?_⟩) ?_
                    rotate_left
                    · (intro wS; go_simp; try with_reducible rfl)
                    (try simp only [Act.put, List.getElem_toArray, List.getElem_cons_succ, List.getElem_cons_zero, List.setIfInBounds_toArray, List.set_cons_zero, List.set_cons_succ])
                    refine wpAny_done (by kernel_rfl) ?_ _
                    go_wp2
                    go_ret
                    exact ⟨rfl, KS.out.trans (H5.out.bel.mono KS.out.size)⟩
                  exact AllReady.nil
                exact AllReady.nil
              exact AllReady.nil
            exact AllReady.nil
          exact AllReady.nil
        exact AllReady.nil
    · obtain rfl : te = 17 := by omega
      obtain rfl := ZR.out r hf HR.out
      clear NT hte hz ZR MO TA HR hf
      go_wp2
      go_ret
      exact ⟨rfl, K6.out⟩

set_option maxRecDepth 100000 in
set_option maxHeartbeats 1600000 in
theorem lifted (os : Os) (started : os.Started) (H : Type) (enc : TypeId × Value → H) :
    ReturnsInHanded {} Try.checked os 7 .any (Rows.qpaRoomSpec.pre6 enc Try.prog Try.f7 Rows.qpaRoomRow.domain false) (Rows.qpaRoomSpec.post enc Try.prog Try.f7 false true false false) := by
  refine returnsInHanded_of_change (C := Try.checked) own started (by kernel_rfl) Try.func7
    (ChangeSpec.witness6 (enc := enc) (C := Try.checked) false ⟨#[], #[.slice none 0 0, .agg #[.int .i64 0, .int .i64 0, .int .i64 0]], []⟩ 8 (by kernel_rfl) (by kernel_rfl) (by kernel_rfl) (by kernel_rfl)) ?_
  intro W base args ds gs before hval0 hW hcnd _
  have hval : ∀ (j : Nat) t v, Try.f7.params[j]? = some t → args[j]? = some v → Value.okWide Try.prog W .any base t v := hval0
  have hW' := hW
  obtain ⟨p, q, hA0, hV, rfl, hfz, hnd⟩ := hW
  have hA : DataW.TrodAll enc Try.prog W 0 (fun _ => true) true Try.f7.params.toList args.toList ds p := hA0
  rw [Try.params7] at hA hval
  obtain ⟨v0, vs0, d0, ds0, p0, q0, hargs, rfl, rfl, h0, r0⟩ := trodAll_cons hA
  obtain ⟨v1, vs1, d1, ds1, p1, q1, rfl, rfl, rfl, h1, r1⟩ := trodAll_cons r0
  obtain ⟨rfl, rfl, rfl⟩ := trodAll_nil r1
  obtain rfl : args = #[v0, v1] := by cases args; simp_all
  obtain ⟨rfl, rfl⟩ := trodVars_none hV
  have lt0 : ∀ x ∈ p0, x.block < W.heap.size := by obtain ⟨m, hm⟩ := h0; exact DataW.trod_lt m _ _ _ hm
  obtain ⟨aol, ll, capl, rfl, lel, val, okl⟩ := open_tris (hval 0 23 v0 rfl rfl) h0
  have lt1 : ∀ x ∈ p1, x.block < W.heap.size := by obtain ⟨m, hm⟩ := h1; exact DataW.trod_lt m _ _ _ hm
  obtain ⟨xo, rfl, oko⟩ := open_tri_v (hval 1 44 v1 rfl rfl) h1
  clear hA0 hval0
  refine (walk ll aol capl xo W val lel okl oko).mono fun e W' ⟨he, bel⟩ => ?_
  subst he
  exact ⟨_, rfl, _, _, _, [], _, [], hW', trodAll_mk1 (shut_bool Try.underlying4 _), (trodAll_cons_mk (Below.trod laidOut (by kernel_rfl) (of_decide_eq_true (by kernel_rfl)) h0 bel lt0) (trodAll_cons_mk (Below.trod laidOut (by kernel_rfl) (of_decide_eq_true (by kernel_rfl)) h1 bel lt1) trodAll_mk0)), rfl, bel.frame _, fun h => by cases h⟩

theorem proved : Rows.QpaRoomSaid :=
  OpenClaim.holds_of_wide 7 Try.f7 rfl rfl rfl rfl rfl rfl rfl ⟨rfl, rfl, rfl, rfl, rfl⟩ rfl rfl rfl rfl rfl (by kernel_rfl) Try.func7 (by kernel_rfl)
    (of_decide_eq_true (by kernel_rfl)) (by unfold Func.isWrapper; first | (rw [if_pos (by decide +kernel)]; kernel_rfl) | (rw [if_neg (by decide +kernel)]; exact ⟨rfl, rfl⟩))
    (fun os started H enc _ => lifted os started H enc)
#print axioms proved
end Go.Proofs.Ytbhafcaekpccoaa.qpaRoom
