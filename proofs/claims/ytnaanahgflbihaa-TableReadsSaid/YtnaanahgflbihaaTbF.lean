/- Package table's with, admit, remove, resize. -/
import Derived.Test.YtnaanahgflbihaaTbE
namespace Go.Proofs.Ytnaanahgflbihaa.Tb
open Go.ChangeShapes Go.WideShapes Go.ChangeAt Go.RowKit Go.Joins
open Pm (Tk chk chk_iff below_drewN)
open Ge (El Seen Row)
set_option maxRecDepth 100000
set_option maxRecDepth 100000
set_option linter.unusedVariables false
set_option linter.unusedSimpArgs false
theorem slice_hh (ao : Option Addr) (n cap k : Nat) (hk : k ≤ cap) (w : World) : (Instr.sliceAt 22 (.slice ao n cap) none (some (.int .i64 (k : Int))) (some (.int .i64 (k : Int)))).run Try.prog w = .ok (.slice ao k k) w := by
  have e : (sizeOf (Try.prog.elem 22)).run Try.prog w = .ok 6 w := by kernel_rfl
  rw [run_sliceAt_slice w _ _ _ _ _ (by kernel_rfl), run_slice_hm w _ _ _ _ (by kernel_rfl) _ _ _ _ (by omega) (by omega) (by omega), e]
  simp only [Result.andThen, sliced]
  have : ao.map (fun x => x.add (0 * 6)) = ao := by cases ao <;> simp [Addr.add]
  rw [this]
  simp
theorem slice_l (ao : Option Addr) (n cap j : Nat) (hj : j ≤ n) (w : World) : (Instr.sliceAt 22 (.slice ao n cap) (some (.int .i64 (j : Int))) none none).run Try.prog w = .ok (tail ao j n cap) w := by
  have e : (sizeOf (Try.prog.elem 22)).run Try.prog w = .ok 6 w := by kernel_rfl
  rw [run_sliceAt_slice w _ _ _ _ _ (by kernel_rfl), run_slice_l w _ _ _ _ (by kernel_rfl) _ _ (by omega) (by omega), e]
  simp only [Result.andThen, Int.toNat_natCast]
set_option maxHeartbeats 4000000 in
theorem with_any (l rs : List Rw) (ao ro : Option Addr) (cap rc : Nat) (m : Int) (k j : Nat) (w : World) (hS : Seen Rw.cs 6 ao l w) (hl : l.length ≤ 1000) (hk : k ≤ l.length) (hj : j ≤ l.length) (hr : Seen Rw.cs 6 ro rs w) (hrs : rs.length ≤ 1) (hro : ro = none → rs = []) :
    Calls Try.prog 80 #[tv ao l.length cap m, .int .i64 (k : Int), .int .i64 (j : Int), .slice ro rs.length rc] w fun e w' => ∃ ao' cap', e = .returned (tv ao' (l.take k ++ rs ++ l.drop j).length cap' m) ∧ Sl (.slice ao' (l.take k ++ rs ++ l.drop j).length cap') (l.take k ++ rs ++ l.drop j) w' ao' cap' ∧ Below w.heap.size w w' := by
  have H0 := Lib.hid (tb_new w (.slice ao l.length cap) m)
  have OW : Hid (∀ W, Below w.heap.size w W → Calls Try.prog 53 #[tv ao l.length cap m] W fun e w' => ∃ ao' cap', e = .returned (tv ao' l.length cap' m) ∧ Sl (.slice ao' l.length cap') l w' ao' cap' ∧ Below W.heap.size W w') := Lib.hid (fun W hb => own_any l ao cap m W (hS.below hb (Nat.le_refl _)) hl)
  have RS := Lib.hid hr
  have TA : Hid (∀ W ao cap, Sl (.slice ao l.length cap) l W ao cap → Seen Rw.cs 6 ro rs W → _) := Lib.hid (fun W ao cap h hr => two_appends (W := W) (ao := ao) (cap := cap) (j := j) (k := k) (rc := rc) h hk hj hl hr hrs hro)
  have S1 : Hid (∀ (ao : Option Addr) (cap : Nat), l.length ≤ cap → ∀ w, (Instr.sliceAt 22 (.slice ao l.length cap) none (some (.int .i64 (k : Int))) (some (.int .i64 (k : Int)))).run Try.prog w = .ok (.slice ao k k) w) := Lib.hid (fun ao cap h => slice_hh ao l.length cap k (by omega))
  have S2 : Hid (∀ (ao : Option Addr) (cap : Nat), ∀ w, (Instr.sliceAt 22 (.slice ao l.length cap) (some (.int .i64 (j : Int))) none none).run Try.prog w = .ok (tail ao j l.length cap) w) := Lib.hid (fun ao cap => slice_l ao l.length cap j hj)
  obtain ⟨N, hN⟩ : ∃ N, N = l.take k ++ rs ++ l.drop j := ⟨_, rfl⟩
  rw [← hN]
  simp only [← hN] at TA
  unfold tv at *
  obtain ⟨t0, t1⟩ := cell2 (H0.out.cell 1 rfl)
  clear hS hr hrs hro hN hk hj
  go_enter Try.func80, Try.ntmps80
  go_wp2_with fail
  (with_reducible refine (OW.out _ H0.out.bl).mono ?_)
  rintro e w1 ⟨ao', cap', rfl, sl1, b1⟩
  have H1 := Lib.hid (H0.out.call b1)
  have H2 := Lib.hid (H1.out.new #[.slice ao' l.length cap', .int .i64 m] 24)
  have H3 := Lib.hid H2.out.drew
  have bd : Below w1.heap.size w1 (w1.alloc (.cells #[.slice ao' l.length cap', .int .i64 m] 24)).drew := ((Below.refl _ _).alloc (Nat.le_refl _) _).drew
  obtain ⟨hv, W1, ao2, cap2, W2, ap1, ap2, sl2, hb1, hb2⟩ := TA.out _ ao' cap' (sl1.call bd) (RS.out.below H3.out.bl (Nat.le_refl _))
  have H4 := Lib.hid (H3.out.call hb1)
  have H5 := Lib.hid (H3.out.call hb2)
  have s1 := S1.out ao' cap' sl1.le
  have s2 := S2.out ao' cap'
  have SL2 := Lib.hid sl2
  generalize tail ao' j l.length cap' = TL at *
  clear b1 OW TA S1 S2 RS H0 H1 bd sl1 sl2 hb1 hb2 t0 t1
  generalize l.length = n at *
  have F3 := Lib.hid (cell2 (H3.out.cell 0 rfl))
  have F4 := Lib.hid (cell2 (H4.out.cell 0 rfl))
  obtain ⟨y0, y1⟩ := cell2 (H5.out.cell 0 rfl)
  have yf := H5.out.fz 0 rfl 0
  have H6 := Lib.hid (H5.out.set 0 rfl 0 (.slice ao2 N.length cap2))
  have SL3 := Lib.hid (SL2.out.set H5.out 0 rfl (by simp) 0 (.slice ao2 N.length cap2))
  go_wp2_with fail
  refine wp_region_any (by kernel_rfl) ?_
  (try (change wpAny _ _ _ _ _ _ _ (World.drew _)))
  refine wpAny_take (i := 0) (v := ?_) rfl (by kernel_rfl) (by kernel_rfl) (by kernel_rfl) (fun _ _ _ h => h) (Or.inl ⟨by rfl, ?_⟩) ?_
  rotate_left
  · (intro wS; go_simp; try with_reducible rfl)
  (try simp only [Act.put, List.getElem_toArray, List.getElem_cons_succ, List.getElem_cons_zero, List.setIfInBounds_toArray, List.set_cons_zero, List.set_cons_succ])
  refine wpAny_take (i := 2) (v := ?_) rfl (by kernel_rfl) (by kernel_rfl) (by kernel_rfl) (fun _ _ _ h => h) (Or.inl ⟨by rfl, ?_⟩) ?_
  rotate_left
  · (intro wS; go_simp; try with_reducible rfl)
  (try simp only [Act.put, List.getElem_toArray, List.getElem_cons_succ, List.getElem_cons_zero, List.setIfInBounds_toArray, List.set_cons_zero, List.set_cons_succ])
  refine wpAny_take (i := 3) (v := ?_) rfl (by kernel_rfl) (by kernel_rfl) (by kernel_rfl) (fun _ _ _ h => h) (Or.inl ⟨by rfl, ?_⟩) ?_
  rotate_left
  · (intro wS; go_simp; try with_reducible rfl)
  (try simp only [Act.put, List.getElem_toArray, List.getElem_cons_succ, List.getElem_cons_zero, List.setIfInBounds_toArray, List.set_cons_zero, List.set_cons_succ])
  refine wpAny_take (i := 5) (v := ?_) rfl (by kernel_rfl) (by kernel_rfl) (by kernel_rfl) (fun _ _ _ h => h) (Or.inl ⟨by rfl, ?_⟩) ?_
  rotate_left
  · (intro wS; go_simp; try with_reducible rfl)
  (try simp only [Act.put, List.getElem_toArray, List.getElem_cons_succ, List.getElem_cons_zero, List.setIfInBounds_toArray, List.set_cons_zero, List.set_cons_succ])
  refine wpAny_take (i := 7) (v := ?_) rfl (by kernel_rfl) (by kernel_rfl) (by kernel_rfl) (fun _ _ _ h => h) (Or.inl ⟨by rfl, ?_⟩) ?_
  rotate_left
  · (intro wS; go_simp; try with_reducible rfl)
  (try simp only [Act.put, List.getElem_toArray, List.getElem_cons_succ, List.getElem_cons_zero, List.setIfInBounds_toArray, List.set_cons_zero, List.set_cons_succ])
  refine wpAny_take (i := 9) (v := ?_) rfl (by kernel_rfl) (by kernel_rfl) (by kernel_rfl) (fun _ _ _ h => h) (Or.inl ⟨by rfl, ?_⟩) ?_
  rotate_left
  · (intro wS; go_simp; try with_reducible rfl)
  (try simp only [Act.put, List.getElem_toArray, List.getElem_cons_succ, List.getElem_cons_zero, List.setIfInBounds_toArray, List.set_cons_zero, List.set_cons_succ])
  refine wpAny_ready (rs := [1, 8]) (by kernel_rfl) (by simp) ?_
  refine AllReady.cons rfl (fun K hK => ?_) ?_
  · rw [if_pos (by rfl)]
    obtain ⟨x0, x1⟩ := F3.out
    go_simp
    clear x0 x1
    refine hK _ _ ?_
    clear hK K
    (try simp only [Act.put, List.getElem_toArray, List.getElem_cons_succ, List.getElem_cons_zero, List.setIfInBounds_toArray, List.set_cons_zero, List.set_cons_succ])
    refine wpAny_take (i := 4) (v := ?_) rfl (by kernel_rfl) (by kernel_rfl) (by kernel_rfl) (fun _ _ _ h => h) (Or.inl ⟨by rfl, ?_⟩) ?_
    rotate_left
    · (intro wS; go_simp; try with_reducible rfl)
    (try simp only [Act.put, List.getElem_toArray, List.getElem_cons_succ, List.getElem_cons_zero, List.setIfInBounds_toArray, List.set_cons_zero, List.set_cons_succ])
    refine wpAny_ready (rs := [6, 8]) (by kernel_rfl) (by simp) ?_
    refine AllReady.cons rfl (fun K hK => ?_) ?_
    · rw [if_pos (by rfl)]
      refine Lib.wp_append_run _ _ _ _ _ rfl _ _ rfl rfl _ _ ap1 (hK _ _ ?_)
      clear hK K
      (try simp only [Act.put, List.getElem_toArray, List.getElem_cons_succ, List.getElem_cons_zero, List.setIfInBounds_toArray, List.set_cons_zero, List.set_cons_succ])
      refine wpAny_ready (rs := [8]) (by kernel_rfl) (by simp) ?_
      refine AllReady.cons rfl (fun K hK => ?_) ?_
      · rw [if_pos (by rfl)]
        obtain ⟨x0, x1⟩ := F4.out
        go_simp
        clear x0 x1
        refine hK _ _ ?_
        clear hK K
        (try simp only [Act.put, List.getElem_toArray, List.getElem_cons_succ, List.getElem_cons_zero, List.setIfInBounds_toArray, List.set_cons_zero, List.set_cons_succ])
        refine wpAny_take (i := 10) (v := ?_) rfl (by kernel_rfl) (by kernel_rfl) (by kernel_rfl) (fun _ _ _ h => h) (Or.inl ⟨by rfl, ?_⟩) ?_
        rotate_left
        · (intro wS; go_simp; try with_reducible rfl)
        (try simp only [Act.put, List.getElem_toArray, List.getElem_cons_succ, List.getElem_cons_zero, List.setIfInBounds_toArray, List.set_cons_zero, List.set_cons_succ])
        refine wpAny_ready (rs := [11]) (by kernel_rfl) (by simp) ?_
        refine AllReady.cons rfl (fun K hK => ?_) ?_
        · rw [if_pos (by rfl)]
          refine Lib.wp_append_run _ _ _ _ _ rfl _ _ rfl rfl _ _ ap2 (hK _ _ ?_)
          clear hK K
          (try simp only [Act.put, List.getElem_toArray, List.getElem_cons_succ, List.getElem_cons_zero, List.setIfInBounds_toArray, List.set_cons_zero, List.set_cons_succ])
          refine wpAny_take (i := 12) (v := ?_) rfl (by kernel_rfl) (by kernel_rfl) (by kernel_rfl) (fun _ _ _ h => h) (Or.inl ⟨by rfl, ?_⟩) ?_
          rotate_left
          · (intro wS; go_simp; try with_reducible rfl)
          (try simp only [Act.put, List.getElem_toArray, List.getElem_cons_succ, List.getElem_cons_zero, List.setIfInBounds_toArray, List.set_cons_zero, List.set_cons_succ])
          refine wpAny_ready (rs := [13]) (by kernel_rfl) (by simp) ?_
          refine AllReady.cons rfl (fun K hK => ?_) ?_
          · rw [if_pos (by rfl)]
            go_simp
            refine hK _ _ ?_
            clear hK K
            (try simp only [Act.put, List.getElem_toArray, List.getElem_cons_succ, List.getElem_cons_zero, List.setIfInBounds_toArray, List.set_cons_zero, List.set_cons_succ])
            refine wpAny_done (by kernel_rfl) ?_ _
            obtain ⟨u0, u1⟩ := cell2 (H6.out.cell 0 rfl)
            obtain ⟨v0, v1⟩ := cell2 (H6.out.cell 1 rfl)
            have vf := H6.out.fz 1 rfl
            have H7 := Lib.hid ((H6.out.set 1 rfl 0 (.slice ao2 N.length cap2)).set 1 rfl 1 (.int .i64 m))
            obtain ⟨z0, z1⟩ := cell2 (H7.out.cell 1 rfl)
            have SL4 := Lib.hid ((SL3.out.set H6.out 1 rfl (by simp) 0 (.slice ao2 N.length cap2)).set (H6.out.set 1 rfl 0 (.slice ao2 N.length cap2)) 1 rfl (by simp) 1 (.int .i64 m))
            go_wp2
            refine bodyPost_ret (v := .agg #[.slice ao2 N.length cap2, .int .i64 m]) (by simp [results, Try.results80, go_sem, z0, z1]) rfl ⟨ao2, cap2, rfl, SL4.out, H7.out.bl⟩
          exact AllReady.nil
        exact AllReady.nil
      exact AllReady.nil
    refine AllReady.cons rfl (fun K hK => ?_) ?_
    · rw [if_pos (by rfl)]
      obtain ⟨x0, x1⟩ := F3.out
      go_simp
      clear x0 x1
      refine hK _ _ ?_
      clear hK K
      (try simp only [Act.put, List.getElem_toArray, List.getElem_cons_succ, List.getElem_cons_zero, List.setIfInBounds_toArray, List.set_cons_zero, List.set_cons_succ])
      refine wpAny_take (i := 10) (v := ?_) rfl (by kernel_rfl) (by kernel_rfl) (by kernel_rfl) (fun _ _ _ h => h) (Or.inl ⟨by rfl, ?_⟩) ?_
      rotate_left
      · (intro wS; go_simp; try with_reducible rfl)
      (try simp only [Act.put, List.getElem_toArray, List.getElem_cons_succ, List.getElem_cons_zero, List.setIfInBounds_toArray, List.set_cons_zero, List.set_cons_succ])
      refine wpAny_ready (rs := [6]) (by kernel_rfl) (by simp) ?_
      refine AllReady.cons rfl (fun K hK => ?_) ?_
      · rw [if_pos (by rfl)]
        refine Lib.wp_append_run _ _ _ _ _ rfl _ _ rfl rfl _ _ ap1 (hK _ _ ?_)
        clear hK K
        (try simp only [Act.put, List.getElem_toArray, List.getElem_cons_succ, List.getElem_cons_zero, List.setIfInBounds_toArray, List.set_cons_zero, List.set_cons_succ])
        refine wpAny_ready (rs := [11]) (by kernel_rfl) (by simp) ?_
        refine AllReady.cons rfl (fun K hK => ?_) ?_
        · rw [if_pos (by rfl)]
          refine Lib.wp_append_run _ _ _ _ _ rfl _ _ rfl rfl _ _ ap2 (hK _ _ ?_)
          clear hK K
          (try simp only [Act.put, List.getElem_toArray, List.getElem_cons_succ, List.getElem_cons_zero, List.setIfInBounds_toArray, List.set_cons_zero, List.set_cons_succ])
          refine wpAny_take (i := 12) (v := ?_) rfl (by kernel_rfl) (by kernel_rfl) (by kernel_rfl) (fun _ _ _ h => h) (Or.inl ⟨by rfl, ?_⟩) ?_
          rotate_left
          · (intro wS; go_simp; try with_reducible rfl)
          (try simp only [Act.put, List.getElem_toArray, List.getElem_cons_succ, List.getElem_cons_zero, List.setIfInBounds_toArray, List.set_cons_zero, List.set_cons_succ])
          refine wpAny_ready (rs := [13]) (by kernel_rfl) (by simp) ?_
          refine AllReady.cons rfl (fun K hK => ?_) ?_
          · rw [if_pos (by rfl)]
            go_simp
            refine hK _ _ ?_
            clear hK K
            (try simp only [Act.put, List.getElem_toArray, List.getElem_cons_succ, List.getElem_cons_zero, List.setIfInBounds_toArray, List.set_cons_zero, List.set_cons_succ])
            refine wpAny_done (by kernel_rfl) ?_ _
            obtain ⟨u0, u1⟩ := cell2 (H6.out.cell 0 rfl)
            obtain ⟨v0, v1⟩ := cell2 (H6.out.cell 1 rfl)
            have vf := H6.out.fz 1 rfl
            have H7 := Lib.hid ((H6.out.set 1 rfl 0 (.slice ao2 N.length cap2)).set 1 rfl 1 (.int .i64 m))
            obtain ⟨z0, z1⟩ := cell2 (H7.out.cell 1 rfl)
            have SL4 := Lib.hid ((SL3.out.set H6.out 1 rfl (by simp) 0 (.slice ao2 N.length cap2)).set (H6.out.set 1 rfl 0 (.slice ao2 N.length cap2)) 1 rfl (by simp) 1 (.int .i64 m))
            go_wp2
            refine bodyPost_ret (v := .agg #[.slice ao2 N.length cap2, .int .i64 m]) (by simp [results, Try.results80, go_sem, z0, z1]) rfl ⟨ao2, cap2, rfl, SL4.out, H7.out.bl⟩
          exact AllReady.nil
        exact AllReady.nil
      exact AllReady.nil
    exact AllReady.nil
  refine AllReady.cons rfl (fun K hK => ?_) ?_
  · rw [if_pos (by rfl)]
    obtain ⟨x0, x1⟩ := F3.out
    go_simp
    clear x0 x1
    refine hK _ _ ?_
    clear hK K
    (try simp only [Act.put, List.getElem_toArray, List.getElem_cons_succ, List.getElem_cons_zero, List.setIfInBounds_toArray, List.set_cons_zero, List.set_cons_succ])
    refine wpAny_take (i := 10) (v := ?_) rfl (by kernel_rfl) (by kernel_rfl) (by kernel_rfl) (fun _ _ _ h => h) (Or.inl ⟨by rfl, ?_⟩) ?_
    rotate_left
    · (intro wS; go_simp; try with_reducible rfl)
    (try simp only [Act.put, List.getElem_toArray, List.getElem_cons_succ, List.getElem_cons_zero, List.setIfInBounds_toArray, List.set_cons_zero, List.set_cons_succ])
    refine wpAny_ready (rs := [1]) (by kernel_rfl) (by simp) ?_
    refine AllReady.cons rfl (fun K hK => ?_) ?_
    · rw [if_pos (by rfl)]
      obtain ⟨x0, x1⟩ := F3.out
      go_simp
      clear x0 x1
      refine hK _ _ ?_
      clear hK K
      (try simp only [Act.put, List.getElem_toArray, List.getElem_cons_succ, List.getElem_cons_zero, List.setIfInBounds_toArray, List.set_cons_zero, List.set_cons_succ])
      refine wpAny_take (i := 4) (v := ?_) rfl (by kernel_rfl) (by kernel_rfl) (by kernel_rfl) (fun _ _ _ h => h) (Or.inl ⟨by rfl, ?_⟩) ?_
      rotate_left
      · (intro wS; go_simp; try with_reducible rfl)
      (try simp only [Act.put, List.getElem_toArray, List.getElem_cons_succ, List.getElem_cons_zero, List.setIfInBounds_toArray, List.set_cons_zero, List.set_cons_succ])
      refine wpAny_ready (rs := [6]) (by kernel_rfl) (by simp) ?_
      refine AllReady.cons rfl (fun K hK => ?_) ?_
      · rw [if_pos (by rfl)]
        refine Lib.wp_append_run _ _ _ _ _ rfl _ _ rfl rfl _ _ ap1 (hK _ _ ?_)
        clear hK K
        (try simp only [Act.put, List.getElem_toArray, List.getElem_cons_succ, List.getElem_cons_zero, List.setIfInBounds_toArray, List.set_cons_zero, List.set_cons_succ])
        refine wpAny_ready (rs := [11]) (by kernel_rfl) (by simp) ?_
        refine AllReady.cons rfl (fun K hK => ?_) ?_
        · rw [if_pos (by rfl)]
          refine Lib.wp_append_run _ _ _ _ _ rfl _ _ rfl rfl _ _ ap2 (hK _ _ ?_)
          clear hK K
          (try simp only [Act.put, List.getElem_toArray, List.getElem_cons_succ, List.getElem_cons_zero, List.setIfInBounds_toArray, List.set_cons_zero, List.set_cons_succ])
          refine wpAny_take (i := 12) (v := ?_) rfl (by kernel_rfl) (by kernel_rfl) (by kernel_rfl) (fun _ _ _ h => h) (Or.inl ⟨by rfl, ?_⟩) ?_
          rotate_left
          · (intro wS; go_simp; try with_reducible rfl)
          (try simp only [Act.put, List.getElem_toArray, List.getElem_cons_succ, List.getElem_cons_zero, List.setIfInBounds_toArray, List.set_cons_zero, List.set_cons_succ])
          refine wpAny_ready (rs := [13]) (by kernel_rfl) (by simp) ?_
          refine AllReady.cons rfl (fun K hK => ?_) ?_
          · rw [if_pos (by rfl)]
            go_simp
            refine hK _ _ ?_
            clear hK K
            (try simp only [Act.put, List.getElem_toArray, List.getElem_cons_succ, List.getElem_cons_zero, List.setIfInBounds_toArray, List.set_cons_zero, List.set_cons_succ])
            refine wpAny_done (by kernel_rfl) ?_ _
            obtain ⟨u0, u1⟩ := cell2 (H6.out.cell 0 rfl)
            obtain ⟨v0, v1⟩ := cell2 (H6.out.cell 1 rfl)
            have vf := H6.out.fz 1 rfl
            have H7 := Lib.hid ((H6.out.set 1 rfl 0 (.slice ao2 N.length cap2)).set 1 rfl 1 (.int .i64 m))
            obtain ⟨z0, z1⟩ := cell2 (H7.out.cell 1 rfl)
            have SL4 := Lib.hid ((SL3.out.set H6.out 1 rfl (by simp) 0 (.slice ao2 N.length cap2)).set (H6.out.set 1 rfl 0 (.slice ao2 N.length cap2)) 1 rfl (by simp) 1 (.int .i64 m))
            go_wp2
            refine bodyPost_ret (v := .agg #[.slice ao2 N.length cap2, .int .i64 m]) (by simp [results, Try.results80, go_sem, z0, z1]) rfl ⟨ao2, cap2, rfl, SL4.out, H7.out.bl⟩
          exact AllReady.nil
        exact AllReady.nil
      exact AllReady.nil
    exact AllReady.nil
  exact AllReady.nil
/-- a table as it was told -/
def Told (v : Value) (t : Tb) (w : World) : Prop := ∃ ao cap, v = tv ao t.rows.length cap t.mode ∧ Sl (.slice ao t.rows.length cap) t.rows w ao cap
theorem told_zero (w : World) : Told (tv none 0 0 0) tb0 w := ⟨none, 0, rfl, rfl, Nat.le_refl _, fun _ => rfl, Ge.seen_nil _ _⟩
def admR (t : Tb) (x : Rw) : Tb × Int := match at_ t.rows x.t.id with
  | some _ => (tb0, 14)
  | none => if 16 ≤ t.rows.length then (tb0, 15) else (⟨ins x t.rows, t.mode⟩, 0)
def remR (t : Tb) (i : Int) : Tb × Int := match at_ t.rows i with
  | none => (tb0, 12)
  | some k => (⟨t.rows.take k ++ t.rows.drop (k + 1), t.mode⟩, 0)
def resR (t : Tb) (i c : Int) : Tb × Int := match at_ t.rows i with
  | none => (tb0, 12)
  | some k => match t.rows[k]? with
    | none => (tb0, 12)
    | some r => if r.t.d < c then (tb0, 1) else (⟨t.rows.take k ++ { r with t := { r.t with c := c } } :: t.rows.drop (k + 1), t.mode⟩, 0)
theorem seen_one (x : Rw) (w : World) : Seen Rw.cs 6 (some ⟨w.heap.size, 0, none⟩) [x] (w.alloc (.cells #[.int .i64 x.t.id, .int .i64 x.t.c, .int .i64 x.t.d, .int .i64 x.t.t, .int .i64 x.t.m, .bool x.s] 57)) := fun _ => ⟨w.heap.size, 0, rfl, by simp, fun i y hi j u hj => by
  match i, hi with
  | 0, hi =>
    obtain rfl : x = y := by simpa using hi
    rw [Nat.zero_mul, Nat.zero_add, Lib.cell_of_heap (heap_alloc_new _ _), ← hj]
    simp [Rw.cs]
  | i + 1, hi => simp at hi⟩
/-- the boxes of a table that came, of a row, and of what is told -/
theorem tb3_new (w : World) (a : Value) (m : Int) (cs : Array Value) : Bos [(w.heap.size + 2, #[.slice none 0 0, .int .i64 0], 24), (w.heap.size + 1, cs, 57), (w.heap.size, #[a, .int .i64 m], 24)] w (((w.alloc (.cells #[a, .int .i64 m] 24)).alloc (.cells cs 57)).alloc (.cells #[.slice none 0 0, .int .i64 0] 24)) := by
  have := (((bos_nil w).new #[a, .int .i64 m] 24).new cs 57).new #[.slice none 0 0, .int .i64 0] 24
  simp only [World.size_alloc] at this
  exact this
set_option maxHeartbeats 4000000 in
theorem admit_any (t : Tb) (x : Rw) (ao : Option Addr) (cap : Nat) (w : World) (hS : Seen Rw.cs 6 ao t.rows w) (hc : chkT t = true) :
    Calls Try.prog 60 #[tv ao t.rows.length cap t.mode, x.v] w fun e w' => ∃ v, e = .returned (.tuple #[v, .int .i64 (admR t x).2]) ∧ Told v (admR t x).1 w' ∧ Below w.heap.size w w' := by
  obtain ⟨l, m⟩ := t
  simp only at *
  obtain ⟨-, hr, hl, -, -⟩ := chkT_iff.1 hc
  simp only at hr hl
  have PL : Hid (∀ W, Below w.heap.size w W → Calls Try.prog 63 #[tv ao l.length cap m, .int .i64 x.t.id] W fun e w' => ∃ k : Nat, e = .returned (.tuple #[.int .i64 (k : Int), .bool (there l x.t.id k)]) ∧ Pl l x.t.id k ∧ Below W.heap.size W w') := Lib.hid (fun W hb => place_any (hS.below hb (Nat.le_refl _)) hr (by omega))
  have WI : Hid (∀ (k : Nat) W ra, Below w.heap.size w W → k ≤ l.length → Seen Rw.cs 6 (some ra) [x] W → Calls Try.prog 80 #[tv ao l.length cap m, .int .i64 (k : Int), .int .i64 (k : Int), .slice (some ra) 1 1] W fun e w' => ∃ ao' cap', e = .returned (tv ao' (l.take k ++ [x] ++ l.drop k).length cap' m) ∧ Sl (.slice ao' (l.take k ++ [x] ++ l.drop k).length cap') (l.take k ++ [x] ++ l.drop k) w' ao' cap' ∧ Below W.heap.size W w') := Lib.hid (fun k W ra hb hk hs => with_any l [x] ao (some ra) cap 1 m k k W (hS.below hb (Nat.le_refl _)) (by omega) hk hk hs (by simp) (by simp))
  have ONE := Lib.hid (seen_one x)
  have A1 : Hid (∀ k, Pl l x.t.id k → there l x.t.id k = true → admR ⟨l, m⟩ x = (tb0, 14)) := Lib.hid (fun k h1 h2 => by unfold admR; rw [(pl_there h1 h2).1])
  have A2 : Hid (∀ k, Pl l x.t.id k → there l x.t.id k = false → l.length = 16 → admR ⟨l, m⟩ x = (tb0, 15)) := Lib.hid (fun k h1 h2 h3 => by unfold admR; rw [(pl_not hr h1 h2).1]; simp only; rw [if_pos (by omega)])
  have A3 : Hid (∀ k, Pl l x.t.id k → there l x.t.id k = false → l.length ≠ 16 → admR ⟨l, m⟩ x = (⟨l.take k ++ [x] ++ l.drop k, m⟩, 0)) := Lib.hid (fun k h1 h2 h3 => by
    unfold admR; rw [(pl_not hr h1 h2).1]; simp only; rw [if_neg (by omega), pl_ins h1 (pl_not hr h1 h2).2, List.append_assoc]; rfl)
  generalize admR ⟨l, m⟩ x = R at *
  obtain ⟨R1, R2⟩ := R
  simp only [Prod.mk.injEq] at A1 A2 A3 ⊢
  have H0 := Lib.hid (tb3_new w (.slice ao l.length cap) m #[.int .i64 x.t.id, .int .i64 x.t.c, .int .i64 x.t.d, .int .i64 x.t.t, .int .i64 x.t.m, .bool x.s])
  obtain ⟨⟨xi, xc, xd, xt, xm⟩, xs⟩ := x
  unfold tv Rw.v at *
  simp only at *
  have hl16 : (l.length : Int) ≤ 16 := by omega
  clear hS hc hr
  have t0 := cell2 (H0.out.cell 2 rfl)
  have r0 := cell6 (H0.out.cell 1 rfl)
  obtain ⟨t0, t1⟩ := t0
  obtain ⟨r0, r1, r2, r3, r4, r5⟩ := r0
  go_enter Try.func60, Try.ntmps60
  go_wp2_with fail
  (with_reducible refine (PL.out _ H0.out.bl).mono ?_)
  rintro e w1 ⟨k, rfl, hp, b1⟩
  have H1 := Lib.hid (H0.out.call b1)
  have HP := Lib.hid hp
  clear b1 PL H0 t0 t1 r0 r1 r2 r3 r4 r5 hp
  obtain ⟨t0, t1⟩ := cell2 (H1.out.cell 2 rfl)
  obtain ⟨r0, r1, r2, r3, r4, r5⟩ := cell6 (H1.out.cell 1 rfl)
  obtain ⟨z0, z1⟩ := cell2 (H1.out.cell 0 rfl)
  have zf := H1.out.fz 0 rfl
  cases hth : there l xi k
  case true =>
    obtain ⟨rfl, rfl⟩ := A1.out k HP.out hth
    have HF := Lib.hid ((H1.out.set 0 rfl 0 (.slice none 0 0)).set 0 rfl 1 (.int .i64 0))
    obtain ⟨q0, q1⟩ := cell2 (HF.out.cell 0 rfl)
    clear A1 A2 A3 WI ONE hth
    go_wp2
    refine bodyPost_ret (v := .tuple #[.agg #[.slice none 0 0, .int .i64 0], .int .i64 14]) (by simp [results, Try.results60, go_sem, q0, q1]) rfl ⟨_, rfl, told_zero _, HF.out.bl⟩
  case false =>
    by_cases h16 : l.length = 16
    · obtain ⟨rfl, rfl⟩ := A2.out k HP.out hth h16
      have HF := Lib.hid ((H1.out.set 0 rfl 0 (.slice none 0 0)).set 0 rfl 1 (.int .i64 0))
      obtain ⟨q0, q1⟩ := cell2 (HF.out.cell 0 rfl)
      have h16' : ((l.length : Int) == 16) = true := by rw [h16]; rfl
      clear A1 A2 A3 WI ONE hth
      go_wp2
      refine bodyPost_ret (v := .tuple #[.agg #[.slice none 0 0, .int .i64 0], .int .i64 15]) (by simp [results, Try.results60, go_sem, q0, q1]) rfl ⟨_, rfl, told_zero _, HF.out.bl⟩
    · obtain ⟨rfl, rfl⟩ := A3.out k HP.out hth h16
      have h16' : ((l.length : Int) == 16) = false := by simp; omega
      have on := ONE.out w1
      have bn : Below w1.heap.size w1 (w1.alloc (.cells #[.int .i64 xi, .int .i64 xc, .int .i64 xd, .int .i64 xt, .int .i64 xm, .bool xs] 57)) := (Below.refl _ _).alloc (Nat.le_refl _) _
      have H2 := Lib.hid (H1.out.call bn)
      have WC := Lib.hid (WI.out k _ _ H2.out.bl HP.out.1 on)
      clear A1 A2 A3 WI ONE hth on bn h16
      go_wp2_with fail
      (with_reducible refine WC.out.mono ?_)
      rintro e w2 ⟨ao', cap', rfl, sl, b2⟩
      have H3 := Lib.hid (H2.out.call b2)
      have SL := Lib.hid sl
      clear b2 sl WC t0 t1 r0 r1 r2 r3 r4 r5 z0 z1 zf
      generalize hn : (l.take k ++ [(⟨⟨xi, xc, xd, xt, xm⟩, xs⟩ : Rw)] ++ l.drop k) = N at *
      obtain ⟨z0, z1⟩ := cell2 (H3.out.cell 0 rfl)
      have zf := H3.out.fz 0 rfl
      have HF := Lib.hid ((H3.out.set 0 rfl 0 (.slice ao' N.length cap')).set 0 rfl 1 (.int .i64 m))
      have SF := Lib.hid ((SL.out.set H3.out 0 rfl (by simp) 0 (.slice ao' N.length cap')).set (H3.out.set 0 rfl 0 (.slice ao' N.length cap')) 0 rfl (by simp) 1 (.int .i64 m))
      obtain ⟨q0, q1⟩ := cell2 (HF.out.cell 0 rfl)
      go_wp2
      refine bodyPost_ret (v := .tuple #[.agg #[.slice ao' N.length cap', .int .i64 m], .int .i64 0]) (by simp [results, Try.results60, go_sem, q0, q1]) rfl (by subst hn; exact ⟨_, rfl, ⟨ao', cap', rfl, SF.out⟩, HF.out.bl⟩)
set_option maxHeartbeats 4000000 in
theorem remove_any (t : Tb) (i : Int) (ao : Option Addr) (cap : Nat) (w : World) (hS : Seen Rw.cs 6 ao t.rows w) (hc : chkT t = true) :
    Calls Try.prog 61 #[tv ao t.rows.length cap t.mode, .int .i64 i] w fun e w' => ∃ v, e = .returned (.tuple #[v, .int .i64 (remR t i).2]) ∧ Told v (remR t i).1 w' ∧ Below w.heap.size w w' := by
  obtain ⟨l, m⟩ := t
  simp only at *
  obtain ⟨-, hr, hl, -, -⟩ := chkT_iff.1 hc
  simp only at hr hl
  have PL : Hid (∀ W, Below w.heap.size w W → Calls Try.prog 63 #[tv ao l.length cap m, .int .i64 i] W fun e w' => ∃ k : Nat, e = .returned (.tuple #[.int .i64 (k : Int), .bool (there l i k)]) ∧ Pl l i k ∧ Below W.heap.size W w') := Lib.hid (fun W hb => place_any (hS.below hb (Nat.le_refl _)) hr (by omega))
  have WI : Hid (∀ (k j : Nat) W, Below w.heap.size w W → k ≤ l.length → j ≤ l.length → Calls Try.prog 80 #[tv ao l.length cap m, .int .i64 (k : Int), .int .i64 (j : Int), .slice none 0 0] W fun e w' => ∃ ao' cap', e = .returned (tv ao' (l.take k ++ [] ++ l.drop j).length cap' m) ∧ Sl (.slice ao' (l.take k ++ [] ++ l.drop j).length cap') (l.take k ++ [] ++ l.drop j) w' ao' cap' ∧ Below W.heap.size W w') := Lib.hid (fun k j W hb hk hj => with_any l [] ao none cap 0 m k j W (hS.below hb (Nat.le_refl _)) (by omega) hk hj (Ge.seen_nil _ _) (by simp) (by simp))
  have A1 : Hid (∀ k, Pl l i k → there l i k = false → remR ⟨l, m⟩ i = (tb0, 12)) := Lib.hid (fun k h1 h2 => by unfold remR; rw [(pl_not hr h1 h2).1])
  have A3 : Hid (∀ k, Pl l i k → there l i k = true → remR ⟨l, m⟩ i = (⟨l.take k ++ [] ++ l.drop (k + 1), m⟩, 0)) := Lib.hid (fun k h1 h2 => by
    unfold remR; rw [(pl_there h1 h2).1]; simp only [List.append_nil])
  have KL : Hid (∀ k, Pl l i k → there l i k = true → k < l.length) := Lib.hid (fun k h1 h2 => by
    obtain ⟨-, r, hr, -⟩ := pl_there h1 h2
    exact (List.getElem?_eq_some_iff.1 hr).1)
  generalize remR ⟨l, m⟩ i = R at *
  obtain ⟨R1, R2⟩ := R
  simp only [Prod.mk.injEq] at A1 A3 ⊢
  have H0 := Lib.hid (tb_new w (.slice ao l.length cap) m)
  unfold tv at *
  have hl16 : (l.length : Int) ≤ 16 := by omega
  clear hS hc hr
  obtain ⟨t0, t1⟩ := cell2 (H0.out.cell 1 rfl)
  go_enter Try.func61, Try.ntmps61
  go_wp2_with fail
  (with_reducible refine (PL.out _ H0.out.bl).mono ?_)
  rintro e w1 ⟨k, rfl, hp, b1⟩
  have H1 := Lib.hid (H0.out.call b1)
  have HP := Lib.hid hp
  clear b1 PL H0 t0 t1 hp
  obtain ⟨t0, t1⟩ := cell2 (H1.out.cell 1 rfl)
  obtain ⟨z0, z1⟩ := cell2 (H1.out.cell 0 rfl)
  have zf := H1.out.fz 0 rfl
  cases hth : there l i k
  case false =>
    obtain ⟨rfl, rfl⟩ := A1.out k HP.out hth
    have HF := Lib.hid ((H1.out.set 0 rfl 0 (.slice none 0 0)).set 0 rfl 1 (.int .i64 0))
    obtain ⟨q0, q1⟩ := cell2 (HF.out.cell 0 rfl)
    clear A1 A3 WI hth
    go_wp2
    refine bodyPost_ret (v := .tuple #[.agg #[.slice none 0 0, .int .i64 0], .int .i64 12]) (by simp [results, Try.results61, go_sem, q0, q1]) rfl ⟨_, rfl, told_zero _, HF.out.bl⟩
  case true =>
    obtain ⟨rfl, rfl⟩ := A3.out k HP.out hth
    have hkl := KL.out k HP.out hth
    have WC := Lib.hid (WI.out k (k + 1) _ H1.out.bl HP.out.1 hkl)
    have ek : IntKind.i64.wrap ((k : Int) + 1) = (k : Int) + 1 := IntWalk.i64_in _ (by omega)
    have ec : ((k + 1 : Nat) : Int) = (k : Int) + 1 := by omega
    rw [ec] at WC
    clear A1 A3 WI hth KL
    go_wp2_with fail
    (with_reducible refine WC.out.mono ?_)
    rintro e w2 ⟨ao', cap', rfl, sl, b2⟩
    have H3 := Lib.hid (H1.out.call b2)
    have SL := Lib.hid sl
    clear b2 sl WC t0 t1 z0 z1 zf
    generalize hn : (l.take k ++ [] ++ l.drop (k + 1)) = N at *
    obtain ⟨z0, z1⟩ := cell2 (H3.out.cell 0 rfl)
    have zf := H3.out.fz 0 rfl
    have HF := Lib.hid ((H3.out.set 0 rfl 0 (.slice ao' N.length cap')).set 0 rfl 1 (.int .i64 m))
    have SF := Lib.hid ((SL.out.set H3.out 0 rfl (by simp) 0 (.slice ao' N.length cap')).set (H3.out.set 0 rfl 0 (.slice ao' N.length cap')) 0 rfl (by simp) 1 (.int .i64 m))
    obtain ⟨q0, q1⟩ := cell2 (HF.out.cell 0 rfl)
    go_wp2
    refine bodyPost_ret (v := .tuple #[.agg #[.slice ao' N.length cap', .int .i64 m], .int .i64 0]) (by simp [results, Try.results61, go_sem, q0, q1]) rfl (by subst hn; exact ⟨_, rfl, ⟨ao', cap', rfl, SF.out⟩, HF.out.bl⟩)
set_option maxHeartbeats 4000000 in
theorem resize_any (t : Tb) (i c : Int) (ao : Option Addr) (cap : Nat) (w : World) (hS : Seen Rw.cs 6 ao t.rows w) (hc : chkT t = true) :
    Calls Try.prog 62 #[tv ao t.rows.length cap t.mode, .int .i64 i, .int .i64 c] w fun e w' => ∃ v, e = .returned (.tuple #[v, .int .i64 (resR t i c).2]) ∧ Told v (resR t i c).1 w' ∧ Below w.heap.size w w' := by
  obtain ⟨l, m⟩ := t
  simp only at *
  obtain ⟨-, hr, hl, -, -⟩ := chkT_iff.1 hc
  simp only at hr hl
  have S := Lib.hid hS
  have PL : Hid (∀ W, Below w.heap.size w W → Calls Try.prog 63 #[tv ao l.length cap m, .int .i64 i] W fun e w' => ∃ k : Nat, e = .returned (.tuple #[.int .i64 (k : Int), .bool (there l i k)]) ∧ Pl l i k ∧ Below W.heap.size W w') := Lib.hid (fun W hb => place_any (hS.below hb (Nat.le_refl _)) hr (by omega))
  have WI : Hid (∀ (x : Rw) (k j : Nat) W ra, Below w.heap.size w W → k ≤ l.length → j ≤ l.length → Seen Rw.cs 6 (some ra) [x] W → Calls Try.prog 80 #[tv ao l.length cap m, .int .i64 (k : Int), .int .i64 (j : Int), .slice (some ra) 1 1] W fun e w' => ∃ ao' cap', e = .returned (tv ao' (l.take k ++ [x] ++ l.drop j).length cap' m) ∧ Sl (.slice ao' (l.take k ++ [x] ++ l.drop j).length cap') (l.take k ++ [x] ++ l.drop j) w' ao' cap' ∧ Below W.heap.size W w') := Lib.hid (fun x k j W ra hb hk hj hs => with_any l [x] ao (some ra) cap 1 m k j W (hS.below hb (Nat.le_refl _)) (by omega) hk hj hs (by simp) (by simp))
  have ONE := Lib.hid (seen_one)
  have A1 : Hid (∀ k, Pl l i k → there l i k = false → resR ⟨l, m⟩ i c = (tb0, 12)) := Lib.hid (fun k h1 h2 => by unfold resR; rw [(pl_not hr h1 h2).1])
  have A3 : Hid (∀ k, Pl l i k → there l i k = true → ∃ r, l[k]? = some r ∧ (r.t.d < c → resR ⟨l, m⟩ i c = (tb0, 1)) ∧ (r.t.d ≥ c → resR ⟨l, m⟩ i c = (⟨l.take k ++ [⟨⟨r.t.id, c, r.t.d, r.t.t, r.t.m⟩, r.s⟩] ++ l.drop (k + 1), m⟩, 0))) := Lib.hid (fun k h1 h2 => by
    obtain ⟨ha, r, hr, -⟩ := pl_there h1 h2
    refine ⟨r, hr, fun h3 => ?_, fun h3 => ?_⟩
    · unfold resR; simp only; rw [ha]; simp only; rw [hr]; simp only; rw [if_pos h3]
    · unfold resR; simp only; rw [ha]; simp only; rw [hr]; simp only; rw [if_neg (by omega), List.append_assoc]; rfl)
  generalize resR ⟨l, m⟩ i c = R at *
  obtain ⟨R1, R2⟩ := R
  simp only [Prod.mk.injEq] at A1 A3 ⊢
  have H0 := Lib.hid (tb_new w (.slice ao l.length cap) m)
  unfold tv at *
  have hl16 : (l.length : Int) ≤ 16 := by omega
  clear hS hc hr
  obtain ⟨t0, t1⟩ := cell2 (H0.out.cell 1 rfl)
  go_enter Try.func62, Try.ntmps62
  go_wp2_with fail
  (with_reducible refine (PL.out _ H0.out.bl).mono ?_)
  rintro e w1 ⟨k, rfl, hp, b1⟩
  have H1 := Lib.hid (H0.out.call b1)
  have HP := Lib.hid hp
  clear b1 PL H0 t0 t1 hp
  obtain ⟨t0, t1⟩ := cell2 (H1.out.cell 1 rfl)
  obtain ⟨z0, z1⟩ := cell2 (H1.out.cell 0 rfl)
  have zf := H1.out.fz 0 rfl
  cases hth : there l i k
  case false =>
    obtain ⟨rfl, rfl⟩ := A1.out k HP.out hth
    have HF := Lib.hid ((H1.out.set 0 rfl 0 (.slice none 0 0)).set 0 rfl 1 (.int .i64 0))
    obtain ⟨q0, q1⟩ := cell2 (HF.out.cell 0 rfl)
    clear A1 A3 WI hth S
    go_wp2
    refine bodyPost_ret (v := .tuple #[.agg #[.slice none 0 0, .int .i64 0], .int .i64 12]) (by simp [results, Try.results62, go_sem, q0, q1]) rfl ⟨_, rfl, told_zero _, HF.out.bl⟩
  case true =>
    obtain ⟨r, hrk, B1, B2⟩ := A3.out k HP.out hth
    have hkl := (List.getElem?_eq_some_iff.1 hrk).1
    have hk' : (k : Int) < (l.length : Int) := by omega
    have hk2 : IntKind.i64.wrap (k : Int) = (k : Int) := IntWalk.i64_in _ (by omega)
    obtain ⟨b, off, rfl, hb, hat⟩ := S.out.below H1.out.bl (Nat.le_refl _) (by omega)
    obtain ⟨r0, r1, r2, r3, r4, r5⟩ := row_cells hat hrk
    obtain ⟨⟨xi, xc, xd, xt, xm⟩, xs⟩ := r
    simp only at *
    have H2 := Lib.hid (H1.out.new #[.int .i64 xi, .int .i64 xc, .int .i64 xd, .int .i64 xt, .int .i64 xm, .bool xs] 57)
    clear z0 z1 zf t0 t1
    obtain ⟨s0, s1⟩ := cell2 (H1.out.cell 1 rfl)
    obtain ⟨t0, t1⟩ := cell2 (H2.out.cell 2 rfl)
    obtain ⟨z0, z1⟩ := cell2 (H2.out.cell 1 rfl)
    have zf := H2.out.fz 1 rfl
    by_cases hcd : xd < c
    · obtain ⟨rfl, rfl⟩ := B1 hcd
      have HF := Lib.hid ((H2.out.set 1 rfl 0 (.slice none 0 0)).set 1 rfl 1 (.int .i64 0))
      obtain ⟨q0, q1⟩ := cell2 (HF.out.cell 1 rfl)
      clear A1 A3 WI hth S B1 B2 hat hrk ONE
      go_wp2
      refine bodyPost_ret (v := .tuple #[.agg #[.slice none 0 0, .int .i64 0], .int .i64 1]) (by simp [results, Try.results62, go_sem, q0, q1]) rfl ⟨_, rfl, told_zero _, HF.out.bl⟩
    · obtain ⟨rfl, rfl⟩ := B2 (by omega)
      have hcd' : c ≤ xd := by omega
      have H3 := Lib.hid (H1.out.new #[.int .i64 xi, .int .i64 c, .int .i64 xd, .int .i64 xt, .int .i64 xm, .bool xs] 57)
      have on := ONE.out (⟨⟨xi, c, xd, xt, xm⟩, xs⟩ : Rw) (w1.alloc (.cells #[.int .i64 xi, .int .i64 c, .int .i64 xd, .int .i64 xt, .int .i64 xm, .bool xs] 57))
      simp only at on
      rw [World.size_alloc] at on
      have H4 := Lib.hid (H3.out.new #[.int .i64 xi, .int .i64 c, .int .i64 xd, .int .i64 xt, .int .i64 xm, .bool xs] 57)
      have ek : IntKind.i64.wrap ((k : Int) + 1) = (k : Int) + 1 := IntWalk.i64_in _ (by omega)
      have ec : ((k + 1 : Nat) : Int) = (k : Int) + 1 := by omega
      have WC := Lib.hid (WI.out (⟨⟨xi, c, xd, xt, xm⟩, xs⟩ : Rw) k (k + 1) _ _ H4.out.bl HP.out.1 hkl on)
      rw [ec] at WC
      clear A1 A3 WI hth S B1 B2 hat hrk ONE t0 t1 z0 z1 zf on
      have hr0 := cell6 (H2.out.cell 0 rfl)
      obtain ⟨a0, a1, a2, a3, a4, a5⟩ := hr0
      have af := H2.out.fz 0 rfl
      obtain ⟨u0, u1⟩ := cell2 (H3.out.cell 2 rfl)
      obtain ⟨y0, y1, y2, y3, y4, y5⟩ := cell6 (H3.out.cell 0 rfl)
      go_wp2_with fail
      (with_reducible refine WC.out.mono ?_)
      rintro e w2 ⟨ao', cap', rfl, sl, b2⟩
      have H5 := Lib.hid (H4.out.call b2)
      have SL := Lib.hid sl
      clear b2 sl WC u0 u1 y0 y1 y2 y3 y4 y5 a0 a1 a2 a3 a4 a5 af
      generalize hn : (l.take k ++ [(⟨⟨xi, c, xd, xt, xm⟩, xs⟩ : Rw)] ++ l.drop (k + 1)) = N at *
      obtain ⟨z0, z1⟩ := cell2 (H5.out.cell 2 rfl)
      have zf := H5.out.fz 2 rfl
      have HF := Lib.hid ((H5.out.set 2 rfl 0 (.slice ao' N.length cap')).set 2 rfl 1 (.int .i64 m))
      have SF := Lib.hid ((SL.out.set H5.out 2 rfl (by simp) 0 (.slice ao' N.length cap')).set (H5.out.set 2 rfl 0 (.slice ao' N.length cap')) 2 rfl (by simp) 1 (.int .i64 m))
      obtain ⟨q0, q1⟩ := cell2 (HF.out.cell 2 rfl)
      go_wp2
      refine bodyPost_ret (v := .tuple #[.agg #[.slice ao' N.length cap', .int .i64 m], .int .i64 0]) (by simp [results, Try.results62, go_sem, q0, q1]) rfl (by subst hn; exact ⟨_, rfl, ⟨ao', cap', rfl, SF.out⟩, HF.out.bl⟩)
end Go.Proofs.Ytnaanahgflbihaa.Tb
