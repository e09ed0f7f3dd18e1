/- Contract of the document's New. -/
import Derived.Test.YtgjndfkjakbdiaaDrC
namespace Go.Proofs.Ytgjndfkjakbdiaa.Dk
open Go.ChangeShapes Go.WideShapes Go.ChangeAt Go.RowKit Go.Joins
set_option linter.unusedVariables false
set_option linter.unusedSimpArgs false
theorem infoStr : (Try.prog.info? 9).map (fun i => (i.zero, i.size, i.bytes)) = some (some (.string ⟨#[]⟩), 1, 16) := by kernel_rfl
/-- a sector more -/
theorem RkAt.more {B b : Nat} {vS : Value} {i : Nat} {w w1 w2 : World} {k cap : Nat} (h : RkAt B b vS (.slice none 0 0) (newR i) w) (h1 : RkAt B b vS (.slice none 0 0) (newR i) w1) (m1 : Moved b w w1) (hi : i + 1 ≤ 1024)
    (hown : w2.ownsRow B 9 1 (.slice (some ⟨k, 0, none⟩) (i + 1) cap) (i + 1) (secV (newR i).sec ++ [.string (mkB (List.replicate 64 0))])) (hg : w1.grownBy w2 vS.ownBlock) (hn : vS.ownBlock = some k ∨ w.heap.size ≤ k) :
    RkAt B b (.slice (some ⟨k, 0, none⟩) (i + 1) cap) (.slice none 0 0) (newR (i + 1)) (w2.setCell ⟨b, 0, none⟩ (.slice (some ⟨k, 0, none⟩) (i + 1) cap)) ∧ Moved b w (w2.setCell ⟨b, 0, none⟩ (.slice (some ⟨k, 0, none⟩) (i + 1) cap)) := by
  have nb : vS.ownBlock ≠ some b := fun e => h1.nS e rfl
  have eb : w2.heap[b]? = w1.heap[b]? := hg.block b h1.lt (fun e => nb e.symm)
  have b2 := eb.trans h1.blk
  have kb : k ≠ b := by
    obtain ⟨cur, hcur⟩ := own_block hown (k := k) rfl
    exact blk_ne hcur b2 (by decide)
  constructor
  · refine ⟨newR_ok hi, h.hb, ?_, ?_, World.ownsRow_nil _ _ _ _⟩
    · simp [World.setCell, Array.getElem?_modify, b2]
      exact ⟨rfl, rfl⟩
    · have := hown.kept (grown_set w2 b 0 (.slice (some ⟨k, 0, none⟩) (i + 1) cap)) (.inr (by simp [Value.ownBlock]; exact kb))
      have e1 : (newR (i + 1)).sec.length = i + 1 := by simp [newR]
      have e2 : secV (newR (i + 1)).sec = secV (newR i).sec ++ [.string (mkB (List.replicate 64 0))] := by
        unfold secV newR
        simp only [List.replicate_succ', List.map_append, List.map_cons, List.map_nil]
      rw [e1, e2]
      exact this
  · have m2 := m1.grown hg h1.lt nb (fun k hk => h1.owns.2 (.inr (.inl hk)))
    refine m2.set (x := vS) (by rw [Lib.cell_of_heap b2]; rfl) (fun k' hk' _ => ?_)
    simp [Value.ownBlock] at hk'
    subst hk'
    rcases hn with e | e
    · exact .inl (h.owns.2 (.inr (.inl e)))
    · exact .inr e
theorem build_str (T : ByteArray) (w : World) : (Instr.buildSlice 40 1 #[(0, .string T)]).run Try.prog w = .ok (.slice (some ⟨w.heap.size, 0, none⟩) 1 1) (w.alloc (.cells #[.string T] 9)) := by
  go_simp
def RnRel (B b : Nat) (n : Nat) (w : World) (m : Nat) (s4 : Value) (wx : World) : Prop := ∃ (i : Nat) (vS : Value), i + m = n ∧ s4 = .int .i64 (i : Int) ∧ RkAt B b vS (.slice none 0 0) (newR i) wx ∧ Below B w wx
set_option maxRecDepth 100000 in
set_option maxHeartbeats 4000000 in
theorem new_rf (n : Nat) (w : World) (hn : n ≤ 1024) :
    Calls Try.prog 11 #[.int .i64 (n : Int)] w fun e w' => e = .returned (ptr w.heap.size) ∧ Rk w.heap.size w.heap.size (newR n) w' ∧ Below w.heap.size w w' := by
  have R0 : Hid (RkAt w.heap.size w.heap.size (.slice none 0 0) (.slice none 0 0) (newR 0) (w.alloc (.cells #[.slice none 0 0, .slice none 0 0, .int .i64 0, .int .i64 0] 43))) := Lib.hid ⟨newR_ok (by omega), Nat.le_refl _, heap_alloc_new _ _, World.ownsRow_nil _ _ _ _, World.ownsRow_nil _ _ _ _⟩
  have B0 := Lib.hid ((Below.refl w.heap.size w).alloc (Nat.le_refl _) (.cells #[.slice none 0 0, .slice none 0 0, .int .i64 0, .int .i64 0] 43))
  go_enter Try.func11, Try.ntmps11
  go_wp2_with fail
  generalize w.alloc (.cells #[.slice none 0 0, .slice none 0 0, .int .i64 0, .int .i64 0] 43) = W0 at *
  go_loopg [4] n (RnRel w.heap.size w.heap.size n w)
  case atStart => exact ⟨0, _, by omega, rfl, R0.out, B0.out⟩
  case round =>
    clear R0 B0
    obtain ⟨i, vS, hi, rfl, hk, hb⟩ := hrel
    rcases Nat.lt_or_ge i n with hlt | hge
    · obtain ⟨M, hM⟩ : ∃ M, M = (Lib.byteCells (List.replicate 64 0)).toArray := ⟨_, rfl⟩
      have mk := make64 wr.drew
      rw [← hM] at mk
      have rM := rowB_new wr.drew (List.replicate 64 0) 5
      rw [← hM] at rM
      have cv := rM.text 0 64 64 (by simp)
      rw [List.drop_zero, List.take_of_length_le (by simp)] at cv
      obtain ⟨T, hT⟩ : ∃ T, T = mkB (List.replicate 64 0) := ⟨_, rfl⟩
      rw [← hT] at cv
      have k1 := hk.drew.alloc (.cells M 5)
      have k2 := k1.alloc (.cells #[.string T] 9)
      have a40 : ∀ (w' : World), w'.cell? ⟨w.heap.size, 0, none⟩ = some vS → (loadVar 40 ⟨w.heap.size, 0, none⟩).run Try.prog w' = .ok vS w' := by
        intro w' hc
        go_simp
      have cA := Lib.hid (a40 _ hk.drew.c0)
      have cB := Lib.hid (a40 _ k1.c0)
      have cC := Lib.hid (a40 _ k2.c0)
      clear a40
      obtain ⟨q, cap, w4, hap, hown, hgrow, hnew⟩ := append_one (P := Try.prog) ((wr.drew.alloc (.cells M 5)).alloc (.cells #[.string T] 9)) w.heap.size 40 40 9 _ 1 16 Try.underlying40 infoStr rfl (by omega) (by omega) vS i (secV (newR i).sec) (by have := k2.rowS; simpa [newR] using this) ⟨(wr.drew.alloc (.cells M 5)).heap.size, 0, none⟩ [.string T] rfl (fun j u hj => by
        rw [addr_add, Nat.zero_add, Lib.cell_of_heap (heap_alloc_new _ _)]; simpa using hj) (fun u hu => by simp at hu; rw [hu]; rfl) (by omega) k2.le
      have nb : vS.ownBlock ≠ some w.heap.size := fun e => k2.nS e rfl
      have b4 := (hgrow.block w.heap.size k2.lt (fun e => nb e.symm)).trans k2.blk
      have FN := hk.drew.more k2 (((Moved.refl w.heap.size wr.drew).alloc hk.drew.lt _).alloc k1.lt _) (by omega) (by rw [← hT]; exact hown) hgrow (hnew.imp id (fun e => by simp at e; show wr.heap.size ≤ q; omega))
      have FIN : Hid (∀ y : Int, y = ((i + 1 : Nat) : Int) → RnRel w.heap.size w.heap.size n w (gk - 1) (.int .i64 y) (w4.setCell ⟨w.heap.size, 0, none⟩ (.slice (some ⟨q, 0, none⟩) (i + 1) cap))) := Lib.hid (fun y hy => ⟨i + 1, _, by omega, by rw [hy], FN.1, hb.drew.trans (FN.2.below (fun k hkk => (hk.drew.ownLt hkk).1) hk.le)⟩)
      have d1 : w4.cell? ⟨w.heap.size, 0, none⟩ = some vS := by rw [Lib.cell_of_heap b4]; rfl
      have f1 : w4.frozen? ⟨w.heap.size, 0, none⟩ = false := Lib.frozen_of_heap b4 0
      have AP := Lib.hid hap
      have MK := Lib.hid mk
      have CV := Lib.hid cv
      have BS := Lib.hid (build_str T (wr.drew.alloc (.cells M 5)))
      have hg0 : 0 < gk := by omega
      have il : (i : Int) < (n : Int) := by omega
      clear FN hap hown hgrow hnew nb b4 k1 k2 hk hb mk cv rM hM hT hi
      generalize wr.drew.alloc (.cells M 5) = W1 at *
      generalize W1.alloc (.cells #[.string T] 9) = W2 at *
      generalize w.heap.size = bb at *
      go_wp2_with fail
      -- (the region, by drn.py)
      refine wp_region_any (by kernel_rfl) ?_
      (try (change wpAny _ _ _ _ _ _ _ (World.drew _)))
      refine wpAny_take (i := 0) (v := ?_) rfl (by kernel_rfl) (by kernel_rfl) (by kernel_rfl) (fun _ _ _ h => h) (Or.inl ⟨by rfl, ?_⟩) ?_
      rotate_left
      · (intro wS; go_simp; try with_reducible rfl)
      (try simp only [Act.put, List.getElem_toArray, List.getElem_cons_succ, List.getElem_cons_zero, List.setIfInBounds_toArray, List.set_cons_zero, List.set_cons_succ])
      refine wpAny_take (i := 1) (v := ?_) rfl (by kernel_rfl) (by kernel_rfl) (by kernel_rfl) (fun _ _ _ h => h) (Or.inl ⟨by rfl, ?_⟩) ?_
      rotate_left
      · (intro wS; go_simp; try with_reducible rfl)
      (try simp only [Act.put, List.getElem_toArray, List.getElem_cons_succ, List.getElem_cons_zero, List.setIfInBounds_toArray, List.set_cons_zero, List.set_cons_succ])
      refine wpAny_take (i := 2) (v := ?_) rfl (by kernel_rfl) (by kernel_rfl) (by kernel_rfl) (fun _ _ _ h => h) (Or.inl ⟨by rfl, ?_⟩) ?_
      rotate_left
      · (intro wS; go_simp; try with_reducible rfl)
      (try simp only [Act.put, List.getElem_toArray, List.getElem_cons_succ, List.getElem_cons_zero, List.setIfInBounds_toArray, List.set_cons_zero, List.set_cons_succ])
      refine wpAny_take (i := 3) (v := ?_) rfl (by kernel_rfl) (by kernel_rfl) (by kernel_rfl) (fun _ _ _ h => h) (Or.inl ⟨by rfl, ?_⟩) ?_
      rotate_left
      · (intro wS; go_simp; try with_reducible rfl)
      (try simp only [Act.put, List.getElem_toArray, List.getElem_cons_succ, List.getElem_cons_zero, List.setIfInBounds_toArray, List.set_cons_zero, List.set_cons_succ])
      refine wpAny_ready (rs := [4, 5]) (by kernel_rfl) (by simp) ?_
      refine AllReady.cons rfl (fun K hK => ?_) ?_
      · rw [if_pos (by rfl)]
        refine wp_value (v := vS) (w' := _) (exec_load1 rfl rfl cA.out) (hK _ _ ?_)
        clear hK K
        (try simp only [Act.put, List.getElem_toArray, List.getElem_cons_succ, List.getElem_cons_zero, List.setIfInBounds_toArray, List.set_cons_zero, List.set_cons_succ])
        refine wpAny_ready (rs := [5]) (by kernel_rfl) (by simp) ?_
        refine AllReady.cons rfl (fun K hK => ?_) ?_
        · rw [if_pos (by rfl)]
          refine wp_value (exec_makeSlice rfl MK.out) (hK _ _ ?_)
          clear hK K
          (try simp only [Act.put, List.getElem_toArray, List.getElem_cons_succ, List.getElem_cons_zero, List.setIfInBounds_toArray, List.set_cons_zero, List.set_cons_succ])
          refine wpAny_ready (rs := [6]) (by kernel_rfl) (by simp) ?_
          refine AllReady.cons rfl (fun K hK => ?_) ?_
          · rw [if_pos (by rfl)]
            refine wp_value (exec_convert rfl CV.out) (hK _ _ ?_)
            clear hK K
            (try simp only [Act.put, List.getElem_toArray, List.getElem_cons_succ, List.getElem_cons_zero, List.setIfInBounds_toArray, List.set_cons_zero, List.set_cons_succ])
            refine wpAny_ready (rs := [7]) (by kernel_rfl) (by simp) ?_
            refine AllReady.cons rfl (fun K hK => ?_) ?_
            · rw [if_pos (by rfl)]
              refine wp_value (exec_buildSlice1 rfl rfl BS.out) (hK _ _ ?_)
              clear hK K
              (try simp only [Act.put, List.getElem_toArray, List.getElem_cons_succ, List.getElem_cons_zero, List.setIfInBounds_toArray, List.set_cons_zero, List.set_cons_succ])
              refine wpAny_ready (rs := [8]) (by kernel_rfl) (by simp) ?_
              refine AllReady.cons rfl (fun K hK => ?_) ?_
              · rw [if_pos (by rfl)]
                refine Lib.wp_append_run _ _ _ _ _ rfl _ _ rfl rfl _ _ AP.out (hK _ _ ?_)
                clear hK K
                (try simp only [Act.put, List.getElem_toArray, List.getElem_cons_succ, List.getElem_cons_zero, List.setIfInBounds_toArray, List.set_cons_zero, List.set_cons_succ])
                refine wpAny_take (i := 9) (v := ?_) rfl (by kernel_rfl) (by kernel_rfl) (by kernel_rfl) (fun _ _ _ h => h) (Or.inl ⟨by rfl, ?_⟩) ?_
                rotate_left
                · (intro wS; go_simp; try with_reducible rfl)
                (try simp only [Act.put, List.getElem_toArray, List.getElem_cons_succ, List.getElem_cons_zero, List.setIfInBounds_toArray, List.set_cons_zero, List.set_cons_succ])
                refine wpAny_take (i := 10) (v := ?_) rfl (by kernel_rfl) (by kernel_rfl) (by kernel_rfl) (fun _ _ _ h => h) (Or.inl ⟨by rfl, ?_⟩) ?_
                rotate_left
                · (intro wS; go_simp; try with_reducible rfl)
                (try simp only [Act.put, List.getElem_toArray, List.getElem_cons_succ, List.getElem_cons_zero, List.setIfInBounds_toArray, List.set_cons_zero, List.set_cons_succ])
                refine wpAny_ready (rs := [11]) (by kernel_rfl) (by simp) ?_
                refine AllReady.cons rfl (fun K hK => ?_) ?_
                · rw [if_pos (by rfl)]
                  go_simp
                  refine hK _ _ ?_
                  clear hK K
                  (try simp only [Act.put, List.getElem_toArray, List.getElem_cons_succ, List.getElem_cons_zero, List.setIfInBounds_toArray, List.set_cons_zero, List.set_cons_succ])
                  refine wpAny_done (by kernel_rfl) ?_ _
                  go_wp2
                  go_roundg (gk - 1)
                  case measure => omega
                  case rel => exact FIN.out _ (by go_num)
                exact AllReady.nil
              exact AllReady.nil
            exact AllReady.nil
          exact AllReady.nil
        exact AllReady.nil
      refine AllReady.cons rfl (fun K hK => ?_) ?_
      · rw [if_pos (by rfl)]
        refine wp_value (exec_makeSlice rfl MK.out) (hK _ _ ?_)
        clear hK K
        (try simp only [Act.put, List.getElem_toArray, List.getElem_cons_succ, List.getElem_cons_zero, List.setIfInBounds_toArray, List.set_cons_zero, List.set_cons_succ])
        refine wpAny_ready (rs := [4, 6]) (by kernel_rfl) (by simp) ?_
        refine AllReady.cons rfl (fun K hK => ?_) ?_
        · rw [if_pos (by rfl)]
          refine wp_value (v := vS) (w' := _) (exec_load1 rfl rfl cB.out) (hK _ _ ?_)
          clear hK K
          (try simp only [Act.put, List.getElem_toArray, List.getElem_cons_succ, List.getElem_cons_zero, List.setIfInBounds_toArray, List.set_cons_zero, List.set_cons_succ])
          refine wpAny_ready (rs := [6]) (by kernel_rfl) (by simp) ?_
          refine AllReady.cons rfl (fun K hK => ?_) ?_
          · rw [if_pos (by rfl)]
            refine wp_value (exec_convert rfl CV.out) (hK _ _ ?_)
            clear hK K
            (try simp only [Act.put, List.getElem_toArray, List.getElem_cons_succ, List.getElem_cons_zero, List.setIfInBounds_toArray, List.set_cons_zero, List.set_cons_succ])
            refine wpAny_ready (rs := [7]) (by kernel_rfl) (by simp) ?_
            refine AllReady.cons rfl (fun K hK => ?_) ?_
            · rw [if_pos (by rfl)]
              refine wp_value (exec_buildSlice1 rfl rfl BS.out) (hK _ _ ?_)
              clear hK K
              (try simp only [Act.put, List.getElem_toArray, List.getElem_cons_succ, List.getElem_cons_zero, List.setIfInBounds_toArray, List.set_cons_zero, List.set_cons_succ])
              refine wpAny_ready (rs := [8]) (by kernel_rfl) (by simp) ?_
              refine AllReady.cons rfl (fun K hK => ?_) ?_
              · rw [if_pos (by rfl)]
                refine Lib.wp_append_run _ _ _ _ _ rfl _ _ rfl rfl _ _ AP.out (hK _ _ ?_)
                clear hK K
                (try simp only [Act.put, List.getElem_toArray, List.getElem_cons_succ, List.getElem_cons_zero, List.setIfInBounds_toArray, List.set_cons_zero, List.set_cons_succ])
                refine wpAny_take (i := 9) (v := ?_) rfl (by kernel_rfl) (by kernel_rfl) (by kernel_rfl) (fun _ _ _ h => h) (Or.inl ⟨by rfl, ?_⟩) ?_
                rotate_left
                · (intro wS; go_simp; try with_reducible rfl)
                (try simp only [Act.put, List.getElem_toArray, List.getElem_cons_succ, List.getElem_cons_zero, List.setIfInBounds_toArray, List.set_cons_zero, List.set_cons_succ])
                refine wpAny_take (i := 10) (v := ?_) rfl (by kernel_rfl) (by kernel_rfl) (by kernel_rfl) (fun _ _ _ h => h) (Or.inl ⟨by rfl, ?_⟩) ?_
                rotate_left
                · (intro wS; go_simp; try with_reducible rfl)
                (try simp only [Act.put, List.getElem_toArray, List.getElem_cons_succ, List.getElem_cons_zero, List.setIfInBounds_toArray, List.set_cons_zero, List.set_cons_succ])
                refine wpAny_ready (rs := [11]) (by kernel_rfl) (by simp) ?_
                refine AllReady.cons rfl (fun K hK => ?_) ?_
                · rw [if_pos (by rfl)]
                  go_simp
                  refine hK _ _ ?_
                  clear hK K
                  (try simp only [Act.put, List.getElem_toArray, List.getElem_cons_succ, List.getElem_cons_zero, List.setIfInBounds_toArray, List.set_cons_zero, List.set_cons_succ])
                  refine wpAny_done (by kernel_rfl) ?_ _
                  go_wp2
                  go_roundg (gk - 1)
                  case measure => omega
                  case rel => exact FIN.out _ (by go_num)
                exact AllReady.nil
              exact AllReady.nil
            exact AllReady.nil
          exact AllReady.nil
        refine AllReady.cons rfl (fun K hK => ?_) ?_
        · rw [if_pos (by rfl)]
          refine wp_value (exec_convert rfl CV.out) (hK _ _ ?_)
          clear hK K
          (try simp only [Act.put, List.getElem_toArray, List.getElem_cons_succ, List.getElem_cons_zero, List.setIfInBounds_toArray, List.set_cons_zero, List.set_cons_succ])
          refine wpAny_ready (rs := [4, 7]) (by kernel_rfl) (by simp) ?_
          refine AllReady.cons rfl (fun K hK => ?_) ?_
          · rw [if_pos (by rfl)]
            refine wp_value (v := vS) (w' := _) (exec_load1 rfl rfl cB.out) (hK _ _ ?_)
            clear hK K
            (try simp only [Act.put, List.getElem_toArray, List.getElem_cons_succ, List.getElem_cons_zero, List.setIfInBounds_toArray, List.set_cons_zero, List.set_cons_succ])
            refine wpAny_ready (rs := [7]) (by kernel_rfl) (by simp) ?_
            refine AllReady.cons rfl (fun K hK => ?_) ?_
            · rw [if_pos (by rfl)]
              refine wp_value (exec_buildSlice1 rfl rfl BS.out) (hK _ _ ?_)
              clear hK K
              (try simp only [Act.put, List.getElem_toArray, List.getElem_cons_succ, List.getElem_cons_zero, List.setIfInBounds_toArray, List.set_cons_zero, List.set_cons_succ])
              refine wpAny_ready (rs := [8]) (by kernel_rfl) (by simp) ?_
              refine AllReady.cons rfl (fun K hK => ?_) ?_
              · rw [if_pos (by rfl)]
                refine Lib.wp_append_run _ _ _ _ _ rfl _ _ rfl rfl _ _ AP.out (hK _ _ ?_)
                clear hK K
                (try simp only [Act.put, List.getElem_toArray, List.getElem_cons_succ, List.getElem_cons_zero, List.setIfInBounds_toArray, List.set_cons_zero, List.set_cons_succ])
                refine wpAny_take (i := 9) (v := ?_) rfl (by kernel_rfl) (by kernel_rfl) (by kernel_rfl) (fun _ _ _ h => h) (Or.inl ⟨by rfl, ?_⟩) ?_
                rotate_left
                · (intro wS; go_simp; try with_reducible rfl)
                (try simp only [Act.put, List.getElem_toArray, List.getElem_cons_succ, List.getElem_cons_zero, List.setIfInBounds_toArray, List.set_cons_zero, List.set_cons_succ])
                refine wpAny_take (i := 10) (v := ?_) rfl (by kernel_rfl) (by kernel_rfl) (by kernel_rfl) (fun _ _ _ h => h) (Or.inl ⟨by rfl, ?_⟩) ?_
                rotate_left
                · (intro wS; go_simp; try with_reducible rfl)
                (try simp only [Act.put, List.getElem_toArray, List.getElem_cons_succ, List.getElem_cons_zero, List.setIfInBounds_toArray, List.set_cons_zero, List.set_cons_succ])
                refine wpAny_ready (rs := [11]) (by kernel_rfl) (by simp) ?_
                refine AllReady.cons rfl (fun K hK => ?_) ?_
                · rw [if_pos (by rfl)]
                  go_simp
                  refine hK _ _ ?_
                  clear hK K
                  (try simp only [Act.put, List.getElem_toArray, List.getElem_cons_succ, List.getElem_cons_zero, List.setIfInBounds_toArray, List.set_cons_zero, List.set_cons_succ])
                  refine wpAny_done (by kernel_rfl) ?_ _
                  go_wp2
                  go_roundg (gk - 1)
                  case measure => omega
                  case rel => exact FIN.out _ (by go_num)
                exact AllReady.nil
              exact AllReady.nil
            exact AllReady.nil
          refine AllReady.cons rfl (fun K hK => ?_) ?_
          · rw [if_pos (by rfl)]
            refine wp_value (exec_buildSlice1 rfl rfl BS.out) (hK _ _ ?_)
            clear hK K
            (try simp only [Act.put, List.getElem_toArray, List.getElem_cons_succ, List.getElem_cons_zero, List.setIfInBounds_toArray, List.set_cons_zero, List.set_cons_succ])
            refine wpAny_ready (rs := [4]) (by kernel_rfl) (by simp) ?_
            refine AllReady.cons rfl (fun K hK => ?_) ?_
            · rw [if_pos (by rfl)]
              refine wp_value (v := vS) (w' := _) (exec_load1 rfl rfl cC.out) (hK _ _ ?_)
              clear hK K
              (try simp only [Act.put, List.getElem_toArray, List.getElem_cons_succ, List.getElem_cons_zero, List.setIfInBounds_toArray, List.set_cons_zero, List.set_cons_succ])
              refine wpAny_ready (rs := [8]) (by kernel_rfl) (by simp) ?_
              refine AllReady.cons rfl (fun K hK => ?_) ?_
              · rw [if_pos (by rfl)]
                refine Lib.wp_append_run _ _ _ _ _ rfl _ _ rfl rfl _ _ AP.out (hK _ _ ?_)
                clear hK K
                (try simp only [Act.put, List.getElem_toArray, List.getElem_cons_succ, List.getElem_cons_zero, List.setIfInBounds_toArray, List.set_cons_zero, List.set_cons_succ])
                refine wpAny_take (i := 9) (v := ?_) rfl (by kernel_rfl) (by kernel_rfl) (by kernel_rfl) (fun _ _ _ h => h) (Or.inl ⟨by rfl, ?_⟩) ?_
                rotate_left
                · (intro wS; go_simp; try with_reducible rfl)
                (try simp only [Act.put, List.getElem_toArray, List.getElem_cons_succ, List.getElem_cons_zero, List.setIfInBounds_toArray, List.set_cons_zero, List.set_cons_succ])
                refine wpAny_take (i := 10) (v := ?_) rfl (by kernel_rfl) (by kernel_rfl) (by kernel_rfl) (fun _ _ _ h => h) (Or.inl ⟨by rfl, ?_⟩) ?_
                rotate_left
                · (intro wS; go_simp; try with_reducible rfl)
                (try simp only [Act.put, List.getElem_toArray, List.getElem_cons_succ, List.getElem_cons_zero, List.setIfInBounds_toArray, List.set_cons_zero, List.set_cons_succ])
                refine wpAny_ready (rs := [11]) (by kernel_rfl) (by simp) ?_
                refine AllReady.cons rfl (fun K hK => ?_) ?_
                · rw [if_pos (by rfl)]
                  go_simp
                  refine hK _ _ ?_
                  clear hK K
                  (try simp only [Act.put, List.getElem_toArray, List.getElem_cons_succ, List.getElem_cons_zero, List.setIfInBounds_toArray, List.set_cons_zero, List.set_cons_succ])
                  refine wpAny_done (by kernel_rfl) ?_ _
                  go_wp2
                  go_roundg (gk - 1)
                  case measure => omega
                  case rel => exact FIN.out _ (by go_num)
                exact AllReady.nil
              exact AllReady.nil
            exact AllReady.nil
          exact AllReady.nil
        exact AllReady.nil
      exact AllReady.nil
      -- (its end)
    · obtain rfl : i = n := by omega
      have FIN := Lib.hid (And.intro (show Rk w.heap.size w.heap.size (newR i) wr from ⟨_, _, hk⟩) hb)
      have il : (i : Int) ≤ (i : Int) := by omega
      clear hk hb
      go_wp2
      go_ret
      exact ⟨rfl, FIN.out⟩
end Go.Proofs.Ytgjndfkjakbdiaa.Dk
