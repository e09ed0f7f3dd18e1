/- Contract of package disk's Write. -/
import Derived.Test.YtcbemjckcmcelaaDkO
namespace Go.Proofs.Ytcbemjckcmcelaa.Dk
open Go.ChangeShapes Go.WideShapes Go.ChangeAt Go.RowKit Go.Joins
set_option maxRecDepth 100000
set_option linter.unusedVariables false
set_option linter.unusedSimpArgs false
theorem zeroW : (∀ w, (zeroValue 86).run Try.prog w = .ok (.agg (putCells (0, List.replicate 64 0)).toArray) w) ∧ (Try.prog.info? 86).map (·.size) = some 65 := zero_of_info (by kernel_rfl)
theorem infoW : (Try.prog.info? 86).map (fun i => (i.zero, i.size, i.bytes)) = some (some (.agg (putCells (0, List.replicate 64 0)).toArray), 65, 72) := by kernel_rfl
theorem infoW2 : (Try.prog.info? 86).map (fun i => (i.zero, i.size)) = some (some (.agg (putCells (0, List.replicate 64 0)).toArray), 65) := by kernel_rfl
theorem undW : ∃ fs, Try.prog.underlying 86 = some (.struct fs) := ⟨_, Try.underlying86⟩
theorem putA_size {p : Nat × List UInt8} (h : p.2.length = 64) : (putCells p).toArray.size = 65 := by simp [putCells_len h]
theorem build_w (a : Nat) (w : World) : (Instr.build 86 #[(0, .int .i64 (a : Int))]).run Try.prog w = .ok (.agg (putCells (a, List.replicate 64 0)).toArray) w := by kernel_rfl
theorem copy_w (a : Nat) (s : ByteArray) (hs : s.size = 64) (w : World) :
    (Builtin.copy_ #[55, 9] 3 #[.slice (some ⟨w.heap.size, 1, none⟩) 64 64, .string s]).run Try.prog (w.alloc (.cells (putCells (a, List.replicate 64 0)).toArray 86)) = .ok (goInt 64) (w.alloc (.cells (putCells (a, s.data.toList)).toArray 86)) := by
  rw [Lib.run_copy_row_string (w.alloc (.cells (putCells (a, List.replicate 64 0)).toArray 86)) 55 9 3 5 w.heap.size 1 64 64 s _ 86 Try.underlying55 sizeByte (heap_alloc_new _ _) (by omega) (by simp [putCells, byteCells_len]; omega)]
  rw [World.setRow_alloc_new, hs]
  congr 3
  have e : (putCells (a, List.replicate 64 0)).toArray.toList.drop (1 + 64) = [] := List.drop_eq_nil_of_le (by simp [putCells, byteCells_len])
  rw [e]
  simp [putCells, Lib.byteCells]
/-- a write more in the row -/
theorem DkAt.wrote {B b g : Nat} {v : Value} {s : DS} {w w1 w2 : World} {k cap : Nat} {p : Nat × List UInt8} (h : DkAt B b g v s w) (h1 : DkAt B b g v s w1) (m1 : Moved b w w1) (hp : p.1 < s.sec.length ∧ p.2.length = 64)
    (hown : w2.ownsRow B 86 65 (.slice (some ⟨k, 0, none⟩) (s.opn.length + 1) cap) (s.opn.length + 1) (opnCells s.opn ++ putCells p)) (hg : w1.grownBy w2 v.ownBlock) (hn : v.ownBlock = some k ∨ w.heap.size ≤ k) :
    DkAt B b g (.slice (some ⟨k, 0, none⟩) (s.opn.length + 1) cap) ⟨s.sec, s.opn ++ [p], s.fail, s.reads⟩ (w2.setCell ⟨b, 1, none⟩ (.slice (some ⟨k, 0, none⟩) (s.opn.length + 1) cap)) ∧ Moved b w (w2.setCell ⟨b, 1, none⟩ (.slice (some ⟨k, 0, none⟩) (s.opn.length + 1) cap)) := by
  have nb : v.ownBlock ≠ some b := fun e => (h1.ownNe e).1 rfl
  have ng : v.ownBlock ≠ some g := fun e => (h1.ownNe e).2 rfl
  have eb : w2.heap[b]? = w1.heap[b]? := hg.block b h1.lt (fun e => nb e.symm)
  have eg : w2.heap[g]? = w1.heap[g]? := hg.block g h1.row.lt (fun e => ng e.symm)
  have b2 := eb.trans h1.blk
  obtain ⟨cur, hcur⟩ : ∃ cur, w2.heap[k]? = some (.cells cur 86 (0, 0)) := by
    rcases hown.2 with ⟨e, _⟩ | ⟨g', cap', cur, e, _, hgg, _⟩
    · simp at e
    · simp at e; obtain ⟨rfl, rfl⟩ := e; exact ⟨cur, hgg⟩
  have kb : k ≠ b := by
    rintro rfl
    rw [hcur] at b2
    simp only [Option.some.injEq, Obj.cells.injEq] at b2
    exact absurd b2.2.1 (by decide)
  constructor
  · refine ⟨⟨h1.ok.len, h1.ok.sec, fun q hq => ?_⟩, h.hb, h.hg, ?_, ?_, ?_⟩
    · simp only [List.mem_append, List.mem_singleton] at hq
      rcases hq with hq | rfl
      · exact h1.ok.opn q hq
      · exact hp
    · simp [World.setCell, Array.getElem?_modify, b2]
    · exact (h1.row.of_block eg).of_block (Below.heap_setCell _ _ _ _ h1.ne)
    · have := hown.kept (row := some b) (w' := w2.setCell ⟨b, 1, none⟩ (.slice (some ⟨k, 0, none⟩) (s.opn.length + 1) cap)) ⟨rfl, rfl, rfl, by simp [World.setCell], fun k _ hk => Below.heap_setCell _ _ _ _ (fun e => hk (by simp [e]))⟩ (.inr (by simp [Value.ownBlock]; exact kb))
      show World.ownsRow _ _ _ _ _ (s.opn ++ [p]).length (opnCells (s.opn ++ [p]))
      rw [opnCells_snoc, List.length_append]
      exact this
  · have m2 := m1.grown hg h1.lt nb (fun k hk => h1.owns.2 (.inr (.inr hk)))
    refine m2.set (x := v) (by rw [Lib.cell_of_heap b2]; rfl) (fun k' hk' _ => ?_)
    simp [Value.ownBlock] at hk'
    subst hk'
    rcases hn with e | e
    · exact .inl (h.owns.2 (.inr (.inr e)))
    · exact .inr e
set_option maxRecDepth 100000 in
set_option maxHeartbeats 1000000 in
theorem write_ok (B b : Nat) (s : DS) (a : Nat) (t : ByteArray) (w : World) (h : Dk B b s w) (ha : a < s.sec.length) (ht : t.size = 64) (hio : s.fail ≠ 1) (hn : s.opn.length ≤ 900000) (hf : s.fail < 9223372036854775808) :
    Calls Try.prog 52 #[ptr b, .int .i64 (a : Int), .string t] w fun e w' => e = .returned (.int .i64 0) ∧ Dk B b ⟨s.sec, s.opn ++ [(a, t.data.toList)], s.fail - 1, s.reads⟩ w' ∧ Moved b w w' := by
  have HA := Lib.hid (has_yes B b s (a : Int) w h (by omega) (by omega))
  have OP := Lib.hid (operate_ok B b s w h hio hf)
  have tl : t.data.toList.length = 64 := by rw [← size_list]; exact ht
  have hl := h.ok.len
  clear h
  go_enter Try.func52, Try.ntmps52
  go_wp2_with fail
  (with_reducible refine HA.out.mono ?_)
  rintro e w1 ⟨rfl, rfl⟩
  go_wp2_with fail
  (with_reducible refine OP.out.mono ?_)
  rintro e w2 ⟨rfl, k2, m2⟩
  clear HA OP
  have z := zeroW.1
  have cw := copy_w a t ht w2
  have ss := sliceS w2.heap.size 1
  have z1 := putA_size (p := (0, List.replicate 64 0)) (by simp)
  have z2 := putA_size (p := (a, List.replicate 64 0)) (by simp)
  have o2 := all_oneCell_toArray (putCells_one (a, List.replicate 64 0))
  have eZ : (putCells (a, List.replicate 64 0)).toArray = (putCells (0, List.replicate 64 0)).toArray.setIfInBounds 0 (.int .i64 (a : Int)) := by simp [putCells]
  rw [eZ] at cw z2 o2
  clear eZ
  generalize (putCells (0, List.replicate 64 0)).toArray = Z at *
  have Z2 := Lib.hid z2
  have O2 := Lib.hid o2
  have nz : ¬ Z = #[] := by rintro rfl; simp at z1
  clear z2 o2
  obtain ⟨PC, hPC⟩ : ∃ PC, PC = (putCells (a, t.data.toList)).toArray := ⟨_, rfl⟩
  have PS := Lib.hid (show PC.size = 65 by rw [hPC]; exact putA_size tl)
  have PL := Lib.hid (putCells_len (p := (a, t.data.toList)) tl)
  rw [← hPC] at cw
  have HPC := Lib.hid hPC
  have k3 := k2.call ((Below.refl _ _).alloc (Nat.le_refl _) (.cells PC 86))
  have m3 := (m2.alloc k2.lt (.cells PC 86)).drew
  have R0 : (w2.alloc (.cells PC 86)).drew.rangeAt w2.heap.size 0 (putCells (a, t.data.toList)) := fun j u hu => by
    rw [World.cell?_drew, Nat.zero_add, Lib.cell_of_heap (heap_alloc_new _ _), hPC]
    simpa using hu
  have hw1 : w1.heap.size ≤ w2.heap.size := m2.size
  clear hPC
  have hz1 : Z.size = (Z.setIfInBounds 0 (.int .i64 (a : Int))).size := by simp
  go_wp2_with (first
    | (refine wpList_store_new (c := Z) (c' := Z.setIfInBounds 0 (.int .i64 (a : Int))) rfl rfl rfl rfl (by rw [Z2.out]; exact zeroW.2) hz1 O2.out ?_))
  generalize Z.setIfInBounds 0 (.int .i64 (a : Int)) = ZA at *
  clear cw ss z z1 Z2 O2 nz hz1 k2 m2
  obtain ⟨g, v, k3⟩ := k3
  replace k3 := k3.drew
  have RR := Lib.hid R0
  clear R0
  generalize w2.alloc (.cells PC 86) = W at *
  generalize w2.heap.size = N at *
  have k4 := k3.alloc (.cells PC 86)
  have a57 : ∀ (w : World), w.cell? ⟨b, 1, none⟩ = some v → (loadVar 60 ⟨b, 1, none⟩).run Try.prog w = .ok v w := by
    intro w hc
    go_simp
  have cA := Lib.hid (a57 _ k3.c1)
  have cB := Lib.hid (a57 _ k4.c1)
  clear a57
  obtain ⟨q, cap, w4, hap, hown, hgrow, hnew⟩ := append_one (P := Try.prog) (W.drew.alloc (.cells PC 86)) B 60 60 86 _ 65 72 Try.underlying60 infoW (putA_size (by simp)) (by omega) (by omega) v s.opn.length (opnCells s.opn) k4.own ⟨W.drew.heap.size, 0, none⟩ (putCells (a, t.data.toList)) PL.out (fun j u hu => by
    rw [addr_add, Nat.zero_add, Lib.cell_of_heap (heap_alloc_new W.drew _), HPC.out]; simpa using hu) (putCells_one _) (by omega) k4.le
  have nb : v.ownBlock ≠ some b := fun e => (k4.ownNe e).1 rfl
  have b4 := (hgrow.block b k4.lt (fun e => nb e.symm)).trans k4.blk
  have FN := k3.wrote k4 ((Moved.refl b W.drew).alloc k3.lt _) (p := (a, t.data.toList)) ⟨ha, tl⟩ hown hgrow (hnew.imp id (fun e => by simp at e; exact Nat.le_of_succ_le e))
  have FIN := Lib.hid (And.intro (show Dk B b _ _ from ⟨_, _, FN.1⟩) (m3.trans FN.2))
  have d1 : w4.cell? ⟨b, 1, none⟩ = some v := by rw [Lib.cell_of_heap b4]; rfl
  have f1 : w4.frozen? ⟨b, 1, none⟩ = false := Lib.frozen_of_heap b4 1
  have AP := Lib.hid hap
  clear FN hap hown hgrow hnew nb b4 k4 k3 m3 hw1 tl ht
  -- (the region, by dkw.py)
  refine wp_region_any (by kernel_rfl) ?_
  (try (change wpAny _ _ _ _ _ _ _ (World.drew _)))
  refine wpAny_take (i := 0) (v := ?_) rfl (by kernel_rfl) (by kernel_rfl) (by kernel_rfl) (fun _ _ _ h => h) (Or.inl ⟨by rfl, ?_⟩) ?_
  rotate_left
  · (intro wS; go_simp; try with_reducible rfl)
  (try simp only [Act.put, List.getElem_toArray, List.getElem_cons_succ, List.getElem_cons_zero, List.setIfInBounds_toArray, List.set_cons_zero, List.set_cons_succ])
  refine wpAny_take (i := 1) (v := ?_) rfl (by kernel_rfl) (by kernel_rfl) (by kernel_rfl) (fun _ _ _ h => h) (Or.inl ⟨by rfl, ?_⟩) ?_
  rotate_left
  · (intro wS; go_simp; try with_reducible rfl)
  (try simp only [Act.put, List.getElem_toArray, List.getElem_cons_succ, List.getElem_cons_zero, List.setIfInBounds_toArray, List.set_cons_zero, List.set_cons_succ])
  refine wpAny_take (i := 2) (v := ?_) rfl (by kernel_rfl) (by kernel_rfl) (by kernel_rfl) (fun _ _ _ h => h) (Or.inl ⟨by rfl, ?_⟩) ?_
  rotate_left
  · (intro wS; go_simp; try with_reducible rfl)
  (try simp only [Act.put, List.getElem_toArray, List.getElem_cons_succ, List.getElem_cons_zero, List.setIfInBounds_toArray, List.set_cons_zero, List.set_cons_succ])
  refine wpAny_take (i := 3) (v := ?_) rfl (by kernel_rfl) (by kernel_rfl) (by kernel_rfl) (fun _ _ _ h => h) (Or.inl ⟨by rfl, ?_⟩) ?_
  rotate_left
  · (intro wS; go_simp; try with_reducible rfl)
  (try simp only [Act.put, List.getElem_toArray, List.getElem_cons_succ, List.getElem_cons_zero, List.setIfInBounds_toArray, List.set_cons_zero, List.set_cons_succ])
  refine wpAny_ready (rs := [4, 5]) (by kernel_rfl) (by simp) ?_
  refine AllReady.cons rfl (fun K hK => ?_) ?_
  · rw [if_pos (by rfl)]
    refine wp_value (v := v) (w' := _) (exec_load1 rfl rfl cA.out) (hK _ _ ?_)
    clear hK K
    (try simp only [Act.put, List.getElem_toArray, List.getElem_cons_succ, List.getElem_cons_zero, List.setIfInBounds_toArray, List.set_cons_zero, List.set_cons_succ])
    refine wpAny_ready (rs := [5]) (by kernel_rfl) (by simp) ?_
    refine AllReady.cons rfl (fun K hK => ?_) ?_
    · rw [if_pos (by rfl)]
      refine wp_load_mid 86 (.tmp 8) rfl N 0 rfl (putCells (a, t.data.toList)) _ RR.out Try.underlying86 rfl (by rw [PL.out]; exact zeroW.2) (hK _ _ ?_)
      rw [← HPC.out]
      clear hK K
      (try simp only [Act.put, List.getElem_toArray, List.getElem_cons_succ, List.getElem_cons_zero, List.setIfInBounds_toArray, List.set_cons_zero, List.set_cons_succ])
      refine wpAny_ready (rs := [6]) (by kernel_rfl) (by simp) ?_
      refine AllReady.cons rfl (fun K hK => ?_) ?_
      · rw [if_pos (by rfl)]
        refine wp_value (exec_buildSlice1 rfl rfl (run_buildOne _ 60 86 _ 65 PC Try.underlying60 infoW2 (putA_size (by simp)) (by omega) (by omega) PS.out)) (hK _ _ ?_)
        clear hK K
        (try simp only [Act.put, List.getElem_toArray, List.getElem_cons_succ, List.getElem_cons_zero, List.setIfInBounds_toArray, List.set_cons_zero, List.set_cons_succ])
        refine wpAny_ready (rs := [7]) (by kernel_rfl) (by simp) ?_
        refine AllReady.cons rfl (fun K hK => ?_) ?_
        · rw [if_pos (by rfl)]
          refine Lib.wp_append_run _ _ _ _ _ rfl _ _ rfl rfl _ _ AP.out (hK _ _ ?_)
          clear hK K
          (try simp only [Act.put, List.getElem_toArray, List.getElem_cons_succ, List.getElem_cons_zero, List.setIfInBounds_toArray, List.set_cons_zero, List.set_cons_succ])
          refine wpAny_take (i := 8) (v := ?_) rfl (by kernel_rfl) (by kernel_rfl) (by kernel_rfl) (fun _ _ _ h => h) (Or.inl ⟨by rfl, ?_⟩) ?_
          rotate_left
          · (intro wS; go_simp; try with_reducible rfl)
          (try simp only [Act.put, List.getElem_toArray, List.getElem_cons_succ, List.getElem_cons_zero, List.setIfInBounds_toArray, List.set_cons_zero, List.set_cons_succ])
          refine wpAny_take (i := 9) (v := ?_) rfl (by kernel_rfl) (by kernel_rfl) (by kernel_rfl) (fun _ _ _ h => h) (Or.inl ⟨by rfl, ?_⟩) ?_
          rotate_left
          · (intro wS; go_simp; try with_reducible rfl)
          (try simp only [Act.put, List.getElem_toArray, List.getElem_cons_succ, List.getElem_cons_zero, List.setIfInBounds_toArray, List.set_cons_zero, List.set_cons_succ])
          refine wpAny_ready (rs := [10]) (by kernel_rfl) (by simp) ?_
          refine AllReady.cons rfl (fun K hK => ?_) ?_
          · rw [if_pos (by rfl)]
            go_simp
            refine hK _ _ ?_
            clear hK K
            (try simp only [Act.put, List.getElem_toArray, List.getElem_cons_succ, List.getElem_cons_zero, List.setIfInBounds_toArray, List.set_cons_zero, List.set_cons_succ])
            refine wpAny_done (by kernel_rfl) ?_ _
            go_wp2
            go_ret
            exact ⟨rfl, FIN.out⟩
          exact AllReady.nil
        exact AllReady.nil
      exact AllReady.nil
    exact AllReady.nil
  refine AllReady.cons rfl (fun K hK => ?_) ?_
  · rw [if_pos (by rfl)]
    refine wp_load_mid 86 (.tmp 8) rfl N 0 rfl (putCells (a, t.data.toList)) _ RR.out Try.underlying86 rfl (by rw [PL.out]; exact zeroW.2) (hK _ _ ?_)
    rw [← HPC.out]
    clear hK K
    (try simp only [Act.put, List.getElem_toArray, List.getElem_cons_succ, List.getElem_cons_zero, List.setIfInBounds_toArray, List.set_cons_zero, List.set_cons_succ])
    refine wpAny_ready (rs := [4, 6]) (by kernel_rfl) (by simp) ?_
    refine AllReady.cons rfl (fun K hK => ?_) ?_
    · rw [if_pos (by rfl)]
      refine wp_value (v := v) (w' := _) (exec_load1 rfl rfl cA.out) (hK _ _ ?_)
      clear hK K
      (try simp only [Act.put, List.getElem_toArray, List.getElem_cons_succ, List.getElem_cons_zero, List.setIfInBounds_toArray, List.set_cons_zero, List.set_cons_succ])
      refine wpAny_ready (rs := [6]) (by kernel_rfl) (by simp) ?_
      refine AllReady.cons rfl (fun K hK => ?_) ?_
      · rw [if_pos (by rfl)]
        refine wp_value (exec_buildSlice1 rfl rfl (run_buildOne _ 60 86 _ 65 PC Try.underlying60 infoW2 (putA_size (by simp)) (by omega) (by omega) PS.out)) (hK _ _ ?_)
        clear hK K
        (try simp only [Act.put, List.getElem_toArray, List.getElem_cons_succ, List.getElem_cons_zero, List.setIfInBounds_toArray, List.set_cons_zero, List.set_cons_succ])
        refine wpAny_ready (rs := [7]) (by kernel_rfl) (by simp) ?_
        refine AllReady.cons rfl (fun K hK => ?_) ?_
        · rw [if_pos (by rfl)]
          refine Lib.wp_append_run _ _ _ _ _ rfl _ _ rfl rfl _ _ AP.out (hK _ _ ?_)
          clear hK K
          (try simp only [Act.put, List.getElem_toArray, List.getElem_cons_succ, List.getElem_cons_zero, List.setIfInBounds_toArray, List.set_cons_zero, List.set_cons_succ])
          refine wpAny_take (i := 8) (v := ?_) rfl (by kernel_rfl) (by kernel_rfl) (by kernel_rfl) (fun _ _ _ h => h) (Or.inl ⟨by rfl, ?_⟩) ?_
          rotate_left
          · (intro wS; go_simp; try with_reducible rfl)
          (try simp only [Act.put, List.getElem_toArray, List.getElem_cons_succ, List.getElem_cons_zero, List.setIfInBounds_toArray, List.set_cons_zero, List.set_cons_succ])
          refine wpAny_take (i := 9) (v := ?_) rfl (by kernel_rfl) (by kernel_rfl) (by kernel_rfl) (fun _ _ _ h => h) (Or.inl ⟨by rfl, ?_⟩) ?_
          rotate_left
          · (intro wS; go_simp; try with_reducible rfl)
          (try simp only [Act.put, List.getElem_toArray, List.getElem_cons_succ, List.getElem_cons_zero, List.setIfInBounds_toArray, List.set_cons_zero, List.set_cons_succ])
          refine wpAny_ready (rs := [10]) (by kernel_rfl) (by simp) ?_
          refine AllReady.cons rfl (fun K hK => ?_) ?_
          · rw [if_pos (by rfl)]
            go_simp
            refine hK _ _ ?_
            clear hK K
            (try simp only [Act.put, List.getElem_toArray, List.getElem_cons_succ, List.getElem_cons_zero, List.setIfInBounds_toArray, List.set_cons_zero, List.set_cons_succ])
            refine wpAny_done (by kernel_rfl) ?_ _
            go_wp2
            go_ret
            exact ⟨rfl, FIN.out⟩
          exact AllReady.nil
        exact AllReady.nil
      exact AllReady.nil
    refine AllReady.cons rfl (fun K hK => ?_) ?_
    · rw [if_pos (by rfl)]
      refine wp_value (exec_buildSlice1 rfl rfl (run_buildOne _ 60 86 _ 65 PC Try.underlying60 infoW2 (putA_size (by simp)) (by omega) (by omega) PS.out)) (hK _ _ ?_)
      clear hK K
      (try simp only [Act.put, List.getElem_toArray, List.getElem_cons_succ, List.getElem_cons_zero, List.setIfInBounds_toArray, List.set_cons_zero, List.set_cons_succ])
      refine wpAny_ready (rs := [4]) (by kernel_rfl) (by simp) ?_
      refine AllReady.cons rfl (fun K hK => ?_) ?_
      · rw [if_pos (by rfl)]
        refine wp_value (v := v) (w' := _) (exec_load1 rfl rfl cB.out) (hK _ _ ?_)
        clear hK K
        (try simp only [Act.put, List.getElem_toArray, List.getElem_cons_succ, List.getElem_cons_zero, List.setIfInBounds_toArray, List.set_cons_zero, List.set_cons_succ])
        refine wpAny_ready (rs := [7]) (by kernel_rfl) (by simp) ?_
        refine AllReady.cons rfl (fun K hK => ?_) ?_
        · rw [if_pos (by rfl)]
          refine Lib.wp_append_run _ _ _ _ _ rfl _ _ rfl rfl _ _ AP.out (hK _ _ ?_)
          clear hK K
          (try simp only [Act.put, List.getElem_toArray, List.getElem_cons_succ, List.getElem_cons_zero, List.setIfInBounds_toArray, List.set_cons_zero, List.set_cons_succ])
          refine wpAny_take (i := 8) (v := ?_) rfl (by kernel_rfl) (by kernel_rfl) (by kernel_rfl) (fun _ _ _ h => h) (Or.inl ⟨by rfl, ?_⟩) ?_
          rotate_left
          · (intro wS; go_simp; try with_reducible rfl)
          (try simp only [Act.put, List.getElem_toArray, List.getElem_cons_succ, List.getElem_cons_zero, List.setIfInBounds_toArray, List.set_cons_zero, List.set_cons_succ])
          refine wpAny_take (i := 9) (v := ?_) rfl (by kernel_rfl) (by kernel_rfl) (by kernel_rfl) (fun _ _ _ h => h) (Or.inl ⟨by rfl, ?_⟩) ?_
          rotate_left
          · (intro wS; go_simp; try with_reducible rfl)
          (try simp only [Act.put, List.getElem_toArray, List.getElem_cons_succ, List.getElem_cons_zero, List.setIfInBounds_toArray, List.set_cons_zero, List.set_cons_succ])
          refine wpAny_ready (rs := [10]) (by kernel_rfl) (by simp) ?_
          refine AllReady.cons rfl (fun K hK => ?_) ?_
          · rw [if_pos (by rfl)]
            go_simp
            refine hK _ _ ?_
            clear hK K
            (try simp only [Act.put, List.getElem_toArray, List.getElem_cons_succ, List.getElem_cons_zero, List.setIfInBounds_toArray, List.set_cons_zero, List.set_cons_succ])
            refine wpAny_done (by kernel_rfl) ?_ _
            go_wp2
            go_ret
            exact ⟨rfl, FIN.out⟩
          exact AllReady.nil
        exact AllReady.nil
      exact AllReady.nil
    exact AllReady.nil
  exact AllReady.nil
  -- (its end)
theorem write_io (B b : Nat) (s : DS) (a : Nat) (t : ByteArray) (w : World) (h : Dk B b s w) (ha : a < s.sec.length) (ht : t.size = 64) (hio : s.fail = 1) :
    Calls Try.prog 52 #[ptr b, .int .i64 (a : Int), .string t] w fun e w' => e = .returned (.int .i64 18) ∧ Dk B b ⟨s.sec, s.opn, 0, s.reads⟩ w' ∧ Moved b w w' := by
  have HA := Lib.hid (has_yes B b s (a : Int) w h (by omega) (by omega))
  have OP := Lib.hid (operate_io B b s w h hio)
  clear h hio
  go_enter Try.func52, Try.ntmps52
  go_wp2_with fail
  (with_reducible refine HA.out.mono ?_)
  rintro e w1 ⟨rfl, rfl⟩
  go_wp2_with fail
  (with_reducible refine OP.out.mono ?_)
  rintro e w2 ⟨rfl, hk⟩
  have FIN := Lib.hid hk
  clear HA OP hk
  go_wp2
  go_ret
  exact ⟨rfl, FIN.out⟩
theorem write_arg (B b : Nat) (s : DS) (a : Int) (t : ByteArray) (w : World) (h : Dk B b s w) (hv : ¬ ((0 ≤ a ∧ a < s.sec.length) ∧ t.size = 64)) :
    Calls Try.prog 52 #[ptr b, .int .i64 a, .string t] w fun e w' => e = .returned (.int .i64 1) ∧ Dk B b s w' ∧ Moved b w w' := by
  have FIN := Lib.hid (And.intro h (Moved.refl b w))
  by_cases hh : 0 ≤ a ∧ a < s.sec.length
  · have HA := Lib.hid (has_yes B b s a w h hh.1 hh.2)
    have ht : t.size ≠ 64 := fun e => hv ⟨hh, e⟩
    have t1 : ((t.size : Int) == 64) = false := by simp; omega
    have t2 : ((t.size : Int) != 64) = true := by simp; omega
    clear hv h hh
    go_enter Try.func52, Try.ntmps52
    go_wp2_with fail
    (with_reducible refine HA.out.mono ?_)
    rintro e w1 ⟨rfl, rfl⟩
    clear HA
    go_wp2
    go_ret
    exact ⟨rfl, FIN.out⟩
  · have HA := Lib.hid (has_no B b s a w h hh)
    clear hv h hh
    go_enter Try.func52, Try.ntmps52
    go_wp2_with fail
    (with_reducible refine HA.out.mono ?_)
    rintro e w1 ⟨rfl, rfl⟩
    clear HA
    go_wp2
    go_ret
    exact ⟨rfl, FIN.out⟩
theorem write_nil (a : Int) (t : ByteArray) (w : World) :
    Calls Try.prog 52 #[.pointer none, .int .i64 a, .string t] w fun e w' => e = .returned (.int .i64 1) ∧ w' = w := by
  have HA := Lib.hid (has_nil a w)
  go_enter Try.func52, Try.ntmps52
  go_wp2_with fail
  (with_reducible refine HA.out.mono ?_)
  rintro e w1 ⟨rfl, rfl⟩
  clear HA
  go_wp2
  go_ret
  exact ⟨rfl, rfl⟩
theorem write_any (B b : Nat) (s : DS) (a : Int) (t : ByteArray) (w : World) (h : Dk B b s w) (hn : s.opn.length ≤ 900000) (hf : s.fail < 9223372036854775808) :
    Calls Try.prog 52 #[ptr b, .int .i64 a, .string t] w fun e w' => e = .returned (.int .i64 ((writeR s a t.data.toList).2 : Int)) ∧ Dk B b (writeR s a t.data.toList).1 w' ∧ Moved b w w' := by
  unfold writeR
  by_cases hv : (0 ≤ a ∧ a < s.sec.length) ∧ t.size = 64
  · rw [if_pos (by rw [← size_list]; exact hv)]
    obtain ⟨⟨h0, h1⟩, ht⟩ := hv
    have ea : ((a.toNat : Nat) : Int) = a := by omega
    by_cases hio : s.fail = 1
    · rw [if_pos hio]
      have := write_io B b s a.toNat t w h (by omega) ht hio
      rw [ea] at this
      exact this
    · rw [if_neg hio]
      have := write_ok B b s a.toNat t w h (by omega) ht hio hn hf
      rw [ea] at this
      exact this
  · rw [if_neg (by rw [← size_list]; exact hv)]
    exact write_arg B b s a t w h hv
end Go.Proofs.Ytcbemjckcmcelaa.Dk
