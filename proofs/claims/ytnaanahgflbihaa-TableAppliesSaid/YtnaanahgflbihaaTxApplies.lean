/- horariumlaw14.TableApplies answers true at every table, every row of ops and every op: ops change a table as the document says. No condition. -/
import Derived.Test.YtnaanahgflbihaaTbQ
import Derived.Test.YtnaanahgflbihaaTbS
import Derived.Test.YtnaanahgflbihaaOcG
namespace Go.Proofs.Ytnaanahgflbihaa.tableApplies
open Go.ChangeShapes Go.WideShapes Go.ChangeAt Go.RowKit Go.Joins
open Oc
set_option maxRecDepth 100000
set_option linter.unusedVariables false
set_option linter.unusedSimpArgs false
open Tb
open Ox (Od)
open Ge (Seen)

set_option maxRecDepth 100000 in
set_option maxHeartbeats 16000000 in
theorem walk (t : Tb) (ao : Option Addr) (cap : Nat) (l : List Od) (lo : Option Addr) (lc : Nat) (o : Od) (w : World) (hl : t.rows.length ≤ 9223372036854775807) (hS : Sl (.slice ao t.rows.length cap) t.rows w ao cap) (hl2 : l.length ≤ 9223372036854775807) (hO : Seen ocs 10 lo l w) :
    Calls Try.prog 3 #[tv ao t.rows.length cap t.mode, .slice lo l.length lc, o.v] w fun e w' => e = .returned (.bool true) ∧ Below w.heap.size w w' := by
  have AW := Lib.hid awake_any
  have FE : Hid (∀ W, Below w.heap.size w W → Calls Try.prog 12 #[tv ao t.rows.length cap t.mode] W fun e w' => e = .returned (tv ao (fewT t).rows.length cap (fewT t).mode) ∧ Below W.heap.size W w') := Lib.hid (fun W hb => few_any t ao cap W hl hS.le)
  have SF : Hid (∀ W, Below w.heap.size w W → Sl (.slice ao (fewT t).rows.length cap) (fewT t).rows W ao cap) := Lib.hid (fun W hb => ⟨rfl, by have := hS.le; unfold fewT; rw [List.length_take]; omega, hS.nil, (hS.seen.below hb (Nat.le_refl _)).take 18⟩)
  have FL : Hid ((fewT t).rows.length ≤ 1000) := Lib.hid (by unfold fewT; rw [List.length_take]; omega)
  have AA : Hid (∀ W, Below w.heap.size w W → Calls Try.prog 11 #[tv ao (fewT t).rows.length cap (fewT t).mode, o.v] W fun e w' => e = .returned (.bool true) ∧ Below W.heap.size W w') := Lib.hid (fun W hb => applies_any _ o ao cap W (SF.out W hb) FL.out)
  have AN : Hid (∀ W, Below w.heap.size w W → Calls Try.prog 11 #[tv ao (fewT t).rows.length cap (fewT t).mode, (nearR o).v] W fun e w' => e = .returned (.bool true) ∧ Below W.heap.size W w') := Lib.hid (fun W hb => applies_any _ (nearR o) ao cap W (SF.out W hb) FL.out)
  have NE := Lib.hid (near_any o)
  have MA : Hid (∀ W, Below w.heap.size w W → Calls Try.prog 14 #[.slice lo l.length lc] W fun e w' => ∃ v, e = .returned v ∧ Tb.Told v (madeT l) w' ∧ Below W.heap.size W w') := Lib.hid (fun W hb => made_any l lo lc W (hO.below hb (Nat.le_refl _)) hl2)
  have ML : Hid ((madeT l).rows.length ≤ 1000) := Lib.hid (by have := (chkT_iff.1 (made_chk l)).2.2.1; omega)
  have MB : Hid (∀ W ao cap, Sl (.slice ao (madeT l).rows.length cap) (madeT l).rows W ao cap → Calls Try.prog 11 #[tv ao (madeT l).rows.length cap (madeT l).mode, o.v] W fun e w' => e = .returned (.bool true) ∧ Below W.heap.size W w') := Lib.hid (fun W ao cap h => applies_any _ o ao cap W h ML.out)
  have MN : Hid (∀ W ao cap, Sl (.slice ao (madeT l).rows.length cap) (madeT l).rows W ao cap → Calls Try.prog 11 #[tv ao (madeT l).rows.length cap (madeT l).mode, (nearR o).v] W fun e w' => e = .returned (.bool true) ∧ Below W.heap.size W w') := Lib.hid (fun W ao cap h => applies_any _ (nearR o) ao cap W h ML.out)
  have H0 := Lib.hid (to2_new w (.slice ao t.rows.length cap) t.mode o.cs)
  generalize madeT l = M at *
  generalize fewT t = f at *
  generalize nearR o = y at *
  generalize l.length = n at *
  obtain ⟨r, m⟩ := t
  obtain ⟨k, ⟨i, c, d, tt, tm⟩, s, oi, oc, om⟩ := o
  obtain ⟨yk, ⟨yi, yc, yd, yt, ym⟩, ys, yid, ycc, ymo⟩ := y
  unfold tv Od.v Od.cs at *
  simp only at *
  generalize r.length = rn at *
  clear hS hO SF FL ML hl hl2
  go_enter Try.func3, Try.ntmps3
  go_wp2_with fail
  (with_reducible refine (AW.out _).mono ?_)
  rintro e w1 ⟨rfl, b1⟩
  have HX := Lib.hid (H0.out.call b1).drew
  clear b1 AW H0
  go_wp2_with fail
  refine wp_region_held_drew (S := (fun W' => (W'.cell? ⟨w.heap.size + 1, 0, none⟩ = some (.int .i64 k) ∧ W'.cell? ⟨w.heap.size + 1, 1, none⟩ = some (.int .i64 i) ∧ W'.cell? ⟨w.heap.size + 1, 2, none⟩ = some (.int .i64 c) ∧ W'.cell? ⟨w.heap.size + 1, 3, none⟩ = some (.int .i64 d) ∧ W'.cell? ⟨w.heap.size + 1, 4, none⟩ = some (.int .i64 tt) ∧ W'.cell? ⟨w.heap.size + 1, 5, none⟩ = some (.int .i64 tm) ∧ W'.cell? ⟨w.heap.size + 1, 6, none⟩ = some (.bool s) ∧ W'.cell? ⟨w.heap.size + 1, 7, none⟩ = some (.int .i64 oi) ∧ W'.cell? ⟨w.heap.size + 1, 8, none⟩ = some (.int .i64 oc) ∧ W'.cell? ⟨w.heap.size + 1, 9, none⟩ = some (.int .i64 om)) ∧ (W'.cell? ⟨w.heap.size, 0, none⟩ = some (.slice ao rn cap) ∧ W'.cell? ⟨w.heap.size, 1, none⟩ = some (.int .i64 m)))) (by kernel_rfl) (And.intro (cell10 (HX.out.cell 0 rfl)) (cell2 (HX.out.cell 1 rfl))) (fun hHeld => ?_)
  refine wpAnyH_take (i := 0) (v := ?_) rfl (by kernel_rfl) (by kernel_rfl) (by kernel_rfl) (fun _ _ _ h => h) (Or.inl ⟨by rfl, ?_⟩) (by assumption) ?_
  rotate_left
  · (intro wS hSw; (try dsimp only at hSw); go_simp; try with_reducible rfl)
  (try simp only [Act.put, List.getElem_toArray, List.getElem_cons_succ, List.getElem_cons_zero, List.setIfInBounds_toArray, List.set_cons_zero, List.set_cons_succ])
  refine wpAnyH_take (i := 1) (v := ?_) rfl (by kernel_rfl) (by kernel_rfl) (by kernel_rfl) (fun _ _ _ h => h) (Or.inl ⟨by rfl, ?_⟩) (by assumption) ?_
  rotate_left
  · (intro wS hSw; (try dsimp only at hSw); go_simp; try with_reducible rfl)
  (try simp only [Act.put, List.getElem_toArray, List.getElem_cons_succ, List.getElem_cons_zero, List.setIfInBounds_toArray, List.set_cons_zero, List.set_cons_succ])
  refine wpAnyH_take (i := 2) (v := ?_) rfl (by kernel_rfl) (by kernel_rfl) (by kernel_rfl) (fun _ _ _ h => h) (Or.inl ⟨by rfl, ?_⟩) (by assumption) ?_
  rotate_left
  · (intro wS hSw; (try dsimp only at hSw); go_simp; try with_reducible rfl)
  (try simp only [Act.put, List.getElem_toArray, List.getElem_cons_succ, List.getElem_cons_zero, List.setIfInBounds_toArray, List.set_cons_zero, List.set_cons_succ])
  refine wpAnyH_take (i := 4) (v := ?_) rfl (by kernel_rfl) (by kernel_rfl) (by kernel_rfl) (fun _ _ _ h => h) (Or.inl ⟨by rfl, ?_⟩) (by assumption) ?_
  rotate_left
  · (intro wS hSw; (try dsimp only at hSw); go_simp; try with_reducible rfl)
  (try simp only [Act.put, List.getElem_toArray, List.getElem_cons_succ, List.getElem_cons_zero, List.setIfInBounds_toArray, List.set_cons_zero, List.set_cons_succ])
  refine wpAnyH_ready (rs := [3]) (by kernel_rfl) (by simp) ?_
  refine AllReadyH.cons rfl (fun K hK => ?_) ?_
  · go_simp
    (with_reducible refine (FE.out _ HX.out.bl).mono ?_)
    rintro e x1 ⟨rfl, b1⟩
    have HX := Lib.hid (HX.out.call b1)
    clear b1
    go_simp
    refine hK.out _ _ (And.intro (cell10 (HX.out.cell 0 rfl)) (cell2 (HX.out.cell 1 rfl))) (fun hHeld => ?_)
    clear hK K
    (try simp only [Act.put, List.getElem_toArray, List.getElem_cons_succ, List.getElem_cons_zero, List.setIfInBounds_toArray, List.set_cons_zero, List.set_cons_succ])
    refine wpAnyH_ready (rs := [5]) (by kernel_rfl) (by simp) ?_
    refine AllReadyH.cons rfl (fun K hK => ?_) ?_
    · go_simp
      (with_reducible refine (AA.out _ HX.out.bl).mono ?_)
      rintro e x2 ⟨rfl, b1⟩
      have HX := Lib.hid (HX.out.call b1)
      clear b1
      go_simp
      refine hK.out _ _ (And.intro (cell10 (HX.out.cell 0 rfl)) (cell2 (HX.out.cell 1 rfl))) (fun hHeld => ?_)
      clear hK K
      (try simp only [Act.put, List.getElem_toArray, List.getElem_cons_succ, List.getElem_cons_zero, List.setIfInBounds_toArray, List.set_cons_zero, List.set_cons_succ])
      refine wpAnyH_take (i := 6) (v := ?_) rfl (by kernel_rfl) (by kernel_rfl) (by kernel_rfl) (fun _ _ _ h => h) (Or.inl ⟨by rfl, ?_⟩) (by assumption) ?_
      rotate_left
      · (intro wS hSw; (try dsimp only at hSw); go_simp; try with_reducible rfl)
      (try simp only [Act.put, List.getElem_toArray, List.getElem_cons_succ, List.getElem_cons_zero, List.setIfInBounds_toArray, List.set_cons_zero, List.set_cons_succ])
      refine wpAnyH_take (i := 7) (v := ?_) rfl (by kernel_rfl) (by kernel_rfl) (by kernel_rfl) (fun _ _ _ h => h) (Or.inl ⟨by rfl, ?_⟩) (by assumption) ?_
      rotate_left
      · (intro wS hSw; (try dsimp only at hSw); go_simp; try with_reducible rfl)
      (try simp only [Act.put, List.getElem_toArray, List.getElem_cons_succ, List.getElem_cons_zero, List.setIfInBounds_toArray, List.set_cons_zero, List.set_cons_succ])
      refine wpAnyH_take (i := 8) (v := ?_) rfl (by kernel_rfl) (by kernel_rfl) (by kernel_rfl) (fun _ _ _ h => h) (Or.inl ⟨by rfl, ?_⟩) (by assumption) ?_
      rotate_left
      · (intro wS hSw; (try dsimp only at hSw); go_simp; try with_reducible rfl)
      (try simp only [Act.put, List.getElem_toArray, List.getElem_cons_succ, List.getElem_cons_zero, List.setIfInBounds_toArray, List.set_cons_zero, List.set_cons_succ])
      refine wpAnyH_take (i := 10) (v := ?_) rfl (by kernel_rfl) (by kernel_rfl) (by kernel_rfl) (fun _ _ _ h => h) (Or.inl ⟨by rfl, ?_⟩) (by assumption) ?_
      rotate_left
      · (intro wS hSw; (try dsimp only at hSw); go_simp; try with_reducible rfl)
      (try simp only [Act.put, List.getElem_toArray, List.getElem_cons_succ, List.getElem_cons_zero, List.setIfInBounds_toArray, List.set_cons_zero, List.set_cons_succ])
      refine wpAnyH_ready (rs := [9]) (by kernel_rfl) (by simp) ?_
      refine AllReadyH.cons rfl (fun K hK => ?_) ?_
      · go_simp
        (with_reducible refine (FE.out _ HX.out.bl).mono ?_)
        rintro e x3 ⟨rfl, b1⟩
        have HX := Lib.hid (HX.out.call b1)
        clear b1
        go_simp
        refine hK.out _ _ (And.intro (cell10 (HX.out.cell 0 rfl)) (cell2 (HX.out.cell 1 rfl))) (fun hHeld => ?_)
        clear hK K
        (try simp only [Act.put, List.getElem_toArray, List.getElem_cons_succ, List.getElem_cons_zero, List.setIfInBounds_toArray, List.set_cons_zero, List.set_cons_succ])
        refine wpAnyH_ready (rs := [11]) (by kernel_rfl) (by simp) ?_
        refine AllReadyH.cons rfl (fun K hK => ?_) ?_
        · go_simp
          (with_reducible refine (NE.out _).mono ?_)
          rintro e x4 ⟨rfl, b1⟩
          have HX := Lib.hid (HX.out.call b1)
          clear b1
          go_simp
          refine hK.out _ _ (And.intro (cell10 (HX.out.cell 0 rfl)) (cell2 (HX.out.cell 1 rfl))) (fun hHeld => ?_)
          clear hK K
          (try simp only [Act.put, List.getElem_toArray, List.getElem_cons_succ, List.getElem_cons_zero, List.setIfInBounds_toArray, List.set_cons_zero, List.set_cons_succ])
          refine wpAnyH_ready (rs := [12]) (by kernel_rfl) (by simp) ?_
          refine AllReadyH.cons rfl (fun K hK => ?_) ?_
          · go_simp
            (with_reducible refine (AN.out _ HX.out.bl).mono ?_)
            rintro e x5 ⟨rfl, b1⟩
            have HX := Lib.hid (HX.out.call b1)
            clear b1
            go_simp
            refine hK.out _ _ (And.intro (cell10 (HX.out.cell 0 rfl)) (cell2 (HX.out.cell 1 rfl))) (fun hHeld => ?_)
            clear hK K
            (try simp only [Act.put, List.getElem_toArray, List.getElem_cons_succ, List.getElem_cons_zero, List.setIfInBounds_toArray, List.set_cons_zero, List.set_cons_succ])
            refine wpAnyH_take (i := 13) (v := ?_) rfl (by kernel_rfl) (by kernel_rfl) (by kernel_rfl) (fun _ _ _ h => h) (Or.inl ⟨by rfl, ?_⟩) (by assumption) ?_
            rotate_left
            · (intro wS hSw; (try dsimp only at hSw); go_simp; try with_reducible rfl)
            (try simp only [Act.put, List.getElem_toArray, List.getElem_cons_succ, List.getElem_cons_zero, List.setIfInBounds_toArray, List.set_cons_zero, List.set_cons_succ])
            refine wpAnyH_take (i := 14) (v := ?_) rfl (by kernel_rfl) (by kernel_rfl) (by kernel_rfl) (fun _ _ _ h => h) (Or.inl ⟨by rfl, ?_⟩) (by assumption) ?_
            rotate_left
            · (intro wS hSw; (try dsimp only at hSw); go_simp; try with_reducible rfl)
            (try simp only [Act.put, List.getElem_toArray, List.getElem_cons_succ, List.getElem_cons_zero, List.setIfInBounds_toArray, List.set_cons_zero, List.set_cons_succ])
            refine wpAnyH_take (i := 15) (v := ?_) rfl (by kernel_rfl) (by kernel_rfl) (by kernel_rfl) (fun _ _ _ h => h) (Or.inl ⟨by rfl, ?_⟩) (by assumption) ?_
            rotate_left
            · (intro wS hSw; (try dsimp only at hSw); go_simp; try with_reducible rfl)
            (try simp only [Act.put, List.getElem_toArray, List.getElem_cons_succ, List.getElem_cons_zero, List.setIfInBounds_toArray, List.set_cons_zero, List.set_cons_succ])
            refine wpAnyH_take (i := 17) (v := ?_) rfl (by kernel_rfl) (by kernel_rfl) (by kernel_rfl) (fun _ _ _ h => h) (Or.inl ⟨by rfl, ?_⟩) (by assumption) ?_
            rotate_left
            · (intro wS hSw; (try dsimp only at hSw); go_simp; try with_reducible rfl)
            (try simp only [Act.put, List.getElem_toArray, List.getElem_cons_succ, List.getElem_cons_zero, List.setIfInBounds_toArray, List.set_cons_zero, List.set_cons_succ])
            refine wpAnyH_ready (rs := [16]) (by kernel_rfl) (by simp) ?_
            refine AllReadyH.cons rfl (fun K hK => ?_) ?_
            · go_simp
              (with_reducible refine (MA.out _ HX.out.bl).mono ?_)
              rintro e x6 ⟨v, rfl, ⟨ma, mc, rfl, ms⟩, b1⟩
              have HX := Lib.hid (HX.out.call b1)
              have MS := Lib.hid ms
              clear ms
              unfold tv
              clear b1
              go_simp
              refine hK.out _ _ (And.intro (cell10 (HX.out.cell 0 rfl)) (cell2 (HX.out.cell 1 rfl))) (fun hHeld => ?_)
              clear hK K
              (try simp only [Act.put, List.getElem_toArray, List.getElem_cons_succ, List.getElem_cons_zero, List.setIfInBounds_toArray, List.set_cons_zero, List.set_cons_succ])
              refine wpAnyH_ready (rs := [18]) (by kernel_rfl) (by simp) ?_
              refine AllReadyH.cons rfl (fun K hK => ?_) ?_
              · go_simp
                (with_reducible refine (MB.out _ _ _ MS.out).mono ?_)
                rintro e x7 ⟨rfl, b1⟩
                have HX := Lib.hid (HX.out.call b1)
                clear b1
                go_simp
                refine hK.out _ _ (And.intro (cell10 (HX.out.cell 0 rfl)) (cell2 (HX.out.cell 1 rfl))) (fun hHeld => ?_)
                clear hK K
                (try simp only [Act.put, List.getElem_toArray, List.getElem_cons_succ, List.getElem_cons_zero, List.setIfInBounds_toArray, List.set_cons_zero, List.set_cons_succ])
                refine wpAnyH_take (i := 19) (v := ?_) rfl (by kernel_rfl) (by kernel_rfl) (by kernel_rfl) (fun _ _ _ h => h) (Or.inl ⟨by rfl, ?_⟩) (by assumption) ?_
                rotate_left
                · (intro wS hSw; (try dsimp only at hSw); go_simp; try with_reducible rfl)
                (try simp only [Act.put, List.getElem_toArray, List.getElem_cons_succ, List.getElem_cons_zero, List.setIfInBounds_toArray, List.set_cons_zero, List.set_cons_succ])
                refine wpAnyH_take (i := 20) (v := ?_) rfl (by kernel_rfl) (by kernel_rfl) (by kernel_rfl) (fun _ _ _ h => h) (Or.inl ⟨by rfl, ?_⟩) (by assumption) ?_
                rotate_left
                · (intro wS hSw; (try dsimp only at hSw); go_simp; try with_reducible rfl)
                (try simp only [Act.put, List.getElem_toArray, List.getElem_cons_succ, List.getElem_cons_zero, List.setIfInBounds_toArray, List.set_cons_zero, List.set_cons_succ])
                refine wpAnyH_take (i := 21) (v := ?_) rfl (by kernel_rfl) (by kernel_rfl) (by kernel_rfl) (fun _ _ _ h => h) (Or.inl ⟨by rfl, ?_⟩) (by assumption) ?_
                rotate_left
                · (intro wS hSw; (try dsimp only at hSw); go_simp; try with_reducible rfl)
                (try simp only [Act.put, List.getElem_toArray, List.getElem_cons_succ, List.getElem_cons_zero, List.setIfInBounds_toArray, List.set_cons_zero, List.set_cons_succ])
                refine wpAnyH_take (i := 23) (v := ?_) rfl (by kernel_rfl) (by kernel_rfl) (by kernel_rfl) (fun _ _ _ h => h) (Or.inl ⟨by rfl, ?_⟩) (by assumption) ?_
                rotate_left
                · (intro wS hSw; (try dsimp only at hSw); go_simp; try with_reducible rfl)
                (try simp only [Act.put, List.getElem_toArray, List.getElem_cons_succ, List.getElem_cons_zero, List.setIfInBounds_toArray, List.set_cons_zero, List.set_cons_succ])
                refine wpAnyH_ready (rs := [22]) (by kernel_rfl) (by simp) ?_
                refine AllReadyH.cons rfl (fun K hK => ?_) ?_
                · go_simp
                  (with_reducible refine (MA.out _ HX.out.bl).mono ?_)
                  rintro e x8 ⟨v, rfl, ⟨ma, mc, rfl, ms⟩, b1⟩
                  have HX := Lib.hid (HX.out.call b1)
                  have MS := Lib.hid ms
                  clear ms
                  unfold tv
                  clear b1
                  go_simp
                  refine hK.out _ _ (And.intro (cell10 (HX.out.cell 0 rfl)) (cell2 (HX.out.cell 1 rfl))) (fun hHeld => ?_)
                  clear hK K
                  (try simp only [Act.put, List.getElem_toArray, List.getElem_cons_succ, List.getElem_cons_zero, List.setIfInBounds_toArray, List.set_cons_zero, List.set_cons_succ])
                  refine wpAnyH_ready (rs := [24]) (by kernel_rfl) (by simp) ?_
                  refine AllReadyH.cons rfl (fun K hK => ?_) ?_
                  · go_simp
                    (with_reducible refine (NE.out _).mono ?_)
                    rintro e x9 ⟨rfl, b1⟩
                    have HX := Lib.hid (HX.out.call b1)
                    have MS := Lib.hid (MS.out.call b1)
                    clear b1
                    go_simp
                    refine hK.out _ _ (And.intro (cell10 (HX.out.cell 0 rfl)) (cell2 (HX.out.cell 1 rfl))) (fun hHeld => ?_)
                    clear hK K
                    (try simp only [Act.put, List.getElem_toArray, List.getElem_cons_succ, List.getElem_cons_zero, List.setIfInBounds_toArray, List.set_cons_zero, List.set_cons_succ])
                    refine wpAnyH_ready (rs := [25]) (by kernel_rfl) (by simp) ?_
                    refine AllReadyH.cons rfl (fun K hK => ?_) ?_
                    · go_simp
                      (with_reducible refine (MN.out _ _ _ MS.out).mono ?_)
                      rintro e x10 ⟨rfl, b1⟩
                      have HX := Lib.hid (HX.out.call b1)
                      clear b1
                      go_simp
                      refine hK.out _ _ (And.intro (cell10 (HX.out.cell 0 rfl)) (cell2 (HX.out.cell 1 rfl))) (fun hHeld => ?_)
                      clear hK K
                      (try simp only [Act.put, List.getElem_toArray, List.getElem_cons_succ, List.getElem_cons_zero, List.setIfInBounds_toArray, List.set_cons_zero, List.set_cons_succ])
                      refine wpAnyH_take (i := 26) (v := ?_) rfl (by kernel_rfl) (by kernel_rfl) (by kernel_rfl) (fun _ _ _ h => h) (Or.inl ⟨by rfl, ?_⟩) (by assumption) ?_
                      rotate_left
                      · (intro wS hSw; (try dsimp only at hSw); go_simp; try with_reducible rfl)
                      (try simp only [Act.put, List.getElem_toArray, List.getElem_cons_succ, List.getElem_cons_zero, List.setIfInBounds_toArray, List.set_cons_zero, List.set_cons_succ])
                      refine wpAnyH_take (i := 27) (v := ?_) rfl (by kernel_rfl) (by kernel_rfl) (by kernel_rfl) (fun _ _ _ h => h) (Or.inl ⟨by rfl, ?_⟩) (by assumption) ?_
                      rotate_left
                      · (intro wS hSw; (try dsimp only at hSw); go_simp; try with_reducible rfl)
                      (try simp only [Act.put, List.getElem_toArray, List.getElem_cons_succ, List.getElem_cons_zero, List.setIfInBounds_toArray, List.set_cons_zero, List.set_cons_succ])
                      refine wpAnyH_done (by kernel_rfl) ?_ _
                      go_wp2
                      go_ret
                      exact ⟨rfl, HX.out.bl⟩
                    exact AllReadyH.nil
                  exact AllReadyH.nil
                exact AllReadyH.nil
              exact AllReadyH.nil
            exact AllReadyH.nil
          exact AllReadyH.nil
        exact AllReadyH.nil
      exact AllReadyH.nil
    exact AllReadyH.nil
  exact AllReadyH.nil

set_option maxRecDepth 100000 in
set_option maxHeartbeats 1600000 in
theorem lifted (os : Os) (started : os.Started) (H : Type) (enc : TypeId × Value → H) :
    ReturnsInHanded {} Try.checked os 3 .any (Rows.tableAppliesSpec.pre6 enc Try.prog Try.f3 Rows.tableAppliesRow.domain false) (Rows.tableAppliesSpec.post enc Try.prog Try.f3 false true false false) := by
  refine returnsInHanded_of_change (C := Try.checked) own started (by kernel_rfl) Try.func3
    (ChangeSpec.witness6 (enc := enc) (C := Try.checked) false ⟨#[], #[.agg #[.slice none 0 0, .int .i64 0], .slice none 0 0, .agg #[.int .i64 0, .int .i64 0, .int .i64 0, .int .i64 0, .int .i64 0, .int .i64 0, .bool false, .int .i64 0, .int .i64 0, .int .i64 0]], []⟩ 8 (by kernel_rfl) (by kernel_rfl) (by kernel_rfl) (by kernel_rfl)) ?_
  intro W base args ds gs before hval0 hW hcnd _
  have hval : ∀ (j : Nat) t v, Try.f3.params[j]? = some t → args[j]? = some v → Value.okWide Try.prog W .any base t v := hval0
  have hW' := hW
  obtain ⟨p, q, hA0, hV, rfl, hfz, hnd⟩ := hW
  have hA : DataW.TrodAll enc Try.prog W 0 (fun _ => true) true Try.f3.params.toList args.toList ds p := hA0
  rw [Try.params3] at hA hval
  obtain ⟨v0, vs0, d0, ds0, p0, q0, hargs, rfl, rfl, h0, r0⟩ := trodAll_cons hA
  obtain ⟨v1, vs1, d1, ds1, p1, q1, rfl, rfl, rfl, h1, r1⟩ := trodAll_cons r0
  obtain ⟨v2, vs2, d2, ds2, p2, q2, rfl, rfl, rfl, h2, r2⟩ := trodAll_cons r1
  obtain ⟨rfl, rfl, rfl⟩ := trodAll_nil r2
  obtain rfl : args = #[v0, v1, v2] := by cases args; simp_all
  obtain ⟨rfl, rfl⟩ := trodVars_none hV
  have lt0 : ∀ x ∈ p0, x.block < W.heap.size := by obtain ⟨m, hm⟩ := h0; exact DataW.trod_lt m _ _ _ hm
  obtain ⟨tb, tbo, tbc, rfl, tbl, tbs⟩ := open_table (hval 0 24 v0 rfl rfl) h0
  have lt1 : ∀ x ∈ p1, x.block < W.heap.size := by obtain ⟨m, hm⟩ := h1; exact DataW.trod_lt m _ _ _ hm
  obtain ⟨lo, l, lc, rfl, ll, lm, ls⟩ := open_ops (hval 1 25 v1 rfl rfl) h1
  have lt2 : ∀ x ∈ p2, x.block < W.heap.size := by obtain ⟨m, hm⟩ := h2; exact DataW.trod_lt m _ _ _ hm
  obtain ⟨o, rfl, oko⟩ := Ox.open_op (hval 2 29 v2 rfl rfl) h2
  clear hA0 hval0
  refine (walk tb tbo tbc l lo lc o W tbl tbs ll ls).mono fun e W' ⟨he, bel⟩ => ?_
  subst he
  exact ⟨_, rfl, _, _, _, [], _, [], hW', trodAll_mk1 (shut_bool Try.underlying4 _), (trodAll_cons_mk (Below.trod laidOut (by kernel_rfl) (of_decide_eq_true (by kernel_rfl)) h0 bel lt0) (trodAll_cons_mk (Below.trod laidOut (by kernel_rfl) (of_decide_eq_true (by kernel_rfl)) h1 bel lt1) (trodAll_cons_mk (Below.trod laidOut (by kernel_rfl) (of_decide_eq_true (by kernel_rfl)) h2 bel lt2) trodAll_mk0))), rfl, bel.frame _, fun h => by cases h⟩

theorem proved : Rows.TableAppliesSaid :=
  OpenClaim.holds_of_wide 3 Try.f3 rfl rfl rfl rfl rfl rfl rfl ⟨rfl, rfl, rfl, rfl, rfl⟩ rfl rfl rfl rfl rfl (by kernel_rfl) Try.func3 (by kernel_rfl)
    (of_decide_eq_true (by kernel_rfl)) (by unfold Func.isWrapper; first | (rw [if_pos (by decide +kernel)]; kernel_rfl) | (rw [if_neg (by decide +kernel)]; exact ⟨rfl, rfl⟩))
    (fun os started H enc _ => lifted os started H enc)
#print axioms proved
end Go.Proofs.Ytnaanahgflbihaa.tableApplies
