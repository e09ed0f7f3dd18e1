/- horariumlaw14.TableTells answers true at every table, every row of ops and every two numbers: tables are told, and written, as the document says. No condition. -/
import Derived.Test.YtnaanahgflbihaaTbQ
import Derived.Test.YtnaanahgflbihaaTbS
import Derived.Test.YtnaanahgflbihaaOcG
import Derived.Test.YtnaanahgflbihaaTbTk
import Derived.Test.YtnaanahgflbihaaTbDb
import Derived.Test.YtnaanahgflbihaaTbZ
namespace Go.Proofs.Ytnaanahgflbihaa.tableTells
open Go.ChangeShapes Go.WideShapes Go.ChangeAt Go.RowKit Go.Joins
open Oc
set_option maxRecDepth 100000
set_option linter.unusedVariables false
set_option linter.unusedSimpArgs false
open Tb
open Ox (Od)
open Ge (Seen)
open Ge (Row)
open Ox (bytesR)
open Pm (Tk)
theorem tk_seen {B : Nat} {w : World} {ao : Option Addr} {k cap : Nat} {l : List Tk} (h : Row tcs 5 27 B w (.slice ao k cap) l) : Seen tcs 5 ao l w := by
  obtain ⟨a, c, e, -, hs, -⟩ := Ge.Row.form tcs_len h
  cases e
  exact hs
theorem two_gen (w : World) (a b : Array Value) (T U : Nat) : Bos [(w.heap.size + 1, b, U), (w.heap.size, a, T)] w ((w.alloc (.cells a T)).alloc (.cells b U)) := by
  have := ((bos_nil w).new a T).new b U
  rw [World.size_alloc] at this
  exact this
set_option maxRecDepth 100000 in
set_option maxHeartbeats 8000000 in
theorem tells_any (t : Tb.Tb) (z0 z1 : Int) (ao : Option Addr) (cap : Nat) (w : World) (hS : Seen Rw.cs 6 ao t.rows w) (hc : chkT t = true) :
    Calls Try.prog 15 #[tv ao t.rows.length cap t.mode, .agg #[.int .i64 z0, .int .i64 z1]] w fun e w' => e = .returned (.bool true) ∧ Below w.heap.size w w' := by
  have hl : t.rows.length ≤ 16 := (chkT_iff.1 hc).2.2.1
  have SO := Lib.hid hS
  have FI := Lib.hid (fun W (hb : Below w.heap.size w W) => find_any t z0 ao cap W (hS.below hb (Nat.le_refl _)) hc)
  have RF := Lib.hid (fun W (hb : Below w.heap.size w W) => rfind_any t z0 ao cap W (hS.below hb (Nat.le_refl _)) (by omega))
  have TA := Lib.hid (fun W (hb : Below w.heap.size w W) => tasks_any t.rows ao cap t.mode W (hS.below hb (Nat.le_refl _)) (by omega))
  have RT := Lib.hid (fun W (hb : Below w.heap.size w W) => rtasks_any t.rows ao cap t.mode W (hS.below hb (Nat.le_refl _)) (by omega))
  have IN := Lib.hid (fun W (hb : Below w.heap.size w W) => in_any t.rows ao cap t.mode z1 W (hS.below hb (Nat.le_refl _)) (by omega))
  have RI := Lib.hid (fun W (hb : Below w.heap.size w W) => rin_any t.rows ao cap t.mode z1 W (hS.below hb (Nat.le_refl _)) (by omega))
  have SM := Lib.hid (fun W (hb : Below w.heap.size w W) => same_any t t ao ao cap cap W (hS.below hb (Nat.le_refl _)) (hS.below hb (Nat.le_refl _)) (by omega) (by omega))
  rw [same_self] at SM
  have QT := Lib.hid (fun pa qa pc qc W (h1 : Seen tcs 5 pa (tasksT t.rows) W) (h2 : Seen tcs 5 qa (tasksT t.rows) W) => rsame9_self (tasksT t.rows) pa qa pc qc W h1 h2 (by rw [tasksT_len]; omega))
  have QI := Lib.hid (fun pa qa pc qc W (h1 : Seen tcs 5 pa (inM z1 t.rows) W) (h2 : Seen tcs 5 qa (inM z1 t.rows) W) => rsame9_self (inM z1 t.rows) pa qa pc qc W h1 h2 (by
    have h3 : (inM z1 t.rows).length ≤ t.rows.length := by
      unfold inM
      split
      · exact inT_len _ _
      · simp
    omega))
  have H0 := Lib.hid (two_gen w #[.slice ao t.rows.length cap, .int .i64 t.mode] #[.int .i64 z0, .int .i64 z1] 24 36)
  generalize findR t.rows z0 = fr at *
  generalize tasksT t.rows = tl at *
  generalize inM z1 t.rows = il at *
  generalize t.rows.length = n at *
  generalize t.mode = mo at *
  clear hS hc hl SO
  obtain ⟨⟨⟨fi, fc, fd, ft, fm⟩, fs⟩, fb⟩ := fr
  have EQ := eql_row ⟨⟨fi, fc, fd, ft, fm⟩, fs⟩ ⟨⟨fi, fc, fd, ft, fm⟩, fs⟩
  rw [decide_eq_true rfl] at EQ
  unfold tv Rw.v at *
  (try simp only at *)
  obtain ⟨q0, q1⟩ := cell2 (H0.out.cell 0 rfl)
  obtain ⟨t0, t1⟩ := cell2 (H0.out.cell 1 rfl)
  go_enter Try.func15, Try.ntmps15
  go_wp2_with fail
  (with_reducible refine (FI.out _ H0.out.bl).mono ?_)
  rintro e w1 ⟨rfl, b1⟩
  have HX := Lib.hid ((H0.out.call b1).new #[.int .i64 fi, .int .i64 fc, .int .i64 fd, .int .i64 ft, .int .i64 fm, .bool fs] 57)
  clear b1 FI H0 q0 q1 t0 t1
  obtain ⟨q0, q1⟩ := cell2 (HX.out.cell 1 rfl)
  obtain ⟨t0, t1⟩ := cell2 (HX.out.cell 2 rfl)
  go_wp2_with fail
  (with_reducible refine (RF.out _ HX.out.bl).mono ?_)
  rintro e w2 ⟨rfl, b2⟩
  have HX := Lib.hid ((HX.out.call b2).new #[.int .i64 fi, .int .i64 fc, .int .i64 fd, .int .i64 ft, .int .i64 fm, .bool fs] 57).drew
  clear b2 RF q0 q1 t0 t1
  go_wp2_with fail
  refine wp_region_held_drew (S := (fun W' => (W'.cell? ⟨w.heap.size + 1, 0, none⟩ = some (.int .i64 z0) ∧ W'.cell? ⟨w.heap.size + 1, 1, none⟩ = some (.int .i64 z1)) ∧ (W'.cell? ⟨w.heap.size, 0, none⟩ = some (.slice ao n cap) ∧ W'.cell? ⟨w.heap.size, 1, none⟩ = some (.int .i64 mo)))) (by kernel_rfl) (And.intro (cell2 (HX.out.cell 2 rfl)) (cell2 (HX.out.cell 3 rfl))) (fun hHeld => ?_)
  refine wpAnyH_take (i := 0) (v := ?_) rfl (by kernel_rfl) (by kernel_rfl) (by kernel_rfl) (fun _ _ _ h => h) (Or.inl ⟨by rfl, ?_⟩) (by assumption) ?_
  rotate_left
  · (intro wS hSw; (try dsimp only at hSw); go_simp; try with_reducible rfl)
  (try simp only [Act.put, List.getElem_toArray, List.getElem_cons_succ, List.getElem_cons_zero, List.setIfInBounds_toArray, List.set_cons_zero, List.set_cons_succ])
  refine wpAnyH_take (i := 2) (v := ?_) rfl (by kernel_rfl) (by kernel_rfl) (by kernel_rfl) (fun _ _ _ h => h) (Or.inl ⟨by rfl, ?_⟩) (by assumption) ?_
  rotate_left
  · (intro wS hSw; (try dsimp only at hSw); go_simp; try with_reducible rfl)
  (try simp only [Act.put, List.getElem_toArray, List.getElem_cons_succ, List.getElem_cons_zero, List.setIfInBounds_toArray, List.set_cons_zero, List.set_cons_succ])
  refine wpAnyH_ready (rs := [1]) (by kernel_rfl) (by simp) ?_
  refine AllReadyH.cons rfl (fun K hK => ?_) ?_
  · go_simp
    (with_reducible refine (TA.out _ HX.out.bl).mono ?_)
    rintro e x1 ⟨v, rfl, ri, b1⟩
    have HX := Lib.hid (HX.out.call b1)
    obtain ⟨io, ic, rfl, -, -, -⟩ := Ge.Row.form tcs_len ri
    have RA := Lib.hid ri
    clear ri
    clear b1
    go_simp
    refine hK.out _ _ (And.intro (cell2 (HX.out.cell 2 rfl)) (cell2 (HX.out.cell 3 rfl))) (fun hHeld => ?_)
    clear hK K
    (try simp only [Act.put, List.getElem_toArray, List.getElem_cons_succ, List.getElem_cons_zero, List.setIfInBounds_toArray, List.set_cons_zero, List.set_cons_succ])
    refine wpAnyH_ready (rs := [3]) (by kernel_rfl) (by simp) ?_
    refine AllReadyH.cons rfl (fun K hK => ?_) ?_
    · go_simp
      (with_reducible refine (RT.out _ HX.out.bl).mono ?_)
      rintro e x2 ⟨v, rfl, ri, b1⟩
      have HX := Lib.hid (HX.out.call b1)
      obtain ⟨qo, qc, rfl, -, -, -⟩ := Ge.Row.form tcs_len ri
      have RA := Lib.hid (RA.out.call b1)
      have RB := Lib.hid ri
      clear ri
      clear b1
      go_simp
      refine hK.out _ _ (And.intro (cell2 (HX.out.cell 2 rfl)) (cell2 (HX.out.cell 3 rfl))) (fun hHeld => ?_)
      clear hK K
      (try simp only [Act.put, List.getElem_toArray, List.getElem_cons_succ, List.getElem_cons_zero, List.setIfInBounds_toArray, List.set_cons_zero, List.set_cons_succ])
      refine wpAnyH_ready (rs := [4]) (by kernel_rfl) (by simp) ?_
      refine AllReadyH.cons rfl (fun K hK => ?_) ?_
      · go_simp
        (with_reducible refine (QT.out _ _ _ _ _ (tk_seen RA.out) (tk_seen RB.out)).mono ?_)
        rintro e x3 ⟨rfl, b1⟩
        have HX := Lib.hid (HX.out.call b1)
        clear RA RB
        clear b1
        go_simp
        refine hK.out _ _ (And.intro (cell2 (HX.out.cell 2 rfl)) (cell2 (HX.out.cell 3 rfl))) (fun hHeld => ?_)
        clear hK K
        (try simp only [Act.put, List.getElem_toArray, List.getElem_cons_succ, List.getElem_cons_zero, List.setIfInBounds_toArray, List.set_cons_zero, List.set_cons_succ])
        refine wpAnyH_take (i := 5) (v := ?_) rfl (by kernel_rfl) (by kernel_rfl) (by kernel_rfl) (fun _ _ _ h => h) (Or.inl ⟨by rfl, ?_⟩) (by assumption) ?_
        rotate_left
        · (intro wS hSw; (try dsimp only at hSw); go_simp; try with_reducible rfl)
        (try simp only [Act.put, List.getElem_toArray, List.getElem_cons_succ, List.getElem_cons_zero, List.setIfInBounds_toArray, List.set_cons_zero, List.set_cons_succ])
        refine wpAnyH_done (by kernel_rfl) ?_ _
        have HX := Lib.hid HX.out.drew
        go_wp2_with fail
        refine wp_region_held_drew (S := (fun W' => (W'.cell? ⟨w.heap.size + 1, 0, none⟩ = some (.int .i64 z0) ∧ W'.cell? ⟨w.heap.size + 1, 1, none⟩ = some (.int .i64 z1)) ∧ (W'.cell? ⟨w.heap.size, 0, none⟩ = some (.slice ao n cap) ∧ W'.cell? ⟨w.heap.size, 1, none⟩ = some (.int .i64 mo)))) (by kernel_rfl) (And.intro (cell2 (HX.out.cell 2 rfl)) (cell2 (HX.out.cell 3 rfl))) (fun hHeld => ?_)
        refine wpAnyH_take (i := 0) (v := ?_) rfl (by kernel_rfl) (by kernel_rfl) (by kernel_rfl) (fun _ _ _ h => h) (Or.inl ⟨by rfl, ?_⟩) (by assumption) ?_
        rotate_left
        · (intro wS hSw; (try dsimp only at hSw); go_simp; try with_reducible rfl)
        (try simp only [Act.put, List.getElem_toArray, List.getElem_cons_succ, List.getElem_cons_zero, List.setIfInBounds_toArray, List.set_cons_zero, List.set_cons_succ])
        refine wpAnyH_take (i := 1) (v := ?_) rfl (by kernel_rfl) (by kernel_rfl) (by kernel_rfl) (fun _ _ _ h => h) (Or.inl ⟨by rfl, ?_⟩) (by assumption) ?_
        rotate_left
        · (intro wS hSw; (try dsimp only at hSw); go_simp; try with_reducible rfl)
        (try simp only [Act.put, List.getElem_toArray, List.getElem_cons_succ, List.getElem_cons_zero, List.setIfInBounds_toArray, List.set_cons_zero, List.set_cons_succ])
        refine wpAnyH_take (i := 2) (v := ?_) rfl (by kernel_rfl) (by kernel_rfl) (by kernel_rfl) (fun _ _ _ h => h) (Or.inl ⟨by rfl, ?_⟩) (by assumption) ?_
        rotate_left
        · (intro wS hSw; (try dsimp only at hSw); go_simp; try with_reducible rfl)
        (try simp only [Act.put, List.getElem_toArray, List.getElem_cons_succ, List.getElem_cons_zero, List.setIfInBounds_toArray, List.set_cons_zero, List.set_cons_succ])
        refine wpAnyH_take (i := 4) (v := ?_) rfl (by kernel_rfl) (by kernel_rfl) (by kernel_rfl) (fun _ _ _ h => h) (Or.inl ⟨by rfl, ?_⟩) (by assumption) ?_
        rotate_left
        · (intro wS hSw; (try dsimp only at hSw); go_simp; try with_reducible rfl)
        (try simp only [Act.put, List.getElem_toArray, List.getElem_cons_succ, List.getElem_cons_zero, List.setIfInBounds_toArray, List.set_cons_zero, List.set_cons_succ])
        refine wpAnyH_take (i := 5) (v := ?_) rfl (by kernel_rfl) (by kernel_rfl) (by kernel_rfl) (fun _ _ _ h => h) (Or.inl ⟨by rfl, ?_⟩) (by assumption) ?_
        rotate_left
        · (intro wS hSw; (try dsimp only at hSw); go_simp; try with_reducible rfl)
        (try simp only [Act.put, List.getElem_toArray, List.getElem_cons_succ, List.getElem_cons_zero, List.setIfInBounds_toArray, List.set_cons_zero, List.set_cons_succ])
        refine wpAnyH_take (i := 6) (v := ?_) rfl (by kernel_rfl) (by kernel_rfl) (by kernel_rfl) (fun _ _ _ h => h) (Or.inl ⟨by rfl, ?_⟩) (by assumption) ?_
        rotate_left
        · (intro wS hSw; (try dsimp only at hSw); go_simp; try with_reducible rfl)
        (try simp only [Act.put, List.getElem_toArray, List.getElem_cons_succ, List.getElem_cons_zero, List.setIfInBounds_toArray, List.set_cons_zero, List.set_cons_succ])
        refine wpAnyH_ready (rs := [3]) (by kernel_rfl) (by simp) ?_
        refine AllReadyH.cons rfl (fun K hK => ?_) ?_
        · go_simp
          (with_reducible refine (IN.out _ HX.out.bl).mono ?_)
          rintro e x4 ⟨v, rfl, ri, b1⟩
          have HX := Lib.hid (HX.out.call b1)
          obtain ⟨io, ic, rfl, -, -, -⟩ := Ge.Row.form tcs_len ri
          have RA := Lib.hid ri
          clear ri
          clear b1
          go_simp
          refine hK.out _ _ (And.intro (cell2 (HX.out.cell 2 rfl)) (cell2 (HX.out.cell 3 rfl))) (fun hHeld => ?_)
          clear hK K
          (try simp only [Act.put, List.getElem_toArray, List.getElem_cons_succ, List.getElem_cons_zero, List.setIfInBounds_toArray, List.set_cons_zero, List.set_cons_succ])
          refine wpAnyH_ready (rs := [7]) (by kernel_rfl) (by simp) ?_
          refine AllReadyH.cons rfl (fun K hK => ?_) ?_
          · go_simp
            (with_reducible refine (RI.out _ HX.out.bl).mono ?_)
            rintro e x5 ⟨v, rfl, ri, b1⟩
            have HX := Lib.hid (HX.out.call b1)
            obtain ⟨qo, qc, rfl, -, -, -⟩ := Ge.Row.form tcs_len ri
            have RA := Lib.hid (RA.out.call b1)
            have RB := Lib.hid ri
            clear ri
            clear b1
            go_simp
            refine hK.out _ _ (And.intro (cell2 (HX.out.cell 2 rfl)) (cell2 (HX.out.cell 3 rfl))) (fun hHeld => ?_)
            clear hK K
            (try simp only [Act.put, List.getElem_toArray, List.getElem_cons_succ, List.getElem_cons_zero, List.setIfInBounds_toArray, List.set_cons_zero, List.set_cons_succ])
            refine wpAnyH_ready (rs := [8]) (by kernel_rfl) (by simp) ?_
            refine AllReadyH.cons rfl (fun K hK => ?_) ?_
            · go_simp
              (with_reducible refine (QI.out _ _ _ _ _ (tk_seen RA.out) (tk_seen RB.out)).mono ?_)
              rintro e x6 ⟨rfl, b1⟩
              have HX := Lib.hid (HX.out.call b1)
              clear RA RB
              clear b1
              go_simp
              refine hK.out _ _ (And.intro (cell2 (HX.out.cell 2 rfl)) (cell2 (HX.out.cell 3 rfl))) (fun hHeld => ?_)
              clear hK K
              (try simp only [Act.put, List.getElem_toArray, List.getElem_cons_succ, List.getElem_cons_zero, List.setIfInBounds_toArray, List.set_cons_zero, List.set_cons_succ])
              refine wpAnyH_take (i := 9) (v := ?_) rfl (by kernel_rfl) (by kernel_rfl) (by kernel_rfl) (fun _ _ _ h => h) (Or.inl ⟨by rfl, ?_⟩) (by assumption) ?_
              rotate_left
              · (intro wS hSw; (try dsimp only at hSw); go_simp; try with_reducible rfl)
              (try simp only [Act.put, List.getElem_toArray, List.getElem_cons_succ, List.getElem_cons_zero, List.setIfInBounds_toArray, List.set_cons_zero, List.set_cons_succ])
              refine wpAnyH_done (by kernel_rfl) ?_ _
              obtain ⟨a0, a1, a2, a3, a4, a5⟩ := cell6 (HX.out.cell 1 rfl)
              obtain ⟨c0, c1, c2, c3, c4, c5⟩ := cell6 (HX.out.cell 0 rfl)
              obtain ⟨t0, t1⟩ := cell2 (HX.out.cell 3 rfl)
              go_wp2_with fail
              (with_reducible refine (SM.out _ HX.out.bl).mono ?_)
              rintro e w9 ⟨rfl, b9⟩
              have Z := Lib.hid (HX.out.call b9).bl
              clear b9 SM HX EQ a0 a1 a2 a3 a4 a5 c0 c1 c2 c3 c4 c5 t0 t1
              go_wp2
              go_ret
              exact ⟨rfl, Z.out⟩
            exact AllReadyH.nil
          exact AllReadyH.nil
        exact AllReadyH.nil
      exact AllReadyH.nil
    exact AllReadyH.nil
  exact AllReadyH.nil
set_option maxRecDepth 100000 in
set_option maxHeartbeats 8000000 in
theorem writes_any (t : Tb.Tb) (ao : Option Addr) (cap : Nat) (w : World) (hS : Seen Rw.cs 6 ao t.rows w) (hl : t.rows.length ≤ 1000) :
    Calls Try.prog 16 #[tv ao t.rows.length cap t.mode] w fun e w' => e = .returned (.bool true) ∧ Below w.heap.size w w' := by
  have BY := Lib.hid (fun W (hb : Below w.heap.size w W) => bytes_any t ao cap W (hS.below hb (Nat.le_refl _)) hl)
  have RB := Lib.hid (fun W (hb : Below w.heap.size w W) => rbytest_any t ao cap W (hS.below hb (Nat.le_refl _)) hl)
  have CK := Lib.hid (fun W (hb : Below w.heap.size w W) => check_any t ao cap W (hS.below hb (Nat.le_refl _)) hl)
  have RC := Lib.hid (fun W (hb : Below w.heap.size w W) => rcheck_any t ao cap W (hS.below hb (Nat.le_refl _)) hl)
  have H0 := Lib.hid ((bos_nil w).new #[.slice ao t.rows.length cap, .int .i64 t.mode] 24)
  generalize bytesT t = bt at *
  generalize chkT t = ck at *
  generalize t.rows.length = n at *
  generalize t.mode = mo at *
  clear hS hl
  obtain ⟨b1, b2⟩ := bt
  unfold tv at *
  (try simp only at *)
  have EQ : (b1.toList == b1.toList) = true := by simp
  obtain ⟨t0, t1⟩ := cell2 (H0.out.cell 0 rfl)
  go_enter Try.func16, Try.ntmps16
  go_wp2_with fail
  (with_reducible refine (BY.out _ H0.out.bl).mono ?_)
  rintro e w1 ⟨rfl, bb⟩
  have HX := Lib.hid (H0.out.call bb)
  clear bb BY H0 t0 t1
  obtain ⟨t0, t1⟩ := cell2 (HX.out.cell 0 rfl)
  go_wp2_with fail
  (with_reducible refine (RB.out _ HX.out.bl).mono ?_)
  rintro e w2 ⟨rfl, bb⟩
  have HX := Lib.hid (HX.out.call bb).drew
  clear bb RB t0 t1
  go_wp2_with fail
  refine wp_region_held_drew (S := (fun W' => W'.cell? ⟨w.heap.size, 0, none⟩ = some (.slice ao n cap) ∧ W'.cell? ⟨w.heap.size, 1, none⟩ = some (.int .i64 mo))) (by kernel_rfl) (cell2 (HX.out.cell 0 rfl)) (fun hHeld => ?_)
  refine wpAnyH_take (i := 0) (v := ?_) rfl (by kernel_rfl) (by kernel_rfl) (by kernel_rfl) (fun _ _ _ h => h) (Or.inl ⟨by rfl, ?_⟩) (by assumption) ?_
  rotate_left
  · (intro wS hSw; (try dsimp only at hSw); go_simp; try with_reducible rfl)
  (try simp only [Act.put, List.getElem_toArray, List.getElem_cons_succ, List.getElem_cons_zero, List.setIfInBounds_toArray, List.set_cons_zero, List.set_cons_succ])
  refine wpAnyH_take (i := 1) (v := ?_) rfl (by kernel_rfl) (by kernel_rfl) (by kernel_rfl) (fun _ _ _ h => h) (Or.inl ⟨by rfl, ?_⟩) (by assumption) ?_
  rotate_left
  · (intro wS hSw; (try dsimp only at hSw); go_simp; try with_reducible rfl)
  (try simp only [Act.put, List.getElem_toArray, List.getElem_cons_succ, List.getElem_cons_zero, List.setIfInBounds_toArray, List.set_cons_zero, List.set_cons_succ])
  refine wpAnyH_take (i := 2) (v := ?_) rfl (by kernel_rfl) (by kernel_rfl) (by kernel_rfl) (fun _ _ _ h => h) (Or.inl ⟨by rfl, ?_⟩) (by assumption) ?_
  rotate_left
  · (intro wS hSw; (try dsimp only at hSw); go_simp; try with_reducible rfl)
  (try simp only [Act.put, List.getElem_toArray, List.getElem_cons_succ, List.getElem_cons_zero, List.setIfInBounds_toArray, List.set_cons_zero, List.set_cons_succ])
  refine wpAnyH_take (i := 3) (v := ?_) rfl (by kernel_rfl) (by kernel_rfl) (by kernel_rfl) (fun _ _ _ h => h) (Or.inl ⟨by rfl, ?_⟩) (by assumption) ?_
  rotate_left
  · (intro wS hSw; (try dsimp only at hSw); go_simp; try with_reducible rfl)
  (try simp only [Act.put, List.getElem_toArray, List.getElem_cons_succ, List.getElem_cons_zero, List.setIfInBounds_toArray, List.set_cons_zero, List.set_cons_succ])
  refine wpAnyH_take (i := 4) (v := ?_) rfl (by kernel_rfl) (by kernel_rfl) (by kernel_rfl) (fun _ _ _ h => h) (Or.inl ⟨by rfl, ?_⟩) (by assumption) ?_
  rotate_left
  · (intro wS hSw; (try dsimp only at hSw); go_simp; try with_reducible rfl)
  (try simp only [Act.put, List.getElem_toArray, List.getElem_cons_succ, List.getElem_cons_zero, List.setIfInBounds_toArray, List.set_cons_zero, List.set_cons_succ])
  refine wpAnyH_take (i := 5) (v := ?_) rfl (by kernel_rfl) (by kernel_rfl) (by kernel_rfl) (fun _ _ _ h => h) (Or.inl ⟨by rfl, ?_⟩) (by assumption) ?_
  rotate_left
  · (intro wS hSw; (try dsimp only at hSw); go_simp; try with_reducible rfl)
  (try simp only [Act.put, List.getElem_toArray, List.getElem_cons_succ, List.getElem_cons_zero, List.setIfInBounds_toArray, List.set_cons_zero, List.set_cons_succ])
  refine wpAnyH_take (i := 6) (v := ?_) rfl (by kernel_rfl) (by kernel_rfl) (by kernel_rfl) (fun _ _ _ h => h) (Or.inl ⟨by rfl, ?_⟩) (by assumption) ?_
  rotate_left
  · (intro wS hSw; (try dsimp only at hSw); go_simp; try with_reducible rfl)
  (try simp only [Act.put, List.getElem_toArray, List.getElem_cons_succ, List.getElem_cons_zero, List.setIfInBounds_toArray, List.set_cons_zero, List.set_cons_succ])
  refine wpAnyH_take (i := 7) (v := ?_) rfl (by kernel_rfl) (by kernel_rfl) (by kernel_rfl) (fun _ _ _ h => h) (Or.inl ⟨by rfl, ?_⟩) (by assumption) ?_
  rotate_left
  · (intro wS hSw; (try dsimp only at hSw); go_simp; try with_reducible rfl)
  (try simp only [Act.put, List.getElem_toArray, List.getElem_cons_succ, List.getElem_cons_zero, List.setIfInBounds_toArray, List.set_cons_zero, List.set_cons_succ])
  refine wpAnyH_take (i := 8) (v := ?_) rfl (by kernel_rfl) (by kernel_rfl) (by kernel_rfl) (fun _ _ _ h => h) (Or.inl ⟨by rfl, ?_⟩) (by assumption) ?_
  rotate_left
  · (intro wS hSw; (try dsimp only at hSw); go_simp; try with_reducible rfl)
  (try simp only [Act.put, List.getElem_toArray, List.getElem_cons_succ, List.getElem_cons_zero, List.setIfInBounds_toArray, List.set_cons_zero, List.set_cons_succ])
  refine wpAnyH_take (i := 9) (v := ?_) rfl (by kernel_rfl) (by kernel_rfl) (by kernel_rfl) (fun _ _ _ h => h) (Or.inl ⟨by rfl, ?_⟩) (by assumption) ?_
  rotate_left
  · (intro wS hSw; (try dsimp only at hSw); go_simp; try with_reducible rfl)
  (try simp only [Act.put, List.getElem_toArray, List.getElem_cons_succ, List.getElem_cons_zero, List.setIfInBounds_toArray, List.set_cons_zero, List.set_cons_succ])
  refine wpAnyH_take (i := 11) (v := ?_) rfl (by kernel_rfl) (by kernel_rfl) (by kernel_rfl) (fun _ _ _ h => h) (Or.inl ⟨by rfl, ?_⟩) (by assumption) ?_
  rotate_left
  · (intro wS hSw; (try dsimp only at hSw); go_simp; try with_reducible rfl)
  (try simp only [Act.put, List.getElem_toArray, List.getElem_cons_succ, List.getElem_cons_zero, List.setIfInBounds_toArray, List.set_cons_zero, List.set_cons_succ])
  refine wpAnyH_ready (rs := [10]) (by kernel_rfl) (by simp) ?_
  refine AllReadyH.cons rfl (fun K hK => ?_) ?_
  · go_simp
    (with_reducible refine (CK.out _ HX.out.bl).mono ?_)
    rintro e x1 ⟨rfl, b1⟩
    have HX := Lib.hid (HX.out.call b1)
    clear b1
    go_simp
    refine hK.out _ _ (cell2 (HX.out.cell 0 rfl)) (fun hHeld => ?_)
    clear hK K
    (try simp only [Act.put, List.getElem_toArray, List.getElem_cons_succ, List.getElem_cons_zero, List.setIfInBounds_toArray, List.set_cons_zero, List.set_cons_succ])
    refine wpAnyH_ready (rs := [12]) (by kernel_rfl) (by simp) ?_
    refine AllReadyH.cons rfl (fun K hK => ?_) ?_
    · go_simp
      (with_reducible refine (RC.out _ HX.out.bl).mono ?_)
      rintro e x2 ⟨rfl, b1⟩
      have HX := Lib.hid (HX.out.call b1)
      clear b1
      go_simp
      refine hK.out _ _ (cell2 (HX.out.cell 0 rfl)) (fun hHeld => ?_)
      clear hK K
      (try simp only [Act.put, List.getElem_toArray, List.getElem_cons_succ, List.getElem_cons_zero, List.setIfInBounds_toArray, List.set_cons_zero, List.set_cons_succ])
      refine wpAnyH_take (i := 13) (v := ?_) rfl (by kernel_rfl) (by kernel_rfl) (by kernel_rfl) (fun _ _ _ h => h) (Or.inl ⟨by rfl, ?_⟩) (by assumption) ?_
      rotate_left
      · (intro wS hSw; (try dsimp only at hSw); go_simp; try with_reducible rfl)
      (try simp only [Act.put, List.getElem_toArray, List.getElem_cons_succ, List.getElem_cons_zero, List.setIfInBounds_toArray, List.set_cons_zero, List.set_cons_succ])
      refine wpAnyH_take (i := 14) (v := ?_) rfl (by kernel_rfl) (by kernel_rfl) (by kernel_rfl) (fun _ _ _ h => h) (Or.inl ⟨by rfl, ?_⟩) (by assumption) ?_
      rotate_left
      · (intro wS hSw; (try dsimp only at hSw); go_simp; try with_reducible rfl)
      (try simp only [Act.put, List.getElem_toArray, List.getElem_cons_succ, List.getElem_cons_zero, List.setIfInBounds_toArray, List.set_cons_zero, List.set_cons_succ])
      refine wpAnyH_take (i := 15) (v := ?_) rfl (by kernel_rfl) (by kernel_rfl) (by kernel_rfl) (fun _ _ _ h => h) (Or.inl ⟨by rfl, ?_⟩) (by assumption) ?_
      rotate_left
      · (intro wS hSw; (try dsimp only at hSw); go_simp; try with_reducible rfl)
      (try simp only [Act.put, List.getElem_toArray, List.getElem_cons_succ, List.getElem_cons_zero, List.setIfInBounds_toArray, List.set_cons_zero, List.set_cons_succ])
      refine wpAnyH_done (by kernel_rfl) ?_ _
      go_wp2
      go_ret
      exact ⟨rfl, HX.out.bl⟩
    exact AllReadyH.nil
  exact AllReadyH.nil

set_option maxRecDepth 100000 in
set_option maxHeartbeats 16000000 in
theorem walk (t : Tb.Tb) (ao : Option Addr) (cap : Nat) (l : List Od) (lo : Option Addr) (lc : Nat) (a b : Int) (w : World) (hl : t.rows.length ≤ 9223372036854775807) (hS : Sl (.slice ao t.rows.length cap) t.rows w ao cap) (hl2 : l.length ≤ 9223372036854775807) (hO : Seen ocs 10 lo l w) :
    Calls Try.prog 4 #[tv ao t.rows.length cap t.mode, .slice lo l.length lc, .agg #[.int .i64 a, .int .i64 b]] w fun e w' => e = .returned (.bool true) ∧ Below w.heap.size w w' := by
  have AW := Lib.hid awake_any
  have FE : Hid (∀ W, Below w.heap.size w W → Calls Try.prog 12 #[tv ao t.rows.length cap t.mode] W fun e w' => e = .returned (tv ao (fewT t).rows.length cap (fewT t).mode) ∧ Below W.heap.size W w') := Lib.hid (fun W hb => few_any t ao cap W hl hS.le)
  have SF : Hid (∀ W, Below w.heap.size w W → Seen Rw.cs 6 ao (fewT t).rows W) := Lib.hid (fun W hb => (hS.seen.below hb (Nat.le_refl _)).take 18)
  have FL : (fewT t).rows.length ≤ 1000 := by unfold fewT; rw [List.length_take]; omega
  have WF : Hid (∀ W, Below w.heap.size w W → Calls Try.prog 16 #[tv ao (fewT t).rows.length cap (fewT t).mode] W fun e w' => e = .returned (.bool true) ∧ Below W.heap.size W w') := Lib.hid (fun W hb => writes_any _ ao cap W (SF.out W hb) FL)
  have MA : Hid (∀ W, Below w.heap.size w W → Calls Try.prog 14 #[.slice lo l.length lc] W fun e w' => ∃ v, e = .returned v ∧ Tb.Told v (madeT l) w' ∧ Below W.heap.size W w') := Lib.hid (fun W hb => made_any l lo lc W (hO.below hb (Nat.le_refl _)) hl2)
  have ML : (madeT l).rows.length ≤ 1000 := by have := (chkT_iff.1 (made_chk l)).2.2.1; omega
  have TE : Hid (∀ W ao cap z0 z1, Seen Rw.cs 6 ao (madeT l).rows W → Calls Try.prog 15 #[tv ao (madeT l).rows.length cap (madeT l).mode, .agg #[.int .i64 z0, .int .i64 z1]] W fun e w' => e = .returned (.bool true) ∧ Below W.heap.size W w') := Lib.hid (fun W ao cap z0 z1 h => tells_any _ z0 z1 ao cap W h (made_chk l))
  have WM : Hid (∀ W ao cap, Seen Rw.cs 6 ao (madeT l).rows W → Calls Try.prog 16 #[tv ao (madeT l).rows.length cap (madeT l).mode] W fun e w' => e = .returned (.bool true) ∧ Below W.heap.size W w') := Lib.hid (fun W ao cap h => writes_any _ ao cap W h ML)
  have SA : Hid (∀ W mo mc, Below w.heap.size w W → Seen Rw.cs 6 mo (madeT l).rows W → Calls Try.prog 17 #[tv ao (fewT t).rows.length cap (fewT t).mode, tv mo (madeT l).rows.length mc (madeT l).mode] W fun e w' => e = .returned (.bool (sameT (fewT t) (madeT l))) ∧ Below W.heap.size W w') := Lib.hid (fun W mo mc hb h => same_any _ _ ao mo cap mc W (SF.out W hb) h FL ML)
  have SR : Hid (∀ W mo mc, Below w.heap.size w W → Seen Rw.cs 6 mo (madeT l).rows W → Calls Try.prog 18 #[tv ao (fewT t).rows.length cap (fewT t).mode, tv mo (madeT l).rows.length mc (madeT l).mode] W fun e w' => e = .returned (.bool (sameT (fewT t) (madeT l))) ∧ Below W.heap.size W w') := Lib.hid (fun W mo mc hb h => rsame_any _ _ ao mo cap mc W (SF.out W hb) h FL ML)
  have H0 := Lib.hid (two_gen w #[.slice ao t.rows.length cap, .int .i64 t.mode] #[.int .i64 a, .int .i64 b] 24 36)
  generalize sameT (fewT t) (madeT l) = sm at *
  generalize madeT l = M at *
  generalize fewT t = f at *
  generalize l.length = n at *
  obtain ⟨r, m⟩ := t
  unfold tv at *
  simp only at *
  generalize r.length = rn at *
  clear hS hO SF FL ML hl hl2
  go_enter Try.func4, Try.ntmps4
  go_wp2_with fail
  (with_reducible refine (AW.out _).mono ?_)
  rintro e w1 ⟨rfl, b1⟩
  have HX := Lib.hid (H0.out.call b1).drew
  clear b1 AW H0
  go_wp2_with fail
  refine wp_region_held_drew (S := (fun W' => (W'.cell? ⟨w.heap.size + 1, 0, none⟩ = some (.int .i64 a) ∧ W'.cell? ⟨w.heap.size + 1, 1, none⟩ = some (.int .i64 b)) ∧ (W'.cell? ⟨w.heap.size, 0, none⟩ = some (.slice ao rn cap) ∧ W'.cell? ⟨w.heap.size, 1, none⟩ = some (.int .i64 m)))) (by kernel_rfl) (And.intro (cell2 (HX.out.cell 0 rfl)) (cell2 (HX.out.cell 1 rfl))) (fun hHeld => ?_)
  refine wpAnyH_take (i := 0) (v := ?_) rfl (by kernel_rfl) (by kernel_rfl) (by kernel_rfl) (fun _ _ _ h => h) (Or.inl ⟨by rfl, ?_⟩) (by assumption) ?_
  rotate_left
  · (intro wS hSw; (try dsimp only at hSw); go_simp; try with_reducible rfl)
  (try simp only [Act.put, List.getElem_toArray, List.getElem_cons_succ, List.getElem_cons_zero, List.setIfInBounds_toArray, List.set_cons_zero, List.set_cons_succ])
  refine wpAnyH_take (i := 1) (v := ?_) rfl (by kernel_rfl) (by kernel_rfl) (by kernel_rfl) (fun _ _ _ h => h) (Or.inl ⟨by rfl, ?_⟩) (by assumption) ?_
  rotate_left
  · (intro wS hSw; (try dsimp only at hSw); go_simp; try with_reducible rfl)
  (try simp only [Act.put, List.getElem_toArray, List.getElem_cons_succ, List.getElem_cons_zero, List.setIfInBounds_toArray, List.set_cons_zero, List.set_cons_succ])
  refine wpAnyH_take (i := 2) (v := ?_) rfl (by kernel_rfl) (by kernel_rfl) (by kernel_rfl) (fun _ _ _ h => h) (Or.inl ⟨by rfl, ?_⟩) (by assumption) ?_
  rotate_left
  · (intro wS hSw; (try dsimp only at hSw); go_simp; try with_reducible rfl)
  (try simp only [Act.put, List.getElem_toArray, List.getElem_cons_succ, List.getElem_cons_zero, List.setIfInBounds_toArray, List.set_cons_zero, List.set_cons_succ])
  refine wpAnyH_take (i := 4) (v := ?_) rfl (by kernel_rfl) (by kernel_rfl) (by kernel_rfl) (fun _ _ _ h => h) (Or.inl ⟨by rfl, ?_⟩) (by assumption) ?_
  rotate_left
  · (intro wS hSw; (try dsimp only at hSw); go_simp; try with_reducible rfl)
  (try simp only [Act.put, List.getElem_toArray, List.getElem_cons_succ, List.getElem_cons_zero, List.setIfInBounds_toArray, List.set_cons_zero, List.set_cons_succ])
  refine wpAnyH_ready (rs := [3]) (by kernel_rfl) (by simp) ?_
  refine AllReadyH.cons rfl (fun K hK => ?_) ?_
  · go_simp
    (with_reducible refine (MA.out _ HX.out.bl).mono ?_)
    rintro e x1 ⟨v, rfl, ⟨ma, mc, rfl, ms⟩, b1⟩
    have HX := Lib.hid (HX.out.call b1)
    have MS := Lib.hid ms
    clear ms
    unfold tv
    clear b1
    go_simp
    refine hK.out _ _ (And.intro (cell2 (HX.out.cell 0 rfl)) (cell2 (HX.out.cell 1 rfl))) (fun hHeld => ?_)
    clear hK K
    (try simp only [Act.put, List.getElem_toArray, List.getElem_cons_succ, List.getElem_cons_zero, List.setIfInBounds_toArray, List.set_cons_zero, List.set_cons_succ])
    refine wpAnyH_ready (rs := [5]) (by kernel_rfl) (by simp) ?_
    refine AllReadyH.cons rfl (fun K hK => ?_) ?_
    · go_simp
      (with_reducible refine (TE.out _ _ _ _ _ MS.out.seen).mono ?_)
      rintro e x2 ⟨rfl, b1⟩
      have HX := Lib.hid (HX.out.call b1)
      clear b1
      go_simp
      refine hK.out _ _ (And.intro (cell2 (HX.out.cell 0 rfl)) (cell2 (HX.out.cell 1 rfl))) (fun hHeld => ?_)
      clear hK K
      (try simp only [Act.put, List.getElem_toArray, List.getElem_cons_succ, List.getElem_cons_zero, List.setIfInBounds_toArray, List.set_cons_zero, List.set_cons_succ])
      refine wpAnyH_take (i := 6) (v := ?_) rfl (by kernel_rfl) (by kernel_rfl) (by kernel_rfl) (fun _ _ _ h => h) (Or.inl ⟨by rfl, ?_⟩) (by assumption) ?_
      rotate_left
      · (intro wS hSw; (try dsimp only at hSw); go_simp; try with_reducible rfl)
      (try simp only [Act.put, List.getElem_toArray, List.getElem_cons_succ, List.getElem_cons_zero, List.setIfInBounds_toArray, List.set_cons_zero, List.set_cons_succ])
      refine wpAnyH_take (i := 7) (v := ?_) rfl (by kernel_rfl) (by kernel_rfl) (by kernel_rfl) (fun _ _ _ h => h) (Or.inl ⟨by rfl, ?_⟩) (by assumption) ?_
      rotate_left
      · (intro wS hSw; (try dsimp only at hSw); go_simp; try with_reducible rfl)
      (try simp only [Act.put, List.getElem_toArray, List.getElem_cons_succ, List.getElem_cons_zero, List.setIfInBounds_toArray, List.set_cons_zero, List.set_cons_succ])
      refine wpAnyH_take (i := 8) (v := ?_) rfl (by kernel_rfl) (by kernel_rfl) (by kernel_rfl) (fun _ _ _ h => h) (Or.inl ⟨by rfl, ?_⟩) (by assumption) ?_
      rotate_left
      · (intro wS hSw; (try dsimp only at hSw); go_simp; try with_reducible rfl)
      (try simp only [Act.put, List.getElem_toArray, List.getElem_cons_succ, List.getElem_cons_zero, List.setIfInBounds_toArray, List.set_cons_zero, List.set_cons_succ])
      refine wpAnyH_take (i := 10) (v := ?_) rfl (by kernel_rfl) (by kernel_rfl) (by kernel_rfl) (fun _ _ _ h => h) (Or.inl ⟨by rfl, ?_⟩) (by assumption) ?_
      rotate_left
      · (intro wS hSw; (try dsimp only at hSw); go_simp; try with_reducible rfl)
      (try simp only [Act.put, List.getElem_toArray, List.getElem_cons_succ, List.getElem_cons_zero, List.setIfInBounds_toArray, List.set_cons_zero, List.set_cons_succ])
      refine wpAnyH_take (i := 11) (v := ?_) rfl (by kernel_rfl) (by kernel_rfl) (by kernel_rfl) (fun _ _ _ h => h) (Or.inl ⟨by rfl, ?_⟩) (by assumption) ?_
      rotate_left
      · (intro wS hSw; (try dsimp only at hSw); go_simp; try with_reducible rfl)
      (try simp only [Act.put, List.getElem_toArray, List.getElem_cons_succ, List.getElem_cons_zero, List.setIfInBounds_toArray, List.set_cons_zero, List.set_cons_succ])
      refine wpAnyH_take (i := 12) (v := ?_) rfl (by kernel_rfl) (by kernel_rfl) (by kernel_rfl) (fun _ _ _ h => h) (Or.inl ⟨by rfl, ?_⟩) (by assumption) ?_
      rotate_left
      · (intro wS hSw; (try dsimp only at hSw); go_simp; try with_reducible rfl)
      (try simp only [Act.put, List.getElem_toArray, List.getElem_cons_succ, List.getElem_cons_zero, List.setIfInBounds_toArray, List.set_cons_zero, List.set_cons_succ])
      refine wpAnyH_take (i := 13) (v := ?_) rfl (by kernel_rfl) (by kernel_rfl) (by kernel_rfl) (fun _ _ _ h => h) (Or.inl ⟨by rfl, ?_⟩) (by assumption) ?_
      rotate_left
      · (intro wS hSw; (try dsimp only at hSw); go_simp; try with_reducible rfl)
      (try simp only [Act.put, List.getElem_toArray, List.getElem_cons_succ, List.getElem_cons_zero, List.setIfInBounds_toArray, List.set_cons_zero, List.set_cons_succ])
      refine wpAnyH_take (i := 14) (v := ?_) rfl (by kernel_rfl) (by kernel_rfl) (by kernel_rfl) (fun _ _ _ h => h) (Or.inl ⟨by rfl, ?_⟩) (by assumption) ?_
      rotate_left
      · (intro wS hSw; (try dsimp only at hSw); go_simp; try with_reducible rfl)
      (try simp only [Act.put, List.getElem_toArray, List.getElem_cons_succ, List.getElem_cons_zero, List.setIfInBounds_toArray, List.set_cons_zero, List.set_cons_succ])
      refine wpAnyH_take (i := 15) (v := ?_) rfl (by kernel_rfl) (by kernel_rfl) (by kernel_rfl) (fun _ _ _ h => h) (Or.inl ⟨by rfl, ?_⟩) (by assumption) ?_
      rotate_left
      · (intro wS hSw; (try dsimp only at hSw); go_simp; try with_reducible rfl)
      (try simp only [Act.put, List.getElem_toArray, List.getElem_cons_succ, List.getElem_cons_zero, List.setIfInBounds_toArray, List.set_cons_zero, List.set_cons_succ])
      refine wpAnyH_take (i := 16) (v := ?_) rfl (by kernel_rfl) (by kernel_rfl) (by kernel_rfl) (fun _ _ _ h => h) (Or.inl ⟨by rfl, ?_⟩) (by assumption) ?_
      rotate_left
      · (intro wS hSw; (try dsimp only at hSw); go_simp; try with_reducible rfl)
      (try simp only [Act.put, List.getElem_toArray, List.getElem_cons_succ, List.getElem_cons_zero, List.setIfInBounds_toArray, List.set_cons_zero, List.set_cons_succ])
      refine wpAnyH_ready (rs := [9]) (by kernel_rfl) (by simp) ?_
      refine AllReadyH.cons rfl (fun K hK => ?_) ?_
      · go_simp
        (with_reducible refine (MA.out _ HX.out.bl).mono ?_)
        rintro e x3 ⟨v, rfl, ⟨ma, mc, rfl, ms⟩, b1⟩
        have HX := Lib.hid (HX.out.call b1)
        have MS := Lib.hid ms
        clear ms
        unfold tv
        clear b1
        go_simp
        refine hK.out _ _ (And.intro (cell2 (HX.out.cell 0 rfl)) (cell2 (HX.out.cell 1 rfl))) (fun hHeld => ?_)
        clear hK K
        (try simp only [Act.put, List.getElem_toArray, List.getElem_cons_succ, List.getElem_cons_zero, List.setIfInBounds_toArray, List.set_cons_zero, List.set_cons_succ])
        refine wpAnyH_ready (rs := [17]) (by kernel_rfl) (by simp) ?_
        refine AllReadyH.cons rfl (fun K hK => ?_) ?_
        · go_simp
          (with_reducible refine (TE.out _ _ _ _ _ MS.out.seen).mono ?_)
          rintro e x4 ⟨rfl, b1⟩
          have HX := Lib.hid (HX.out.call b1)
          clear b1
          go_simp
          refine hK.out _ _ (And.intro (cell2 (HX.out.cell 0 rfl)) (cell2 (HX.out.cell 1 rfl))) (fun hHeld => ?_)
          clear hK K
          (try simp only [Act.put, List.getElem_toArray, List.getElem_cons_succ, List.getElem_cons_zero, List.setIfInBounds_toArray, List.set_cons_zero, List.set_cons_succ])
          refine wpAnyH_take (i := 18) (v := ?_) rfl (by kernel_rfl) (by kernel_rfl) (by kernel_rfl) (fun _ _ _ h => h) (Or.inl ⟨by rfl, ?_⟩) (by assumption) ?_
          rotate_left
          · (intro wS hSw; (try dsimp only at hSw); go_simp; try with_reducible rfl)
          (try simp only [Act.put, List.getElem_toArray, List.getElem_cons_succ, List.getElem_cons_zero, List.setIfInBounds_toArray, List.set_cons_zero, List.set_cons_succ])
          refine wpAnyH_take (i := 19) (v := ?_) rfl (by kernel_rfl) (by kernel_rfl) (by kernel_rfl) (fun _ _ _ h => h) (Or.inl ⟨by rfl, ?_⟩) (by assumption) ?_
          rotate_left
          · (intro wS hSw; (try dsimp only at hSw); go_simp; try with_reducible rfl)
          (try simp only [Act.put, List.getElem_toArray, List.getElem_cons_succ, List.getElem_cons_zero, List.setIfInBounds_toArray, List.set_cons_zero, List.set_cons_succ])
          refine wpAnyH_take (i := 20) (v := ?_) rfl (by kernel_rfl) (by kernel_rfl) (by kernel_rfl) (fun _ _ _ h => h) (Or.inl ⟨by rfl, ?_⟩) (by assumption) ?_
          rotate_left
          · (intro wS hSw; (try dsimp only at hSw); go_simp; try with_reducible rfl)
          (try simp only [Act.put, List.getElem_toArray, List.getElem_cons_succ, List.getElem_cons_zero, List.setIfInBounds_toArray, List.set_cons_zero, List.set_cons_succ])
          refine wpAnyH_ready (rs := [21]) (by kernel_rfl) (by simp) ?_
          refine AllReadyH.cons rfl (fun K hK => ?_) ?_
          · go_simp
            (with_reducible refine (FE.out _ HX.out.bl).mono ?_)
            rintro e x5 ⟨rfl, b1⟩
            have HX := Lib.hid (HX.out.call b1)
            clear b1
            go_simp
            refine hK.out _ _ (And.intro (cell2 (HX.out.cell 0 rfl)) (cell2 (HX.out.cell 1 rfl))) (fun hHeld => ?_)
            clear hK K
            (try simp only [Act.put, List.getElem_toArray, List.getElem_cons_succ, List.getElem_cons_zero, List.setIfInBounds_toArray, List.set_cons_zero, List.set_cons_succ])
            refine wpAnyH_ready (rs := [22]) (by kernel_rfl) (by simp) ?_
            refine AllReadyH.cons rfl (fun K hK => ?_) ?_
            · go_simp
              (with_reducible refine (WF.out _ HX.out.bl).mono ?_)
              rintro e x6 ⟨rfl, b1⟩
              have HX := Lib.hid (HX.out.call b1)
              clear b1
              go_simp
              refine hK.out _ _ (And.intro (cell2 (HX.out.cell 0 rfl)) (cell2 (HX.out.cell 1 rfl))) (fun hHeld => ?_)
              clear hK K
              (try simp only [Act.put, List.getElem_toArray, List.getElem_cons_succ, List.getElem_cons_zero, List.setIfInBounds_toArray, List.set_cons_zero, List.set_cons_succ])
              refine wpAnyH_take (i := 23) (v := ?_) rfl (by kernel_rfl) (by kernel_rfl) (by kernel_rfl) (fun _ _ _ h => h) (Or.inl ⟨by rfl, ?_⟩) (by assumption) ?_
              rotate_left
              · (intro wS hSw; (try dsimp only at hSw); go_simp; try with_reducible rfl)
              (try simp only [Act.put, List.getElem_toArray, List.getElem_cons_succ, List.getElem_cons_zero, List.setIfInBounds_toArray, List.set_cons_zero, List.set_cons_succ])
              refine wpAnyH_take (i := 24) (v := ?_) rfl (by kernel_rfl) (by kernel_rfl) (by kernel_rfl) (fun _ _ _ h => h) (Or.inl ⟨by rfl, ?_⟩) (by assumption) ?_
              rotate_left
              · (intro wS hSw; (try dsimp only at hSw); go_simp; try with_reducible rfl)
              (try simp only [Act.put, List.getElem_toArray, List.getElem_cons_succ, List.getElem_cons_zero, List.setIfInBounds_toArray, List.set_cons_zero, List.set_cons_succ])
              refine wpAnyH_take (i := 25) (v := ?_) rfl (by kernel_rfl) (by kernel_rfl) (by kernel_rfl) (fun _ _ _ h => h) (Or.inl ⟨by rfl, ?_⟩) (by assumption) ?_
              rotate_left
              · (intro wS hSw; (try dsimp only at hSw); go_simp; try with_reducible rfl)
              (try simp only [Act.put, List.getElem_toArray, List.getElem_cons_succ, List.getElem_cons_zero, List.setIfInBounds_toArray, List.set_cons_zero, List.set_cons_succ])
              refine wpAnyH_ready (rs := [26]) (by kernel_rfl) (by simp) ?_
              refine AllReadyH.cons rfl (fun K hK => ?_) ?_
              · go_simp
                (with_reducible refine (MA.out _ HX.out.bl).mono ?_)
                rintro e x7 ⟨v, rfl, ⟨ma, mc, rfl, ms⟩, b1⟩
                have HX := Lib.hid (HX.out.call b1)
                have MS := Lib.hid ms
                clear ms
                unfold tv
                clear b1
                go_simp
                refine hK.out _ _ (And.intro (cell2 (HX.out.cell 0 rfl)) (cell2 (HX.out.cell 1 rfl))) (fun hHeld => ?_)
                clear hK K
                (try simp only [Act.put, List.getElem_toArray, List.getElem_cons_succ, List.getElem_cons_zero, List.setIfInBounds_toArray, List.set_cons_zero, List.set_cons_succ])
                refine wpAnyH_ready (rs := [27]) (by kernel_rfl) (by simp) ?_
                refine AllReadyH.cons rfl (fun K hK => ?_) ?_
                · go_simp
                  (with_reducible refine (WM.out _ _ _ MS.out.seen).mono ?_)
                  rintro e x8 ⟨rfl, b1⟩
                  have HX := Lib.hid (HX.out.call b1)
                  clear b1
                  go_simp
                  refine hK.out _ _ (And.intro (cell2 (HX.out.cell 0 rfl)) (cell2 (HX.out.cell 1 rfl))) (fun hHeld => ?_)
                  clear hK K
                  (try simp only [Act.put, List.getElem_toArray, List.getElem_cons_succ, List.getElem_cons_zero, List.setIfInBounds_toArray, List.set_cons_zero, List.set_cons_succ])
                  refine wpAnyH_take (i := 28) (v := ?_) rfl (by kernel_rfl) (by kernel_rfl) (by kernel_rfl) (fun _ _ _ h => h) (Or.inl ⟨by rfl, ?_⟩) (by assumption) ?_
                  rotate_left
                  · (intro wS hSw; (try dsimp only at hSw); go_simp; try with_reducible rfl)
                  (try simp only [Act.put, List.getElem_toArray, List.getElem_cons_succ, List.getElem_cons_zero, List.setIfInBounds_toArray, List.set_cons_zero, List.set_cons_succ])
                  refine wpAnyH_take (i := 29) (v := ?_) rfl (by kernel_rfl) (by kernel_rfl) (by kernel_rfl) (fun _ _ _ h => h) (Or.inl ⟨by rfl, ?_⟩) (by assumption) ?_
                  rotate_left
                  · (intro wS hSw; (try dsimp only at hSw); go_simp; try with_reducible rfl)
                  (try simp only [Act.put, List.getElem_toArray, List.getElem_cons_succ, List.getElem_cons_zero, List.setIfInBounds_toArray, List.set_cons_zero, List.set_cons_succ])
                  refine wpAnyH_take (i := 30) (v := ?_) rfl (by kernel_rfl) (by kernel_rfl) (by kernel_rfl) (fun _ _ _ h => h) (Or.inl ⟨by rfl, ?_⟩) (by assumption) ?_
                  rotate_left
                  · (intro wS hSw; (try dsimp only at hSw); go_simp; try with_reducible rfl)
                  (try simp only [Act.put, List.getElem_toArray, List.getElem_cons_succ, List.getElem_cons_zero, List.setIfInBounds_toArray, List.set_cons_zero, List.set_cons_succ])
                  refine wpAnyH_take (i := 32) (v := ?_) rfl (by kernel_rfl) (by kernel_rfl) (by kernel_rfl) (fun _ _ _ h => h) (Or.inl ⟨by rfl, ?_⟩) (by assumption) ?_
                  rotate_left
                  · (intro wS hSw; (try dsimp only at hSw); go_simp; try with_reducible rfl)
                  (try simp only [Act.put, List.getElem_toArray, List.getElem_cons_succ, List.getElem_cons_zero, List.setIfInBounds_toArray, List.set_cons_zero, List.set_cons_succ])
                  refine wpAnyH_take (i := 35) (v := ?_) rfl (by kernel_rfl) (by kernel_rfl) (by kernel_rfl) (fun _ _ _ h => h) (Or.inl ⟨by rfl, ?_⟩) (by assumption) ?_
                  rotate_left
                  · (intro wS hSw; (try dsimp only at hSw); go_simp; try with_reducible rfl)
                  (try simp only [Act.put, List.getElem_toArray, List.getElem_cons_succ, List.getElem_cons_zero, List.setIfInBounds_toArray, List.set_cons_zero, List.set_cons_succ])
                  refine wpAnyH_take (i := 37) (v := ?_) rfl (by kernel_rfl) (by kernel_rfl) (by kernel_rfl) (fun _ _ _ h => h) (Or.inl ⟨by rfl, ?_⟩) (by assumption) ?_
                  rotate_left
                  · (intro wS hSw; (try dsimp only at hSw); go_simp; try with_reducible rfl)
                  (try simp only [Act.put, List.getElem_toArray, List.getElem_cons_succ, List.getElem_cons_zero, List.setIfInBounds_toArray, List.set_cons_zero, List.set_cons_succ])
                  refine wpAnyH_ready (rs := [31]) (by kernel_rfl) (by simp) ?_
                  refine AllReadyH.cons rfl (fun K hK => ?_) ?_
                  · go_simp
                    (with_reducible refine (FE.out _ HX.out.bl).mono ?_)
                    rintro e x9 ⟨rfl, b1⟩
                    have HX := Lib.hid (HX.out.call b1)
                    clear b1
                    go_simp
                    refine hK.out _ _ (And.intro (cell2 (HX.out.cell 0 rfl)) (cell2 (HX.out.cell 1 rfl))) (fun hHeld => ?_)
                    clear hK K
                    (try simp only [Act.put, List.getElem_toArray, List.getElem_cons_succ, List.getElem_cons_zero, List.setIfInBounds_toArray, List.set_cons_zero, List.set_cons_succ])
                    refine wpAnyH_ready (rs := [33]) (by kernel_rfl) (by simp) ?_
                    refine AllReadyH.cons rfl (fun K hK => ?_) ?_
                    · go_simp
                      (with_reducible refine (MA.out _ HX.out.bl).mono ?_)
                      rintro e x10 ⟨v, rfl, ⟨ma, mc, rfl, ms⟩, b1⟩
                      have HX := Lib.hid (HX.out.call b1)
                      have MS := Lib.hid ms
                      clear ms
                      unfold tv
                      clear b1
                      go_simp
                      refine hK.out _ _ (And.intro (cell2 (HX.out.cell 0 rfl)) (cell2 (HX.out.cell 1 rfl))) (fun hHeld => ?_)
                      clear hK K
                      (try simp only [Act.put, List.getElem_toArray, List.getElem_cons_succ, List.getElem_cons_zero, List.setIfInBounds_toArray, List.set_cons_zero, List.set_cons_succ])
                      refine wpAnyH_ready (rs := [34]) (by kernel_rfl) (by simp) ?_
                      refine AllReadyH.cons rfl (fun K hK => ?_) ?_
                      · go_simp
                        (with_reducible refine (SA.out _ _ _ HX.out.bl MS.out.seen).mono ?_)
                        rintro e x11 ⟨rfl, b1⟩
                        have HX := Lib.hid (HX.out.call b1)
                        clear b1
                        go_simp
                        refine hK.out _ _ (And.intro (cell2 (HX.out.cell 0 rfl)) (cell2 (HX.out.cell 1 rfl))) (fun hHeld => ?_)
                        clear hK K
                        (try simp only [Act.put, List.getElem_toArray, List.getElem_cons_succ, List.getElem_cons_zero, List.setIfInBounds_toArray, List.set_cons_zero, List.set_cons_succ])
                        refine wpAnyH_ready (rs := [36]) (by kernel_rfl) (by simp) ?_
                        refine AllReadyH.cons rfl (fun K hK => ?_) ?_
                        · go_simp
                          (with_reducible refine (FE.out _ HX.out.bl).mono ?_)
                          rintro e x12 ⟨rfl, b1⟩
                          have HX := Lib.hid (HX.out.call b1)
                          clear b1
                          go_simp
                          refine hK.out _ _ (And.intro (cell2 (HX.out.cell 0 rfl)) (cell2 (HX.out.cell 1 rfl))) (fun hHeld => ?_)
                          clear hK K
                          (try simp only [Act.put, List.getElem_toArray, List.getElem_cons_succ, List.getElem_cons_zero, List.setIfInBounds_toArray, List.set_cons_zero, List.set_cons_succ])
                          refine wpAnyH_ready (rs := [38]) (by kernel_rfl) (by simp) ?_
                          refine AllReadyH.cons rfl (fun K hK => ?_) ?_
                          · go_simp
                            (with_reducible refine (MA.out _ HX.out.bl).mono ?_)
                            rintro e x13 ⟨v, rfl, ⟨ma, mc, rfl, ms⟩, b1⟩
                            have HX := Lib.hid (HX.out.call b1)
                            have MS := Lib.hid ms
                            clear ms
                            unfold tv
                            clear b1
                            go_simp
                            refine hK.out _ _ (And.intro (cell2 (HX.out.cell 0 rfl)) (cell2 (HX.out.cell 1 rfl))) (fun hHeld => ?_)
                            clear hK K
                            (try simp only [Act.put, List.getElem_toArray, List.getElem_cons_succ, List.getElem_cons_zero, List.setIfInBounds_toArray, List.set_cons_zero, List.set_cons_succ])
                            refine wpAnyH_ready (rs := [39]) (by kernel_rfl) (by simp) ?_
                            refine AllReadyH.cons rfl (fun K hK => ?_) ?_
                            · go_simp
                              (with_reducible refine (SR.out _ _ _ HX.out.bl MS.out.seen).mono ?_)
                              rintro e x14 ⟨rfl, b1⟩
                              have HX := Lib.hid (HX.out.call b1)
                              clear b1
                              go_simp
                              refine hK.out _ _ (And.intro (cell2 (HX.out.cell 0 rfl)) (cell2 (HX.out.cell 1 rfl))) (fun hHeld => ?_)
                              clear hK K
                              (try simp only [Act.put, List.getElem_toArray, List.getElem_cons_succ, List.getElem_cons_zero, List.setIfInBounds_toArray, List.set_cons_zero, List.set_cons_succ])
                              refine wpAnyH_take (i := 40) (v := ?_) rfl (by kernel_rfl) (by kernel_rfl) (by kernel_rfl) (fun _ _ _ h => h) (Or.inl ⟨by rfl, ?_⟩) (by assumption) ?_
                              rotate_left
                              · (intro wS hSw; (try dsimp only at hSw); go_simp; try with_reducible rfl)
                              (try simp only [Act.put, List.getElem_toArray, List.getElem_cons_succ, List.getElem_cons_zero, List.setIfInBounds_toArray, List.set_cons_zero, List.set_cons_succ])
                              refine wpAnyH_take (i := 41) (v := ?_) rfl (by kernel_rfl) (by kernel_rfl) (by kernel_rfl) (fun _ _ _ h => h) (Or.inl ⟨by rfl, ?_⟩) (by assumption) ?_
                              rotate_left
                              · (intro wS hSw; (try dsimp only at hSw); go_simp; try with_reducible rfl)
                              (try simp only [Act.put, List.getElem_toArray, List.getElem_cons_succ, List.getElem_cons_zero, List.setIfInBounds_toArray, List.set_cons_zero, List.set_cons_succ])
                              refine wpAnyH_take (i := 42) (v := ?_) rfl (by kernel_rfl) (by kernel_rfl) (by kernel_rfl) (fun _ _ _ h => h) (Or.inl ⟨by rfl, ?_⟩) (by assumption) ?_
                              rotate_left
                              · (intro wS hSw; (try dsimp only at hSw); go_simp; try with_reducible rfl)
                              (try simp only [Act.put, List.getElem_toArray, List.getElem_cons_succ, List.getElem_cons_zero, List.setIfInBounds_toArray, List.set_cons_zero, List.set_cons_succ])
                              refine wpAnyH_done (by kernel_rfl) ?_ _
                              go_wp2
                              go_ret
                              exact ⟨rfl, HX.out.bl⟩
                            exact AllReadyH.nil
                          exact AllReadyH.nil
                        exact AllReadyH.nil
                      exact AllReadyH.nil
                    exact AllReadyH.nil
                  exact AllReadyH.nil
                exact AllReadyH.nil
              exact AllReadyH.nil
            exact AllReadyH.nil
          exact AllReadyH.nil
        exact AllReadyH.nil
      exact AllReadyH.nil
    exact AllReadyH.nil
  exact AllReadyH.nil

set_option maxRecDepth 100000 in
set_option maxHeartbeats 1600000 in
theorem lifted (os : Os) (started : os.Started) (H : Type) (enc : TypeId × Value → H) :
    ReturnsInHanded {} Try.checked os 4 .any (Rows.tableTellsSpec.pre6 enc Try.prog Try.f4 Rows.tableTellsRow.domain false) (Rows.tableTellsSpec.post enc Try.prog Try.f4 false true false false) := by
  refine returnsInHanded_of_change (C := Try.checked) own started (by kernel_rfl) Try.func4
    (ChangeSpec.witness6 (enc := enc) (C := Try.checked) false ⟨#[], #[.agg #[.slice none 0 0, .int .i64 0], .slice none 0 0, .agg #[.int .i64 0, .int .i64 0]], []⟩ 8 (by kernel_rfl) (by kernel_rfl) (by kernel_rfl) (by kernel_rfl)) ?_
  intro W base args ds gs before hval0 hW hcnd _
  have hval : ∀ (j : Nat) t v, Try.f4.params[j]? = some t → args[j]? = some v → Value.okWide Try.prog W .any base t v := hval0
  have hW' := hW
  obtain ⟨p, q, hA0, hV, rfl, hfz, hnd⟩ := hW
  have hA : DataW.TrodAll enc Try.prog W 0 (fun _ => true) true Try.f4.params.toList args.toList ds p := hA0
  rw [Try.params4] at hA hval
  obtain ⟨v0, vs0, d0, ds0, p0, q0, hargs, rfl, rfl, h0, r0⟩ := trodAll_cons hA
  obtain ⟨v1, vs1, d1, ds1, p1, q1, rfl, rfl, rfl, h1, r1⟩ := trodAll_cons r0
  obtain ⟨v2, vs2, d2, ds2, p2, q2, rfl, rfl, rfl, h2, r2⟩ := trodAll_cons r1
  obtain ⟨rfl, rfl, rfl⟩ := trodAll_nil r2
  obtain rfl : args = #[v0, v1, v2] := by cases args; simp_all
  obtain ⟨rfl, rfl⟩ := trodVars_none hV
  have lt0 : ∀ x ∈ p0, x.block < W.heap.size := by obtain ⟨m, hm⟩ := h0; exact DataW.trod_lt m _ _ _ hm
  obtain ⟨tb, tbo, tbc, rfl, tbl, tbs⟩ := open_table (hval 0 24 v0 rfl rfl) h0
  have lt1 : ∀ x ∈ p1, x.block < W.heap.size := by obtain ⟨m, hm⟩ := h1; exact DataW.trod_lt m _ _ _ hm
  obtain ⟨lo, l, lc, rfl, ll, lm, ls⟩ := open_ops (hval 1 25 v1 rfl rfl) h1
  have lt2 : ∀ x ∈ p2, x.block < W.heap.size := by obtain ⟨m, hm⟩ := h2; exact DataW.trod_lt m _ _ _ hm
  obtain ⟨qa, qb, rfl, okqa, okqb⟩ := open_two (hval 2 36 v2 rfl rfl) h2
  clear hA0 hval0
  refine (walk tb tbo tbc l lo lc qa qb W tbl tbs ll ls).mono fun e W' ⟨he, bel⟩ => ?_
  subst he
  exact ⟨_, rfl, _, _, _, [], _, [], hW', trodAll_mk1 (shut_bool Try.underlying4 _), (trodAll_cons_mk (Below.trod laidOut (by kernel_rfl) (of_decide_eq_true (by kernel_rfl)) h0 bel lt0) (trodAll_cons_mk (Below.trod laidOut (by kernel_rfl) (of_decide_eq_true (by kernel_rfl)) h1 bel lt1) (trodAll_cons_mk (Below.trod laidOut (by kernel_rfl) (of_decide_eq_true (by kernel_rfl)) h2 bel lt2) trodAll_mk0))), rfl, bel.frame _, fun h => by cases h⟩

theorem proved : Rows.TableTellsSaid :=
  OpenClaim.holds_of_wide 4 Try.f4 rfl rfl rfl rfl rfl rfl rfl ⟨rfl, rfl, rfl, rfl, rfl⟩ rfl rfl rfl rfl rfl (by kernel_rfl) Try.func4 (by kernel_rfl)
    (of_decide_eq_true (by kernel_rfl)) (by unfold Func.isWrapper; first | (rw [if_pos (by decide +kernel)]; kernel_rfl) | (rw [if_neg (by decide +kernel)]; exact ⟨rfl, rfl⟩))
    (fun os started H enc _ => lifted os started H enc)
#print axioms proved
end Go.Proofs.Ytnaanahgflbihaa.tableTells
