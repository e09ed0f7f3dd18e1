/- The statements' functions awake and applies of layer 14. -/
import Derived.Test.YtnaanahgflbihaaTbR
import Derived.Test.YtnaanahgflbihaaTbL
import Derived.Test.YtnaanahgflbihaaTbN
import Derived.Test.YtnaanahgflbihaaTbP
namespace Go.Proofs.Ytnaanahgflbihaa.Tb
open Go.ChangeShapes Go.WideShapes Go.ChangeAt Go.RowKit Go.Joins
open Pm (Tk chk chk_iff)
open Ge (El Seen Row)
open Oc (mkB enc encInt bytesOf bytesOf_zero bytesOf_pos)
open Ox (Od chkR)
set_option maxRecDepth 100000
set_option maxRecDepth 100000
set_option linter.unusedVariables false
set_option linter.unusedSimpArgs false
theorem bytes2 : bytesOf 2 = [2] := by rw [bytesOf_pos (by decide), show 2 / 256 = 0 from rfl, bytesOf_zero]; rfl
theorem example_table : bytesT ⟨[], 2⟩ = (⟨#[1, 2, 0]⟩, 0) := by
  unfold bytesT
  rw [if_pos (by decide)]
  have e : encT ⟨[], 2⟩ = encInt 2 ++ encInt 0 := by unfold encT; simp [encWs]
  rw [e]
  unfold encInt enc
  rw [show (2 : Int).toNat = 2 from rfl, show (0 : Int).toNat = 0 from rfl, bytes2, bytesOf_zero]
  rfl
theorem awake_any (w : World) :
    Calls Try.prog 10 #[] w fun e w' => e = .returned (.bool true) ∧ Below w.heap.size w w' := by
  have BY := Lib.hid (fun w => bytes_any ⟨[], 2⟩ none 0 w (Ge.seen_nil _ _) (by simp))
  have CK := Lib.hid (fun w => check_any tb0 none 0 w (Ge.seen_nil _ _) (by simp [tb0]))
  rw [example_table] at BY
  rw [chk_tb0] at CK
  unfold tv tb0 at *
  simp only [List.length_nil] at BY CK
  go_enter Try.func10, Try.ntmps10
  go_wp2_with fail
  (with_reducible refine (BY.out _).mono ?_)
  rintro e w1 ⟨rfl, b1⟩
  have B1 := Lib.hid b1
  clear b1 BY
  go_wp2_with fail
  (with_reducible refine (CK.out _).mono ?_)
  rintro e w2 ⟨rfl, b2⟩
  have B2 := Lib.hid (B1.out.trans (b2.mono B1.out.size))
  clear b2 B1 CK
  go_wp2
  go_ret
  exact ⟨rfl, B2.out⟩
theorem apply_len (t : Tb) (o : Od) : (applyR t o).1.rows.length ≤ 16 := by
  by_cases h : (applyR t o).2 = 0
  · exact (chkT_iff.1 (apply_chk h).1).2.2.1
  · have key : (applyR t o).1 = tb0 ∨ (applyR t o).2 = 0 := by
      unfold applyR
      repeat' split
      all_goals first | exact .inl rfl | exact .inr rfl
    rcases key with e | e
    · rw [e]; decide
    · exact absurd e h
/-- the boxes of a table and of an op that came -/
theorem to2_new (w : World) (a : Value) (m : Int) (cs : Array Value) : Bos [(w.heap.size + 1, cs, 29), (w.heap.size, #[a, .int .i64 m], 24)] w ((w.alloc (.cells #[a, .int .i64 m] 24)).alloc (.cells cs 29)) := by
  have := ((bos_nil w).new #[a, .int .i64 m] 24).new cs 29
  rw [World.size_alloc] at this
  exact this
theorem same_self (t : Tb) : sameT t t = true := by unfold sameT; simp
set_option maxHeartbeats 8000000 in
theorem applies_any (t : Tb) (o : Od) (ao : Option Addr) (cap : Nat) (w : World) (hS : Sl (.slice ao t.rows.length cap) t.rows w ao cap) (hl : t.rows.length ≤ 1000) :
    Calls Try.prog 11 #[tv ao t.rows.length cap t.mode, o.v] w fun e w' => e = .returned (.bool true) ∧ Below w.heap.size w w' := by
  have AP : Hid (∀ W, Below w.heap.size w W → Calls Try.prog 27 #[tv ao t.rows.length cap t.mode, o.v] W fun e w' => ∃ v, e = .returned (.tuple #[v, .int .i64 (applyR t o).2]) ∧ Told v (applyR t o).1 w' ∧ Below W.heap.size W w') := Lib.hid (fun W hb => apply_any t o ao cap W (hS.seen.below hb (Nat.le_refl _)) hl)
  have RA : Hid (∀ W, Below w.heap.size w W → Calls Try.prog 31 #[tv ao t.rows.length cap t.mode, o.v] W fun e w' => ∃ v, e = .returned (.tuple #[v, .int .i64 (applyR t o).2]) ∧ Told v (applyR t o).1 w' ∧ Below W.heap.size W w') := Lib.hid (fun W hb => rapply_any t o ao cap W (hS.call hb) hl)
  have CK : Hid (∀ W, Below w.heap.size w W → Calls Try.prog 29 #[tv ao t.rows.length cap t.mode] W fun e w' => e = .returned (.bool (chkT t)) ∧ Below W.heap.size W w') := Lib.hid (fun W hb => check_any t ao cap W (hS.seen.below hb (Nat.le_refl _)) hl)
  have RC : Hid (∀ W, Below w.heap.size w W → Calls Try.prog 32 #[tv ao t.rows.length cap t.mode] W fun e w' => e = .returned (.bool (chkT t)) ∧ Below W.heap.size W w') := Lib.hid (fun W hb => rcheck_any t ao cap W (hS.seen.below hb (Nat.le_refl _)) hl)
  have LN := Lib.hid (apply_len t o)
  have H0 := Lib.hid (to2_new w (.slice ao t.rows.length cap) t.mode o.cs)
  generalize applyR t o = R at *
  obtain ⟨R1, R2⟩ := R
  have SM : Hid (∀ a1 c1 a2 c2 W, Seen Rw.cs 6 a1 R1.rows W → Seen Rw.cs 6 a2 R1.rows W → Calls Try.prog 18 #[tv a1 R1.rows.length c1 R1.mode, tv a2 R1.rows.length c2 R1.mode] W fun e w' => e = .returned (.bool true) ∧ Below W.heap.size W w') := Lib.hid (fun a1 c1 a2 c2 W h1 h2 => by
    have := rsame_any R1 R1 a1 a2 c1 c2 W h1 h2 (by have := LN.out; simp only at this; omega) (by have := LN.out; simp only at this; omega)
    rw [same_self] at this
    exact this)
  generalize chkT t = q at *
  obtain ⟨l, m⟩ := t
  obtain ⟨k, ⟨i, c, d, tt, tm⟩, s, oi, oc, om⟩ := o
  unfold tv Od.v Od.cs at *
  simp only at *
  clear hS
  obtain ⟨t0, t1⟩ := cell2 (H0.out.cell 1 rfl)
  obtain ⟨o0, o1, o2, o3, o4, o5, o6, o7, o8, o9⟩ := cell10 (H0.out.cell 0 rfl)
  go_enter Try.func11, Try.ntmps11
  go_wp2_with fail
  (with_reducible refine (AP.out _ H0.out.bl).mono ?_)
  rintro e w1 ⟨v, rfl, ⟨a1, c1, rfl, s1⟩, b1⟩
  have H1 := Lib.hid (H0.out.call b1)
  have G1 := Lib.hid (H1.out.new #[.slice a1 R1.rows.length c1, .int .i64 R1.mode] 24)
  have S1 := Lib.hid (s1.call ((Below.refl _ _).alloc (Nat.le_refl _) (.cells #[.slice a1 R1.rows.length c1, .int .i64 R1.mode] 24)))
  clear b1 s1 AP H0 H1 t0 t1 o0 o1 o2 o3 o4 o5 o6 o7 o8 o9
  obtain ⟨t0, t1⟩ := cell2 (G1.out.cell 2 rfl)
  obtain ⟨o0, o1, o2, o3, o4, o5, o6, o7, o8, o9⟩ := cell10 (G1.out.cell 1 rfl)
  unfold tv
  go_wp2_with fail
  (with_reducible refine (RA.out _ G1.out.bl).mono ?_)
  rintro e w2 ⟨v, rfl, ⟨a2, c2, rfl, s2⟩, b2⟩
  have H2 := Lib.hid (G1.out.call b2)
  have G2 := Lib.hid (H2.out.new #[.slice a2 R1.rows.length c2, .int .i64 R1.mode] 24)
  have bz : Below w2.heap.size w2 (w2.alloc (.cells #[.slice a2 R1.rows.length c2, .int .i64 R1.mode] 24)) := (Below.refl _ _).alloc (Nat.le_refl _) _
  have SC := Lib.hid (SM.out a1 c1 a2 c2 _ ((S1.out.call b2).call bz).seen (s2.call bz).seen)
  clear b2 s2 bz RA G1 H2 S1 SM t0 t1 o0 o1 o2 o3 o4 o5 o6 o7 o8 o9
  obtain ⟨y0, y1⟩ := cell2 (G2.out.cell 0 rfl)
  obtain ⟨x0, x1⟩ := cell2 (G2.out.cell 1 rfl)
  unfold tv
  go_wp2_with fail
  (with_reducible refine SC.out.mono ?_)
  rintro e w3 ⟨rfl, b3⟩
  have HX := Lib.hid (G2.out.call b3).drew
  clear b3 SC G2 x0 x1 y0 y1
  go_wp2_with fail
  refine wp_region_held_drew (S := (fun W' => W'.cell? ⟨w.heap.size, 0, none⟩ = some (.slice ao l.length cap) ∧ W'.cell? ⟨w.heap.size, 1, none⟩ = some (.int .i64 m))) (by kernel_rfl) (cell2 (HX.out.cell 3 rfl)) (fun hHeld => ?_)
  refine wpAnyH_take (i := 0) (v := ?_) rfl (by kernel_rfl) (by kernel_rfl) (by kernel_rfl) (fun _ _ _ h => h) (Or.inl ⟨by rfl, ?_⟩) (by assumption) ?_
  rotate_left
  · (intro wS hSw; (try dsimp only at hSw); go_simp; try with_reducible rfl)
  (try simp only [Act.put, List.getElem_toArray, List.getElem_cons_succ, List.getElem_cons_zero, List.setIfInBounds_toArray, List.set_cons_zero, List.set_cons_succ])
  refine wpAnyH_take (i := 1) (v := ?_) rfl (by kernel_rfl) (by kernel_rfl) (by kernel_rfl) (fun _ _ _ h => h) (Or.inl ⟨by rfl, ?_⟩) (by assumption) ?_
  rotate_left
  · (intro wS hSw; (try dsimp only at hSw); go_simp; try with_reducible rfl)
  (try simp only [Act.put, List.getElem_toArray, List.getElem_cons_succ, List.getElem_cons_zero, List.setIfInBounds_toArray, List.set_cons_zero, List.set_cons_succ])
  refine wpAnyH_take (i := 2) (v := ?_) rfl (by kernel_rfl) (by kernel_rfl) (by kernel_rfl) (fun _ _ _ h => h) (Or.inl ⟨by rfl, ?_⟩) (by assumption) ?_
  rotate_left
  · (intro wS hSw; (try dsimp only at hSw); go_simp; try with_reducible rfl)
  (try simp only [Act.put, List.getElem_toArray, List.getElem_cons_succ, List.getElem_cons_zero, List.setIfInBounds_toArray, List.set_cons_zero, List.set_cons_succ])
  refine wpAnyH_take (i := 3) (v := ?_) rfl (by kernel_rfl) (by kernel_rfl) (by kernel_rfl) (fun _ _ _ h => h) (Or.inl ⟨by rfl, ?_⟩) (by assumption) ?_
  rotate_left
  · (intro wS hSw; (try dsimp only at hSw); go_simp; try with_reducible rfl)
  (try simp only [Act.put, List.getElem_toArray, List.getElem_cons_succ, List.getElem_cons_zero, List.setIfInBounds_toArray, List.set_cons_zero, List.set_cons_succ])
  refine wpAnyH_take (i := 4) (v := ?_) rfl (by kernel_rfl) (by kernel_rfl) (by kernel_rfl) (fun _ _ _ h => h) (Or.inl ⟨by rfl, ?_⟩) (by assumption) ?_
  rotate_left
  · (intro wS hSw; (try dsimp only at hSw); go_simp; try with_reducible rfl)
  (try simp only [Act.put, List.getElem_toArray, List.getElem_cons_succ, List.getElem_cons_zero, List.setIfInBounds_toArray, List.set_cons_zero, List.set_cons_succ])
  refine wpAnyH_take (i := 5) (v := ?_) rfl (by kernel_rfl) (by kernel_rfl) (by kernel_rfl) (fun _ _ _ h => h) (Or.inl ⟨by rfl, ?_⟩) (by assumption) ?_
  rotate_left
  · (intro wS hSw; (try dsimp only at hSw); go_simp; try with_reducible rfl)
  (try simp only [Act.put, List.getElem_toArray, List.getElem_cons_succ, List.getElem_cons_zero, List.setIfInBounds_toArray, List.set_cons_zero, List.set_cons_succ])
  refine wpAnyH_take (i := 6) (v := ?_) rfl (by kernel_rfl) (by kernel_rfl) (by kernel_rfl) (fun _ _ _ h => h) (Or.inl ⟨by rfl, ?_⟩) (by assumption) ?_
  rotate_left
  · (intro wS hSw; (try dsimp only at hSw); go_simp; try with_reducible rfl)
  (try simp only [Act.put, List.getElem_toArray, List.getElem_cons_succ, List.getElem_cons_zero, List.setIfInBounds_toArray, List.set_cons_zero, List.set_cons_succ])
  refine wpAnyH_take (i := 7) (v := ?_) rfl (by kernel_rfl) (by kernel_rfl) (by kernel_rfl) (fun _ _ _ h => h) (Or.inl ⟨by rfl, ?_⟩) (by assumption) ?_
  rotate_left
  · (intro wS hSw; (try dsimp only at hSw); go_simp; try with_reducible rfl)
  (try simp only [Act.put, List.getElem_toArray, List.getElem_cons_succ, List.getElem_cons_zero, List.setIfInBounds_toArray, List.set_cons_zero, List.set_cons_succ])
  refine wpAnyH_take (i := 9) (v := ?_) rfl (by kernel_rfl) (by kernel_rfl) (by kernel_rfl) (fun _ _ _ h => h) (Or.inl ⟨by rfl, ?_⟩) (by assumption) ?_
  rotate_left
  · (intro wS hSw; (try dsimp only at hSw); go_simp; try with_reducible rfl)
  (try simp only [Act.put, List.getElem_toArray, List.getElem_cons_succ, List.getElem_cons_zero, List.setIfInBounds_toArray, List.set_cons_zero, List.set_cons_succ])
  refine wpAnyH_ready (rs := [8]) (by kernel_rfl) (by simp) ?_
  refine AllReadyH.cons rfl (fun K hK => ?_) ?_
  · go_simp
    (with_reducible refine (CK.out _ HX.out.bl).mono ?_)
    rintro e x1 ⟨rfl, b1⟩
    have HX := Lib.hid (HX.out.call b1)
    clear b1
    go_simp
    refine hK.out _ _ (cell2 (HX.out.cell 3 rfl)) (fun hHeld => ?_)
    clear hK K
    (try simp only [Act.put, List.getElem_toArray, List.getElem_cons_succ, List.getElem_cons_zero, List.setIfInBounds_toArray, List.set_cons_zero, List.set_cons_succ])
    refine wpAnyH_ready (rs := [10]) (by kernel_rfl) (by simp) ?_
    refine AllReadyH.cons rfl (fun K hK => ?_) ?_
    · go_simp
      (with_reducible refine (RC.out _ HX.out.bl).mono ?_)
      rintro e x2 ⟨rfl, b1⟩
      have HX := Lib.hid (HX.out.call b1)
      clear b1
      go_simp
      refine hK.out _ _ (cell2 (HX.out.cell 3 rfl)) (fun hHeld => ?_)
      clear hK K
      (try simp only [Act.put, List.getElem_toArray, List.getElem_cons_succ, List.getElem_cons_zero, List.setIfInBounds_toArray, List.set_cons_zero, List.set_cons_succ])
      refine wpAnyH_take (i := 11) (v := ?_) rfl (by kernel_rfl) (by kernel_rfl) (by kernel_rfl) (fun _ _ _ h => h) (Or.inl ⟨by rfl, ?_⟩) (by assumption) ?_
      rotate_left
      · (intro wS hSw; (try dsimp only at hSw); go_simp; try with_reducible rfl)
      (try simp only [Act.put, List.getElem_toArray, List.getElem_cons_succ, List.getElem_cons_zero, List.setIfInBounds_toArray, List.set_cons_zero, List.set_cons_succ])
      refine wpAnyH_take (i := 12) (v := ?_) rfl (by kernel_rfl) (by kernel_rfl) (by kernel_rfl) (fun _ _ _ h => h) (Or.inl ⟨by rfl, ?_⟩) (by assumption) ?_
      rotate_left
      · (intro wS hSw; (try dsimp only at hSw); go_simp; try with_reducible rfl)
      (try simp only [Act.put, List.getElem_toArray, List.getElem_cons_succ, List.getElem_cons_zero, List.setIfInBounds_toArray, List.set_cons_zero, List.set_cons_succ])
      refine wpAnyH_take (i := 13) (v := ?_) rfl (by kernel_rfl) (by kernel_rfl) (by kernel_rfl) (fun _ _ _ h => h) (Or.inl ⟨by rfl, ?_⟩) (by assumption) ?_
      rotate_left
      · (intro wS hSw; (try dsimp only at hSw); go_simp; try with_reducible rfl)
      (try simp only [Act.put, List.getElem_toArray, List.getElem_cons_succ, List.getElem_cons_zero, List.setIfInBounds_toArray, List.set_cons_zero, List.set_cons_succ])
      refine wpAnyH_done (by kernel_rfl) ?_ _
      go_wp2
      go_ret
      exact ⟨rfl, HX.out.bl⟩
    exact AllReadyH.nil
  exact AllReadyH.nil
end Go.Proofs.Ytnaanahgflbihaa.Tb
