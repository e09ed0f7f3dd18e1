/- Package judge's First and Fits, the document's Of and Fits. -/
import Derived.Test.YtgbnoifaknlkhaaJuA
namespace Go.Proofs.Ytgbnoifaknlkhaa.Ju
open Go.ChangeShapes Go.WideShapes Go.ChangeAt Go.RowKit Go.Joins
open Pm (Tk)
open Ge (El Seen Row)
open Qp (testR)
open Tb
set_option maxRecDepth 100000
set_option maxRecDepth 100000
set_option linter.unusedVariables false
set_option linter.unusedSimpArgs false
/-- the tasks of a mode, both ways -/
theorem in_seen (l : List Rw) (ao : Option Addr) (cap : Nat) (m k : Int) (w : World) (hS : Seen Rw.cs 6 ao l w) (hl : l.length ≤ 1000) :
    Calls Try.prog 43 #[tv ao l.length cap m, .int .i64 k] w fun e w' => ∃ o c, e = .returned (.slice o (inM k l).length c) ∧ Seen tcs 5 o (inM k l) w' ∧ Below w.heap.size w w' :=
  (in_any l ao cap m k w hS hl).mono fun e w' ⟨v, he, hr, hb⟩ => by
    obtain ⟨o, c, rfl, -, hs, -⟩ := Ge.Row.form tcs_len hr
    exact ⟨o, c, he, hs, hb⟩
theorem rin_seen (l : List Rw) (ao : Option Addr) (cap : Nat) (m k : Int) (w : World) (hS : Seen Rw.cs 6 ao l w) (hl : l.length ≤ 1000) :
    Calls Try.prog 15 #[tv ao l.length cap m, .int .i64 k] w fun e w' => ∃ o c, e = .returned (.slice o (inM k l).length c) ∧ Seen tcs 5 o (inM k l) w' ∧ Below w.heap.size w w' :=
  (rin_any l ao cap m k w hS hl).mono fun e w' ⟨v, he, hr, hb⟩ => by
    obtain ⟨o, c, rfl, -, hs, -⟩ := Ge.Row.form tcs_len hr
    exact ⟨o, c, he, hs, hb⟩
theorem inM_len (k : Int) (l : List Rw) : (inM k l).length ≤ l.length := by
  unfold inM
  split
  · exact inT_len k l
  · simp
theorem inM_in {k : Int} (l : List Rw) (h : 0 ≤ k ∧ k ≤ 3) : inM k l = inT k l := if_pos h
/-- i modes fit -/
def FiRel (l : List Rw) (R : Int × Int) (L : List (Nat × Array Value × Nat)) (w : World) (g : Nat) (s : Value) (wx : World) : Prop :=
  ∃ i : Nat, i + g = 4 ∧ s = .int .i64 (i : Int) ∧ firstF l g i = R ∧ Bos L w wx
set_option maxHeartbeats 4000000 in
theorem first_any (t : Tb.Tb) (ao : Option Addr) (cap : Nat) (w : World) (hS : Seen Rw.cs 6 ao t.rows w) (hl : t.rows.length ≤ 1000) :
    Calls Try.prog 24 #[tv ao t.rows.length cap t.mode] w fun e w' => e = .returned (.tuple #[.int .i64 (firstR t).1, .int .i64 (firstR t).2]) ∧ Below w.heap.size w w' := by
  have CT : Hid (∀ W, Below w.heap.size w W → Calls Try.prog 35 #[tv ao t.rows.length cap t.mode] W fun e w' => e = .returned (.bool (chkT t)) ∧ Below W.heap.size W w') := Lib.hid (fun W hb => check_any t ao cap W (hS.below hb (Nat.le_refl _)) hl)
  have IN : Hid (∀ (k : Int) W, 0 ≤ k ∧ k ≤ 3 → Below w.heap.size w W → Calls Try.prog 43 #[tv ao t.rows.length cap t.mode, .int .i64 k] W fun e w' => ∃ o c, e = .returned (.slice o (inT k t.rows).length c) ∧ Seen tcs 5 o (inT k t.rows) w' ∧ Below W.heap.size W w') := Lib.hid (fun k W hk hb => by
    have := in_seen t.rows ao cap t.mode k W (hS.below hb (Nat.le_refl _)) hl
    rw [inM_in _ hk] at this
    exact this)
  have TS : Hid (∀ (k : Int) W o c, Seen tcs 5 o (inT k t.rows) W → Calls Try.prog 42 #[.slice o (inT k t.rows).length c] W fun e w' => e = .returned (.int .i64 (testR (inT k t.rows))) ∧ Below W.heap.size W w') := Lib.hid (fun k W o c h => test_seen _ o c W h (by have := inT_len k t.rows; omega))
  have H0 := Lib.hid ((bos_nil w).new #[.slice ao t.rows.length cap, .int .i64 t.mode] 29)
  have FR : Hid (firstR t = if chkT t = true then firstF t.rows 4 0 else (-1, 1)) := Lib.hid rfl
  generalize firstR t = R at *
  generalize chkT t = q at *
  obtain ⟨l, m⟩ := t
  unfold tv at *
  simp only at *
  obtain ⟨t0, t1⟩ := cell2 (H0.out.cell 0 rfl)
  clear hS
  go_enter Try.func24, Try.ntmps24
  go_wp2_with fail
  (with_reducible refine (CT.out _ H0.out.bl).mono ?_)
  rintro e w1 ⟨rfl, b1⟩
  have H1 := Lib.hid (H0.out.call b1)
  clear b1 CT H0 t0 t1
  cases q
  · have E : R = (-1, 1) := FR.out.trans (if_neg (by decide))
    subst E
    go_wp2
    exact bodyPost_ret (v := .tuple #[.int .i64 (-1), .int .i64 1]) (by simp [results, Try.results24, go_sem]) rfl ⟨rfl, H1.out.bl⟩
  have FF : Hid (∀ (g : Nat) (i : Int), firstF l (g + 1) i = if testR (inT i l) ≠ 0 then (i, testR (inT i l)) else firstF l g (i + 1)) := Lib.hid (fun _ _ => rfl)
  have FZ : Hid (∀ i : Int, firstF l 0 i = (-1, 0)) := Lib.hid (fun _ => rfl)
  have G : Hid (FiRel l R [(w.heap.size, #[.slice ao l.length cap, .int .i64 m], 29)] w 4 (.int .i64 0) w1) := Lib.hid ⟨0, rfl, rfl, (FR.out.trans (if_pos rfl)).symm, H1.out⟩
  clear H1 FR
  go_wp2_with fail
  go_loopg [9] 4 (FiRel l R [(w.heap.size, #[.slice ao l.length cap, .int .i64 m], 29)] w)
  case atStart => exact G.out
  case round =>
    obtain ⟨i, hi, rfl, hF, hB⟩ := hrel
    have HB := Lib.hid hB
    have HI := Lib.hid hi
    clear G hB
    obtain ⟨t0, t1⟩ := cell2 (HB.out.cell 0 rfl)
    by_cases hlt : i < 4
    · have hlt' : (i : Int) < 4 := by omega
      have hg0 : 0 < gk := by omega
      have TI := Lib.hid (IN.out (i : Int) _ (by omega) HB.out.bl)
      have ST : Hid ((if testR (inT (i : Int) l) ≠ 0 then ((i : Int), testR (inT (i : Int) l)) else firstF l (gk - 1) ((i : Int) + 1)) = R) := Lib.hid (by rw [← FF.out, show gk - 1 + 1 = gk by omega]; exact hF)
      clear hi IN hF FF FZ
      go_wp2_with fail
      (with_reducible refine TI.out.mono ?_)
      rintro e w2 ⟨o, c, rfl, hs, b2⟩
      have H2 := Lib.hid (HB.out.call b2)
      have TT := Lib.hid (TS.out (i : Int) _ o c hs)
      clear b2 hs TI TS HB t0 t1
      go_wp2_with fail
      (with_reducible refine TT.out.mono ?_)
      rintro e w3 ⟨rfl, b3⟩
      have H3 := Lib.hid (H2.out.call b3)
      clear b3 TT H2
      generalize testR (inT (i : Int) l) = x at *
      by_cases hx : x = 0
      · have FN : Hid (firstF l (gk - 1) ((i + 1 : Nat) : Int) = R) := Lib.hid (by
          have := ST.out
          rw [if_neg (by simpa using hx)] at this
          exact this)
        have hx' : (x != 0) = false := by simp [hx]
        clear ST
        go_wp2
        go_roundg (gk - 1)
        case measure => omega
        case rel => exact ⟨i + 1, by have := HI.out; omega, by go_num, FN.out, H3.out⟩
      · have hx' : (x != 0) = true := by simp [hx]
        have E : ((i : Int), x) = R := by
          have := ST.out
          rw [if_pos hx] at this
          exact this
        subst E
        clear ST hx
        go_wp2
        exact bodyPost_ret (v := .tuple #[.int .i64 (i : Int), .int .i64 x]) (by simp [results, Try.results24, go_sem]) rfl ⟨rfl, H3.out.bl⟩
    · obtain rfl : i = 4 := by omega
      obtain rfl : gk = 0 := by omega
      have E : (-1, 0) = R := by rw [← FZ.out ((4 : Nat) : Int)]; exact hF
      subst E
      clear hF FF FZ IN TS
      go_wp2
      exact bodyPost_ret (v := .tuple #[.int .i64 (-1), .int .i64 0]) (by simp [results, Try.results24, go_sem]) rfl ⟨rfl, HB.out.bl⟩
theorem fits_any (t : Tb.Tb) (ao : Option Addr) (cap : Nat) (w : World) (hS : Seen Rw.cs 6 ao t.rows w) (hl : t.rows.length ≤ 1000) :
    Calls Try.prog 17 #[tv ao t.rows.length cap t.mode] w fun e w' => e = .returned (.int .i64 (fitsR t)) ∧ Below w.heap.size w w' := by
  have FI : Hid (∀ W, Below w.heap.size w W → Calls Try.prog 24 #[tv ao t.rows.length cap t.mode] W fun e w' => e = .returned (.tuple #[.int .i64 (firstR t).1, .int .i64 (firstR t).2]) ∧ Below W.heap.size W w') := Lib.hid (fun W hb => first_any t ao cap W (hS.below hb (Nat.le_refl _)) hl)
  have H0 := Lib.hid ((bos_nil w).new #[.slice ao t.rows.length cap, .int .i64 t.mode] 29)
  have FR : Hid (fitsR t = (firstR t).2) := Lib.hid rfl
  generalize fitsR t = q at *
  generalize firstR t = R at *
  obtain ⟨R1, R2⟩ := R
  obtain ⟨l, m⟩ := t
  unfold tv at *
  simp only at *
  obtain ⟨t0, t1⟩ := cell2 (H0.out.cell 0 rfl)
  clear hS
  go_enter Try.func17, Try.ntmps17
  go_wp2_with fail
  (with_reducible refine (FI.out _ H0.out.bl).mono ?_)
  rintro e w1 ⟨rfl, b1⟩
  have H1 := Lib.hid (H0.out.call b1)
  clear b1 FI H0 t0 t1
  go_wp2
  go_ret
  exact ⟨by rw [FR.out]; rfl, H1.out.bl⟩
set_option maxHeartbeats 4000000 in
theorem rof_any (t : Tb.Tb) (ao : Option Addr) (cap : Nat) (w : World) (hS : Seen Rw.cs 6 ao t.rows w) (hl : t.rows.length ≤ 1000) :
    Calls Try.prog 25 #[tv ao t.rows.length cap t.mode] w fun e w' => e = .returned (.agg #[.int .i64 (firstR t).1, .int .i64 (firstR t).2]) ∧ Below w.heap.size w w' := by
  have CT : Hid (∀ W, Below w.heap.size w W → Calls Try.prog 16 #[tv ao t.rows.length cap t.mode] W fun e w' => e = .returned (.bool (chkT t)) ∧ Below W.heap.size W w') := Lib.hid (fun W hb => rcheck_any t ao cap W (hS.below hb (Nat.le_refl _)) hl)
  have IN : Hid (∀ (k : Int) W, 0 ≤ k ∧ k ≤ 3 → Below w.heap.size w W → Calls Try.prog 15 #[tv ao t.rows.length cap t.mode, .int .i64 k] W fun e w' => ∃ o c, e = .returned (.slice o (inT k t.rows).length c) ∧ Seen tcs 5 o (inT k t.rows) w' ∧ Below W.heap.size W w') := Lib.hid (fun k W hk hb => by
    have := rin_seen t.rows ao cap t.mode k W (hS.below hb (Nat.le_refl _)) hl
    rw [inM_in _ hk] at this
    exact this)
  have TS : Hid (∀ (k : Int) W o c, Seen tcs 5 o (inT k t.rows) W → Calls Try.prog 14 #[.slice o (inT k t.rows).length c] W fun e w' => e = .returned (.int .i64 (testR (inT k t.rows))) ∧ Below W.heap.size W w') := Lib.hid (fun k W o c h => rtest_seen _ o c W h (by have := inT_len k t.rows; omega))
  have H0 := Lib.hid (((bos_nil w).new #[.slice ao t.rows.length cap, .int .i64 t.mode] 29).new #[.int .i64 0, .int .i64 0] 61)
  rw [World.size_alloc] at H0
  have FR : Hid (firstR t = if chkT t = true then firstF t.rows 4 0 else (-1, 1)) := Lib.hid rfl
  generalize firstR t = R at *
  generalize chkT t = q at *
  obtain ⟨l, m⟩ := t
  unfold tv at *
  simp only at *
  obtain ⟨t0, t1⟩ := cell2 (H0.out.cell 1 rfl)
  clear hS
  go_enter Try.func25, Try.ntmps25
  go_wp2_with fail
  (with_reducible refine (CT.out _ H0.out.bl).mono ?_)
  rintro e w1 ⟨rfl, b1⟩
  have H1 := Lib.hid (H0.out.call b1)
  clear b1 CT H0 t0 t1
  cases q
  · have E : R = (-1, 1) := FR.out.trans (if_neg (by decide))
    subst E
    have zf := H1.out.fz 0 rfl
    obtain ⟨z0, z1⟩ := cell2 (H1.out.cell 0 rfl)
    have HF := Lib.hid ((H1.out.set 0 rfl 0 (.int .i64 (-1))).set 0 rfl 1 (.int .i64 1))
    obtain ⟨q0, q1⟩ := cell2 (HF.out.cell 0 rfl)
    go_wp2
    refine bodyPost_ret (v := .agg #[.int .i64 (-1), .int .i64 1]) (by simp [results, Try.results25, go_sem, q0, q1]) rfl ⟨rfl, HF.out.bl⟩
  have FF : Hid (∀ (g : Nat) (i : Int), firstF l (g + 1) i = if testR (inT i l) ≠ 0 then (i, testR (inT i l)) else firstF l g (i + 1)) := Lib.hid (fun _ _ => rfl)
  have FZ : Hid (∀ i : Int, firstF l 0 i = (-1, 0)) := Lib.hid (fun _ => rfl)
  have G : Hid (FiRel l R [(w.heap.size + 1, #[.int .i64 0, .int .i64 0], 61), (w.heap.size, #[.slice ao l.length cap, .int .i64 m], 29)] w 4 (.int .i64 0) w1) := Lib.hid ⟨0, rfl, rfl, (FR.out.trans (if_pos rfl)).symm, H1.out⟩
  clear H1 FR
  go_wp2_with fail
  go_loopg [4] 4 (FiRel l R [(w.heap.size + 1, #[.int .i64 0, .int .i64 0], 61), (w.heap.size, #[.slice ao l.length cap, .int .i64 m], 29)] w)
  case atStart => exact G.out
  case round =>
    obtain ⟨i, hi, rfl, hF, hB⟩ := hrel
    have HB := Lib.hid hB
    have HI := Lib.hid hi
    clear G hB
    obtain ⟨t0, t1⟩ := cell2 (HB.out.cell 1 rfl)
    by_cases hlt : i < 4
    · have hlt' : (i : Int) < 4 := by omega
      have hg0 : 0 < gk := by omega
      have TI := Lib.hid (IN.out (i : Int) _ (by omega) HB.out.bl)
      have ST : Hid ((if testR (inT (i : Int) l) ≠ 0 then ((i : Int), testR (inT (i : Int) l)) else firstF l (gk - 1) ((i : Int) + 1)) = R) := Lib.hid (by rw [← FF.out, show gk - 1 + 1 = gk by omega]; exact hF)
      clear hi IN hF FF FZ
      go_wp2_with fail
      (with_reducible refine TI.out.mono ?_)
      rintro e w2 ⟨o, c, rfl, hs, b2⟩
      have H2 := Lib.hid (HB.out.call b2)
      have TT := Lib.hid (TS.out (i : Int) _ o c hs)
      clear b2 hs TI TS HB t0 t1
      go_wp2_with fail
      (with_reducible refine TT.out.mono ?_)
      rintro e w3 ⟨rfl, b3⟩
      have H3 := Lib.hid (H2.out.call b3)
      clear b3 TT H2
      generalize testR (inT (i : Int) l) = x at *
      by_cases hx : x = 0
      · have FN : Hid (firstF l (gk - 1) ((i + 1 : Nat) : Int) = R) := Lib.hid (by
          have := ST.out
          rw [if_neg (by simpa using hx)] at this
          exact this)
        have hx' : (x != 0) = false := by simp [hx]
        clear ST
        go_wp2
        go_roundg (gk - 1)
        case measure => omega
        case rel => exact ⟨i + 1, by have := HI.out; omega, by go_num, FN.out, H3.out⟩
      · have hx' : (x != 0) = true := by simp [hx]
        have E : ((i : Int), x) = R := by
          have := ST.out
          rw [if_pos hx] at this
          exact this
        subst E
        have zf := H3.out.fz 0 rfl
        obtain ⟨z0, z1⟩ := cell2 (H3.out.cell 0 rfl)
        have HF := Lib.hid ((H3.out.set 0 rfl 0 (.int .i64 (i : Int))).set 0 rfl 1 (.int .i64 x))
        obtain ⟨q0, q1⟩ := cell2 (HF.out.cell 0 rfl)
        clear ST hx
        go_wp2
        refine bodyPost_ret (v := .agg #[.int .i64 (i : Int), .int .i64 x]) (by simp [results, Try.results25, go_sem, q0, q1]) rfl ⟨rfl, HF.out.bl⟩
    · obtain rfl : i = 4 := by omega
      obtain rfl : gk = 0 := by omega
      have E : (-1, 0) = R := by rw [← FZ.out ((4 : Nat) : Int)]; exact hF
      subst E
      have zf := HB.out.fz 0 rfl
      obtain ⟨z0, z1⟩ := cell2 (HB.out.cell 0 rfl)
      have HF := Lib.hid ((HB.out.set 0 rfl 0 (.int .i64 (-1))).set 0 rfl 1 (.int .i64 0))
      obtain ⟨q0, q1⟩ := cell2 (HF.out.cell 0 rfl)
      clear hF FF FZ IN TS
      go_wp2
      refine bodyPost_ret (v := .agg #[.int .i64 (-1), .int .i64 0]) (by simp [results, Try.results25, go_sem, q0, q1]) rfl ⟨rfl, HF.out.bl⟩
theorem rfits_any (t : Tb.Tb) (ao : Option Addr) (cap : Nat) (w : World) (hS : Seen Rw.cs 6 ao t.rows w) (hl : t.rows.length ≤ 1000) :
    Calls Try.prog 28 #[tv ao t.rows.length cap t.mode] w fun e w' => e = .returned (.int .i64 (fitsR t)) ∧ Below w.heap.size w w' := by
  have FI : Hid (∀ W, Below w.heap.size w W → Calls Try.prog 25 #[tv ao t.rows.length cap t.mode] W fun e w' => e = .returned (.agg #[.int .i64 (firstR t).1, .int .i64 (firstR t).2]) ∧ Below W.heap.size W w') := Lib.hid (fun W hb => rof_any t ao cap W (hS.below hb (Nat.le_refl _)) hl)
  have H0 := Lib.hid ((bos_nil w).new #[.slice ao t.rows.length cap, .int .i64 t.mode] 29)
  have FR : Hid (fitsR t = (firstR t).2) := Lib.hid rfl
  generalize fitsR t = q at *
  generalize firstR t = R at *
  obtain ⟨R1, R2⟩ := R
  obtain ⟨l, m⟩ := t
  unfold tv at *
  simp only at *
  obtain ⟨t0, t1⟩ := cell2 (H0.out.cell 0 rfl)
  clear hS
  go_enter Try.func28, Try.ntmps28
  go_wp2_with fail
  (with_reducible refine (FI.out _ H0.out.bl).mono ?_)
  rintro e w1 ⟨rfl, b1⟩
  have H1 := Lib.hid ((H0.out.call b1).new #[.int .i64 R1, .int .i64 R2] 61)
  obtain ⟨q0, q1⟩ := cell2 (H1.out.cell 0 rfl)
  clear b1 FI H0 t0 t1
  go_wp2
  go_ret
  exact ⟨by rw [FR.out]; rfl, H1.out.bl⟩
end Go.Proofs.Ytgbnoifaknlkhaa.Ju
