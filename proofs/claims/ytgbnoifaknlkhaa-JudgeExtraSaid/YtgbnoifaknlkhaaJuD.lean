/- Package judge's May, the document's May. -/
import Derived.Test.YtgbnoifaknlkhaaJuC
namespace Go.Proofs.Ytgbnoifaknlkhaa.Ju
open Go.ChangeShapes Go.WideShapes Go.ChangeAt Go.RowKit Go.Joins
open Pm (Tk)
open Ge (El Seen Row)
open Qp (testR)
open Ox (Od chkR chkR_iff tk0)
open Tb
set_option maxRecDepth 100000
set_option maxRecDepth 100000
set_option linter.unusedVariables false
set_option linter.unusedSimpArgs false
theorem apply_len (t : Tb.Tb) (o : Od) : (applyR t o).1.rows.length ≤ 16 := by
  by_cases h : (applyR t o).2 = 0
  · exact (chkT_iff.1 (apply_chk h).1).2.2.1
  · have key : (applyR t o).1 = tb0 ∨ (applyR t o).2 = 0 := by
      unfold applyR
      repeat' split
      all_goals first | exact .inl rfl | exact .inr rfl
    rcases key with e | e
    · rw [e]; decide
    · exact absurd e h
theorem may_len (t : Tb.Tb) (o : Od) (ex : List Tk) : (mayR t o ex).1.rows.length ≤ 16 := by
  by_cases h : (mayR t o ex).2 = 0
  · rw [(may_zero h).1]; exact apply_len t o
  · rw [may_not h]; decide
set_option maxHeartbeats 8000000 in
theorem may_any (t : Tb.Tb) (o : Od) (ex : List Tk) (ao : Option Addr) (cap : Nat) (eo : Option Addr) (ec : Nat) (w : World) (hS : Sl (.slice ao t.rows.length cap) t.rows w ao cap) (hl : t.rows.length ≤ 1000) (hE : Seen tcs 5 eo ex w) (he : ex.length ≤ 1000) :
    Calls Try.prog 13 #[tv ao t.rows.length cap t.mode, o.v, .slice eo ex.length ec] w fun e w' => ∃ v, e = .returned (.tuple #[v, .int .i64 (mayR t o ex).2]) ∧ Tb.Told v (mayR t o ex).1 w' ∧ Below w.heap.size w w' := by
  have AP : Hid (∀ W, Below w.heap.size w W → Calls Try.prog 31 #[tv ao t.rows.length cap t.mode, o.v] W fun e w' => ∃ v, e = .returned (.tuple #[v, .int .i64 (applyR t o).2]) ∧ Tb.Told v (applyR t o).1 w' ∧ Below W.heap.size W w') := Lib.hid (fun W hb => apply_any t o ao cap W (hS.seen.below hb (Nat.le_refl _)) hl)
  have WI : Hid (∀ W a c, Below w.heap.size w W → Seen Rw.cs 6 a (applyR t o).1.rows W → Calls Try.prog 29 #[tv a (applyR t o).1.rows.length c (applyR t o).1.mode, .slice eo ex.length ec] W fun e w' => e = .returned (.int .i64 (withR (applyR t o).1 ex)) ∧ Below W.heap.size W w') := Lib.hid (fun W a c hb h => with_any _ ex a c eo ec W h (by have := apply_len t o; omega) (hE.below hb (Nat.le_refl _)) he)
  have MR : Hid (mayR t o ex = if (applyR t o).2 ≠ 0 then (tb0, (applyR t o).2) else if withR (applyR t o).1 ex ≠ 0 then (tb0, withR (applyR t o).1 ex) else ((applyR t o).1, 0)) := Lib.hid rfl
  have H0 := Lib.hid (to_new w (.slice ao t.rows.length cap) t.mode o.cs)
  generalize mayR t o ex = M at *
  generalize applyR t o = R at *
  obtain ⟨R1, R2⟩ := R
  generalize withR R1 ex = x at *
  obtain ⟨l, m⟩ := t
  obtain ⟨k, ⟨i, c, d, tt, tm⟩, s, oi, oc, om⟩ := o
  unfold tv Od.v Od.cs at *
  simp only at *
  generalize l.length = n at *
  generalize ex.length = en at *
  clear hS hE
  obtain ⟨t0, t1⟩ := cell2 (H0.out.cell 2 rfl)
  obtain ⟨o0, o1, o2, o3, o4, o5, o6, o7, o8, o9⟩ := cell10 (H0.out.cell 1 rfl)
  go_enter Try.func13, Try.ntmps13
  go_wp2_with fail
  (with_reducible refine (AP.out _ H0.out.bl).mono ?_)
  rintro e w1 ⟨v, rfl, ⟨a1, c1, rfl, s1⟩, b1⟩
  have H1 := Lib.hid (H0.out.call b1)
  have G1 := Lib.hid (H1.out.new #[.slice a1 R1.rows.length c1, .int .i64 R1.mode] 29)
  have S1 := Lib.hid (s1.call ((Below.refl _ _).alloc (Nat.le_refl _) (.cells #[.slice a1 R1.rows.length c1, .int .i64 R1.mode] 29)))
  clear b1 s1 AP H0 H1 t0 t1 o0 o1 o2 o3 o4 o5 o6 o7 o8 o9
  obtain ⟨z0, z1⟩ := cell2 (G1.out.cell 1 rfl)
  have zf := G1.out.fz 1 rfl
  obtain ⟨y0, y1⟩ := cell2 (G1.out.cell 0 rfl)
  unfold tv at *
  by_cases hR : R2 = 0
  case neg =>
    have hR' : (R2 != 0) = true := by simp [hR]
    have E : M = (tb0, R2) := MR.out.trans (if_pos hR)
    subst E
    have HF := Lib.hid ((G1.out.set 1 rfl 0 (.slice none 0 0)).set 1 rfl 1 (.int .i64 0))
    obtain ⟨q0, q1⟩ := cell2 (HF.out.cell 1 rfl)
    clear hR MR WI
    go_wp2
    exact bodyPost_ret (v := .tuple #[.agg #[.slice none 0 0, .int .i64 0], .int .i64 R2]) (by simp [results, Try.results13, go_sem, q0, q1]) rfl ⟨_, rfl, told_zero _, HF.out.bl⟩
  subst hR
  have WC := Lib.hid (WI.out _ a1 c1 G1.out.bl S1.out.seen)
  have MM : Hid (M = if x ≠ 0 then (tb0, x) else (R1, 0)) := Lib.hid (MR.out.trans (if_neg (by simp)))
  clear WI MR
  go_wp2_with fail
  (with_reducible refine WC.out.mono ?_)
  rintro e w2 ⟨rfl, b2⟩
  have G2 := Lib.hid (G1.out.call b2)
  have S2 := Lib.hid (S1.out.call b2)
  clear b2 WC G1 S1 z0 z1 zf y0 y1
  obtain ⟨z0, z1⟩ := cell2 (G2.out.cell 1 rfl)
  have zf := G2.out.fz 1 rfl
  obtain ⟨y0, y1⟩ := cell2 (G2.out.cell 0 rfl)
  by_cases hx : x = 0
  case neg =>
    have hx' : (x != 0) = true := by simp [hx]
    have E : M = (tb0, x) := MM.out.trans (if_pos hx)
    subst E
    have HF := Lib.hid ((G2.out.set 1 rfl 0 (.slice none 0 0)).set 1 rfl 1 (.int .i64 0))
    obtain ⟨q0, q1⟩ := cell2 (HF.out.cell 1 rfl)
    clear hx MM
    go_wp2
    exact bodyPost_ret (v := .tuple #[.agg #[.slice none 0 0, .int .i64 0], .int .i64 x]) (by simp [results, Try.results13, go_sem, q0, q1]) rfl ⟨_, rfl, told_zero _, HF.out.bl⟩
  subst hx
  have E : M = (R1, 0) := MM.out.trans (if_neg (by simp))
  subst E
  have HF := Lib.hid ((G2.out.set 1 rfl 0 (.slice a1 R1.rows.length c1)).set 1 rfl 1 (.int .i64 R1.mode))
  have SF := Lib.hid ((S2.out.set G2.out 1 rfl (by decide) 0 (.slice a1 R1.rows.length c1)).set (G2.out.set 1 rfl 0 (.slice a1 R1.rows.length c1)) 1 rfl (by simp) 1 (.int .i64 R1.mode))
  obtain ⟨q0, q1⟩ := cell2 (HF.out.cell 1 rfl)
  clear MM
  go_wp2
  exact bodyPost_ret (v := .tuple #[.agg #[.slice a1 R1.rows.length c1, .int .i64 R1.mode], .int .i64 0]) (by simp [results, Try.results13, go_sem, q0, q1]) rfl ⟨_, rfl, ⟨a1, c1, rfl, SF.out⟩, HF.out.bl⟩
set_option maxHeartbeats 8000000 in
theorem rmay_any (t : Tb.Tb) (o : Od) (ex : List Tk) (ao : Option Addr) (cap : Nat) (eo : Option Addr) (ec : Nat) (w : World) (hS : Sl (.slice ao t.rows.length cap) t.rows w ao cap) (hl : t.rows.length ≤ 1000) (hE : Seen tcs 5 eo ex w) (he : ex.length ≤ 1000) :
    Calls Try.prog 22 #[tv ao t.rows.length cap t.mode, o.v, .slice eo ex.length ec] w fun e w' => ∃ v, e = .returned (.tuple #[v, .int .i64 (mayR t o ex).2]) ∧ Tb.Told v (mayR t o ex).1 w' ∧ Below w.heap.size w w' := by
  have AP : Hid (∀ W, Below w.heap.size w W → Calls Try.prog 20 #[tv ao t.rows.length cap t.mode, o.v] W fun e w' => ∃ v, e = .returned (.tuple #[v, .int .i64 (applyR t o).2]) ∧ Tb.Told v (applyR t o).1 w' ∧ Below W.heap.size W w') := Lib.hid (fun W hb => rapply_any t o ao cap W (hS.call hb) hl)
  have WI : Hid (∀ W a c, Below w.heap.size w W → Seen Rw.cs 6 a (applyR t o).1.rows W → Calls Try.prog 30 #[tv a (applyR t o).1.rows.length c (applyR t o).1.mode, .slice eo ex.length ec] W fun e w' => e = .returned (.int .i64 (withR (applyR t o).1 ex)) ∧ Below W.heap.size W w') := Lib.hid (fun W a c hb h => rwith_any _ ex a c eo ec W h (by have := apply_len t o; omega) (hE.below hb (Nat.le_refl _)) he)
  have MR : Hid (mayR t o ex = if (applyR t o).2 ≠ 0 then (tb0, (applyR t o).2) else if withR (applyR t o).1 ex ≠ 0 then (tb0, withR (applyR t o).1 ex) else ((applyR t o).1, 0)) := Lib.hid rfl
  have H0 := Lib.hid (to_new w (.slice ao t.rows.length cap) t.mode o.cs)
  generalize mayR t o ex = M at *
  generalize applyR t o = R at *
  obtain ⟨R1, R2⟩ := R
  generalize withR R1 ex = x at *
  obtain ⟨l, m⟩ := t
  obtain ⟨k, ⟨i, c, d, tt, tm⟩, s, oi, oc, om⟩ := o
  unfold tv Od.v Od.cs at *
  simp only at *
  generalize l.length = n at *
  generalize ex.length = en at *
  clear hS hE
  obtain ⟨t0, t1⟩ := cell2 (H0.out.cell 2 rfl)
  obtain ⟨o0, o1, o2, o3, o4, o5, o6, o7, o8, o9⟩ := cell10 (H0.out.cell 1 rfl)
  go_enter Try.func22, Try.ntmps22
  go_wp2_with fail
  (with_reducible refine (AP.out _ H0.out.bl).mono ?_)
  rintro e w1 ⟨v, rfl, ⟨a1, c1, rfl, s1⟩, b1⟩
  have H1 := Lib.hid (H0.out.call b1)
  have G1 := Lib.hid (H1.out.new #[.slice a1 R1.rows.length c1, .int .i64 R1.mode] 29)
  have S1 := Lib.hid (s1.call ((Below.refl _ _).alloc (Nat.le_refl _) (.cells #[.slice a1 R1.rows.length c1, .int .i64 R1.mode] 29)))
  clear b1 s1 AP H0 H1 t0 t1 o0 o1 o2 o3 o4 o5 o6 o7 o8 o9
  obtain ⟨z0, z1⟩ := cell2 (G1.out.cell 1 rfl)
  have zf := G1.out.fz 1 rfl
  obtain ⟨y0, y1⟩ := cell2 (G1.out.cell 0 rfl)
  unfold tv at *
  by_cases hR : R2 = 0
  case neg =>
    have hR' : (R2 != 0) = true := by simp [hR]
    have E : M = (tb0, R2) := MR.out.trans (if_pos hR)
    subst E
    have HF := Lib.hid ((G1.out.set 1 rfl 0 (.slice none 0 0)).set 1 rfl 1 (.int .i64 0))
    obtain ⟨q0, q1⟩ := cell2 (HF.out.cell 1 rfl)
    clear hR MR WI
    go_wp2
    exact bodyPost_ret (v := .tuple #[.agg #[.slice none 0 0, .int .i64 0], .int .i64 R2]) (by simp [results, Try.results22, go_sem, q0, q1]) rfl ⟨_, rfl, told_zero _, HF.out.bl⟩
  subst hR
  have WC := Lib.hid (WI.out _ a1 c1 G1.out.bl S1.out.seen)
  have MM : Hid (M = if x ≠ 0 then (tb0, x) else (R1, 0)) := Lib.hid (MR.out.trans (if_neg (by simp)))
  clear WI MR
  go_wp2_with fail
  (with_reducible refine WC.out.mono ?_)
  rintro e w2 ⟨rfl, b2⟩
  have G2 := Lib.hid (G1.out.call b2)
  have S2 := Lib.hid (S1.out.call b2)
  clear b2 WC G1 S1 z0 z1 zf y0 y1
  obtain ⟨z0, z1⟩ := cell2 (G2.out.cell 1 rfl)
  have zf := G2.out.fz 1 rfl
  obtain ⟨y0, y1⟩ := cell2 (G2.out.cell 0 rfl)
  by_cases hx : x = 0
  case neg =>
    have hx' : (x != 0) = true := by simp [hx]
    have E : M = (tb0, x) := MM.out.trans (if_pos hx)
    subst E
    have HF := Lib.hid ((G2.out.set 1 rfl 0 (.slice none 0 0)).set 1 rfl 1 (.int .i64 0))
    obtain ⟨q0, q1⟩ := cell2 (HF.out.cell 1 rfl)
    clear hx MM
    go_wp2
    exact bodyPost_ret (v := .tuple #[.agg #[.slice none 0 0, .int .i64 0], .int .i64 x]) (by simp [results, Try.results22, go_sem, q0, q1]) rfl ⟨_, rfl, told_zero _, HF.out.bl⟩
  subst hx
  have E : M = (R1, 0) := MM.out.trans (if_neg (by simp))
  subst E
  have HF := Lib.hid ((G2.out.set 1 rfl 0 (.slice a1 R1.rows.length c1)).set 1 rfl 1 (.int .i64 R1.mode))
  have SF := Lib.hid ((S2.out.set G2.out 1 rfl (by decide) 0 (.slice a1 R1.rows.length c1)).set (G2.out.set 1 rfl 0 (.slice a1 R1.rows.length c1)) 1 rfl (by simp) 1 (.int .i64 R1.mode))
  obtain ⟨q0, q1⟩ := cell2 (HF.out.cell 1 rfl)
  clear MM
  go_wp2
  exact bodyPost_ret (v := .tuple #[.agg #[.slice a1 R1.rows.length c1, .int .i64 R1.mode], .int .i64 0]) (by simp [results, Try.results22, go_sem, q0, q1]) rfl ⟨_, rfl, ⟨a1, c1, rfl, SF.out⟩, HF.out.bl⟩
end Go.Proofs.Ytgbnoifaknlkhaa.Ju
