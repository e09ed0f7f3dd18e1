/- Package table's Apply. -/
import Derived.Test.YtnaanahgflbihaaTbF
import Derived.Test.YtnaanahgflbihaaOpC
namespace Go.Proofs.Ytnaanahgflbihaa.Tb
open Go.ChangeShapes Go.WideShapes Go.ChangeAt Go.RowKit Go.Joins
open Pm (Tk chk chk_iff below_drewN)
open Ge (El Seen Row)
open Ox (Od chkR chkR_iff tk0)
set_option maxRecDepth 100000
set_option maxRecDepth 100000
set_option linter.unusedVariables false
set_option linter.unusedSimpArgs false
theorem apply_no {t : Tb} {o : Od} (h : chkT t = false ∨ chkR o = false) : applyR t o = (tb0, 1) := by unfold applyR; rw [if_pos h]
theorem apply_admit {t : Tb} {x : Tk} {s : Bool} (h : chkT t = true) (k : chkR ⟨1, x, s, 0, 0, 0⟩ = true) : applyR t ⟨1, x, s, 0, 0, 0⟩ = admR t ⟨x, s⟩ := by
  unfold applyR admR
  rw [if_neg (by rw [h, k]; simp)]
  simp only [if_true]
  cases at_ t.rows x.id <;> rfl
theorem apply_remove {t : Tb} {i : Int} (h : chkT t = true) (k : chkR ⟨2, tk0, false, i, 0, 0⟩ = true) : applyR t ⟨2, tk0, false, i, 0, 0⟩ = remR t i := by
  unfold applyR remR
  rw [if_neg (by rw [h, k]; simp)]
  simp only [show ¬ (2 : Int) = 1 by decide, show ¬ (2 : Int) = 4 by decide, show ¬ (2 : Int) = 3 by decide, if_false]
  cases at_ t.rows i <;> rfl
theorem apply_resize {t : Tb} {i c : Int} (h : chkT t = true) (k : chkR ⟨3, tk0, false, i, c, 0⟩ = true) : applyR t ⟨3, tk0, false, i, c, 0⟩ = resR t i c := by
  unfold applyR resR
  rw [if_neg (by rw [h, k]; simp)]
  simp only [show ¬ (3 : Int) = 1 by decide, show ¬ (3 : Int) = 4 by decide, if_false, if_true]
  cases at_ t.rows i with
  | none => rfl
  | some k => cases t.rows[k]? <;> rfl
theorem apply_mode {t : Tb} {m : Int} (h : chkT t = true) (k : chkR ⟨4, tk0, false, 0, 0, m⟩ = true) : applyR t ⟨4, tk0, false, 0, 0, m⟩ = (⟨t.rows, m⟩, 0) := by
  unfold applyR
  rw [if_neg (by rw [h, k]; simp)]
  simp only [show ¬ (4 : Int) = 1 by decide, if_false, if_true]
/-- the boxes of a table that came, of an op, and of what is told -/
theorem to_new (w : World) (a : Value) (m : Int) (cs : Array Value) : Bos [(w.heap.size + 2, #[.slice none 0 0, .int .i64 0], 24), (w.heap.size + 1, cs, 29), (w.heap.size, #[a, .int .i64 m], 24)] w (((w.alloc (.cells #[a, .int .i64 m] 24)).alloc (.cells cs 29)).alloc (.cells #[.slice none 0 0, .int .i64 0] 24)) := by
  have := (((bos_nil w).new #[a, .int .i64 m] 24).new cs 29).new #[.slice none 0 0, .int .i64 0] 24
  simp only [World.size_alloc] at this
  exact this
set_option maxHeartbeats 8000000 in
theorem apply_any (t : Tb) (o : Od) (ao : Option Addr) (cap : Nat) (w : World) (hS : Seen Rw.cs 6 ao t.rows w) (hl : t.rows.length ≤ 1000) :
    Calls Try.prog 27 #[tv ao t.rows.length cap t.mode, o.v] w fun e w' => ∃ v, e = .returned (.tuple #[v, .int .i64 (applyR t o).2]) ∧ Told v (applyR t o).1 w' ∧ Below w.heap.size w w' := by
  have S := Lib.hid hS
  have CT : Hid (∀ W, Below w.heap.size w W → Calls Try.prog 29 #[tv ao t.rows.length cap t.mode] W fun e w' => e = .returned (.bool (chkT t)) ∧ Below W.heap.size W w') := Lib.hid (fun W hb => check_any t ao cap W (hS.below hb (Nat.le_refl _)) hl)
  have CO := Lib.hid (Ox.check_any o)
  have H0 := Lib.hid (to_new w (.slice ao t.rows.length cap) t.mode o.cs)
  have NO : Hid (chkT t = false ∨ chkR o = false → applyR t o = (tb0, 1)) := Lib.hid apply_no
  have AD : Hid (chkT t = true → ∀ x W, Below w.heap.size w W → Calls Try.prog 60 #[tv ao t.rows.length cap t.mode, x.v] W fun e w' => ∃ v, e = .returned (.tuple #[v, .int .i64 (admR t x).2]) ∧ Told v (admR t x).1 w' ∧ Below W.heap.size W w') := Lib.hid (fun hc x W hb => admit_any t x ao cap W (hS.below hb (Nat.le_refl _)) hc)
  have RM : Hid (chkT t = true → ∀ i W, Below w.heap.size w W → Calls Try.prog 61 #[tv ao t.rows.length cap t.mode, .int .i64 i] W fun e w' => ∃ v, e = .returned (.tuple #[v, .int .i64 (remR t i).2]) ∧ Told v (remR t i).1 w' ∧ Below W.heap.size W w') := Lib.hid (fun hc i W hb => remove_any t i ao cap W (hS.below hb (Nat.le_refl _)) hc)
  have RZ : Hid (chkT t = true → ∀ i c W, Below w.heap.size w W → Calls Try.prog 62 #[tv ao t.rows.length cap t.mode, .int .i64 i, .int .i64 c] W fun e w' => ∃ v, e = .returned (.tuple #[v, .int .i64 (resR t i c).2]) ∧ Told v (resR t i c).1 w' ∧ Below W.heap.size W w') := Lib.hid (fun hc i c W hb => resize_any t i c ao cap W (hS.below hb (Nat.le_refl _)) hc)
  have OW : Hid (∀ W, Below w.heap.size w W → Calls Try.prog 53 #[tv ao t.rows.length cap t.mode] W fun e w' => ∃ ao' cap', e = .returned (tv ao' t.rows.length cap' t.mode) ∧ Sl (.slice ao' t.rows.length cap') t.rows w' ao' cap' ∧ Below W.heap.size W w') := Lib.hid (fun W hb => own_any t.rows ao cap t.mode W (hS.below hb (Nat.le_refl _)) hl)
  generalize hct : chkT t = ct at *
  generalize hco : chkR o = co at *
  obtain ⟨l, m⟩ := t
  obtain ⟨k, ⟨i, c, d, tt, tm⟩, s, oi, oc, om⟩ := o
  unfold tv Od.v Od.cs at *
  simp only at *
  obtain ⟨t0, t1⟩ := cell2 (H0.out.cell 2 rfl)
  obtain ⟨o0, o1, o2, o3, o4, o5, o6, o7, o8, o9⟩ := cell10 (H0.out.cell 1 rfl)
  obtain ⟨z0, z1⟩ := cell2 (H0.out.cell 0 rfl)
  have zf := H0.out.fz 0 rfl
  cases ct
  case false =>
    have E := Lib.hid (NO.out (.inl rfl))
    clear AD RM RZ OW NO S hct hco CO
    go_enter Try.func27, Try.ntmps27
    go_wp2_with fail
    (with_reducible refine (CT.out _ H0.out.bl).mono ?_)
    rintro e w1 ⟨rfl, b1⟩
    have H1 := Lib.hid (H0.out.call b1)
    clear b1 CT H0
    clear t0 t1 o0 o1 o2 o3 o4 o5 o6 o7 o8 o9 z0 z1 zf
    obtain ⟨t0, t1⟩ := cell2 (H1.out.cell 2 rfl)
    obtain ⟨o0, o1, o2, o3, o4, o5, o6, o7, o8, o9⟩ := cell10 (H1.out.cell 1 rfl)
    obtain ⟨z0, z1⟩ := cell2 (H1.out.cell 0 rfl)
    have zf := H1.out.fz 0 rfl
    have HF := Lib.hid ((H1.out.set 0 rfl 0 (.slice none 0 0)).set 0 rfl 1 (.int .i64 0))
    obtain ⟨q0, q1⟩ := cell2 (HF.out.cell 0 rfl)
    go_wp2
    refine bodyPost_ret (v := .tuple #[.agg #[.slice none 0 0, .int .i64 0], .int .i64 1]) (by simp [results, Try.results27, go_sem, q0, q1]) rfl ⟨_, by rw [E.out], by rw [E.out]; exact told_zero _, HF.out.bl⟩
  case true =>
    cases co
    case false =>
      have E := Lib.hid (NO.out (.inr rfl))
      clear AD RM RZ OW NO S hct hco
      go_enter Try.func27, Try.ntmps27
      go_wp2_with fail
      (with_reducible refine (CT.out _ H0.out.bl).mono ?_)
      rintro e w1 ⟨rfl, b1⟩
      have H1 := Lib.hid (H0.out.call b1)
      clear b1 CT H0
      clear t0 t1 o0 o1 o2 o3 o4 o5 o6 o7 o8 o9 z0 z1 zf
      obtain ⟨t0, t1⟩ := cell2 (H1.out.cell 2 rfl)
      obtain ⟨o0, o1, o2, o3, o4, o5, o6, o7, o8, o9⟩ := cell10 (H1.out.cell 1 rfl)
      obtain ⟨z0, z1⟩ := cell2 (H1.out.cell 0 rfl)
      have zf := H1.out.fz 0 rfl
      go_wp2_with fail
      (with_reducible refine (CO.out _).mono ?_)
      rintro e w2 ⟨rfl, b2⟩
      have H2 := Lib.hid (H1.out.call b2)
      clear b2 CO H1
      clear t0 t1 o0 o1 o2 o3 o4 o5 o6 o7 o8 o9 z0 z1 zf
      obtain ⟨t0, t1⟩ := cell2 (H2.out.cell 2 rfl)
      obtain ⟨o0, o1, o2, o3, o4, o5, o6, o7, o8, o9⟩ := cell10 (H2.out.cell 1 rfl)
      obtain ⟨z0, z1⟩ := cell2 (H2.out.cell 0 rfl)
      have zf := H2.out.fz 0 rfl
      have HF := Lib.hid ((H2.out.set 0 rfl 0 (.slice none 0 0)).set 0 rfl 1 (.int .i64 0))
      obtain ⟨q0, q1⟩ := cell2 (HF.out.cell 0 rfl)
      go_wp2
      refine bodyPost_ret (v := .tuple #[.agg #[.slice none 0 0, .int .i64 0], .int .i64 1]) (by simp [results, Try.results27, go_sem, q0, q1]) rfl ⟨_, by rw [E.out], by rw [E.out]; exact told_zero _, HF.out.bl⟩
    case true =>
      have AD := Lib.hid (AD.out rfl)
      have RM := Lib.hid (RM.out rfl)
      have RZ := Lib.hid (RZ.out rfl)
      clear NO
      have hco2 := hco
      rcases chkR_iff.1 hco with ⟨x, xs, e, -⟩ | ⟨xi, e, -⟩ | ⟨xi, xc, e, -⟩ | ⟨xm, e, -⟩
      · cases e
        have E := Lib.hid (apply_admit hct hco2)
        have CC := Lib.hid (AD.out ⟨⟨i, c, d, tt, tm⟩, s⟩)
        clear RM RZ AD OW S hct hco hco2
        unfold tk0 at *
        try simp only [Rw.v] at CC
        go_enter Try.func27, Try.ntmps27
        go_wp2_with fail
        (with_reducible refine (CT.out _ H0.out.bl).mono ?_)
        rintro e w1 ⟨rfl, b1⟩
        have H1 := Lib.hid (H0.out.call b1)
        clear b1 CT H0
        clear t0 t1 o0 o1 o2 o3 o4 o5 o6 o7 o8 o9 z0 z1 zf
        obtain ⟨t0, t1⟩ := cell2 (H1.out.cell 2 rfl)
        obtain ⟨o0, o1, o2, o3, o4, o5, o6, o7, o8, o9⟩ := cell10 (H1.out.cell 1 rfl)
        obtain ⟨z0, z1⟩ := cell2 (H1.out.cell 0 rfl)
        have zf := H1.out.fz 0 rfl
        go_wp2_with fail
        (with_reducible refine (CO.out _).mono ?_)
        rintro e w2 ⟨rfl, b2⟩
        have H2 := Lib.hid (H1.out.call b2)
        clear b2 CO H1
        clear t0 t1 o0 o1 o2 o3 o4 o5 o6 o7 o8 o9 z0 z1 zf
        obtain ⟨t0, t1⟩ := cell2 (H2.out.cell 2 rfl)
        obtain ⟨o0, o1, o2, o3, o4, o5, o6, o7, o8, o9⟩ := cell10 (H2.out.cell 1 rfl)
        obtain ⟨z0, z1⟩ := cell2 (H2.out.cell 0 rfl)
        have zf := H2.out.fz 0 rfl
        go_wp2_with fail
        (with_reducible refine (CC.out _ H2.out.bl).mono ?_)
        rintro e w3 ⟨v, rfl, ⟨ao', cap', rfl, sl⟩, b3⟩
        have H3 := Lib.hid (H2.out.call b3)
        have SL := Lib.hid sl
        clear b3 sl t0 t1 o0 o1 o2 o3 o4 o5 o6 o7 o8 o9 z0 z1 zf
        obtain ⟨z0, z1⟩ := cell2 (H3.out.cell 0 rfl)
        have zf := H3.out.fz 0 rfl
        generalize hR : admR ⟨l, m⟩ ⟨⟨i, c, d, tt, tm⟩, s⟩ = R at *
        have HF := Lib.hid ((H3.out.set 0 rfl 0 (.slice ao' R.1.rows.length cap')).set 0 rfl 1 (.int .i64 R.1.mode))
        have SF := Lib.hid ((SL.out.set H3.out 0 rfl (by simp) 0 (.slice ao' R.1.rows.length cap')).set (H3.out.set 0 rfl 0 (.slice ao' R.1.rows.length cap')) 0 rfl (by simp) 1 (.int .i64 R.1.mode))
        obtain ⟨q0, q1⟩ := cell2 (HF.out.cell 0 rfl)
        unfold tv
        go_wp2
        refine bodyPost_ret (v := .tuple #[.agg #[.slice ao' R.1.rows.length cap', .int .i64 R.1.mode], .int .i64 R.2]) (by simp [results, Try.results27, go_sem, q0, q1]) rfl ⟨_, by rw [E.out], by rw [E.out]; exact ⟨ao', cap', rfl, SF.out⟩, HF.out.bl⟩
      · cases e
        have E := Lib.hid (apply_remove hct hco2)
        have CC := Lib.hid (RM.out oi)
        clear AD RZ RM OW S hct hco hco2
        unfold tk0 at *
        try simp only [Rw.v] at CC
        go_enter Try.func27, Try.ntmps27
        go_wp2_with fail
        (with_reducible refine (CT.out _ H0.out.bl).mono ?_)
        rintro e w1 ⟨rfl, b1⟩
        have H1 := Lib.hid (H0.out.call b1)
        clear b1 CT H0
        clear t0 t1 o0 o1 o2 o3 o4 o5 o6 o7 o8 o9 z0 z1 zf
        obtain ⟨t0, t1⟩ := cell2 (H1.out.cell 2 rfl)
        obtain ⟨o0, o1, o2, o3, o4, o5, o6, o7, o8, o9⟩ := cell10 (H1.out.cell 1 rfl)
        obtain ⟨z0, z1⟩ := cell2 (H1.out.cell 0 rfl)
        have zf := H1.out.fz 0 rfl
        go_wp2_with fail
        (with_reducible refine (CO.out _).mono ?_)
        rintro e w2 ⟨rfl, b2⟩
        have H2 := Lib.hid (H1.out.call b2)
        clear b2 CO H1
        clear t0 t1 o0 o1 o2 o3 o4 o5 o6 o7 o8 o9 z0 z1 zf
        obtain ⟨t0, t1⟩ := cell2 (H2.out.cell 2 rfl)
        obtain ⟨o0, o1, o2, o3, o4, o5, o6, o7, o8, o9⟩ := cell10 (H2.out.cell 1 rfl)
        obtain ⟨z0, z1⟩ := cell2 (H2.out.cell 0 rfl)
        have zf := H2.out.fz 0 rfl
        go_wp2_with fail
        (with_reducible refine (CC.out _ H2.out.bl).mono ?_)
        rintro e w3 ⟨v, rfl, ⟨ao', cap', rfl, sl⟩, b3⟩
        have H3 := Lib.hid (H2.out.call b3)
        have SL := Lib.hid sl
        clear b3 sl t0 t1 o0 o1 o2 o3 o4 o5 o6 o7 o8 o9 z0 z1 zf
        obtain ⟨z0, z1⟩ := cell2 (H3.out.cell 0 rfl)
        have zf := H3.out.fz 0 rfl
        generalize hR : remR ⟨l, m⟩ oi = R at *
        have HF := Lib.hid ((H3.out.set 0 rfl 0 (.slice ao' R.1.rows.length cap')).set 0 rfl 1 (.int .i64 R.1.mode))
        have SF := Lib.hid ((SL.out.set H3.out 0 rfl (by simp) 0 (.slice ao' R.1.rows.length cap')).set (H3.out.set 0 rfl 0 (.slice ao' R.1.rows.length cap')) 0 rfl (by simp) 1 (.int .i64 R.1.mode))
        obtain ⟨q0, q1⟩ := cell2 (HF.out.cell 0 rfl)
        unfold tv
        go_wp2
        refine bodyPost_ret (v := .tuple #[.agg #[.slice ao' R.1.rows.length cap', .int .i64 R.1.mode], .int .i64 R.2]) (by simp [results, Try.results27, go_sem, q0, q1]) rfl ⟨_, by rw [E.out], by rw [E.out]; exact ⟨ao', cap', rfl, SF.out⟩, HF.out.bl⟩
      · cases e
        have E := Lib.hid (apply_resize hct hco2)
        have CC := Lib.hid (RZ.out oi oc)
        clear AD RM RZ OW S hct hco hco2
        unfold tk0 at *
        try simp only [Rw.v] at CC
        go_enter Try.func27, Try.ntmps27
        go_wp2_with fail
        (with_reducible refine (CT.out _ H0.out.bl).mono ?_)
        rintro e w1 ⟨rfl, b1⟩
        have H1 := Lib.hid (H0.out.call b1)
        clear b1 CT H0
        clear t0 t1 o0 o1 o2 o3 o4 o5 o6 o7 o8 o9 z0 z1 zf
        obtain ⟨t0, t1⟩ := cell2 (H1.out.cell 2 rfl)
        obtain ⟨o0, o1, o2, o3, o4, o5, o6, o7, o8, o9⟩ := cell10 (H1.out.cell 1 rfl)
        obtain ⟨z0, z1⟩ := cell2 (H1.out.cell 0 rfl)
        have zf := H1.out.fz 0 rfl
        go_wp2_with fail
        (with_reducible refine (CO.out _).mono ?_)
        rintro e w2 ⟨rfl, b2⟩
        have H2 := Lib.hid (H1.out.call b2)
        clear b2 CO H1
        clear t0 t1 o0 o1 o2 o3 o4 o5 o6 o7 o8 o9 z0 z1 zf
        obtain ⟨t0, t1⟩ := cell2 (H2.out.cell 2 rfl)
        obtain ⟨o0, o1, o2, o3, o4, o5, o6, o7, o8, o9⟩ := cell10 (H2.out.cell 1 rfl)
        obtain ⟨z0, z1⟩ := cell2 (H2.out.cell 0 rfl)
        have zf := H2.out.fz 0 rfl
        go_wp2_with fail
        (with_reducible refine (CC.out _ H2.out.bl).mono ?_)
        rintro e w3 ⟨v, rfl, ⟨ao', cap', rfl, sl⟩, b3⟩
        have H3 := Lib.hid (H2.out.call b3)
        have SL := Lib.hid sl
        clear b3 sl t0 t1 o0 o1 o2 o3 o4 o5 o6 o7 o8 o9 z0 z1 zf
        obtain ⟨z0, z1⟩ := cell2 (H3.out.cell 0 rfl)
        have zf := H3.out.fz 0 rfl
        generalize hR : resR ⟨l, m⟩ oi oc = R at *
        have HF := Lib.hid ((H3.out.set 0 rfl 0 (.slice ao' R.1.rows.length cap')).set 0 rfl 1 (.int .i64 R.1.mode))
        have SF := Lib.hid ((SL.out.set H3.out 0 rfl (by simp) 0 (.slice ao' R.1.rows.length cap')).set (H3.out.set 0 rfl 0 (.slice ao' R.1.rows.length cap')) 0 rfl (by simp) 1 (.int .i64 R.1.mode))
        obtain ⟨q0, q1⟩ := cell2 (HF.out.cell 0 rfl)
        unfold tv
        go_wp2
        refine bodyPost_ret (v := .tuple #[.agg #[.slice ao' R.1.rows.length cap', .int .i64 R.1.mode], .int .i64 R.2]) (by simp [results, Try.results27, go_sem, q0, q1]) rfl ⟨_, by rw [E.out], by rw [E.out]; exact ⟨ao', cap', rfl, SF.out⟩, HF.out.bl⟩
      · cases e
        have E := Lib.hid (apply_mode hct hco2)
        clear AD RM RZ S hct hco hco2
        unfold tk0 at *
        go_enter Try.func27, Try.ntmps27
        go_wp2_with fail
        (with_reducible refine (CT.out _ H0.out.bl).mono ?_)
        rintro e w1 ⟨rfl, b1⟩
        have H1 := Lib.hid (H0.out.call b1)
        clear b1 CT H0
        clear t0 t1 o0 o1 o2 o3 o4 o5 o6 o7 o8 o9 z0 z1 zf
        obtain ⟨t0, t1⟩ := cell2 (H1.out.cell 2 rfl)
        obtain ⟨o0, o1, o2, o3, o4, o5, o6, o7, o8, o9⟩ := cell10 (H1.out.cell 1 rfl)
        obtain ⟨z0, z1⟩ := cell2 (H1.out.cell 0 rfl)
        have zf := H1.out.fz 0 rfl
        go_wp2_with fail
        (with_reducible refine (CO.out _).mono ?_)
        rintro e w2 ⟨rfl, b2⟩
        have H2 := Lib.hid (H1.out.call b2)
        clear b2 CO H1
        clear t0 t1 o0 o1 o2 o3 o4 o5 o6 o7 o8 o9 z0 z1 zf
        obtain ⟨t0, t1⟩ := cell2 (H2.out.cell 2 rfl)
        obtain ⟨o0, o1, o2, o3, o4, o5, o6, o7, o8, o9⟩ := cell10 (H2.out.cell 1 rfl)
        obtain ⟨z0, z1⟩ := cell2 (H2.out.cell 0 rfl)
        have zf := H2.out.fz 0 rfl
        go_wp2_with fail
        (with_reducible refine (OW.out _ H2.out.bl).mono ?_)
        rintro e w3 ⟨ao', cap', rfl, sl, b3⟩
        have H3 := Lib.hid (H2.out.call b3)
        have H4 := Lib.hid (H3.out.new #[.slice ao' l.length cap', .int .i64 m] 24)
        have H5 := Lib.hid (H3.out.new #[.slice ao' l.length cap', .int .i64 om] 24)
        have SL := Lib.hid (sl.call ((Below.refl _ _).alloc (Nat.le_refl _) (.cells #[.slice ao' l.length cap', .int .i64 om] 24)))
        clear b3 sl t0 t1 o0 o1 o2 o3 o4 o5 o6 o7 o8 o9 z0 z1 zf
        obtain ⟨o0, o1, o2, o3, o4, o5, o6, o7, o8, o9⟩ := cell10 (H4.out.cell 2 rfl)
        obtain ⟨p0, p1⟩ := cell2 (H4.out.cell 0 rfl)
        have pf := H4.out.fz 0 rfl
        obtain ⟨z0, z1⟩ := cell2 (H5.out.cell 1 rfl)
        obtain ⟨r0, r1⟩ := cell2 (H5.out.cell 0 rfl)
        have zf := H5.out.fz 1 rfl
        have HF := Lib.hid ((H5.out.set 1 rfl 0 (.slice ao' l.length cap')).set 1 rfl 1 (.int .i64 om))
        have SF := Lib.hid ((SL.out.set H5.out 1 rfl (by simp) 0 (.slice ao' l.length cap')).set (H5.out.set 1 rfl 0 (.slice ao' l.length cap')) 1 rfl (by simp) 1 (.int .i64 om))
        obtain ⟨q0, q1⟩ := cell2 (HF.out.cell 1 rfl)
        go_wp2
        refine bodyPost_ret (v := .tuple #[.agg #[.slice ao' l.length cap', .int .i64 om], .int .i64 0]) (by simp [results, Try.results27, go_sem, q0, q1]) rfl ⟨_, by rw [E.out], by rw [E.out]; exact ⟨ao', cap', rfl, SF.out⟩, HF.out.bl⟩
end Go.Proofs.Ytnaanahgflbihaa.Tb
