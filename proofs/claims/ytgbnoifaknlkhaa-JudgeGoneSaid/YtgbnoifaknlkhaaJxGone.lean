/- horariumlaw15.JudgeGone answers true at every row of numbers, every number, and every number of a task: of a set that loses a task that task is gone, and nothing else; of one that gains, nothing. No condition. -/
import Derived.Test.YtgbnoifaknlkhaaJuS
import Derived.Test.YtgbnoifaknlkhaaJuO
import Derived.Deep.DeepCutAuto
namespace Go.Proofs.Ytgbnoifaknlkhaa.judgeGone
open Go.ChangeShapes Go.WideShapes Go.ChangeAt Go.RowKit Go.Joins
set_option maxRecDepth 100000
set_option linter.unusedVariables false
set_option linter.unusedSimpArgs false
open Tb
open Ju
open Pm (Tk)
open Ox (Od tk0)
open Ge (Seen Row)
open Qp (testR)
def GcRel (M1 : Tb.Tb) (M2 : Int) (t : Tb.Tb) (p : Nat) (ao : Option Addr) (cap : Nat) (w : World) (s9 s10 : Value) (wx : World) : Prop :=
  ∃ (q : Nat) (a : Option Addr) (c : Nat), s9 = .pointer (some ⟨q, 0, none⟩) ∧ s10 = .int .i64 M2 ∧ Bos [(q, #[.slice a M1.rows.length c, .int .i64 M1.mode], 29), (p, #[.slice ao t.rows.length cap, .int .i64 t.mode], 29)] w wx ∧ Sl (.slice a M1.rows.length c) M1.rows wx a c ∧ Sl (.slice ao t.rows.length cap) t.rows wx ao cap
theorem eql_tk (a b c d e : Int) (w : World) : (binOp .eql 32 (.agg #[.int .i64 a, .int .i64 b, .int .i64 c, .int .i64 d, .int .i64 e]) (.agg #[.int .i64 a, .int .i64 b, .int .i64 c, .int .i64 d, .int .i64 e])).run Try.prog w = .ok (.bool true) w := by
  rw [run_eql_struct]
  simp [go_sem]
/-- what Gone tells, as a list that is known -/
theorem gone_is {a b : Tb.Tb} {g : List Tk} (e : goneR a b = g) (ao : Option Addr) (ac : Nat) (bo : Option Addr) (bc : Nat) (w : World) (hA : Seen Rw.cs 6 ao a.rows w) (hB : Seen Rw.cs 6 bo b.rows w) (h1 : a.rows.length ≤ 1000) (h2 : b.rows.length ≤ 1000) :
    Calls Try.prog 18 #[tv ao a.rows.length ac a.mode, tv bo b.rows.length bc b.mode] w fun e w' => ∃ o c, e = .returned (.slice o g.length c) ∧ Seen tcs 5 o g w' ∧ Below w.heap.size w w' := by
  subst e
  exact (gone_any a b ao ac bo bc w hA hB h1 h2).mono fun e w' ⟨v, he, hr, hb⟩ => by
    obtain ⟨o', c', rfl, -, hs, -⟩ := Row.form tcs_len hr
    exact ⟨o', c', he, hs, hb⟩

set_option maxRecDepth 100000 in
set_option maxHeartbeats 16000000 in
theorem walk (l : List Nm) (lo : Option Addr) (lc : Nat) (z : Int) (m : Nm) (w : World) (hl : l.length ≤ 9223372036854775807) (hL : Seen Nm.cs 7 lo l w) :
    Calls Try.prog 7 #[.slice lo l.length lc, .int .i64 z, m.v] w fun e w' => e = .returned (.bool true) ∧ Below w.heap.size w w' := by
  have AW := Lib.hid awake_any
  have MF : Hid (∀ W, Below w.heap.size w W → Calls Try.prog 10 #[.slice lo l.length lc, .bool false] W fun e w' => ∃ v, e = .returned v ∧ Tb.Told v (madeT false l) w' ∧ Below W.heap.size W w') := Lib.hid (fun W hb => made_false_any l lo lc W (hL.below hb (Nat.le_refl _)) hl)
  have HT : Hid (chkT (madeT false l) = true) := Lib.hid (made_chk false l)
  have TA := Lib.hid (task_any m)
  have GA : Hid ((applyR (madeT false l) ⟨1, taskR m, false, 0, 0, 0⟩).2 = 0 → goneR (madeT false l) (applyR (madeT false l) ⟨1, taskR m, false, 0, 0, 0⟩).1 = []) := Lib.hid gone_more
  have AL := Lib.hid (apply_len (madeT false l) ⟨1, taskR m, false, 0, 0, 0⟩)
  have RA : Hid (∀ W a k, Sl (.slice a (madeT false l).rows.length k) (madeT false l).rows W a k → Calls Try.prog 20 #[tv a (madeT false l).rows.length k (madeT false l).mode, (⟨1, taskR m, false, 0, 0, 0⟩ : Od).v] W fun e w' => ∃ v, e = .returned (.tuple #[v, .int .i64 (applyR (madeT false l) ⟨1, taskR m, false, 0, 0, 0⟩).2]) ∧ Tb.Told v (applyR (madeT false l) ⟨1, taskR m, false, 0, 0, 0⟩).1 w' ∧ Below W.heap.size W w') := Lib.hid (fun W a k h => rapply_any _ _ a k W h (by have := (chkT_iff.1 (made_chk false l)).2.2.1; omega))
  have H0 := Lib.hid ((bos_nil w).new m.cs.toArray 24)
  generalize applyR (madeT false l) ⟨1, taskR m, false, 0, 0, 0⟩ = R at *
  obtain ⟨R1, R2⟩ := R
  generalize madeT false l = t at *
  generalize l.length = n at *
  generalize taskR m = mt at *
  clear hL
  have hl16 := (chkT_iff.1 HT.out).2.2.1
  have hm03 := (chkT_iff.1 HT.out).2.2.2
  obtain ⟨hm0, hm3⟩ := hm03
  have um : IntKind.u64.wrap t.mode = t.mode := IntWalk.u64_in _ (by omega)
  have um2 : t.mode % 18446744073709551616 = t.mode := by omega
  obtain ⟨nk, ni, nc, nd, nt, nm, ns⟩ := m
  obtain ⟨yi, yc, yd, yt, ym⟩ := mt
  unfold tv Od.v Od.cs Nm.v Nm.cs tkv at *
  simp only at *
  go_enter Try.func7, Try.ntmps7
  go_wp2_with fail
  (with_reducible refine (AW.out _).mono ?_)
  rintro e w1 ⟨rfl, b1⟩
  have H1 := Lib.hid (H0.out.call b1)
  clear b1 AW H0
  go_wp2_with fail
  (with_reducible refine (MF.out _ H1.out.bl).mono ?_)
  rintro e w2 ⟨v, rfl, ⟨ao, cap, rfl, sl⟩, b2⟩
  unfold tv
  have HX := Lib.hid ((H1.out.call b2).new #[.slice ao t.rows.length cap, .int .i64 t.mode] 29).drew
  have SX := Lib.hid (sl.call ((Below.refl _ _).alloc (Nat.le_refl _) (.cells #[.slice ao t.rows.length cap, .int .i64 t.mode] 29)).drew)
  clear b2 sl MF H1
  go_upto_region 3 with (fail)
  generalize w2.alloc (.cells #[.slice ao t.rows.length cap, .int .i64 t.mode] 29) = W3 at *
  generalize w2.heap.size = p at *
  go_cut [9, 10] (GcRel R1 R2 t p ao cap w)
  case first =>
    refine wp_region_held_drew (S := (fun W' => (W'.cell? ⟨p, 0, none⟩ = some (.slice ao t.rows.length cap) ∧ W'.cell? ⟨p, 1, none⟩ = some (.int .i64 t.mode)) ∧ (W'.cell? ⟨w.heap.size, 0, none⟩ = some (.int .i64 nk) ∧ W'.cell? ⟨w.heap.size, 1, none⟩ = some (.int .i64 ni) ∧ W'.cell? ⟨w.heap.size, 2, none⟩ = some (.int .i64 nc) ∧ W'.cell? ⟨w.heap.size, 3, none⟩ = some (.int .i64 nd) ∧ W'.cell? ⟨w.heap.size, 4, none⟩ = some (.int .i64 nt) ∧ W'.cell? ⟨w.heap.size, 5, none⟩ = some (.int .i64 nm) ∧ W'.cell? ⟨w.heap.size, 6, none⟩ = some (.bool ns)))) (by kernel_rfl) (And.intro (cell2 (HX.out.cell 0 rfl)) (cell7 (HX.out.cell 1 rfl))) (fun hHeld => ?_)
    refine Gh.tk 0 ?_
    refine Gh.tk 1 ?_
    refine wpAnyH_ready (rs := [2, 8]) (by kernel_rfl) (by simp) ?_
    refine AllReadyH.cons rfl (fun K hK => ?_) ?_
    · go_simp
      (with_reducible refine (TA.out _).mono ?_)
      rintro e w1 ⟨rfl, b1⟩
      have HX := Lib.hid (HX.out.call b1)
      have SX := Lib.hid (SX.out.call b1)
      clear b1
      go_simp
      refine hK.out _ _ (And.intro (cell2 (HX.out.cell 0 rfl)) (cell7 (HX.out.cell 1 rfl))) (fun hHeld => ?_)
      clear hK K
      refine Gh.pt ?_
      refine Gh.tk 3 ?_
      refine wpAnyH_ready (rs := [4, 8]) (by kernel_rfl) (by simp) ?_
      refine AllReadyH.cons rfl (fun K hK => ?_) ?_
      · go_simp
        (with_reducible refine (RA.out _ _ _ SX.out).mono ?_)
        rintro e w2 ⟨v, rfl, ⟨ao', cap', rfl, sn⟩, b2⟩
        have HX := Lib.hid (HX.out.call b2)
        have SX := Lib.hid (SX.out.call b2)
        have SN := Lib.hid sn
        clear b2 sn
        unfold tv
        go_simp
        refine hK.out _ _ (And.intro (cell2 (HX.out.cell 0 rfl)) (cell7 (HX.out.cell 1 rfl))) (fun hHeld => ?_)
        clear hK K
        refine Gh.pt ?_
        refine Gh.tk 5 ?_
        refine Gh.tk 6 ?_
        refine Gh.tk 7 ?_
        refine Gh.rd 8 (fun K hK => ?_)
        have HY := Lib.hid HX.out
        have SXY := Lib.hid SX.out
        have SNY := Lib.hid SN.out
        have HX := Lib.hid (HX.out.new #[.slice none 0 0, .int .i64 0] 29)
        have SX := Lib.hid (SX.out.call ((Below.refl _ _).alloc (Nat.le_refl _) (.cells #[.slice none 0 0, .int .i64 0] 29)))
        have SN := Lib.hid (SN.out.call ((Below.refl _ _).alloc (Nat.le_refl _) (.cells #[.slice none 0 0, .int .i64 0] 29)))
        go_simp
        refine hK.out _ _ (And.intro (cell2 (HX.out.cell 1 rfl)) (cell7 (HX.out.cell 2 rfl))) (fun hHeld => ?_)
        clear hK K
        refine Gh.pt ?_
        refine Gh.rd 9 (fun K hK => ?_)
        have HX := Lib.hid (HY.out.new #[.slice ao' R1.rows.length cap', .int .i64 R1.mode] 29)
        have SX := Lib.hid (SXY.out.call ((Below.refl _ _).alloc (Nat.le_refl _) (.cells #[.slice ao' R1.rows.length cap', .int .i64 R1.mode] 29)))
        have SN := Lib.hid (SNY.out.call ((Below.refl _ _).alloc (Nat.le_refl _) (.cells #[.slice ao' R1.rows.length cap', .int .i64 R1.mode] 29)))
        go_simp
        refine hK.out _ _ (And.intro (cell2 (HX.out.cell 1 rfl)) (cell7 (HX.out.cell 2 rfl))) (fun hHeld => ?_)
        clear hK K
        refine Gh.pt ?_
        refine Gh.tk 10 ?_
        refine wpAnyH_done (by kernel_rfl) ?_ _
        have HZ := HX.out.sub ((((List.Sublist.refl []).cons _).cons_cons _).cons_cons _)
        go_wp2_with fail
        go_meet
        exact ⟨_, _, _, rfl, rfl, HZ, SN.out, SX.out⟩
      refine AllReadyH.cons rfl (fun K hK => ?_) ?_
      · have HY := Lib.hid HX.out
        have SXY := Lib.hid SX.out
        have HX := Lib.hid (HX.out.new #[.slice none 0 0, .int .i64 0] 29)
        have SX := Lib.hid (SX.out.call ((Below.refl _ _).alloc (Nat.le_refl _) (.cells #[.slice none 0 0, .int .i64 0] 29)))
        go_simp
        refine hK.out _ _ (And.intro (cell2 (HX.out.cell 1 rfl)) (cell7 (HX.out.cell 2 rfl))) (fun hHeld => ?_)
        clear hK K
        refine Gh.pt ?_
        refine Gh.rd 4 (fun K hK => ?_)
        go_simp
        (with_reducible refine (RA.out _ _ _ SX.out).mono ?_)
        rintro e w2 ⟨v, rfl, ⟨ao', cap', rfl, sn⟩, b2⟩
        have HX := Lib.hid (HX.out.call b2)
        have SX := Lib.hid (SX.out.call b2)
        have SN := Lib.hid sn
        clear b2 sn
        unfold tv
        go_simp
        refine hK.out _ _ (And.intro (cell2 (HX.out.cell 1 rfl)) (cell7 (HX.out.cell 2 rfl))) (fun hHeld => ?_)
        clear hK K
        refine Gh.pt ?_
        refine Gh.tk 5 ?_
        refine Gh.tk 6 ?_
        refine Gh.tk 7 ?_
        refine Gh.rd 9 (fun K hK => ?_)
        obtain ⟨c0, c1⟩ := cell2 (HX.out.cell 0 rfl)
        have cf := HX.out.fz 0 rfl
        have SX := Lib.hid ((SX.out.set HX.out 0 rfl (by simp) 0 (.slice ao' R1.rows.length cap')).set (HX.out.set 0 rfl 0 (.slice ao' R1.rows.length cap')) 0 rfl (by simp) 1 (.int .i64 R1.mode))
        have SN := Lib.hid ((SN.out.set HX.out 0 rfl (by simp) 0 (.slice ao' R1.rows.length cap')).set (HX.out.set 0 rfl 0 (.slice ao' R1.rows.length cap')) 0 rfl (by simp) 1 (.int .i64 R1.mode))
        have HX := Lib.hid ((HX.out.set 0 rfl 0 (.slice ao' R1.rows.length cap')).set 0 rfl 1 (.int .i64 R1.mode))
        go_simp
        refine hK.out _ _ (And.intro (cell2 (HX.out.cell 1 rfl)) (cell7 (HX.out.cell 2 rfl))) (fun hHeld => ?_)
        clear hK K
        refine Gh.pt ?_
        refine Gh.tk 10 ?_
        refine wpAnyH_done (by kernel_rfl) ?_ _
        have HZ := HX.out.sub ((((List.Sublist.refl []).cons _).cons_cons _).cons_cons _)
        go_wp2_with fail
        go_meet
        exact ⟨_, _, _, rfl, rfl, HZ, SN.out, SX.out⟩
      exact AllReadyH.nil
    refine AllReadyH.cons rfl (fun K hK => ?_) ?_
    · have HY := Lib.hid HX.out
      have SXY := Lib.hid SX.out
      have HX := Lib.hid (HX.out.new #[.slice none 0 0, .int .i64 0] 29)
      have SX := Lib.hid (SX.out.call ((Below.refl _ _).alloc (Nat.le_refl _) (.cells #[.slice none 0 0, .int .i64 0] 29)))
      have HX : Hid (Bos ((W3.heap.size, #[.slice none 0 0, .int .i64 0], 29) :: _) w _) := Lib.hid HX.out
      go_simp
      refine hK.out _ _ (And.intro (cell2 (HX.out.cell 1 rfl)) (cell7 (HX.out.cell 2 rfl))) (fun hHeld => ?_)
      clear hK K
      refine Gh.pt ?_
      refine Gh.rd 2 (fun K hK => ?_)
      go_simp
      (with_reducible refine (TA.out _).mono ?_)
      rintro e w1 ⟨rfl, b1⟩
      have HX := Lib.hid (HX.out.call b1)
      have SX := Lib.hid (SX.out.call b1)
      clear b1
      go_simp
      refine hK.out _ _ (And.intro (cell2 (HX.out.cell 1 rfl)) (cell7 (HX.out.cell 2 rfl))) (fun hHeld => ?_)
      clear hK K
      refine Gh.pt ?_
      refine Gh.tk 3 ?_
      refine Gh.rd 4 (fun K hK => ?_)
      go_simp
      (with_reducible refine (RA.out _ _ _ SX.out).mono ?_)
      rintro e w2 ⟨v, rfl, ⟨ao', cap', rfl, sn⟩, b2⟩
      have HX := Lib.hid (HX.out.call b2)
      have SX := Lib.hid (SX.out.call b2)
      have SN := Lib.hid sn
      clear b2 sn
      unfold tv
      go_simp
      refine hK.out _ _ (And.intro (cell2 (HX.out.cell 1 rfl)) (cell7 (HX.out.cell 2 rfl))) (fun hHeld => ?_)
      clear hK K
      refine Gh.pt ?_
      refine Gh.tk 5 ?_
      refine Gh.tk 6 ?_
      refine Gh.tk 7 ?_
      refine Gh.rd 9 (fun K hK => ?_)
      obtain ⟨c0, c1⟩ := cell2 (HX.out.cell 0 rfl)
      have cf := HX.out.fz 0 rfl
      have SX := Lib.hid ((SX.out.set HX.out 0 rfl (by simp) 0 (.slice ao' R1.rows.length cap')).set (HX.out.set 0 rfl 0 (.slice ao' R1.rows.length cap')) 0 rfl (by simp) 1 (.int .i64 R1.mode))
      have SN := Lib.hid ((SN.out.set HX.out 0 rfl (by simp) 0 (.slice ao' R1.rows.length cap')).set (HX.out.set 0 rfl 0 (.slice ao' R1.rows.length cap')) 0 rfl (by simp) 1 (.int .i64 R1.mode))
      have HX := Lib.hid ((HX.out.set 0 rfl 0 (.slice ao' R1.rows.length cap')).set 0 rfl 1 (.int .i64 R1.mode))
      go_simp
      refine hK.out _ _ (And.intro (cell2 (HX.out.cell 1 rfl)) (cell7 (HX.out.cell 2 rfl))) (fun hHeld => ?_)
      clear hK K
      refine Gh.pt ?_
      refine Gh.tk 10 ?_
      refine wpAnyH_done (by kernel_rfl) ?_ _
      have HZ := HX.out.sub ((((List.Sublist.refl []).cons _).cons_cons _).cons_cons _)
      go_wp2_with fail
      go_meet
      exact ⟨_, _, _, rfl, rfl, HZ, SN.out, SX.out⟩
    exact AllReadyH.nil
  case rest =>
    obtain ⟨q, a, c, rfl, rfl, hB, sM, sT⟩ := hcut
    clear HX SX TA RA
    obtain ⟨t0, t1⟩ := cell2 (hB.cell 1 rfl)
    obtain ⟨x0, x1⟩ := cell2 (hB.cell 0 rfl)
    have hsx : t.rows.length ≤ 1000 := by omega
    by_cases hR : R2 = 0
    · have hR' : (R2 == 0) = true := by simp [hR]
      have GC := Lib.hid (gone_is (GA.out hR) ao cap a c wc sT.seen sM.seen hsx (by have := AL.out; omega))
      unfold tv at GC
      have HB := Lib.hid (hB.sub (List.sublist_cons_self _ _))
      have ST := Lib.hid sT
      clear hB sM sT GA AL hR
      go_wp2_with fail
      (with_reducible refine GC.out.mono ?_)
      rintro e w4 ⟨go, gc, rfl, -, b4⟩
      have HX := Lib.hid (HB.out.call b4)
      have SX := Lib.hid (ST.out.call b4)
      clear b4 HB ST GC t0 t1 x0 x1
      obtain ⟨t0, t1⟩ := cell2 (HX.out.cell 0 rfl)
      by_cases h0 : t.rows.length = 0
      · have h0' : ((t.rows.length : Int) == 0) = true := by rw [h0]; rfl
        have Z := Lib.hid HX.out.bl
        generalize t.rows.length = R at *
        clear h0 HX SX HT
        go_wp2
        go_ret
        exact ⟨rfl, Z.out⟩
      have hR0 : 0 < t.rows.length := by omega
      have hr := rm_in z (m := (t.rows.length : Int)) (by omega)
      have hz5 : (z.tmod (t.rows.length : Int) + (t.rows.length : Int)).tmod (t.rows.length : Int) = rm z t.rows.length := rfl
      have hz6 := (Int.tmod_eq_emod_of_nonneg (b := (t.rows.length : Int)) (show 0 ≤ z.tmod (t.rows.length : Int) + (t.rows.length : Int) by omega)).symm.trans hz5
      obtain ⟨k, hk⟩ : ∃ k : Nat, rm z t.rows.length = (k : Int) := ⟨(rm z t.rows.length).toNat, by omega⟩
      rw [hk] at hz5 hz6 hr
      have hkl : k < t.rows.length := by omega
      have hrk := List.getElem?_eq_getElem hkl
      have HD := Lib.hid HX.out.drew
      have SD := Lib.hid (SX.out.call (Below.refl _ _).drew)
      obtain ⟨b, off, rfl, -, hat⟩ := SD.out.seen hR0
      obtain ⟨r0, r1, r2, r3, r4, -⟩ := row_cells hat hrk
      have AC : Hid (applyR t ⟨2, tk0, false, t.rows[k].t.id, 0, 0⟩ = (⟨t.rows.take k ++ t.rows.drop (k + 1), t.mode⟩, 0)) := Lib.hid (apply_cut HT.out hrk)
      have RA : Hid (∀ W a cc, Sl (.slice a t.rows.length cc) t.rows W a cc → Calls Try.prog 20 #[tv a t.rows.length cc t.mode, (⟨2, tk0, false, t.rows[k].t.id, 0, 0⟩ : Od).v] W fun e w' => ∃ v, e = .returned (.tuple #[v, .int .i64 0]) ∧ Tb.Told v (applyR t ⟨2, tk0, false, t.rows[k].t.id, 0, 0⟩).1 w' ∧ Below W.heap.size W w') := Lib.hid (fun W a cc h => by
        have := rapply_any t ⟨2, tk0, false, t.rows[k].t.id, 0, 0⟩ a cc W h (by omega)
        rw [show (applyR t ⟨2, tk0, false, t.rows[k].t.id, 0, 0⟩).2 = 0 from congrArg Prod.snd AC.out] at this
        exact this)
      have GU := Lib.hid (gone_cut HT.out hrk)
      have YL := Lib.hid (apply_len t ⟨2, tk0, false, t.rows[k].t.id, 0, 0⟩)
      have h0' : ((t.rows.length : Int) == 0) = false := by rw [beq_eq_false_iff_ne]; omega
      have h00 : ¬ (t.rows.length : Int) = 0 := by omega
      have wz1 : IntKind.i64.wrap (z.tmod (t.rows.length : Int) + (t.rows.length : Int)) = z.tmod (t.rows.length : Int) + (t.rows.length : Int) := IntWalk.i64_in _ (by omega)
      have wz2 : IntKind.i64.wrap (z.tmod (t.rows.length : Int)) = z.tmod (t.rows.length : Int) := IntWalk.i64_in _ (by omega)
      have wk : IntKind.i64.wrap (k : Int) = (k : Int) := IntWalk.i64_in _ (by omega)
      have hk' : (k : Int) < (t.rows.length : Int) := Int.ofNat_lt.2 hkl
      generalize applyR t ⟨2, tk0, false, t.rows[k].t.id, 0, 0⟩ = Y at *
      obtain ⟨Y1, Y2⟩ := Y
      generalize t.rows[k].t = rt at *
      clear hk hrk hat h0 AC
      obtain ⟨ri, rc, rd, rtt, rmm⟩ := rt
      unfold tv Od.v Od.cs tk0 at RA
      simp only at RA GU YL r0 r1 r2 r3 r4
      obtain ⟨hr1, hr2, hr3, hr4⟩ := hr
      have GSL := Lib.hid (fun W h => gone_is (gone_self (t := t)) (some ⟨b, off, none⟩) cap (some ⟨b, off, none⟩) cap W h h hsx hsx)
      have GY := Lib.hid (fun W a c g (e : goneR t Y1 = g) h1 h2 => gone_is e (some ⟨b, off, none⟩) cap a c W h1 h2 hsx (by have := YL.out; omega))
      have hbb : bt t.mode ⟨ri, rc, rd, rtt, rmm⟩ = (bits .and .i64 (rmm / 2 ^ t.mode.toNat) 1 == 1) := rfl
      unfold tv at GSL GY
      generalize t.rows.length = R at *
      have hn0 : ¬ R = 0 := by omega
      clear HT YL
      go_wp2_with fail
      refine wp_region_held_drew (S := (fun W' => W'.cell? ⟨p, 0, none⟩ = some (.slice (some ⟨b, off, none⟩) R cap))) (by kernel_rfl) ((cell2 (HD.out.cell 0 rfl)).1) (fun hHeld => ?_)
      refine Gh.tk 0 ?_
      refine Gh.tk 1 ?_
      refine Gh.tk 2 ?_
      refine Gh.tk 3 ?_
      refine Gh.tk 4 ?_
      refine Gh.tk 5 ?_
      refine Gh.tk 6 ?_
      refine Gh.tk 7 ?_
      refine Gh.tk 8 ?_
      refine Gh.tk 9 ?_
      refine Gh.tk 10 ?_
      refine Gh.tk 11 ?_
      refine Gh.tk 12 ?_
      refine Gh.tk 13 ?_
      refine wpAnyH_done (by kernel_rfl) ?_ _
      have hk1 := hk'
      have HO := Lib.hid (HX.out.new #[.int .i64 ri, .int .i64 rc, .int .i64 rd, .int .i64 rtt, .int .i64 rmm] 32).drew
      have SO := Lib.hid (SX.out.call ((Below.refl _ _).alloc (Nat.le_refl _) (.cells #[.int .i64 ri, .int .i64 rc, .int .i64 rd, .int .i64 rtt, .int .i64 rmm] 32)).drew)
      have RC := Lib.hid (RA.out _ _ _ SO.out)
      obtain ⟨u0, u1⟩ := cell2 (HO.out.cell 1 rfl)
      obtain ⟨o0, o1, o2, o3, o4⟩ := cell5 (HO.out.cell 0 rfl)
      clear RA HX HD SD SX
      go_wp2_with fail
      (with_reducible refine RC.out.mono ?_)
      rintro e w5 ⟨v, rfl, ⟨a5, c5, rfl, s5⟩, b5⟩
      unfold tv
      have ba : Below w5.heap.size w5 (w5.alloc (.cells #[.slice a5 Y1.rows.length c5, .int .i64 Y1.mode] 29)) := (Below.refl _ _).alloc (Nat.le_refl _) _
      have H5 := Lib.hid ((HO.out.call b5).new #[.slice a5 Y1.rows.length c5, .int .i64 Y1.mode] 29)
      have S5 := Lib.hid ((SO.out.call b5).call ba)
      have Q5 := Lib.hid (s5.call ba)
      clear b5 ba s5 RC HO SO t0 t1 u0 u1 o0 o1 o2 o3 o4 r0 r1 r2 r3 r4
      obtain ⟨t0, t1⟩ := cell2 (H5.out.cell 2 rfl)
      obtain ⟨y0, y1⟩ := cell2 (H5.out.cell 0 rfl)
      obtain ⟨o0, o1, o2, o3, o4⟩ := cell5 (H5.out.cell 1 rfl)
      cases hb : (bits .and .i64 (rmm / 2 ^ t.mode.toNat) 1 == 1)
      · have E0 : goneR t Y1 = [] := GU.out.trans (by rw [hbb, hb]; rfl)
        have GC := Lib.hid (GY.out _ a5 c5 _ E0 S5.out.seen Q5.out.seen)
        simp only [List.length_nil] at GC
        clear GU GY E0 hbb
        go_wp2_with fail
        (with_reducible refine GC.out.mono ?_)
        rintro e w6 ⟨g6, k6, rfl, sg, b6⟩
        have HX := Lib.hid (H5.out.call b6).drew
        have SX := Lib.hid ((S5.out.call b6).call (Below.refl _ _).drew)
        have GS := Lib.hid (GSL.out _ SX.out.seen)
        simp only [List.length_nil] at GS
        have H6 := Lib.hid (H5.out.call b6)
        clear b6 H5 S5 Q5 GC y0 y1 GSL t0 t1 o0 o1 o2 o3 o4
        obtain ⟨t0, t1⟩ := cell2 (H6.out.cell 2 rfl)
        obtain ⟨o0, o1, o2, o3, o4⟩ := cell5 (H6.out.cell 1 rfl)
        clear H6
        go_wp2_with fail
        refine wp_region_held_drew (S := (fun W' => (W'.cell? ⟨p, 0, none⟩ = some (.slice (some ⟨b, off, none⟩) R cap) ∧ W'.cell? ⟨p, 1, none⟩ = some (.int .i64 t.mode)))) (by kernel_rfl) ((cell2 (HX.out.cell 2 rfl))) (fun hHeld => ?_)
        refine Gh.tk 0 ?_
        refine Gh.tk 1 ?_
        refine Gh.tk 2 ?_
        refine Gh.tk 3 ?_
        refine Gh.tk 4 ?_
        refine Gh.tk 5 ?_
        refine Gh.tk 6 ?_
        refine Gh.tk 7 ?_
        refine Gh.tn 8 ?_
        refine Gh.tn 9 ?_
        refine Gh.tn 10 ?_
        refine Gh.tk 11 ?_
        refine Gh.tk 12 ?_
        refine Gh.tn 13 ?_
        refine Gh.tn 14 ?_
        refine Gh.tn 15 ?_
        refine Gh.tn 16 ?_
        refine Gh.tn 17 ?_
        refine Gh.tk 18 ?_
        refine Gh.tk 19 ?_
        refine Gh.tk 20 ?_
        refine Gh.tk 21 ?_
        refine Gh.tk 22 ?_
        refine Gh.tk 23 ?_
        refine Gh.tk 24 ?_
        refine Gh.tk 25 ?_
        refine Gh.tk 26 ?_
        refine Gh.tk 27 ?_
        refine Gh.tk 28 ?_
        refine Gh.tk 29 ?_
        refine Gh.tk 30 ?_
        refine Gh.tk 31 ?_
        refine Gh.rd 32 (fun K hK => ?_)
        go_simp
        (with_reducible refine GS.out.mono ?_)
        rintro e w7 ⟨g7, k7, rfl, -, b7⟩
        have HX := Lib.hid (HX.out.call b7)
        clear b7
        go_simp
        refine hK.out _ _ ((cell2 (HX.out.cell 2 rfl))) (fun hHeld => ?_)
        clear hK K
        refine Gh.pt ?_
        refine Gh.tk 33 ?_
        refine Gh.tk 34 ?_
        refine Gh.tk 35 ?_
        refine Gh.tk 36 ?_
        refine wpAnyH_done (by kernel_rfl) ?_ _
        go_wp2
        go_ret
        exact ⟨rfl, HX.out.bl⟩
      · have E0 : goneR t Y1 = [⟨ri, rc, rd, rtt, rmm⟩] := GU.out.trans (by rw [hbb, hb]; rfl)
        have GC := Lib.hid (GY.out _ a5 c5 _ E0 S5.out.seen Q5.out.seen)
        simp only [List.length_cons, List.length_nil] at GC
        clear GU GY E0 hbb
        go_wp2_with fail
        (with_reducible refine GC.out.mono ?_)
        rintro e w6 ⟨g6, k6, rfl, sg, b6⟩
        have HX := Lib.hid (H5.out.call b6).drew
        have SX := Lib.hid ((S5.out.call b6).call (Below.refl _ _).drew)
        obtain ⟨gb, gf, rfl, -, hat⟩ := sg.call (Below.refl _ _).drew (by simp)
        have gk5 := tk_cells hat (i := 0) rfl
        simp only [Nat.zero_mul, Nat.add_zero] at gk5
        have EQ := eql_tk ri rc rd rtt rmm
        have GK : Hid (∀ W, Below w6.drew.heap.size w6.drew W → W.cell? ⟨gb, gf, none⟩ = some (.int .i64 ri) ∧ W.cell? ⟨gb, gf + 1, none⟩ = some (.int .i64 rc) ∧ W.cell? ⟨gb, gf + 2, none⟩ = some (.int .i64 rd) ∧ W.cell? ⟨gb, gf + 3, none⟩ = some (.int .i64 rtt) ∧ W.cell? ⟨gb, gf + 4, none⟩ = some (.int .i64 rmm)) := Lib.hid (fun W h => ⟨carry h gk5.1, carry h gk5.2.1, carry h gk5.2.2.1, carry h gk5.2.2.2.1, carry h gk5.2.2.2.2⟩)
        have BX := Lib.hid (Below.refl w6.drew.heap.size w6.drew)
        clear hat gk5 sg
        have GS := Lib.hid (GSL.out _ SX.out.seen)
        simp only [List.length_nil] at GS
        have H6 := Lib.hid (H5.out.call b6)
        clear b6 H5 S5 Q5 GC y0 y1 GSL t0 t1 o0 o1 o2 o3 o4
        obtain ⟨t0, t1⟩ := cell2 (H6.out.cell 2 rfl)
        obtain ⟨o0, o1, o2, o3, o4⟩ := cell5 (H6.out.cell 1 rfl)
        clear H6
        go_wp2_with fail
        refine wp_region_held_drew (S := (fun W' => (W'.cell? ⟨p, 0, none⟩ = some (.slice (some ⟨b, off, none⟩) R cap) ∧ W'.cell? ⟨p, 1, none⟩ = some (.int .i64 t.mode)) ∧ (W'.cell? ⟨w4.heap.size, 0, none⟩ = some (.int .i64 ri) ∧ W'.cell? ⟨w4.heap.size, 1, none⟩ = some (.int .i64 rc) ∧ W'.cell? ⟨w4.heap.size, 2, none⟩ = some (.int .i64 rd) ∧ W'.cell? ⟨w4.heap.size, 3, none⟩ = some (.int .i64 rtt) ∧ W'.cell? ⟨w4.heap.size, 4, none⟩ = some (.int .i64 rmm)) ∧ (W'.cell? ⟨gb, gf, none⟩ = some (.int .i64 ri) ∧ W'.cell? ⟨gb, gf + 1, none⟩ = some (.int .i64 rc) ∧ W'.cell? ⟨gb, gf + 2, none⟩ = some (.int .i64 rd) ∧ W'.cell? ⟨gb, gf + 3, none⟩ = some (.int .i64 rtt) ∧ W'.cell? ⟨gb, gf + 4, none⟩ = some (.int .i64 rmm)))) (by kernel_rfl) (And.intro (cell2 (HX.out.cell 2 rfl)) (And.intro (cell5 (HX.out.cell 1 rfl)) (GK.out _ BX.out))) (fun hHeld => ?_)
        refine Gh.tk 0 ?_
        refine Gh.tk 1 ?_
        refine Gh.tk 2 ?_
        refine Gh.tk 3 ?_
        refine Gh.tk 4 ?_
        refine Gh.tk 5 ?_
        refine Gh.tk 6 ?_
        refine Gh.tk 7 ?_
        refine Gh.tk 8 ?_
        refine Gh.tk 9 ?_
        refine Gh.tk 10 ?_
        refine Gh.tk 11 ?_
        refine Gh.tk 12 ?_
        refine Gh.tk 13 ?_
        refine Gh.tk 14 ?_
        refine Gh.tk 15 ?_
        refine Gh.tk 16 ?_
        refine Gh.tk 17 ?_
        refine Gh.tk 18 ?_
        refine Gh.tk 19 ?_
        refine Gh.tn 20 ?_
        refine Gh.tn 21 ?_
        refine Gh.tn 22 ?_
        refine Gh.tn 23 ?_
        refine Gh.tn 24 ?_
        refine Gh.tn 25 ?_
        refine Gh.tn 26 ?_
        refine Gh.tk 27 ?_
        refine Gh.tk 28 ?_
        refine Gh.tk 29 ?_
        refine Gh.tk 30 ?_
        refine Gh.tk 31 ?_
        refine Gh.rd 32 (fun K hK => ?_)
        go_simp
        (with_reducible refine GS.out.mono ?_)
        rintro e w7 ⟨g7, k7, rfl, -, b7⟩
        have HX := Lib.hid (HX.out.call b7)
        have BX := Lib.hid b7
        clear b7
        go_simp
        refine hK.out _ _ (And.intro (cell2 (HX.out.cell 2 rfl)) (And.intro (cell5 (HX.out.cell 1 rfl)) (GK.out _ BX.out))) (fun hHeld => ?_)
        clear hK K
        refine Gh.pt ?_
        refine Gh.tk 33 ?_
        refine Gh.tk 34 ?_
        refine Gh.tk 35 ?_
        refine Gh.tk 36 ?_
        refine wpAnyH_done (by kernel_rfl) ?_ _
        go_wp2
        go_ret
        exact ⟨rfl, HX.out.bl⟩
    · have hR' : (R2 == 0) = false := by simp [hR]
      have HX := Lib.hid (hB.sub (List.sublist_cons_self _ _))
      have SX := Lib.hid sT
      clear hB sM sT GA AL hR x0 x1
      by_cases h0 : t.rows.length = 0
      · have h0' : ((t.rows.length : Int) == 0) = true := by rw [h0]; rfl
        have Z := Lib.hid HX.out.bl
        generalize t.rows.length = R at *
        clear h0 HX SX HT
        go_wp2
        go_ret
        exact ⟨rfl, Z.out⟩
      have hR0 : 0 < t.rows.length := by omega
      have hr := rm_in z (m := (t.rows.length : Int)) (by omega)
      have hz5 : (z.tmod (t.rows.length : Int) + (t.rows.length : Int)).tmod (t.rows.length : Int) = rm z t.rows.length := rfl
      have hz6 := (Int.tmod_eq_emod_of_nonneg (b := (t.rows.length : Int)) (show 0 ≤ z.tmod (t.rows.length : Int) + (t.rows.length : Int) by omega)).symm.trans hz5
      obtain ⟨k, hk⟩ : ∃ k : Nat, rm z t.rows.length = (k : Int) := ⟨(rm z t.rows.length).toNat, by omega⟩
      rw [hk] at hz5 hz6 hr
      have hkl : k < t.rows.length := by omega
      have hrk := List.getElem?_eq_getElem hkl
      have HD := Lib.hid HX.out.drew
      have SD := Lib.hid (SX.out.call (Below.refl _ _).drew)
      obtain ⟨b, off, rfl, -, hat⟩ := SD.out.seen hR0
      obtain ⟨r0, r1, r2, r3, r4, -⟩ := row_cells hat hrk
      have AC : Hid (applyR t ⟨2, tk0, false, t.rows[k].t.id, 0, 0⟩ = (⟨t.rows.take k ++ t.rows.drop (k + 1), t.mode⟩, 0)) := Lib.hid (apply_cut HT.out hrk)
      have RA : Hid (∀ W a cc, Sl (.slice a t.rows.length cc) t.rows W a cc → Calls Try.prog 20 #[tv a t.rows.length cc t.mode, (⟨2, tk0, false, t.rows[k].t.id, 0, 0⟩ : Od).v] W fun e w' => ∃ v, e = .returned (.tuple #[v, .int .i64 0]) ∧ Tb.Told v (applyR t ⟨2, tk0, false, t.rows[k].t.id, 0, 0⟩).1 w' ∧ Below W.heap.size W w') := Lib.hid (fun W a cc h => by
        have := rapply_any t ⟨2, tk0, false, t.rows[k].t.id, 0, 0⟩ a cc W h (by omega)
        rw [show (applyR t ⟨2, tk0, false, t.rows[k].t.id, 0, 0⟩).2 = 0 from congrArg Prod.snd AC.out] at this
        exact this)
      have GU := Lib.hid (gone_cut HT.out hrk)
      have YL := Lib.hid (apply_len t ⟨2, tk0, false, t.rows[k].t.id, 0, 0⟩)
      have h0' : ((t.rows.length : Int) == 0) = false := by rw [beq_eq_false_iff_ne]; omega
      have h00 : ¬ (t.rows.length : Int) = 0 := by omega
      have wz1 : IntKind.i64.wrap (z.tmod (t.rows.length : Int) + (t.rows.length : Int)) = z.tmod (t.rows.length : Int) + (t.rows.length : Int) := IntWalk.i64_in _ (by omega)
      have wz2 : IntKind.i64.wrap (z.tmod (t.rows.length : Int)) = z.tmod (t.rows.length : Int) := IntWalk.i64_in _ (by omega)
      have wk : IntKind.i64.wrap (k : Int) = (k : Int) := IntWalk.i64_in _ (by omega)
      have hk' : (k : Int) < (t.rows.length : Int) := Int.ofNat_lt.2 hkl
      generalize applyR t ⟨2, tk0, false, t.rows[k].t.id, 0, 0⟩ = Y at *
      obtain ⟨Y1, Y2⟩ := Y
      generalize t.rows[k].t = rt at *
      clear hk hrk hat h0 AC
      obtain ⟨ri, rc, rd, rtt, rmm⟩ := rt
      unfold tv Od.v Od.cs tk0 at RA
      simp only at RA GU YL r0 r1 r2 r3 r4
      obtain ⟨hr1, hr2, hr3, hr4⟩ := hr
      have GSL := Lib.hid (fun W h => gone_is (gone_self (t := t)) (some ⟨b, off, none⟩) cap (some ⟨b, off, none⟩) cap W h h hsx hsx)
      have GY := Lib.hid (fun W a c g (e : goneR t Y1 = g) h1 h2 => gone_is e (some ⟨b, off, none⟩) cap a c W h1 h2 hsx (by have := YL.out; omega))
      have hbb : bt t.mode ⟨ri, rc, rd, rtt, rmm⟩ = (bits .and .i64 (rmm / 2 ^ t.mode.toNat) 1 == 1) := rfl
      unfold tv at GSL GY
      generalize t.rows.length = R at *
      have hn0 : ¬ R = 0 := by omega
      clear HT YL
      go_wp2_with fail
      refine wp_region_held_drew (S := (fun W' => W'.cell? ⟨p, 0, none⟩ = some (.slice (some ⟨b, off, none⟩) R cap))) (by kernel_rfl) ((cell2 (HD.out.cell 0 rfl)).1) (fun hHeld => ?_)
      refine Gh.tk 0 ?_
      refine Gh.tk 1 ?_
      refine Gh.tk 2 ?_
      refine Gh.tk 3 ?_
      refine Gh.tk 4 ?_
      refine Gh.tk 5 ?_
      refine Gh.tk 6 ?_
      refine Gh.tk 7 ?_
      refine Gh.tk 8 ?_
      refine Gh.tk 9 ?_
      refine Gh.tk 10 ?_
      refine Gh.tk 11 ?_
      refine Gh.tk 12 ?_
      refine Gh.tk 13 ?_
      refine wpAnyH_done (by kernel_rfl) ?_ _
      have hk1 := hk'
      have HO := Lib.hid (HX.out.new #[.int .i64 ri, .int .i64 rc, .int .i64 rd, .int .i64 rtt, .int .i64 rmm] 32).drew
      have SO := Lib.hid (SX.out.call ((Below.refl _ _).alloc (Nat.le_refl _) (.cells #[.int .i64 ri, .int .i64 rc, .int .i64 rd, .int .i64 rtt, .int .i64 rmm] 32)).drew)
      have RC := Lib.hid (RA.out _ _ _ SO.out)
      obtain ⟨u0, u1⟩ := cell2 (HO.out.cell 1 rfl)
      obtain ⟨o0, o1, o2, o3, o4⟩ := cell5 (HO.out.cell 0 rfl)
      clear RA HX HD SD SX
      go_wp2_with fail
      (with_reducible refine RC.out.mono ?_)
      rintro e w5 ⟨v, rfl, ⟨a5, c5, rfl, s5⟩, b5⟩
      unfold tv
      have ba : Below w5.heap.size w5 (w5.alloc (.cells #[.slice a5 Y1.rows.length c5, .int .i64 Y1.mode] 29)) := (Below.refl _ _).alloc (Nat.le_refl _) _
      have H5 := Lib.hid ((HO.out.call b5).new #[.slice a5 Y1.rows.length c5, .int .i64 Y1.mode] 29)
      have S5 := Lib.hid ((SO.out.call b5).call ba)
      have Q5 := Lib.hid (s5.call ba)
      clear b5 ba s5 RC HO SO t0 t1 u0 u1 o0 o1 o2 o3 o4 r0 r1 r2 r3 r4
      obtain ⟨t0, t1⟩ := cell2 (H5.out.cell 2 rfl)
      obtain ⟨y0, y1⟩ := cell2 (H5.out.cell 0 rfl)
      obtain ⟨o0, o1, o2, o3, o4⟩ := cell5 (H5.out.cell 1 rfl)
      cases hb : (bits .and .i64 (rmm / 2 ^ t.mode.toNat) 1 == 1)
      · have E0 : goneR t Y1 = [] := GU.out.trans (by rw [hbb, hb]; rfl)
        have GC := Lib.hid (GY.out _ a5 c5 _ E0 S5.out.seen Q5.out.seen)
        simp only [List.length_nil] at GC
        clear GU GY E0 hbb
        go_wp2_with fail
        (with_reducible refine GC.out.mono ?_)
        rintro e w6 ⟨g6, k6, rfl, sg, b6⟩
        have HX := Lib.hid (H5.out.call b6).drew
        have SX := Lib.hid ((S5.out.call b6).call (Below.refl _ _).drew)
        have GS := Lib.hid (GSL.out _ SX.out.seen)
        simp only [List.length_nil] at GS
        have H6 := Lib.hid (H5.out.call b6)
        clear b6 H5 S5 Q5 GC y0 y1 GSL t0 t1 o0 o1 o2 o3 o4
        obtain ⟨t0, t1⟩ := cell2 (H6.out.cell 2 rfl)
        obtain ⟨o0, o1, o2, o3, o4⟩ := cell5 (H6.out.cell 1 rfl)
        clear H6
        go_wp2_with fail
        refine wp_region_held_drew (S := (fun W' => (W'.cell? ⟨p, 0, none⟩ = some (.slice (some ⟨b, off, none⟩) R cap) ∧ W'.cell? ⟨p, 1, none⟩ = some (.int .i64 t.mode)))) (by kernel_rfl) ((cell2 (HX.out.cell 2 rfl))) (fun hHeld => ?_)
        refine Gh.tk 0 ?_
        refine Gh.tk 1 ?_
        refine Gh.tk 2 ?_
        refine Gh.tk 3 ?_
        refine Gh.tk 4 ?_
        refine Gh.tk 5 ?_
        refine Gh.tk 6 ?_
        refine Gh.tk 7 ?_
        refine Gh.tn 8 ?_
        refine Gh.tn 9 ?_
        refine Gh.tn 10 ?_
        refine Gh.tk 11 ?_
        refine Gh.tk 12 ?_
        refine Gh.tn 13 ?_
        refine Gh.tn 14 ?_
        refine Gh.tn 15 ?_
        refine Gh.tn 16 ?_
        refine Gh.tn 17 ?_
        refine Gh.tk 18 ?_
        refine Gh.tk 19 ?_
        refine Gh.tk 20 ?_
        refine Gh.tk 21 ?_
        refine Gh.tk 22 ?_
        refine Gh.tk 23 ?_
        refine Gh.tk 24 ?_
        refine Gh.tk 25 ?_
        refine Gh.tk 26 ?_
        refine Gh.tk 27 ?_
        refine Gh.tk 28 ?_
        refine Gh.tk 29 ?_
        refine Gh.tk 30 ?_
        refine Gh.tk 31 ?_
        refine Gh.rd 32 (fun K hK => ?_)
        go_simp
        (with_reducible refine GS.out.mono ?_)
        rintro e w7 ⟨g7, k7, rfl, -, b7⟩
        have HX := Lib.hid (HX.out.call b7)
        clear b7
        go_simp
        refine hK.out _ _ ((cell2 (HX.out.cell 2 rfl))) (fun hHeld => ?_)
        clear hK K
        refine Gh.pt ?_
        refine Gh.tk 33 ?_
        refine Gh.tk 34 ?_
        refine Gh.tk 35 ?_
        refine Gh.tk 36 ?_
        refine wpAnyH_done (by kernel_rfl) ?_ _
        go_wp2
        go_ret
        exact ⟨rfl, HX.out.bl⟩
      · have E0 : goneR t Y1 = [⟨ri, rc, rd, rtt, rmm⟩] := GU.out.trans (by rw [hbb, hb]; rfl)
        have GC := Lib.hid (GY.out _ a5 c5 _ E0 S5.out.seen Q5.out.seen)
        simp only [List.length_cons, List.length_nil] at GC
        clear GU GY E0 hbb
        go_wp2_with fail
        (with_reducible refine GC.out.mono ?_)
        rintro e w6 ⟨g6, k6, rfl, sg, b6⟩
        have HX := Lib.hid (H5.out.call b6).drew
        have SX := Lib.hid ((S5.out.call b6).call (Below.refl _ _).drew)
        obtain ⟨gb, gf, rfl, -, hat⟩ := sg.call (Below.refl _ _).drew (by simp)
        have gk5 := tk_cells hat (i := 0) rfl
        simp only [Nat.zero_mul, Nat.add_zero] at gk5
        have EQ := eql_tk ri rc rd rtt rmm
        have GK : Hid (∀ W, Below w6.drew.heap.size w6.drew W → W.cell? ⟨gb, gf, none⟩ = some (.int .i64 ri) ∧ W.cell? ⟨gb, gf + 1, none⟩ = some (.int .i64 rc) ∧ W.cell? ⟨gb, gf + 2, none⟩ = some (.int .i64 rd) ∧ W.cell? ⟨gb, gf + 3, none⟩ = some (.int .i64 rtt) ∧ W.cell? ⟨gb, gf + 4, none⟩ = some (.int .i64 rmm)) := Lib.hid (fun W h => ⟨carry h gk5.1, carry h gk5.2.1, carry h gk5.2.2.1, carry h gk5.2.2.2.1, carry h gk5.2.2.2.2⟩)
        have BX := Lib.hid (Below.refl w6.drew.heap.size w6.drew)
        clear hat gk5 sg
        have GS := Lib.hid (GSL.out _ SX.out.seen)
        simp only [List.length_nil] at GS
        have H6 := Lib.hid (H5.out.call b6)
        clear b6 H5 S5 Q5 GC y0 y1 GSL t0 t1 o0 o1 o2 o3 o4
        obtain ⟨t0, t1⟩ := cell2 (H6.out.cell 2 rfl)
        obtain ⟨o0, o1, o2, o3, o4⟩ := cell5 (H6.out.cell 1 rfl)
        clear H6
        go_wp2_with fail
        refine wp_region_held_drew (S := (fun W' => (W'.cell? ⟨p, 0, none⟩ = some (.slice (some ⟨b, off, none⟩) R cap) ∧ W'.cell? ⟨p, 1, none⟩ = some (.int .i64 t.mode)) ∧ (W'.cell? ⟨wc.heap.size, 0, none⟩ = some (.int .i64 ri) ∧ W'.cell? ⟨wc.heap.size, 1, none⟩ = some (.int .i64 rc) ∧ W'.cell? ⟨wc.heap.size, 2, none⟩ = some (.int .i64 rd) ∧ W'.cell? ⟨wc.heap.size, 3, none⟩ = some (.int .i64 rtt) ∧ W'.cell? ⟨wc.heap.size, 4, none⟩ = some (.int .i64 rmm)) ∧ (W'.cell? ⟨gb, gf, none⟩ = some (.int .i64 ri) ∧ W'.cell? ⟨gb, gf + 1, none⟩ = some (.int .i64 rc) ∧ W'.cell? ⟨gb, gf + 2, none⟩ = some (.int .i64 rd) ∧ W'.cell? ⟨gb, gf + 3, none⟩ = some (.int .i64 rtt) ∧ W'.cell? ⟨gb, gf + 4, none⟩ = some (.int .i64 rmm)))) (by kernel_rfl) (And.intro (cell2 (HX.out.cell 2 rfl)) (And.intro (cell5 (HX.out.cell 1 rfl)) (GK.out _ BX.out))) (fun hHeld => ?_)
        refine Gh.tk 0 ?_
        refine Gh.tk 1 ?_
        refine Gh.tk 2 ?_
        refine Gh.tk 3 ?_
        refine Gh.tk 4 ?_
        refine Gh.tk 5 ?_
        refine Gh.tk 6 ?_
        refine Gh.tk 7 ?_
        refine Gh.tk 8 ?_
        refine Gh.tk 9 ?_
        refine Gh.tk 10 ?_
        refine Gh.tk 11 ?_
        refine Gh.tk 12 ?_
        refine Gh.tk 13 ?_
        refine Gh.tk 14 ?_
        refine Gh.tk 15 ?_
        refine Gh.tk 16 ?_
        refine Gh.tk 17 ?_
        refine Gh.tk 18 ?_
        refine Gh.tk 19 ?_
        refine Gh.tn 20 ?_
        refine Gh.tn 21 ?_
        refine Gh.tn 22 ?_
        refine Gh.tn 23 ?_
        refine Gh.tn 24 ?_
        refine Gh.tn 25 ?_
        refine Gh.tn 26 ?_
        refine Gh.tk 27 ?_
        refine Gh.tk 28 ?_
        refine Gh.tk 29 ?_
        refine Gh.tk 30 ?_
        refine Gh.tk 31 ?_
        refine Gh.rd 32 (fun K hK => ?_)
        go_simp
        (with_reducible refine GS.out.mono ?_)
        rintro e w7 ⟨g7, k7, rfl, -, b7⟩
        have HX := Lib.hid (HX.out.call b7)
        have BX := Lib.hid b7
        clear b7
        go_simp
        refine hK.out _ _ (And.intro (cell2 (HX.out.cell 2 rfl)) (And.intro (cell5 (HX.out.cell 1 rfl)) (GK.out _ BX.out))) (fun hHeld => ?_)
        clear hK K
        refine Gh.pt ?_
        refine Gh.tk 33 ?_
        refine Gh.tk 34 ?_
        refine Gh.tk 35 ?_
        refine Gh.tk 36 ?_
        refine wpAnyH_done (by kernel_rfl) ?_ _
        go_wp2
        go_ret
        exact ⟨rfl, HX.out.bl⟩

set_option maxRecDepth 100000 in
set_option maxHeartbeats 1600000 in
theorem lifted (os : Os) (started : os.Started) (H : Type) (enc : TypeId × Value → H) :
    ReturnsInHanded {} Try.checked os 7 .any (Rows.judgeGoneSpec.pre6 enc Try.prog Try.f7 Rows.judgeGoneRow.domain false) (Rows.judgeGoneSpec.post enc Try.prog Try.f7 false true false false) := by
  refine returnsInHanded_of_change (C := Try.checked) own started (by kernel_rfl) Try.func7
    (ChangeSpec.witness6 (enc := enc) (C := Try.checked) false ⟨#[], #[.slice none 0 0, .int .i64 0, .agg #[.int .i64 0, .int .i64 0, .int .i64 0, .int .i64 0, .int .i64 0, .int .i64 0, .bool false]], []⟩ 8 (by kernel_rfl) (by kernel_rfl) (by kernel_rfl) (by kernel_rfl)) ?_
  intro W base args ds gs before hval0 hW hcnd _
  have hval : ∀ (j : Nat) t v, Try.f7.params[j]? = some t → args[j]? = some v → Value.okWide Try.prog W .any base t v := hval0
  have hW' := hW
  obtain ⟨p, q, hA0, hV, rfl, hfz, hnd⟩ := hW
  have hA : DataW.TrodAll enc Try.prog W 0 (fun _ => true) true Try.f7.params.toList args.toList ds p := hA0
  rw [Try.params7] at hA hval
  obtain ⟨v0, vs0, d0, ds0, p0, q0, hargs, rfl, rfl, h0, r0⟩ := trodAll_cons hA
  obtain ⟨v1, vs1, d1, ds1, p1, q1, rfl, rfl, rfl, h1, r1⟩ := trodAll_cons r0
  obtain ⟨v2, vs2, d2, ds2, p2, q2, rfl, rfl, rfl, h2, r2⟩ := trodAll_cons r1
  obtain ⟨rfl, rfl, rfl⟩ := trodAll_nil r2
  obtain rfl : args = #[v0, v1, v2] := by cases args; simp_all
  obtain ⟨rfl, rfl⟩ := trodVars_none hV
  have lt0 : ∀ x ∈ p0, x.block < W.heap.size := by obtain ⟨m, hm⟩ := h0; exact DataW.trod_lt m _ _ _ hm
  obtain ⟨lo, l, lc, rfl, ll, lm, ls⟩ := open_nms (hval 0 22 v0 rfl rfl) h0
  have lt1 : ∀ x ∈ p1, x.block < W.heap.size := by obtain ⟨m, hm⟩ := h1; exact DataW.trod_lt m _ _ _ hm
  obtain ⟨z, e1, -, -, wfz⟩ := open_int Try.underlying3 (hval 1 3 v1 rfl rfl) h1
  subst e1
  have lt2 : ∀ x ∈ p2, x.block < W.heap.size := by obtain ⟨m, hm⟩ := h2; exact DataW.trod_lt m _ _ _ hm
  obtain ⟨m, rfl, okm⟩ := open_nm (hval 2 24 v2 rfl rfl) h2
  clear hA0 hval0
  refine (walk l lo lc z m W ll ls).mono fun e W' ⟨he, bel⟩ => ?_
  subst he
  exact ⟨_, rfl, _, _, _, [], _, [], hW', trodAll_mk1 (shut_bool Try.underlying4 _), (trodAll_cons_mk (Below.trod laidOut (by kernel_rfl) (of_decide_eq_true (by kernel_rfl)) h0 bel lt0) (trodAll_cons_mk (Below.trod laidOut (by kernel_rfl) (of_decide_eq_true (by kernel_rfl)) h1 bel lt1) (trodAll_cons_mk (Below.trod laidOut (by kernel_rfl) (of_decide_eq_true (by kernel_rfl)) h2 bel lt2) trodAll_mk0))), rfl, bel.frame _, fun h => by cases h⟩

theorem proved : Rows.JudgeGoneSaid :=
  OpenClaim.holds_of_wide 7 Try.f7 rfl rfl rfl rfl rfl rfl rfl ⟨rfl, rfl, rfl, rfl, rfl⟩ rfl rfl rfl rfl rfl (by kernel_rfl) Try.func7 (by kernel_rfl)
    (of_decide_eq_true (by kernel_rfl)) (by unfold Func.isWrapper; first | (rw [if_pos (by decide +kernel)]; kernel_rfl) | (rw [if_neg (by decide +kernel)]; exact ⟨rfl, rfl⟩))
    (fun os started H enc _ => lifted os started H enc)
#print axioms proved
end Go.Proofs.Ytgbnoifaknlkhaa.judgeGone
