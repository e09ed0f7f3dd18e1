/- The statements' function made of layer 15: a set by ops. -/
import Derived.Test.YtgbnoifaknlkhaaJuP
import Derived.Test.YtgbnoifaknlkhaaJuD
namespace Go.Proofs.Ytgbnoifaknlkhaa.Ju
open Go.ChangeShapes Go.WideShapes Go.ChangeAt Go.RowKit Go.Joins
open Pm (Tk chk chk_iff I64)
open Ge (El Seen Row)
open Ox (Od chkR chkR_iff tk0)
open Tb
set_option maxRecDepth 100000
set_option maxRecDepth 100000
set_option linter.unusedVariables false
set_option linter.unusedSimpArgs false
/-- the boxes of two tables -/
theorem tw_new (w : World) (a b : Value) (m n : Int) : Bos [(w.heap.size + 1, #[b, .int .i64 n], 29), (w.heap.size, #[a, .int .i64 m], 29)] w ((w.alloc (.cells #[a, .int .i64 m] 29)).alloc (.cells #[b, .int .i64 n] 29)) := by
  have := ((bos_nil w).new #[a, .int .i64 m] 29).new #[b, .int .i64 n] 29
  rw [World.size_alloc] at this
  exact this
def MaRel (f : Bool) (l : List Nm) (w : World) (g : Nat) (s : Value) (wx : World) : Prop :=
  ∃ (i : Nat) (t : Tb.Tb) (ao : Option Addr) (cap : Nat), i + g = min l.length 16 ∧ s = .int .i64 (i : Int) ∧ t = madeN f l i ∧ Bos [(w.heap.size + 1, #[.slice ao t.rows.length cap, .int .i64 t.mode], 29), (w.heap.size, #[.slice none 0 0, .int .i64 0], 29)] w wx ∧ Sl (.slice ao t.rows.length cap) t.rows wx ao cap
set_option maxHeartbeats 8000000 in
theorem made_false_any (l : List Nm) (lo : Option Addr) (lc : Nat) (w : World) (hS : Seen Nm.cs 7 lo l w) (hl : l.length ≤ 9223372036854775807) :
    Calls Try.prog 10 #[.slice lo l.length lc, .bool false] w fun e w' => ∃ v, e = .returned v ∧ Tb.Told v (madeT false l) w' ∧ Below w.heap.size w w' := by
  have SO := Lib.hid hS
  clear hS
  have H0 := Lib.hid (tw_new w (.slice none 0 0) (.slice none 0 0) 0 0)
  have G : Hid (MaRel false l w (min l.length 16) (.int .i64 0) ((w.alloc (.cells #[.slice none 0 0, .int .i64 0] 29)).alloc (.cells #[.slice none 0 0, .int .i64 0] 29))) := Lib.hid ⟨0, tb0, none, 0, by omega, rfl, (madeN_zero false l).symm, H0.out, rfl, Nat.le_refl _, fun _ => rfl, Ge.seen_nil _ _⟩
  clear H0
  go_enter Try.func10, Try.ntmps10
  go_wp2_with fail
  go_loopg [6] (min l.length 16) (MaRel false l w)
  case atStart => exact G.out
  case round =>
    obtain ⟨i, t, ao, cap, hi, rfl, ht, hB, hsl⟩ := hrel
    have HB := Lib.hid hB
    have SX := Lib.hid hsl
    have HT := Lib.hid ht
    have hch : chkT t = true := by rw [ht]; exact madeN_chk false l i
    have hl16 := (chkT_iff.1 hch).2.2.1
    clear G hB hsl ht hch
    obtain ⟨t0, t1⟩ := cell2 (HB.out.cell 0 rfl)
    obtain ⟨z0, z1⟩ := cell2 (HB.out.cell 1 rfl)
    have zf := HB.out.fz 1 rfl
    by_cases hlt : i < l.length ∧ i < 16
    · obtain ⟨h1, h2⟩ := hlt
      have hx := List.getElem?_eq_getElem h1
      have MS := Lib.hid (madeN_succ (f := false) h1)
      obtain ⟨b, off, rfl, hop⟩ := seen_nm SO.out hx
      have HOP := Lib.hid hop
      have hg0 : 0 < gk := by omega
      have HI := Lib.hid hi
      have i1 : (i : Int) < (l.length : Int) := by omega
      have i2 : (i : Int) < 16 := by omega
      have i3 : IntKind.i64.wrap (i : Int) = (i : Int) := IntWalk.i64_in _ (by omega)
      generalize l[i] = x at *
      clear hx hop hi h1 h2
      have NE := Lib.hid (op_any x)
      have RA : Hid (∀ W, Sl (.slice ao t.rows.length cap) t.rows W ao cap → Calls Try.prog 20 #[tv ao t.rows.length cap t.mode, (opR x).v] W fun e w' => ∃ v, e = .returned (.tuple #[v, .int .i64 (applyR t (opR x)).2]) ∧ Tb.Told v (applyR t (opR x)).1 w' ∧ Below W.heap.size W w') := Lib.hid (fun W h => rapply_any t (opR x) ao cap W h (by omega))
      have ST : Hid (stepJ false t x = if (applyR t (opR x)).2 = 0 then (applyR t (opR x)).1 else t) := Lib.hid rfl
      rw [← HT.out] at MS
      generalize applyR t (opR x) = R at *
      generalize opR x = y at *
      obtain ⟨R1, R2⟩ := R
      simp only at RA ST
      obtain ⟨nk, ni, nc, nd, nt, nm, ns⟩ := x
      obtain ⟨yk, ⟨yi, yc, yd, yt, ym⟩, ys, yid, ycc, ymo⟩ := y
      unfold tv Od.v Od.cs Nm.v at *
      simp only at *
      have HX := Lib.hid HB.out.drew
      have SX := Lib.hid (SX.out.call (Below.refl _ _).drew)
      clear SO
      go_wp2_with fail
      refine wp_region_held_drew (S := (fun W' => (W'.cell? ⟨w.heap.size + 1, 0, none⟩ = some (.slice ao t.rows.length cap) ∧ W'.cell? ⟨w.heap.size + 1, 1, none⟩ = some (.int .i64 t.mode)) ∧ (W'.cell? ⟨b, off + i * 7, none⟩ = some (.int .i64 nk) ∧ W'.cell? ⟨b, off + i * 7 + 1, none⟩ = some (.int .i64 ni) ∧ W'.cell? ⟨b, off + i * 7 + 2, none⟩ = some (.int .i64 nc) ∧ W'.cell? ⟨b, off + i * 7 + 3, none⟩ = some (.int .i64 nd) ∧ W'.cell? ⟨b, off + i * 7 + 4, none⟩ = some (.int .i64 nt) ∧ W'.cell? ⟨b, off + i * 7 + 5, none⟩ = some (.int .i64 nm) ∧ W'.cell? ⟨b, off + i * 7 + 6, none⟩ = some (.bool ns)))) (by kernel_rfl) (And.intro (cell2 (HX.out.cell 0 rfl)) (HOP.out _ HX.out.bl)) (fun hHeld => ?_)
      refine Gh.tk 0 ?_
      refine Gh.tk 1 ?_
      refine Gh.tk 2 ?_
      refine Gh.tk 3 ?_
      refine Gh.tk 4 ?_
      refine wpAnyH_ready (rs := [5, 10]) (by kernel_rfl) (by simp) ?_
      refine AllReadyH.cons rfl (fun K hK => ?_) ?_
      · go_simp
        (with_reducible refine (NE.out _).mono ?_)
        rintro e w1 ⟨rfl, b1⟩
        have HX := Lib.hid (HX.out.call b1)
        have SX := Lib.hid (SX.out.call b1)
        clear b1
        go_simp
        refine hK.out _ _ (And.intro (cell2 (HX.out.cell 0 rfl)) (HOP.out _ HX.out.bl)) (fun hHeld => ?_)
        clear hK K
        refine Gh.pt ?_
        refine wpAnyH_ready (rs := [6, 10]) (by kernel_rfl) (by simp) ?_
        refine AllReadyH.cons rfl (fun K hK => ?_) ?_
        · go_simp
          (with_reducible refine (RA.out _ SX.out).mono ?_)
          rintro e w2 ⟨v, rfl, ⟨ao', cap', rfl, sn⟩, b2⟩
          have HX := Lib.hid (HX.out.call b2)
          have SX := Lib.hid (SX.out.call b2)
          have SN := Lib.hid sn
          clear b2 sn
          unfold tv
          go_simp
          refine hK.out _ _ (And.intro (cell2 (HX.out.cell 0 rfl)) (HOP.out _ HX.out.bl)) (fun hHeld => ?_)
          clear hK K
          refine Gh.pt ?_
          refine Gh.tk 7 ?_
          refine Gh.tk 8 ?_
          refine Gh.tk 9 ?_
          refine Gh.rd 10 (fun K hK => ?_)
          have HY := Lib.hid HX.out
          have SXY := Lib.hid SX.out
          have SNY := Lib.hid SN.out
          have HX := Lib.hid (HX.out.new #[.slice none 0 0, .int .i64 0] 29)
          have SX := Lib.hid (SX.out.call ((Below.refl _ _).alloc (Nat.le_refl _) (.cells #[.slice none 0 0, .int .i64 0] 29)))
          have SN := Lib.hid (SN.out.call ((Below.refl _ _).alloc (Nat.le_refl _) (.cells #[.slice none 0 0, .int .i64 0] 29)))
          go_simp
          refine hK.out _ _ (And.intro (cell2 (HX.out.cell 1 rfl)) (HOP.out _ HX.out.bl)) (fun hHeld => ?_)
          clear hK K
          refine Gh.pt ?_
          refine Gh.rd 11 (fun K hK => ?_)
          have HX := Lib.hid (HY.out.new #[.slice ao' R1.rows.length cap', .int .i64 R1.mode] 29)
          have SX := Lib.hid (SXY.out.call ((Below.refl _ _).alloc (Nat.le_refl _) (.cells #[.slice ao' R1.rows.length cap', .int .i64 R1.mode] 29)))
          have SN := Lib.hid (SNY.out.call ((Below.refl _ _).alloc (Nat.le_refl _) (.cells #[.slice ao' R1.rows.length cap', .int .i64 R1.mode] 29)))
          go_simp
          refine hK.out _ _ (And.intro (cell2 (HX.out.cell 1 rfl)) (HOP.out _ HX.out.bl)) (fun hHeld => ?_)
          clear hK K
          refine Gh.pt ?_
          refine Gh.tk 12 ?_
          refine wpAnyH_done (by kernel_rfl) ?_ _
          clear HOP NE RA
          by_cases he : R2 = 0
          · have he1 : (R2 == 0) = true := by simp [he]
            have EQ : Hid (R1 = madeN false l (i + 1)) := Lib.hid (by rw [MS.out, ST.out, if_pos he])
            obtain ⟨y0, y1⟩ := cell2 (HX.out.cell 0 rfl)
            obtain ⟨g0, g1⟩ := cell2 (HX.out.cell 1 rfl)
            have gf := HX.out.fz 1 rfl
            have H9 := Lib.hid ((HX.out.set 1 rfl 0 (.slice ao' R1.rows.length cap')).set 1 rfl 1 (.int .i64 R1.mode))
            have S9 := Lib.hid ((SN.out.set HX.out 1 rfl (by simp) 0 (.slice ao' R1.rows.length cap')).set (HX.out.set 1 rfl 0 (.slice ao' R1.rows.length cap')) 1 rfl (by simp) 1 (.int .i64 R1.mode))
            clear he
            go_wp2
            go_roundg (gk - 1)
            case measure => omega
            case rel => exact ⟨i + 1, R1, ao', cap', by have := HI.out; omega, by go_num, EQ.out, H9.out.sub (List.sublist_cons_self _ _), S9.out⟩
          · have he1 : (R2 == 0) = false := by simp [he]
            have EQ : Hid (t = madeN false l (i + 1)) := Lib.hid (by rw [MS.out, ST.out, if_neg he])
            clear he
            go_wp2
            go_roundg (gk - 1)
            case measure => omega
            case rel => exact ⟨i + 1, t, ao, cap, by have := HI.out; omega, by go_num, EQ.out, HX.out.sub (List.sublist_cons_self _ _), SX.out⟩
        refine AllReadyH.cons rfl (fun K hK => ?_) ?_
        · have HY := Lib.hid HX.out
          have SXY := Lib.hid SX.out
          have HX := Lib.hid (HX.out.new #[.slice none 0 0, .int .i64 0] 29)
          have SX := Lib.hid (SX.out.call ((Below.refl _ _).alloc (Nat.le_refl _) (.cells #[.slice none 0 0, .int .i64 0] 29)))
          go_simp
          refine hK.out _ _ (And.intro (cell2 (HX.out.cell 1 rfl)) (HOP.out _ HX.out.bl)) (fun hHeld => ?_)
          clear hK K
          refine Gh.pt ?_
          refine Gh.rd 6 (fun K hK => ?_)
          go_simp
          (with_reducible refine (RA.out _ SX.out).mono ?_)
          rintro e w2 ⟨v, rfl, ⟨ao', cap', rfl, sn⟩, b2⟩
          have HX := Lib.hid (HX.out.call b2)
          have SX := Lib.hid (SX.out.call b2)
          have SN := Lib.hid sn
          clear b2 sn
          unfold tv
          go_simp
          refine hK.out _ _ (And.intro (cell2 (HX.out.cell 1 rfl)) (HOP.out _ HX.out.bl)) (fun hHeld => ?_)
          clear hK K
          refine Gh.pt ?_
          refine Gh.tk 7 ?_
          refine Gh.tk 8 ?_
          refine Gh.tk 9 ?_
          refine Gh.rd 11 (fun K hK => ?_)
          obtain ⟨c0, c1⟩ := cell2 (HX.out.cell 0 rfl)
          have cf := HX.out.fz 0 rfl
          have SX := Lib.hid ((SX.out.set HX.out 0 rfl (by simp) 0 (.slice ao' R1.rows.length cap')).set (HX.out.set 0 rfl 0 (.slice ao' R1.rows.length cap')) 0 rfl (by simp) 1 (.int .i64 R1.mode))
          have SN := Lib.hid ((SN.out.set HX.out 0 rfl (by simp) 0 (.slice ao' R1.rows.length cap')).set (HX.out.set 0 rfl 0 (.slice ao' R1.rows.length cap')) 0 rfl (by simp) 1 (.int .i64 R1.mode))
          have HX := Lib.hid ((HX.out.set 0 rfl 0 (.slice ao' R1.rows.length cap')).set 0 rfl 1 (.int .i64 R1.mode))
          go_simp
          refine hK.out _ _ (And.intro (cell2 (HX.out.cell 1 rfl)) (HOP.out _ HX.out.bl)) (fun hHeld => ?_)
          clear hK K
          refine Gh.pt ?_
          refine Gh.tk 12 ?_
          refine wpAnyH_done (by kernel_rfl) ?_ _
          clear HOP NE RA
          by_cases he : R2 = 0
          · have he1 : (R2 == 0) = true := by simp [he]
            have EQ : Hid (R1 = madeN false l (i + 1)) := Lib.hid (by rw [MS.out, ST.out, if_pos he])
            obtain ⟨y0, y1⟩ := cell2 (HX.out.cell 0 rfl)
            obtain ⟨g0, g1⟩ := cell2 (HX.out.cell 1 rfl)
            have gf := HX.out.fz 1 rfl
            have H9 := Lib.hid ((HX.out.set 1 rfl 0 (.slice ao' R1.rows.length cap')).set 1 rfl 1 (.int .i64 R1.mode))
            have S9 := Lib.hid ((SN.out.set HX.out 1 rfl (by simp) 0 (.slice ao' R1.rows.length cap')).set (HX.out.set 1 rfl 0 (.slice ao' R1.rows.length cap')) 1 rfl (by simp) 1 (.int .i64 R1.mode))
            clear he
            go_wp2
            go_roundg (gk - 1)
            case measure => omega
            case rel => exact ⟨i + 1, R1, ao', cap', by have := HI.out; omega, by go_num, EQ.out, H9.out.sub (List.sublist_cons_self _ _), S9.out⟩
          · have he1 : (R2 == 0) = false := by simp [he]
            have EQ : Hid (t = madeN false l (i + 1)) := Lib.hid (by rw [MS.out, ST.out, if_neg he])
            clear he
            go_wp2
            go_roundg (gk - 1)
            case measure => omega
            case rel => exact ⟨i + 1, t, ao, cap, by have := HI.out; omega, by go_num, EQ.out, HX.out.sub (List.sublist_cons_self _ _), SX.out⟩
        exact AllReadyH.nil
      refine AllReadyH.cons rfl (fun K hK => ?_) ?_
      · have HY := Lib.hid HX.out
        have SXY := Lib.hid SX.out
        have HX := Lib.hid (HX.out.new #[.slice none 0 0, .int .i64 0] 29)
        have SX := Lib.hid (SX.out.call ((Below.refl _ _).alloc (Nat.le_refl _) (.cells #[.slice none 0 0, .int .i64 0] 29)))
        have HX : Hid (Bos ((wr.heap.size, #[.slice none 0 0, .int .i64 0], 29) :: _) w _) := Lib.hid HX.out
        go_simp
        refine hK.out _ _ (And.intro (cell2 (HX.out.cell 1 rfl)) (HOP.out _ HX.out.bl)) (fun hHeld => ?_)
        clear hK K
        refine Gh.pt ?_
        refine Gh.rd 5 (fun K hK => ?_)
        go_simp
        (with_reducible refine (NE.out _).mono ?_)
        rintro e w1 ⟨rfl, b1⟩
        have HX := Lib.hid (HX.out.call b1)
        have SX := Lib.hid (SX.out.call b1)
        clear b1
        go_simp
        refine hK.out _ _ (And.intro (cell2 (HX.out.cell 1 rfl)) (HOP.out _ HX.out.bl)) (fun hHeld => ?_)
        clear hK K
        refine Gh.pt ?_
        refine Gh.rd 6 (fun K hK => ?_)
        go_simp
        (with_reducible refine (RA.out _ SX.out).mono ?_)
        rintro e w2 ⟨v, rfl, ⟨ao', cap', rfl, sn⟩, b2⟩
        have HX := Lib.hid (HX.out.call b2)
        have SX := Lib.hid (SX.out.call b2)
        have SN := Lib.hid sn
        clear b2 sn
        unfold tv
        go_simp
        refine hK.out _ _ (And.intro (cell2 (HX.out.cell 1 rfl)) (HOP.out _ HX.out.bl)) (fun hHeld => ?_)
        clear hK K
        refine Gh.pt ?_
        refine Gh.tk 7 ?_
        refine Gh.tk 8 ?_
        refine Gh.tk 9 ?_
        refine Gh.rd 11 (fun K hK => ?_)
        obtain ⟨c0, c1⟩ := cell2 (HX.out.cell 0 rfl)
        have cf := HX.out.fz 0 rfl
        have SX := Lib.hid ((SX.out.set HX.out 0 rfl (by simp) 0 (.slice ao' R1.rows.length cap')).set (HX.out.set 0 rfl 0 (.slice ao' R1.rows.length cap')) 0 rfl (by simp) 1 (.int .i64 R1.mode))
        have SN := Lib.hid ((SN.out.set HX.out 0 rfl (by simp) 0 (.slice ao' R1.rows.length cap')).set (HX.out.set 0 rfl 0 (.slice ao' R1.rows.length cap')) 0 rfl (by simp) 1 (.int .i64 R1.mode))
        have HX := Lib.hid ((HX.out.set 0 rfl 0 (.slice ao' R1.rows.length cap')).set 0 rfl 1 (.int .i64 R1.mode))
        go_simp
        refine hK.out _ _ (And.intro (cell2 (HX.out.cell 1 rfl)) (HOP.out _ HX.out.bl)) (fun hHeld => ?_)
        clear hK K
        refine Gh.pt ?_
        refine Gh.tk 12 ?_
        refine wpAnyH_done (by kernel_rfl) ?_ _
        clear HOP NE RA
        by_cases he : R2 = 0
        · have he1 : (R2 == 0) = true := by simp [he]
          have EQ : Hid (R1 = madeN false l (i + 1)) := Lib.hid (by rw [MS.out, ST.out, if_pos he])
          obtain ⟨y0, y1⟩ := cell2 (HX.out.cell 0 rfl)
          obtain ⟨g0, g1⟩ := cell2 (HX.out.cell 1 rfl)
          have gf := HX.out.fz 1 rfl
          have H9 := Lib.hid ((HX.out.set 1 rfl 0 (.slice ao' R1.rows.length cap')).set 1 rfl 1 (.int .i64 R1.mode))
          have S9 := Lib.hid ((SN.out.set HX.out 1 rfl (by simp) 0 (.slice ao' R1.rows.length cap')).set (HX.out.set 1 rfl 0 (.slice ao' R1.rows.length cap')) 1 rfl (by simp) 1 (.int .i64 R1.mode))
          clear he
          go_wp2
          go_roundg (gk - 1)
          case measure => omega
          case rel => exact ⟨i + 1, R1, ao', cap', by have := HI.out; omega, by go_num, EQ.out, H9.out.sub (List.sublist_cons_self _ _), S9.out⟩
        · have he1 : (R2 == 0) = false := by simp [he]
          have EQ : Hid (t = madeN false l (i + 1)) := Lib.hid (by rw [MS.out, ST.out, if_neg he])
          clear he
          go_wp2
          go_roundg (gk - 1)
          case measure => omega
          case rel => exact ⟨i + 1, t, ao, cap, by have := HI.out; omega, by go_num, EQ.out, HX.out.sub (List.sublist_cons_self _ _), SX.out⟩
      exact AllReadyH.nil
    · have hge : (l.length : Int) ≤ (i : Int) ∨ ((i : Int) < (l.length : Int) ∧ (16 : Int) ≤ (i : Int)) := by omega
      have e : i = min l.length 16 := by omega
      have ET : Hid (madeT false l = t) := Lib.hid (by unfold madeT; rw [← e]; exact HT.out.symm)
      have HF := Lib.hid ((HB.out.set 1 rfl 0 (.slice ao t.rows.length cap)).set 1 rfl 1 (.int .i64 t.mode))
      have SF := Lib.hid ((SX.out.set HB.out 1 rfl (by simp) 0 (.slice ao t.rows.length cap)).set (HB.out.set 1 rfl 0 (.slice ao t.rows.length cap)) 1 rfl (by simp) 1 (.int .i64 t.mode))
      obtain ⟨q0, q1⟩ := cell2 (HF.out.cell 1 rfl)
      clear hi hlt e HT
      rcases hge with hge | ⟨hge1, hge2⟩
      · go_wp2
        refine bodyPost_ret (v := .agg #[.slice ao t.rows.length cap, .int .i64 t.mode]) (by simp [results, Try.results10, go_sem, q0, q1]) rfl ⟨_, rfl, by rw [ET.out]; exact ⟨ao, cap, rfl, SF.out⟩, HF.out.bl⟩
      · go_wp2
        refine bodyPost_ret (v := .agg #[.slice ao t.rows.length cap, .int .i64 t.mode]) (by simp [results, Try.results10, go_sem, q0, q1]) rfl ⟨_, rfl, by rw [ET.out]; exact ⟨ao, cap, rfl, SF.out⟩, HF.out.bl⟩
set_option maxHeartbeats 8000000 in
theorem made_true_any (l : List Nm) (lo : Option Addr) (lc : Nat) (w : World) (hS : Seen Nm.cs 7 lo l w) (hl : l.length ≤ 9223372036854775807) :
    Calls Try.prog 10 #[.slice lo l.length lc, .bool true] w fun e w' => ∃ v, e = .returned v ∧ Tb.Told v (madeT true l) w' ∧ Below w.heap.size w w' := by
  have SO := Lib.hid hS
  clear hS
  have H0 := Lib.hid (tw_new w (.slice none 0 0) (.slice none 0 0) 0 0)
  have G : Hid (MaRel true l w (min l.length 16) (.int .i64 0) ((w.alloc (.cells #[.slice none 0 0, .int .i64 0] 29)).alloc (.cells #[.slice none 0 0, .int .i64 0] 29))) := Lib.hid ⟨0, tb0, none, 0, by omega, rfl, (madeN_zero true l).symm, H0.out, rfl, Nat.le_refl _, fun _ => rfl, Ge.seen_nil _ _⟩
  clear H0
  go_enter Try.func10, Try.ntmps10
  go_wp2_with fail
  go_loopg [6] (min l.length 16) (MaRel true l w)
  case atStart => exact G.out
  case round =>
    obtain ⟨i, t, ao, cap, hi, rfl, ht, hB, hsl⟩ := hrel
    have HB := Lib.hid hB
    have SX := Lib.hid hsl
    have HT := Lib.hid ht
    have hch : chkT t = true := by rw [ht]; exact madeN_chk true l i
    have hl16 := (chkT_iff.1 hch).2.2.1
    clear G hB hsl ht hch
    obtain ⟨t0, t1⟩ := cell2 (HB.out.cell 0 rfl)
    obtain ⟨z0, z1⟩ := cell2 (HB.out.cell 1 rfl)
    have zf := HB.out.fz 1 rfl
    by_cases hlt : i < l.length ∧ i < 16
    · obtain ⟨h1, h2⟩ := hlt
      have hx := List.getElem?_eq_getElem h1
      have MS := Lib.hid (madeN_succ (f := true) h1)
      obtain ⟨b, off, rfl, hop⟩ := seen_nm SO.out hx
      have HOP := Lib.hid hop
      have hg0 : 0 < gk := by omega
      have HI := Lib.hid hi
      have i1 : (i : Int) < (l.length : Int) := by omega
      have i2 : (i : Int) < 16 := by omega
      have i3 : IntKind.i64.wrap (i : Int) = (i : Int) := IntWalk.i64_in _ (by omega)
      generalize l[i] = x at *
      clear hx hop hi h1 h2
      have NE := Lib.hid (op_any x)
      have RA : Hid (∀ W, Sl (.slice ao t.rows.length cap) t.rows W ao cap → Calls Try.prog 20 #[tv ao t.rows.length cap t.mode, (opR x).v] W fun e w' => ∃ v, e = .returned (.tuple #[v, .int .i64 (applyR t (opR x)).2]) ∧ Tb.Told v (applyR t (opR x)).1 w' ∧ Below W.heap.size W w') := Lib.hid (fun W h => rapply_any t (opR x) ao cap W h (by omega))
      have RM : Hid (∀ W, Sl (.slice ao t.rows.length cap) t.rows W ao cap → Calls Try.prog 22 #[tv ao t.rows.length cap t.mode, (opR x).v, .slice none 0 0] W fun e w' => ∃ v, e = .returned (.tuple #[v, .int .i64 (mayR t (opR x) []).2]) ∧ Tb.Told v (mayR t (opR x) []).1 w' ∧ Below W.heap.size W w') := Lib.hid (fun W h => rmay_any t (opR x) [] ao cap none 0 W h (by omega) (Ge.seen_nil _ _) (by simp))
      have ST : Hid (stepJ true t x = if (mayR t (opR x) []).2 = 0 then (mayR t (opR x) []).1 else t) := Lib.hid rfl
      rw [← HT.out] at MS
      generalize applyR t (opR x) = R at *
      generalize mayR t (opR x) [] = M at *
      obtain ⟨M1, M2⟩ := M
      generalize opR x = y at *
      obtain ⟨R1, R2⟩ := R
      simp only at RA ST
      obtain ⟨nk, ni, nc, nd, nt, nm, ns⟩ := x
      obtain ⟨yk, ⟨yi, yc, yd, yt, ym⟩, ys, yid, ycc, ymo⟩ := y
      unfold tv Od.v Od.cs Nm.v at *
      simp only at *
      have HX := Lib.hid HB.out.drew
      have SX := Lib.hid (SX.out.call (Below.refl _ _).drew)
      clear SO
      go_wp2_with fail
      refine wp_region_held_drew (S := (fun W' => (W'.cell? ⟨w.heap.size + 1, 0, none⟩ = some (.slice ao t.rows.length cap) ∧ W'.cell? ⟨w.heap.size + 1, 1, none⟩ = some (.int .i64 t.mode)) ∧ (W'.cell? ⟨b, off + i * 7, none⟩ = some (.int .i64 nk) ∧ W'.cell? ⟨b, off + i * 7 + 1, none⟩ = some (.int .i64 ni) ∧ W'.cell? ⟨b, off + i * 7 + 2, none⟩ = some (.int .i64 nc) ∧ W'.cell? ⟨b, off + i * 7 + 3, none⟩ = some (.int .i64 nd) ∧ W'.cell? ⟨b, off + i * 7 + 4, none⟩ = some (.int .i64 nt) ∧ W'.cell? ⟨b, off + i * 7 + 5, none⟩ = some (.int .i64 nm) ∧ W'.cell? ⟨b, off + i * 7 + 6, none⟩ = some (.bool ns)))) (by kernel_rfl) (And.intro (cell2 (HX.out.cell 0 rfl)) (HOP.out _ HX.out.bl)) (fun hHeld => ?_)
      refine Gh.tk 0 ?_
      refine Gh.tk 1 ?_
      refine Gh.tk 2 ?_
      refine Gh.tk 3 ?_
      refine Gh.tk 4 ?_
      refine wpAnyH_ready (rs := [5, 10]) (by kernel_rfl) (by simp) ?_
      refine AllReadyH.cons rfl (fun K hK => ?_) ?_
      · go_simp
        (with_reducible refine (NE.out _).mono ?_)
        rintro e w1 ⟨rfl, b1⟩
        have HX := Lib.hid (HX.out.call b1)
        have SX := Lib.hid (SX.out.call b1)
        clear b1
        go_simp
        refine hK.out _ _ (And.intro (cell2 (HX.out.cell 0 rfl)) (HOP.out _ HX.out.bl)) (fun hHeld => ?_)
        clear hK K
        refine Gh.pt ?_
        refine wpAnyH_ready (rs := [6, 10]) (by kernel_rfl) (by simp) ?_
        refine AllReadyH.cons rfl (fun K hK => ?_) ?_
        · go_simp
          (with_reducible refine (RA.out _ SX.out).mono ?_)
          rintro e w2 ⟨v, rfl, ⟨ao', cap', rfl, sn⟩, b2⟩
          have HX := Lib.hid (HX.out.call b2)
          have SX := Lib.hid (SX.out.call b2)
          have SN := Lib.hid sn
          clear b2 sn
          unfold tv
          go_simp
          refine hK.out _ _ (And.intro (cell2 (HX.out.cell 0 rfl)) (HOP.out _ HX.out.bl)) (fun hHeld => ?_)
          clear hK K
          refine Gh.pt ?_
          refine Gh.tk 7 ?_
          refine Gh.tk 8 ?_
          refine Gh.tk 9 ?_
          refine Gh.rd 10 (fun K hK => ?_)
          have HY := Lib.hid HX.out
          have SXY := Lib.hid SX.out
          have SNY := Lib.hid SN.out
          have HX := Lib.hid (HX.out.new #[.slice none 0 0, .int .i64 0] 29)
          have SX := Lib.hid (SX.out.call ((Below.refl _ _).alloc (Nat.le_refl _) (.cells #[.slice none 0 0, .int .i64 0] 29)))
          have SN := Lib.hid (SN.out.call ((Below.refl _ _).alloc (Nat.le_refl _) (.cells #[.slice none 0 0, .int .i64 0] 29)))
          go_simp
          refine hK.out _ _ (And.intro (cell2 (HX.out.cell 1 rfl)) (HOP.out _ HX.out.bl)) (fun hHeld => ?_)
          clear hK K
          refine Gh.pt ?_
          refine Gh.rd 11 (fun K hK => ?_)
          have HX := Lib.hid (HY.out.new #[.slice ao' R1.rows.length cap', .int .i64 R1.mode] 29)
          have SX := Lib.hid (SXY.out.call ((Below.refl _ _).alloc (Nat.le_refl _) (.cells #[.slice ao' R1.rows.length cap', .int .i64 R1.mode] 29)))
          have SN := Lib.hid (SNY.out.call ((Below.refl _ _).alloc (Nat.le_refl _) (.cells #[.slice ao' R1.rows.length cap', .int .i64 R1.mode] 29)))
          go_simp
          refine hK.out _ _ (And.intro (cell2 (HX.out.cell 1 rfl)) (HOP.out _ HX.out.bl)) (fun hHeld => ?_)
          clear hK K
          refine Gh.pt ?_
          refine Gh.tk 12 ?_
          refine wpAnyH_done (by kernel_rfl) ?_ _
          clear RA SN
          have HX := Lib.hid HX.out.drew
          have SX := Lib.hid (SX.out.call (Below.refl _ _).drew)
          go_wp2_with fail
          refine wp_region_held_drew (S := (fun W' => (W'.cell? ⟨w.heap.size + 1, 0, none⟩ = some (.slice ao t.rows.length cap) ∧ W'.cell? ⟨w.heap.size + 1, 1, none⟩ = some (.int .i64 t.mode)) ∧ (W'.cell? ⟨b, off + i * 7, none⟩ = some (.int .i64 nk) ∧ W'.cell? ⟨b, off + i * 7 + 1, none⟩ = some (.int .i64 ni) ∧ W'.cell? ⟨b, off + i * 7 + 2, none⟩ = some (.int .i64 nc) ∧ W'.cell? ⟨b, off + i * 7 + 3, none⟩ = some (.int .i64 nd) ∧ W'.cell? ⟨b, off + i * 7 + 4, none⟩ = some (.int .i64 nt) ∧ W'.cell? ⟨b, off + i * 7 + 5, none⟩ = some (.int .i64 nm) ∧ W'.cell? ⟨b, off + i * 7 + 6, none⟩ = some (.bool ns)))) (by kernel_rfl) (And.intro (cell2 (HX.out.cell 1 rfl)) (HOP.out _ HX.out.bl)) (fun hHeld => ?_)
          refine Gh.tk 0 ?_
          refine Gh.tk 1 ?_
          refine Gh.tk 2 ?_
          refine Gh.tk 3 ?_
          refine Gh.tk 4 ?_
          refine Gh.rd 5 (fun K hK => ?_)
          go_simp
          (with_reducible refine (NE.out _).mono ?_)
          rintro e w3 ⟨rfl, b3⟩
          have HX := Lib.hid (HX.out.call b3)
          have SX := Lib.hid (SX.out.call b3)
          clear b3
          go_simp
          refine hK.out _ _ (And.intro (cell2 (HX.out.cell 1 rfl)) (HOP.out _ HX.out.bl)) (fun hHeld => ?_)
          clear hK K
          refine Gh.pt ?_
          refine Gh.rd 6 (fun K hK => ?_)
          go_simp
          (with_reducible refine (RM.out _ SX.out).mono ?_)
          rintro e w4 ⟨v, rfl, ⟨am, cm, rfl, sm⟩, b4⟩
          have HX := Lib.hid (HX.out.call b4)
          have SX := Lib.hid (SX.out.call b4)
          have SM := Lib.hid sm
          clear b4 sm
          unfold tv
          go_simp
          refine hK.out _ _ (And.intro (cell2 (HX.out.cell 1 rfl)) (HOP.out _ HX.out.bl)) (fun hHeld => ?_)
          clear hK K
          refine Gh.pt ?_
          refine Gh.tk 7 ?_
          refine Gh.tk 8 ?_
          refine Gh.tk 9 ?_
          refine Gh.rd 10 (fun K hK => ?_)
          obtain ⟨c0, c1⟩ := cell2 (HX.out.cell 0 rfl)
          have cf := HX.out.fz 0 rfl
          have SX := Lib.hid ((SX.out.set HX.out 0 rfl (by simp) 0 (.slice am M1.rows.length cm)).set (HX.out.set 0 rfl 0 (.slice am M1.rows.length cm)) 0 rfl (by simp) 1 (.int .i64 M1.mode))
          have SM := Lib.hid ((SM.out.set HX.out 0 rfl (by simp) 0 (.slice am M1.rows.length cm)).set (HX.out.set 0 rfl 0 (.slice am M1.rows.length cm)) 0 rfl (by simp) 1 (.int .i64 M1.mode))
          have HX := Lib.hid ((HX.out.set 0 rfl 0 (.slice am M1.rows.length cm)).set 0 rfl 1 (.int .i64 M1.mode))
          go_simp
          refine hK.out _ _ (And.intro (cell2 (HX.out.cell 1 rfl)) (HOP.out _ HX.out.bl)) (fun hHeld => ?_)
          clear hK K
          refine Gh.pt ?_
          refine Gh.tk 11 ?_
          refine wpAnyH_done (by kernel_rfl) ?_ _
          clear HOP NE RM
          by_cases he : M2 = 0
          · have he1 : (M2 == 0) = true := by simp [he]
            have EQ : Hid (M1 = madeN true l (i + 1)) := Lib.hid (by rw [MS.out, ST.out, if_pos he])
            obtain ⟨y0, y1⟩ := cell2 (HX.out.cell 0 rfl)
            obtain ⟨g0, g1⟩ := cell2 (HX.out.cell 1 rfl)
            have gf := HX.out.fz 1 rfl
            have H9 := Lib.hid ((HX.out.set 1 rfl 0 (.slice am M1.rows.length cm)).set 1 rfl 1 (.int .i64 M1.mode))
            have S9 := Lib.hid ((SM.out.set HX.out 1 rfl (by simp) 0 (.slice am M1.rows.length cm)).set (HX.out.set 1 rfl 0 (.slice am M1.rows.length cm)) 1 rfl (by simp) 1 (.int .i64 M1.mode))
            clear he
            go_wp2
            go_roundg (gk - 1)
            case measure => omega
            case rel => exact ⟨i + 1, M1, am, cm, by have := HI.out; omega, by go_num, EQ.out, H9.out.sub (List.sublist_cons_self _ _), S9.out⟩
          · have he1 : (M2 == 0) = false := by simp [he]
            have EQ : Hid (t = madeN true l (i + 1)) := Lib.hid (by rw [MS.out, ST.out, if_neg he])
            clear he
            go_wp2
            go_roundg (gk - 1)
            case measure => omega
            case rel => exact ⟨i + 1, t, ao, cap, by have := HI.out; omega, by go_num, EQ.out, HX.out.sub (List.sublist_cons_self _ _), SX.out⟩
        refine AllReadyH.cons rfl (fun K hK => ?_) ?_
        · have HY := Lib.hid HX.out
          have SXY := Lib.hid SX.out
          have HX := Lib.hid (HX.out.new #[.slice none 0 0, .int .i64 0] 29)
          have SX := Lib.hid (SX.out.call ((Below.refl _ _).alloc (Nat.le_refl _) (.cells #[.slice none 0 0, .int .i64 0] 29)))
          go_simp
          refine hK.out _ _ (And.intro (cell2 (HX.out.cell 1 rfl)) (HOP.out _ HX.out.bl)) (fun hHeld => ?_)
          clear hK K
          refine Gh.pt ?_
          refine Gh.rd 6 (fun K hK => ?_)
          go_simp
          (with_reducible refine (RA.out _ SX.out).mono ?_)
          rintro e w2 ⟨v, rfl, ⟨ao', cap', rfl, sn⟩, b2⟩
          have HX := Lib.hid (HX.out.call b2)
          have SX := Lib.hid (SX.out.call b2)
          have SN := Lib.hid sn
          clear b2 sn
          unfold tv
          go_simp
          refine hK.out _ _ (And.intro (cell2 (HX.out.cell 1 rfl)) (HOP.out _ HX.out.bl)) (fun hHeld => ?_)
          clear hK K
          refine Gh.pt ?_
          refine Gh.tk 7 ?_
          refine Gh.tk 8 ?_
          refine Gh.tk 9 ?_
          refine Gh.rd 11 (fun K hK => ?_)
          obtain ⟨c0, c1⟩ := cell2 (HX.out.cell 0 rfl)
          have cf := HX.out.fz 0 rfl
          have SX := Lib.hid ((SX.out.set HX.out 0 rfl (by simp) 0 (.slice ao' R1.rows.length cap')).set (HX.out.set 0 rfl 0 (.slice ao' R1.rows.length cap')) 0 rfl (by simp) 1 (.int .i64 R1.mode))
          have SN := Lib.hid ((SN.out.set HX.out 0 rfl (by simp) 0 (.slice ao' R1.rows.length cap')).set (HX.out.set 0 rfl 0 (.slice ao' R1.rows.length cap')) 0 rfl (by simp) 1 (.int .i64 R1.mode))
          have HX := Lib.hid ((HX.out.set 0 rfl 0 (.slice ao' R1.rows.length cap')).set 0 rfl 1 (.int .i64 R1.mode))
          go_simp
          refine hK.out _ _ (And.intro (cell2 (HX.out.cell 1 rfl)) (HOP.out _ HX.out.bl)) (fun hHeld => ?_)
          clear hK K
          refine Gh.pt ?_
          refine Gh.tk 12 ?_
          refine wpAnyH_done (by kernel_rfl) ?_ _
          clear RA SN
          have HX := Lib.hid HX.out.drew
          have SX := Lib.hid (SX.out.call (Below.refl _ _).drew)
          go_wp2_with fail
          refine wp_region_held_drew (S := (fun W' => (W'.cell? ⟨w.heap.size + 1, 0, none⟩ = some (.slice ao t.rows.length cap) ∧ W'.cell? ⟨w.heap.size + 1, 1, none⟩ = some (.int .i64 t.mode)) ∧ (W'.cell? ⟨b, off + i * 7, none⟩ = some (.int .i64 nk) ∧ W'.cell? ⟨b, off + i * 7 + 1, none⟩ = some (.int .i64 ni) ∧ W'.cell? ⟨b, off + i * 7 + 2, none⟩ = some (.int .i64 nc) ∧ W'.cell? ⟨b, off + i * 7 + 3, none⟩ = some (.int .i64 nd) ∧ W'.cell? ⟨b, off + i * 7 + 4, none⟩ = some (.int .i64 nt) ∧ W'.cell? ⟨b, off + i * 7 + 5, none⟩ = some (.int .i64 nm) ∧ W'.cell? ⟨b, off + i * 7 + 6, none⟩ = some (.bool ns)))) (by kernel_rfl) (And.intro (cell2 (HX.out.cell 1 rfl)) (HOP.out _ HX.out.bl)) (fun hHeld => ?_)
          refine Gh.tk 0 ?_
          refine Gh.tk 1 ?_
          refine Gh.tk 2 ?_
          refine Gh.tk 3 ?_
          refine Gh.tk 4 ?_
          refine Gh.rd 5 (fun K hK => ?_)
          go_simp
          (with_reducible refine (NE.out _).mono ?_)
          rintro e w3 ⟨rfl, b3⟩
          have HX := Lib.hid (HX.out.call b3)
          have SX := Lib.hid (SX.out.call b3)
          clear b3
          go_simp
          refine hK.out _ _ (And.intro (cell2 (HX.out.cell 1 rfl)) (HOP.out _ HX.out.bl)) (fun hHeld => ?_)
          clear hK K
          refine Gh.pt ?_
          refine Gh.rd 6 (fun K hK => ?_)
          go_simp
          (with_reducible refine (RM.out _ SX.out).mono ?_)
          rintro e w4 ⟨v, rfl, ⟨am, cm, rfl, sm⟩, b4⟩
          have HX := Lib.hid (HX.out.call b4)
          have SX := Lib.hid (SX.out.call b4)
          have SM := Lib.hid sm
          clear b4 sm
          unfold tv
          go_simp
          refine hK.out _ _ (And.intro (cell2 (HX.out.cell 1 rfl)) (HOP.out _ HX.out.bl)) (fun hHeld => ?_)
          clear hK K
          refine Gh.pt ?_
          refine Gh.tk 7 ?_
          refine Gh.tk 8 ?_
          refine Gh.tk 9 ?_
          refine Gh.rd 10 (fun K hK => ?_)
          obtain ⟨c0, c1⟩ := cell2 (HX.out.cell 0 rfl)
          have cf := HX.out.fz 0 rfl
          have SX := Lib.hid ((SX.out.set HX.out 0 rfl (by simp) 0 (.slice am M1.rows.length cm)).set (HX.out.set 0 rfl 0 (.slice am M1.rows.length cm)) 0 rfl (by simp) 1 (.int .i64 M1.mode))
          have SM := Lib.hid ((SM.out.set HX.out 0 rfl (by simp) 0 (.slice am M1.rows.length cm)).set (HX.out.set 0 rfl 0 (.slice am M1.rows.length cm)) 0 rfl (by simp) 1 (.int .i64 M1.mode))
          have HX := Lib.hid ((HX.out.set 0 rfl 0 (.slice am M1.rows.length cm)).set 0 rfl 1 (.int .i64 M1.mode))
          go_simp
          refine hK.out _ _ (And.intro (cell2 (HX.out.cell 1 rfl)) (HOP.out _ HX.out.bl)) (fun hHeld => ?_)
          clear hK K
          refine Gh.pt ?_
          refine Gh.tk 11 ?_
          refine wpAnyH_done (by kernel_rfl) ?_ _
          clear HOP NE RM
          by_cases he : M2 = 0
          · have he1 : (M2 == 0) = true := by simp [he]
            have EQ : Hid (M1 = madeN true l (i + 1)) := Lib.hid (by rw [MS.out, ST.out, if_pos he])
            obtain ⟨y0, y1⟩ := cell2 (HX.out.cell 0 rfl)
            obtain ⟨g0, g1⟩ := cell2 (HX.out.cell 1 rfl)
            have gf := HX.out.fz 1 rfl
            have H9 := Lib.hid ((HX.out.set 1 rfl 0 (.slice am M1.rows.length cm)).set 1 rfl 1 (.int .i64 M1.mode))
            have S9 := Lib.hid ((SM.out.set HX.out 1 rfl (by simp) 0 (.slice am M1.rows.length cm)).set (HX.out.set 1 rfl 0 (.slice am M1.rows.length cm)) 1 rfl (by simp) 1 (.int .i64 M1.mode))
            clear he
            go_wp2
            go_roundg (gk - 1)
            case measure => omega
            case rel => exact ⟨i + 1, M1, am, cm, by have := HI.out; omega, by go_num, EQ.out, H9.out.sub (List.sublist_cons_self _ _), S9.out⟩
          · have he1 : (M2 == 0) = false := by simp [he]
            have EQ : Hid (t = madeN true l (i + 1)) := Lib.hid (by rw [MS.out, ST.out, if_neg he])
            clear he
            go_wp2
            go_roundg (gk - 1)
            case measure => omega
            case rel => exact ⟨i + 1, t, ao, cap, by have := HI.out; omega, by go_num, EQ.out, HX.out.sub (List.sublist_cons_self _ _), SX.out⟩
        exact AllReadyH.nil
      refine AllReadyH.cons rfl (fun K hK => ?_) ?_
      · have HY := Lib.hid HX.out
        have SXY := Lib.hid SX.out
        have HX := Lib.hid (HX.out.new #[.slice none 0 0, .int .i64 0] 29)
        have SX := Lib.hid (SX.out.call ((Below.refl _ _).alloc (Nat.le_refl _) (.cells #[.slice none 0 0, .int .i64 0] 29)))
        have HX : Hid (Bos ((wr.heap.size, #[.slice none 0 0, .int .i64 0], 29) :: _) w _) := Lib.hid HX.out
        go_simp
        refine hK.out _ _ (And.intro (cell2 (HX.out.cell 1 rfl)) (HOP.out _ HX.out.bl)) (fun hHeld => ?_)
        clear hK K
        refine Gh.pt ?_
        refine Gh.rd 5 (fun K hK => ?_)
        go_simp
        (with_reducible refine (NE.out _).mono ?_)
        rintro e w1 ⟨rfl, b1⟩
        have HX := Lib.hid (HX.out.call b1)
        have SX := Lib.hid (SX.out.call b1)
        clear b1
        go_simp
        refine hK.out _ _ (And.intro (cell2 (HX.out.cell 1 rfl)) (HOP.out _ HX.out.bl)) (fun hHeld => ?_)
        clear hK K
        refine Gh.pt ?_
        refine Gh.rd 6 (fun K hK => ?_)
        go_simp
        (with_reducible refine (RA.out _ SX.out).mono ?_)
        rintro e w2 ⟨v, rfl, ⟨ao', cap', rfl, sn⟩, b2⟩
        have HX := Lib.hid (HX.out.call b2)
        have SX := Lib.hid (SX.out.call b2)
        have SN := Lib.hid sn
        clear b2 sn
        unfold tv
        go_simp
        refine hK.out _ _ (And.intro (cell2 (HX.out.cell 1 rfl)) (HOP.out _ HX.out.bl)) (fun hHeld => ?_)
        clear hK K
        refine Gh.pt ?_
        refine Gh.tk 7 ?_
        refine Gh.tk 8 ?_
        refine Gh.tk 9 ?_
        refine Gh.rd 11 (fun K hK => ?_)
        obtain ⟨c0, c1⟩ := cell2 (HX.out.cell 0 rfl)
        have cf := HX.out.fz 0 rfl
        have SX := Lib.hid ((SX.out.set HX.out 0 rfl (by simp) 0 (.slice ao' R1.rows.length cap')).set (HX.out.set 0 rfl 0 (.slice ao' R1.rows.length cap')) 0 rfl (by simp) 1 (.int .i64 R1.mode))
        have SN := Lib.hid ((SN.out.set HX.out 0 rfl (by simp) 0 (.slice ao' R1.rows.length cap')).set (HX.out.set 0 rfl 0 (.slice ao' R1.rows.length cap')) 0 rfl (by simp) 1 (.int .i64 R1.mode))
        have HX := Lib.hid ((HX.out.set 0 rfl 0 (.slice ao' R1.rows.length cap')).set 0 rfl 1 (.int .i64 R1.mode))
        go_simp
        refine hK.out _ _ (And.intro (cell2 (HX.out.cell 1 rfl)) (HOP.out _ HX.out.bl)) (fun hHeld => ?_)
        clear hK K
        refine Gh.pt ?_
        refine Gh.tk 12 ?_
        refine wpAnyH_done (by kernel_rfl) ?_ _
        clear RA SN
        have HX := Lib.hid HX.out.drew
        have SX := Lib.hid (SX.out.call (Below.refl _ _).drew)
        go_wp2_with fail
        refine wp_region_held_drew (S := (fun W' => (W'.cell? ⟨w.heap.size + 1, 0, none⟩ = some (.slice ao t.rows.length cap) ∧ W'.cell? ⟨w.heap.size + 1, 1, none⟩ = some (.int .i64 t.mode)) ∧ (W'.cell? ⟨b, off + i * 7, none⟩ = some (.int .i64 nk) ∧ W'.cell? ⟨b, off + i * 7 + 1, none⟩ = some (.int .i64 ni) ∧ W'.cell? ⟨b, off + i * 7 + 2, none⟩ = some (.int .i64 nc) ∧ W'.cell? ⟨b, off + i * 7 + 3, none⟩ = some (.int .i64 nd) ∧ W'.cell? ⟨b, off + i * 7 + 4, none⟩ = some (.int .i64 nt) ∧ W'.cell? ⟨b, off + i * 7 + 5, none⟩ = some (.int .i64 nm) ∧ W'.cell? ⟨b, off + i * 7 + 6, none⟩ = some (.bool ns)))) (by kernel_rfl) (And.intro (cell2 (HX.out.cell 1 rfl)) (HOP.out _ HX.out.bl)) (fun hHeld => ?_)
        refine Gh.tk 0 ?_
        refine Gh.tk 1 ?_
        refine Gh.tk 2 ?_
        refine Gh.tk 3 ?_
        refine Gh.tk 4 ?_
        refine Gh.rd 5 (fun K hK => ?_)
        go_simp
        (with_reducible refine (NE.out _).mono ?_)
        rintro e w3 ⟨rfl, b3⟩
        have HX := Lib.hid (HX.out.call b3)
        have SX := Lib.hid (SX.out.call b3)
        clear b3
        go_simp
        refine hK.out _ _ (And.intro (cell2 (HX.out.cell 1 rfl)) (HOP.out _ HX.out.bl)) (fun hHeld => ?_)
        clear hK K
        refine Gh.pt ?_
        refine Gh.rd 6 (fun K hK => ?_)
        go_simp
        (with_reducible refine (RM.out _ SX.out).mono ?_)
        rintro e w4 ⟨v, rfl, ⟨am, cm, rfl, sm⟩, b4⟩
        have HX := Lib.hid (HX.out.call b4)
        have SX := Lib.hid (SX.out.call b4)
        have SM := Lib.hid sm
        clear b4 sm
        unfold tv
        go_simp
        refine hK.out _ _ (And.intro (cell2 (HX.out.cell 1 rfl)) (HOP.out _ HX.out.bl)) (fun hHeld => ?_)
        clear hK K
        refine Gh.pt ?_
        refine Gh.tk 7 ?_
        refine Gh.tk 8 ?_
        refine Gh.tk 9 ?_
        refine Gh.rd 10 (fun K hK => ?_)
        obtain ⟨c0, c1⟩ := cell2 (HX.out.cell 0 rfl)
        have cf := HX.out.fz 0 rfl
        have SX := Lib.hid ((SX.out.set HX.out 0 rfl (by simp) 0 (.slice am M1.rows.length cm)).set (HX.out.set 0 rfl 0 (.slice am M1.rows.length cm)) 0 rfl (by simp) 1 (.int .i64 M1.mode))
        have SM := Lib.hid ((SM.out.set HX.out 0 rfl (by simp) 0 (.slice am M1.rows.length cm)).set (HX.out.set 0 rfl 0 (.slice am M1.rows.length cm)) 0 rfl (by simp) 1 (.int .i64 M1.mode))
        have HX := Lib.hid ((HX.out.set 0 rfl 0 (.slice am M1.rows.length cm)).set 0 rfl 1 (.int .i64 M1.mode))
        go_simp
        refine hK.out _ _ (And.intro (cell2 (HX.out.cell 1 rfl)) (HOP.out _ HX.out.bl)) (fun hHeld => ?_)
        clear hK K
        refine Gh.pt ?_
        refine Gh.tk 11 ?_
        refine wpAnyH_done (by kernel_rfl) ?_ _
        clear HOP NE RM
        by_cases he : M2 = 0
        · have he1 : (M2 == 0) = true := by simp [he]
          have EQ : Hid (M1 = madeN true l (i + 1)) := Lib.hid (by rw [MS.out, ST.out, if_pos he])
          obtain ⟨y0, y1⟩ := cell2 (HX.out.cell 0 rfl)
          obtain ⟨g0, g1⟩ := cell2 (HX.out.cell 1 rfl)
          have gf := HX.out.fz 1 rfl
          have H9 := Lib.hid ((HX.out.set 1 rfl 0 (.slice am M1.rows.length cm)).set 1 rfl 1 (.int .i64 M1.mode))
          have S9 := Lib.hid ((SM.out.set HX.out 1 rfl (by simp) 0 (.slice am M1.rows.length cm)).set (HX.out.set 1 rfl 0 (.slice am M1.rows.length cm)) 1 rfl (by simp) 1 (.int .i64 M1.mode))
          clear he
          go_wp2
          go_roundg (gk - 1)
          case measure => omega
          case rel => exact ⟨i + 1, M1, am, cm, by have := HI.out; omega, by go_num, EQ.out, H9.out.sub (List.sublist_cons_self _ _), S9.out⟩
        · have he1 : (M2 == 0) = false := by simp [he]
          have EQ : Hid (t = madeN true l (i + 1)) := Lib.hid (by rw [MS.out, ST.out, if_neg he])
          clear he
          go_wp2
          go_roundg (gk - 1)
          case measure => omega
          case rel => exact ⟨i + 1, t, ao, cap, by have := HI.out; omega, by go_num, EQ.out, HX.out.sub (List.sublist_cons_self _ _), SX.out⟩
      exact AllReadyH.nil
    · have hge : (l.length : Int) ≤ (i : Int) ∨ ((i : Int) < (l.length : Int) ∧ (16 : Int) ≤ (i : Int)) := by omega
      have e : i = min l.length 16 := by omega
      have ET : Hid (madeT true l = t) := Lib.hid (by unfold madeT; rw [← e]; exact HT.out.symm)
      have HF := Lib.hid ((HB.out.set 1 rfl 0 (.slice ao t.rows.length cap)).set 1 rfl 1 (.int .i64 t.mode))
      have SF := Lib.hid ((SX.out.set HB.out 1 rfl (by simp) 0 (.slice ao t.rows.length cap)).set (HB.out.set 1 rfl 0 (.slice ao t.rows.length cap)) 1 rfl (by simp) 1 (.int .i64 t.mode))
      obtain ⟨q0, q1⟩ := cell2 (HF.out.cell 1 rfl)
      clear hi hlt e HT
      rcases hge with hge | ⟨hge1, hge2⟩
      · go_wp2
        refine bodyPost_ret (v := .agg #[.slice ao t.rows.length cap, .int .i64 t.mode]) (by simp [results, Try.results10, go_sem, q0, q1]) rfl ⟨_, rfl, by rw [ET.out]; exact ⟨ao, cap, rfl, SF.out⟩, HF.out.bl⟩
      · go_wp2
        refine bodyPost_ret (v := .agg #[.slice ao t.rows.length cap, .int .i64 t.mode]) (by simp [results, Try.results10, go_sem, q0, q1]) rfl ⟨_, rfl, by rw [ET.out]; exact ⟨ao, cap, rfl, SF.out⟩, HF.out.bl⟩
end Go.Proofs.Ytgbnoifaknlkhaa.Ju
