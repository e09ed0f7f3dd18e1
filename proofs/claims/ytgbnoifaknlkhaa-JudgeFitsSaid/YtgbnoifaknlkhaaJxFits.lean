/- horariumlaw15.JudgeFits answers true at every row of numbers: a set that is changed by nothing but what may be fits in each mode, at each step. No condition. -/
import Derived.Test.YtgbnoifaknlkhaaJuS
import Derived.Test.YtgbnoifaknlkhaaJuO
import Derived.Deep.DeepCutAuto
namespace Go.Proofs.Ytgbnoifaknlkhaa.judgeFits
open Go.ChangeShapes Go.WideShapes Go.ChangeAt Go.RowKit Go.Joins
set_option maxRecDepth 100000
set_option linter.unusedVariables false
set_option linter.unusedSimpArgs false
open Tb
open Ju
open Pm (Tk)
open Ox (Od tk0)
open Ge (Seen Row)
open Qp (testR)
def FtRel (l : List Nm) (p : Nat) (w : World) (g : Nat) (s : Value) (wx : World) : Prop :=
  ∃ (i : Nat) (t : Tb.Tb) (ao : Option Addr) (cap : Nat), i + g = min l.length 24 ∧ s = .int .i64 (i : Int) ∧ fitsR t = 0 ∧ Bos [(p, #[.slice ao t.rows.length cap, .int .i64 t.mode], 29)] w wx ∧ Sl (.slice ao t.rows.length cap) t.rows wx ao cap
def FcRel (M1 : Tb.Tb) (M2 : Int) (t : Tb.Tb) (p : Nat) (ao : Option Addr) (cap : Nat) (w : World) (s6 s7 : Value) (wx : World) : Prop :=
  ∃ (q : Nat) (a : Option Addr) (c : Nat), s6 = .pointer (some ⟨q, 0, none⟩) ∧ s7 = .int .i64 M2 ∧ Bos [(q, #[.slice a M1.rows.length c, .int .i64 M1.mode], 29), (p, #[.slice ao t.rows.length cap, .int .i64 t.mode], 29)] w wx ∧ Sl (.slice a M1.rows.length c) M1.rows wx a c ∧ Sl (.slice ao t.rows.length cap) t.rows wx ao cap
def FmRel (L : List (Nat × Array Value × Nat)) (w W0 : World) (g : Nat) (s : Value) (wx : World) : Prop :=
  ∃ k : Nat, k + g = 4 ∧ s = .int .i64 (k : Int) ∧ Bos L w wx ∧ Below W0.heap.size W0 wx

set_option maxRecDepth 100000 in
set_option maxHeartbeats 16000000 in
theorem walk (l : List Nm) (lo : Option Addr) (lc : Nat) (w : World) (hl : l.length ≤ 9223372036854775807) (hL : Seen Nm.cs 7 lo l w) :
    Calls Try.prog 4 #[.slice lo l.length lc] w fun e w' => e = .returned (.bool true) ∧ Below w.heap.size w w' := by
  have AW := Lib.hid awake_any
  have SO := Lib.hid hL
  clear hL
  go_enter Try.func4, Try.ntmps4
  go_wp2_with fail
  (with_reducible refine (AW.out _).mono ?_)
  rintro e w1 ⟨rfl, b1⟩
  have H1 := Lib.hid ((show Bos [] w w1 from ⟨by simp, by simp, b1⟩).new #[.slice none 0 0, .int .i64 0] 29)
  have G : Hid (FtRel l w1.heap.size w (min l.length 24) (.int .i64 0) (w1.alloc (.cells #[.slice none 0 0, .int .i64 0] 29))) := Lib.hid ⟨0, tb0, none, 0, by omega, rfl, fits_tb0, H1.out, rfl, Nat.le_refl _, fun _ => rfl, Ge.seen_nil _ _⟩
  clear b1 AW H1
  go_wp2_with fail
  generalize w1.alloc (.cells #[.slice none 0 0, .int .i64 0] 29) = w2 at *
  generalize w1.heap.size = p at *
  go_loopg [5] (min l.length 24) (FtRel l p w)
  case atStart => exact G.out
  case round =>
    obtain ⟨i, t, ao, cap, hi, rfl, ht, hB, hsl⟩ := hrel
    have HX := Lib.hid hB.drew
    have SX := Lib.hid (hsl.call (Below.refl _ _).drew)
    have HZ := Lib.hid hB.bl
    have HI := Lib.hid hi
    obtain ⟨hc, hf⟩ := fits_zero.1 ht
    have hl16 := (chkT_iff.1 hc).2.2.1
    have FT := Lib.hid (And.intro hc hf)
    clear G hB hsl hf hc ht
    by_cases hlt : i < l.length ∧ i < 24
    · obtain ⟨h1, h2⟩ := hlt
      have hx := List.getElem?_eq_getElem h1
      obtain ⟨b, off, rfl, hop⟩ := seen_nm SO.out hx
      have HOP := Lib.hid hop
      have hg0 : 0 < gk := by omega
      have i1 : (i : Int) < (l.length : Int) := by omega
      have i2 : (i : Int) < 24 := by omega
      have i3 : IntKind.i64.wrap (i : Int) = (i : Int) := IntWalk.i64_in _ (by omega)
      generalize l[i] = x at *
      clear hx hop hi h1 h2
      have NE := Lib.hid (op_any x)
      have RA : Hid (∀ W, Sl (.slice ao t.rows.length cap) t.rows W ao cap → Calls Try.prog 13 #[tv ao t.rows.length cap t.mode, (opR x).v, .slice none 0 0] W fun e w' => ∃ v, e = .returned (.tuple #[v, .int .i64 (mayR t (opR x) []).2]) ∧ Tb.Told v (mayR t (opR x) []).1 w' ∧ Below W.heap.size W w') := Lib.hid (fun W h => may_any t (opR x) [] ao cap none 0 W h (by omega) (Ge.seen_nil _ _) (by simp))
      have MF : Hid ((mayR t (opR x) []).2 = 0 → fitsR (mayR t (opR x) []).1 = 0) := Lib.hid may_fits
      have MN : Hid ((mayR t (opR x) []).2 ≠ 0 → (mayR t (opR x) []).1 = tb0) := Lib.hid may_not
      generalize mayR t (opR x) [] = R at *
      generalize opR x = y at *
      obtain ⟨R1, R2⟩ := R
      simp only at RA MF MN
      obtain ⟨nk, ni, nc, nd, nt, nm, ns⟩ := x
      obtain ⟨yk, ⟨yi, yc, yd, yt, ym⟩, ys, yid, ycc, ymo⟩ := y
      unfold tv Od.v Od.cs Nm.v at *
      simp only at *
      go_upto_region 6 with (fail)
      go_cut [6, 7] (FcRel R1 R2 t p ao cap w)
      case first =>
        refine wp_region_held_drew (S := (fun W' => (W'.cell? ⟨p, 0, none⟩ = some (.slice ao t.rows.length cap) ∧ W'.cell? ⟨p, 1, none⟩ = some (.int .i64 t.mode)) ∧ (W'.cell? ⟨b, off + i * 7, none⟩ = some (.int .i64 nk) ∧ W'.cell? ⟨b, off + i * 7 + 1, none⟩ = some (.int .i64 ni) ∧ W'.cell? ⟨b, off + i * 7 + 2, none⟩ = some (.int .i64 nc) ∧ W'.cell? ⟨b, off + i * 7 + 3, none⟩ = some (.int .i64 nd) ∧ W'.cell? ⟨b, off + i * 7 + 4, none⟩ = some (.int .i64 nt) ∧ W'.cell? ⟨b, off + i * 7 + 5, none⟩ = some (.int .i64 nm) ∧ W'.cell? ⟨b, off + i * 7 + 6, none⟩ = some (.bool ns)))) (by kernel_rfl) (And.intro (cell2 (HX.out.cell 0 rfl)) (HOP.out _ HX.out.bl)) (fun hHeld => ?_)
        refine Gh.tk 0 ?_
        refine Gh.tk 1 ?_
        refine Gh.tk 2 ?_
        refine Gh.tk 3 ?_
        refine Gh.tk 4 ?_
        refine wpAnyH_ready (rs := [5, 10]) (by kernel_rfl) (by simp) ?_
        refine AllReadyH.cons rfl (fun K hK => ?_) ?_
        · go_simp
          (with_reducible refine (NE.out _).mono ?_)
          rintro e w1 ⟨rfl, b1⟩
          have HX := Lib.hid (HX.out.call b1)
          have SX := Lib.hid (SX.out.call b1)
          clear b1
          go_simp
          refine hK.out _ _ (And.intro (cell2 (HX.out.cell 0 rfl)) (HOP.out _ HX.out.bl)) (fun hHeld => ?_)
          clear hK K
          refine Gh.pt ?_
          refine wpAnyH_ready (rs := [6, 10]) (by kernel_rfl) (by simp) ?_
          refine AllReadyH.cons rfl (fun K hK => ?_) ?_
          · go_simp
            (with_reducible refine (RA.out _ SX.out).mono ?_)
            rintro e w2 ⟨v, rfl, ⟨ao', cap', rfl, sn⟩, b2⟩
            have HX := Lib.hid (HX.out.call b2)
            have SX := Lib.hid (SX.out.call b2)
            have SN := Lib.hid sn
            clear b2 sn
            unfold tv
            go_simp
            refine hK.out _ _ (And.intro (cell2 (HX.out.cell 0 rfl)) (HOP.out _ HX.out.bl)) (fun hHeld => ?_)
            clear hK K
            refine Gh.pt ?_
            refine Gh.tk 7 ?_
            refine Gh.tk 8 ?_
            refine Gh.tk 9 ?_
            refine Gh.rd 10 (fun K hK => ?_)
            have HY := Lib.hid HX.out
            have SXY := Lib.hid SX.out
            have SNY := Lib.hid SN.out
            have HX := Lib.hid (HX.out.new #[.slice none 0 0, .int .i64 0] 29)
            have SX := Lib.hid (SX.out.call ((Below.refl _ _).alloc (Nat.le_refl _) (.cells #[.slice none 0 0, .int .i64 0] 29)))
            have SN := Lib.hid (SN.out.call ((Below.refl _ _).alloc (Nat.le_refl _) (.cells #[.slice none 0 0, .int .i64 0] 29)))
            go_simp
            refine hK.out _ _ (And.intro (cell2 (HX.out.cell 1 rfl)) (HOP.out _ HX.out.bl)) (fun hHeld => ?_)
            clear hK K
            refine Gh.pt ?_
            refine Gh.rd 11 (fun K hK => ?_)
            have HX := Lib.hid (HY.out.new #[.slice ao' R1.rows.length cap', .int .i64 R1.mode] 29)
            have SX := Lib.hid (SXY.out.call ((Below.refl _ _).alloc (Nat.le_refl _) (.cells #[.slice ao' R1.rows.length cap', .int .i64 R1.mode] 29)))
            have SN := Lib.hid (SNY.out.call ((Below.refl _ _).alloc (Nat.le_refl _) (.cells #[.slice ao' R1.rows.length cap', .int .i64 R1.mode] 29)))
            go_simp
            refine hK.out _ _ (And.intro (cell2 (HX.out.cell 1 rfl)) (HOP.out _ HX.out.bl)) (fun hHeld => ?_)
            clear hK K
            refine Gh.pt ?_
            refine Gh.tk 12 ?_
            refine wpAnyH_done (by kernel_rfl) ?_ _
            go_wp2_with fail
            go_meet
            exact ⟨_, _, _, rfl, rfl, HX.out, SN.out, SX.out⟩
          refine AllReadyH.cons rfl (fun K hK => ?_) ?_
          · have HY := Lib.hid HX.out
            have SXY := Lib.hid SX.out
            have HX := Lib.hid (HX.out.new #[.slice none 0 0, .int .i64 0] 29)
            have SX := Lib.hid (SX.out.call ((Below.refl _ _).alloc (Nat.le_refl _) (.cells #[.slice none 0 0, .int .i64 0] 29)))
            go_simp
            refine hK.out _ _ (And.intro (cell2 (HX.out.cell 1 rfl)) (HOP.out _ HX.out.bl)) (fun hHeld => ?_)
            clear hK K
            refine Gh.pt ?_
            refine Gh.rd 6 (fun K hK => ?_)
            go_simp
            (with_reducible refine (RA.out _ SX.out).mono ?_)
            rintro e w2 ⟨v, rfl, ⟨ao', cap', rfl, sn⟩, b2⟩
            have HX := Lib.hid (HX.out.call b2)
            have SX := Lib.hid (SX.out.call b2)
            have SN := Lib.hid sn
            clear b2 sn
            unfold tv
            go_simp
            refine hK.out _ _ (And.intro (cell2 (HX.out.cell 1 rfl)) (HOP.out _ HX.out.bl)) (fun hHeld => ?_)
            clear hK K
            refine Gh.pt ?_
            refine Gh.tk 7 ?_
            refine Gh.tk 8 ?_
            refine Gh.tk 9 ?_
            refine Gh.rd 11 (fun K hK => ?_)
            obtain ⟨c0, c1⟩ := cell2 (HX.out.cell 0 rfl)
            have cf := HX.out.fz 0 rfl
            have SX := Lib.hid ((SX.out.set HX.out 0 rfl (by simp) 0 (.slice ao' R1.rows.length cap')).set (HX.out.set 0 rfl 0 (.slice ao' R1.rows.length cap')) 0 rfl (by simp) 1 (.int .i64 R1.mode))
            have SN := Lib.hid ((SN.out.set HX.out 0 rfl (by simp) 0 (.slice ao' R1.rows.length cap')).set (HX.out.set 0 rfl 0 (.slice ao' R1.rows.length cap')) 0 rfl (by simp) 1 (.int .i64 R1.mode))
            have HX := Lib.hid ((HX.out.set 0 rfl 0 (.slice ao' R1.rows.length cap')).set 0 rfl 1 (.int .i64 R1.mode))
            go_simp
            refine hK.out _ _ (And.intro (cell2 (HX.out.cell 1 rfl)) (HOP.out _ HX.out.bl)) (fun hHeld => ?_)
            clear hK K
            refine Gh.pt ?_
            refine Gh.tk 12 ?_
            refine wpAnyH_done (by kernel_rfl) ?_ _
            go_wp2_with fail
            go_meet
            exact ⟨_, _, _, rfl, rfl, HX.out, SN.out, SX.out⟩
          exact AllReadyH.nil
        refine AllReadyH.cons rfl (fun K hK => ?_) ?_
        · have HY := Lib.hid HX.out
          have SXY := Lib.hid SX.out
          have HX := Lib.hid (HX.out.new #[.slice none 0 0, .int .i64 0] 29)
          have SX := Lib.hid (SX.out.call ((Below.refl _ _).alloc (Nat.le_refl _) (.cells #[.slice none 0 0, .int .i64 0] 29)))
          have HX : Hid (Bos ((wr.heap.size, #[.slice none 0 0, .int .i64 0], 29) :: _) w _) := Lib.hid HX.out
          go_simp
          refine hK.out _ _ (And.intro (cell2 (HX.out.cell 1 rfl)) (HOP.out _ HX.out.bl)) (fun hHeld => ?_)
          clear hK K
          refine Gh.pt ?_
          refine Gh.rd 5 (fun K hK => ?_)
          go_simp
          (with_reducible refine (NE.out _).mono ?_)
          rintro e w1 ⟨rfl, b1⟩
          have HX := Lib.hid (HX.out.call b1)
          have SX := Lib.hid (SX.out.call b1)
          clear b1
          go_simp
          refine hK.out _ _ (And.intro (cell2 (HX.out.cell 1 rfl)) (HOP.out _ HX.out.bl)) (fun hHeld => ?_)
          clear hK K
          refine Gh.pt ?_
          refine Gh.rd 6 (fun K hK => ?_)
          go_simp
          (with_reducible refine (RA.out _ SX.out).mono ?_)
          rintro e w2 ⟨v, rfl, ⟨ao', cap', rfl, sn⟩, b2⟩
          have HX := Lib.hid (HX.out.call b2)
          have SX := Lib.hid (SX.out.call b2)
          have SN := Lib.hid sn
          clear b2 sn
          unfold tv
          go_simp
          refine hK.out _ _ (And.intro (cell2 (HX.out.cell 1 rfl)) (HOP.out _ HX.out.bl)) (fun hHeld => ?_)
          clear hK K
          refine Gh.pt ?_
          refine Gh.tk 7 ?_
          refine Gh.tk 8 ?_
          refine Gh.tk 9 ?_
          refine Gh.rd 11 (fun K hK => ?_)
          obtain ⟨c0, c1⟩ := cell2 (HX.out.cell 0 rfl)
          have cf := HX.out.fz 0 rfl
          have SX := Lib.hid ((SX.out.set HX.out 0 rfl (by simp) 0 (.slice ao' R1.rows.length cap')).set (HX.out.set 0 rfl 0 (.slice ao' R1.rows.length cap')) 0 rfl (by simp) 1 (.int .i64 R1.mode))
          have SN := Lib.hid ((SN.out.set HX.out 0 rfl (by simp) 0 (.slice ao' R1.rows.length cap')).set (HX.out.set 0 rfl 0 (.slice ao' R1.rows.length cap')) 0 rfl (by simp) 1 (.int .i64 R1.mode))
          have HX := Lib.hid ((HX.out.set 0 rfl 0 (.slice ao' R1.rows.length cap')).set 0 rfl 1 (.int .i64 R1.mode))
          go_simp
          refine hK.out _ _ (And.intro (cell2 (HX.out.cell 1 rfl)) (HOP.out _ HX.out.bl)) (fun hHeld => ?_)
          clear hK K
          refine Gh.pt ?_
          refine Gh.tk 12 ?_
          refine wpAnyH_done (by kernel_rfl) ?_ _
          go_wp2_with fail
          go_meet
          exact ⟨_, _, _, rfl, rfl, HX.out, SN.out, SX.out⟩
        exact AllReadyH.nil
      case rest =>
        obtain ⟨q, a, c, rfl, rfl, hB, sM, sT⟩ := hcut
        clear HX SX NE RA HOP
        by_cases hR : R2 = 0
        · have hR' : (R2 == 0) = true := by simp [hR]
          have FZ := Lib.hid (fits_zero.1 (MF.out hR))
          have FZ0 := Lib.hid (MF.out hR)
          obtain ⟨y0, y1⟩ := cell2 (hB.cell 0 rfl)
          obtain ⟨g0, g1⟩ := cell2 (hB.cell 1 rfl)
          have gf := hB.fz 1 rfl
          have HX := Lib.hid (((hB.set 1 rfl 0 (.slice a R1.rows.length c)).set 1 rfl 1 (.int .i64 R1.mode)).sub (List.sublist_cons_self _ _))
          have SX := Lib.hid ((sM.set hB 1 rfl (by simp) 0 (.slice a R1.rows.length c)).set (hB.set 1 rfl 0 (.slice a R1.rows.length c)) 1 rfl (by simp) 1 (.int .i64 R1.mode))
          clear hB sM sT MF MN FT hR
          go_wp2_with fail
          have INC : Hid (∀ (k : Int) W, 0 ≤ k ∧ k ≤ 3 → Sl (.slice a R1.rows.length c) R1.rows W a c → Calls Try.prog 15 #[tv a R1.rows.length c R1.mode, .int .i64 k] W fun e w' => ∃ o c, e = .returned (.slice o (inT k R1.rows).length c) ∧ Seen tcs 5 o (inT k R1.rows) w' ∧ Below W.heap.size W w') := Lib.hid (fun k W hk h => by
            have := rin_seen R1.rows a c R1.mode k W h.seen (by have := (chkT_iff.1 FZ.out.1).2.2.1; omega)
            rw [inM_in _ hk] at this
            exact this)
          have TEC : Hid (∀ (k : Int) W o c, 0 ≤ k ∧ k ≤ 3 → Seen tcs 5 o (inT k R1.rows) W → Calls Try.prog 14 #[.slice o (inT k R1.rows).length c] W fun e w' => e = .returned (.int .i64 0) ∧ Below W.heap.size W w') := Lib.hid (fun k W o c hk h => by
            have := rtest_seen _ o c W h (by have := inT_len k R1.rows; have := (chkT_iff.1 FZ.out.1).2.2.1; omega)
            rw [FZ.out.2 k hk.1 hk.2] at this
            exact this)
          have CKC : Hid (∀ W, Sl (.slice a R1.rows.length c) R1.rows W a c → Calls Try.prog 16 #[tv a R1.rows.length c R1.mode] W fun e w' => e = .returned (.bool true) ∧ Below W.heap.size W w') := Lib.hid (fun W h => by
            have := rcheck_any R1 a c W h.seen (by have := (chkT_iff.1 FZ.out.1).2.2.1; omega)
            rw [FZ.out.1] at this
            exact this)
          unfold tv at INC CKC
          generalize hW0 : (wc.setCell ⟨p, 0, none⟩ (.slice a R1.rows.length c)).setCell ⟨p, 1, none⟩ (.int .i64 R1.mode) = W0 at *
          clear hW0
          go_loopg [8] 4 (FmRel [(p, #[.slice a R1.rows.length c, .int .i64 R1.mode], 29)] w W0)
          case atStart => exact ⟨0, rfl, rfl, HX.out, Below.refl _ _⟩
          case round =>
            obtain ⟨k, hk, rfl, hB, hb0⟩ := hrel
            have H3 := Lib.hid hB
            have S3 := Lib.hid (SX.out.call hb0)
            have HB0 := Lib.hid hb0
            clear hB hb0
            obtain ⟨t0, t1⟩ := cell2 (H3.out.cell 0 rfl)
            by_cases hk4 : k < 4
            · have hk' : (k : Int) < 4 := by omega
              have hg2 : 0 < gk := by omega
              have IC := Lib.hid (INC.out (k : Int) _ (by omega) S3.out)
              clear INC CKC HX SX
              go_wp2_with fail
              (with_reducible refine IC.out.mono ?_)
              rintro e w3 ⟨o3, c3, rfl, s3, b3⟩
              have TC := Lib.hid (TEC.out (k : Int) _ o3 c3 (by omega) s3)
              have H4 := Lib.hid (H3.out.call b3)
              have B4 := Lib.hid b3
              clear s3 b3 IC TEC t0 t1
              go_wp2_with fail
              (with_reducible refine TC.out.mono ?_)
              rintro e w4 ⟨rfl, b4⟩
              have H5 := Lib.hid (H4.out.call b4)
              have B5 := Lib.hid (B4.out.trans (b4.mono B4.out.size))
              clear b4 TC
              go_wp2
              go_roundg (gk - 1)
              case measure => omega
              case rel => exact ⟨k + 1, by omega, by go_num, H5.out, HB0.out.trans (B5.out.mono HB0.out.size)⟩
            · obtain rfl : k = 4 := by omega
              have CC := Lib.hid (CKC.out _ S3.out)
              clear INC TEC CKC HX SX
              go_wp2_with fail
              (with_reducible refine CC.out.mono ?_)
              rintro e w3 ⟨rfl, b3⟩
              have H4 := Lib.hid (H3.out.call b3)
              have S4 := Lib.hid (S3.out.call b3)
              clear b3 CC t0 t1 H3 S3
              go_wp2
              go_roundg (min l.length 24 - (i + 1))
              case measure => have := HI.out; omega
              case rel => exact ⟨i + 1, R1, a, c, by have := HI.out; omega, by go_num, FZ0.out, H4.out, S4.out⟩
        · have hR' : (R2 == 0) = false := by simp [hR]
          have EM := MN.out hR
          subst EM
          have e0 : (tb0 : Tb.Tb).rows.length = 0 := rfl
          have e1 : (tb0 : Tb.Tb).mode = 0 := rfl
          rw [e0, e1] at hB
          obtain ⟨y0, y1⟩ := cell2 (hB.cell 0 rfl)
          have FZ := Lib.hid FT.out
          have FZ0 := Lib.hid (fits_zero.2 FT.out)
          have HX := Lib.hid (hB.sub (List.sublist_cons_self _ _))
          have SX := Lib.hid sT
          clear hB sM sT MF MN FT hR e0 e1
          go_wp2_with fail
          have INC : Hid (∀ (k : Int) W, 0 ≤ k ∧ k ≤ 3 → Sl (.slice ao t.rows.length cap) t.rows W ao cap → Calls Try.prog 15 #[tv ao t.rows.length cap t.mode, .int .i64 k] W fun e w' => ∃ o c, e = .returned (.slice o (inT k t.rows).length c) ∧ Seen tcs 5 o (inT k t.rows) w' ∧ Below W.heap.size W w') := Lib.hid (fun k W hk h => by
            have := rin_seen t.rows ao cap t.mode k W h.seen (by have := (chkT_iff.1 FZ.out.1).2.2.1; omega)
            rw [inM_in _ hk] at this
            exact this)
          have TEC : Hid (∀ (k : Int) W o c, 0 ≤ k ∧ k ≤ 3 → Seen tcs 5 o (inT k t.rows) W → Calls Try.prog 14 #[.slice o (inT k t.rows).length c] W fun e w' => e = .returned (.int .i64 0) ∧ Below W.heap.size W w') := Lib.hid (fun k W o c hk h => by
            have := rtest_seen _ o c W h (by have := inT_len k t.rows; have := (chkT_iff.1 FZ.out.1).2.2.1; omega)
            rw [FZ.out.2 k hk.1 hk.2] at this
            exact this)
          have CKC : Hid (∀ W, Sl (.slice ao t.rows.length cap) t.rows W ao cap → Calls Try.prog 16 #[tv ao t.rows.length cap t.mode] W fun e w' => e = .returned (.bool true) ∧ Below W.heap.size W w') := Lib.hid (fun W h => by
            have := rcheck_any t ao cap W h.seen (by have := (chkT_iff.1 FZ.out.1).2.2.1; omega)
            rw [FZ.out.1] at this
            exact this)
          unfold tv at INC CKC
          go_loopg [8] 4 (FmRel [(p, #[.slice ao t.rows.length cap, .int .i64 t.mode], 29)] w wc)
          case atStart => exact ⟨0, rfl, rfl, HX.out, Below.refl _ _⟩
          case round =>
            obtain ⟨k, hk, rfl, hB, hb0⟩ := hrel
            have H3 := Lib.hid hB
            have S3 := Lib.hid (SX.out.call hb0)
            have HB0 := Lib.hid hb0
            clear hB hb0
            obtain ⟨t0, t1⟩ := cell2 (H3.out.cell 0 rfl)
            by_cases hk4 : k < 4
            · have hk' : (k : Int) < 4 := by omega
              have hg2 : 0 < gk := by omega
              have IC := Lib.hid (INC.out (k : Int) _ (by omega) S3.out)
              clear INC CKC HX SX
              go_wp2_with fail
              (with_reducible refine IC.out.mono ?_)
              rintro e w3 ⟨o3, c3, rfl, s3, b3⟩
              have TC := Lib.hid (TEC.out (k : Int) _ o3 c3 (by omega) s3)
              have H4 := Lib.hid (H3.out.call b3)
              have B4 := Lib.hid b3
              clear s3 b3 IC TEC t0 t1
              go_wp2_with fail
              (with_reducible refine TC.out.mono ?_)
              rintro e w4 ⟨rfl, b4⟩
              have H5 := Lib.hid (H4.out.call b4)
              have B5 := Lib.hid (B4.out.trans (b4.mono B4.out.size))
              clear b4 TC
              go_wp2
              go_roundg (gk - 1)
              case measure => omega
              case rel => exact ⟨k + 1, by omega, by go_num, H5.out, HB0.out.trans (B5.out.mono HB0.out.size)⟩
            · obtain rfl : k = 4 := by omega
              have CC := Lib.hid (CKC.out _ S3.out)
              clear INC TEC CKC HX SX
              go_wp2_with fail
              (with_reducible refine CC.out.mono ?_)
              rintro e w3 ⟨rfl, b3⟩
              have H4 := Lib.hid (H3.out.call b3)
              have S4 := Lib.hid (S3.out.call b3)
              clear b3 CC t0 t1 H3 S3
              go_wp2
              go_roundg (min l.length 24 - (i + 1))
              case measure => have := HI.out; omega
              case rel => exact ⟨i + 1, t, ao, cap, by have := HI.out; omega, by go_num, FZ0.out, H4.out, S4.out⟩
    · have hge : (l.length : Int) ≤ (i : Int) ∨ ((i : Int) < (l.length : Int) ∧ (24 : Int) ≤ (i : Int)) := by omega
      clear hi hlt HX SX FT
      rcases hge with hge | ⟨hge1, hge2⟩ <;>
      · go_wp2
        go_ret
        exact ⟨rfl, HZ.out⟩

set_option maxRecDepth 100000 in
set_option maxHeartbeats 1600000 in
theorem lifted (os : Os) (started : os.Started) (H : Type) (enc : TypeId × Value → H) :
    ReturnsInHanded {} Try.checked os 4 .any (Rows.judgeFitsSpec.pre6 enc Try.prog Try.f4 Rows.judgeFitsRow.domain false) (Rows.judgeFitsSpec.post enc Try.prog Try.f4 false true false false) := by
  refine returnsInHanded_of_change (C := Try.checked) own started (by kernel_rfl) Try.func4
    (ChangeSpec.witness6 (enc := enc) (C := Try.checked) false ⟨#[], #[.slice none 0 0], []⟩ 8 (by kernel_rfl) (by kernel_rfl) (by kernel_rfl) (by kernel_rfl)) ?_
  intro W base args ds gs before hval0 hW hcnd _
  have hval : ∀ (j : Nat) t v, Try.f4.params[j]? = some t → args[j]? = some v → Value.okWide Try.prog W .any base t v := hval0
  have hW' := hW
  obtain ⟨p, q, hA0, hV, rfl, hfz, hnd⟩ := hW
  have hA : DataW.TrodAll enc Try.prog W 0 (fun _ => true) true Try.f4.params.toList args.toList ds p := hA0
  rw [Try.params4] at hA hval
  obtain ⟨v0, vs0, d0, ds0, p0, q0, hargs, rfl, rfl, h0, r0⟩ := trodAll_cons hA
  obtain ⟨rfl, rfl, rfl⟩ := trodAll_nil r0
  obtain rfl : args = #[v0] := by cases args; simp_all
  obtain ⟨rfl, rfl⟩ := trodVars_none hV
  have lt0 : ∀ x ∈ p0, x.block < W.heap.size := by obtain ⟨m, hm⟩ := h0; exact DataW.trod_lt m _ _ _ hm
  obtain ⟨lo, l, lc, rfl, ll, lm, ls⟩ := open_nms (hval 0 22 v0 rfl rfl) h0
  clear hA0 hval0
  refine (walk l lo lc W ll ls).mono fun e W' ⟨he, bel⟩ => ?_
  subst he
  exact ⟨_, rfl, _, _, _, [], _, [], hW', trodAll_mk1 (shut_bool Try.underlying4 _), (trodAll_cons_mk (Below.trod laidOut (by kernel_rfl) (of_decide_eq_true (by kernel_rfl)) h0 bel lt0) trodAll_mk0), rfl, bel.frame _, fun h => by cases h⟩

theorem proved : Rows.JudgeFitsSaid :=
  OpenClaim.holds_of_wide 4 Try.f4 rfl rfl rfl rfl rfl rfl rfl ⟨rfl, rfl, rfl, rfl, rfl⟩ rfl rfl rfl rfl rfl (by kernel_rfl) Try.func4 (by kernel_rfl)
    (of_decide_eq_true (by kernel_rfl)) (by unfold Func.isWrapper; first | (rw [if_pos (by decide +kernel)]; kernel_rfl) | (rw [if_neg (by decide +kernel)]; exact ⟨rfl, rfl⟩))
    (fun os started H enc _ => lifted os started H enc)
#print axioms proved
end Go.Proofs.Ytgbnoifaknlkhaa.judgeFits
