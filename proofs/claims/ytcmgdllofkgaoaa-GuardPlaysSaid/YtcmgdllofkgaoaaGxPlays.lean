/- horariumlaw17.GuardPlays answers true at every row of steps: a guard goes on, step by step, as the document says. No condition. -/
import Derived.Test.YtcmgdllofkgaoaaGdO
import Derived.Deep.CutBlock
import Derived.Deep.DeepCutAuto
import Derived.Test.YtcmgdllofkgaoaaGnH
namespace Go.Proofs.Ytcmgdllofkgaoaa.guardPlays
open Go.ChangeShapes Go.WideShapes Go.ChangeAt Go.RowKit Go.Joins
set_option maxRecDepth 100000
set_option linter.unusedVariables false
set_option linter.unusedSimpArgs false
open Gd
open Ge (El Seen Row)
/-- i steps were made -/
def PlRel (n : Nat) (w : World) (g r : Nat) (m : Nat) (s6 s7 : Value) (wr : World) : Prop :=
  ∃ (i : Nat) (now : Int) (mo : Option Nat) (v : Value) (L : List Kn), i + m = n ∧ s6 = .int .i64 now ∧ s7 = .int .i64 (i : Int) ∧ Gm w.heap.size wr g mo L ∧ Rg w.heap.size wr r v L ∧ L.length ≤ i ∧ 0 ≤ now ∧ now ≤ 7 * (i : Int) ∧ Below w.heap.size w wr
/-- the step's period and slot stand -/
def NrRel (i : Nat) (w : World) (g r ob : Nat) (mo : Option Nat) (v : Value) (L : List Kn) (id : Int) (near fo : Bool) (s6 : Value) (wx : World) : Prop :=
  ∃ (now P N : Int), s6 = .int .i64 now ∧ 0 ≤ now ∧ now ≤ 7 * ((i : Int) + 1) ∧ wx.heap[ob]? = some (.cells #[.int .i64 id, .int .i64 P, .int .i64 N, .bool near, .bool fo] 31 (0, 0)) ∧ Gm w.heap.size wx g mo L ∧ Rg w.heap.size wx r v L ∧ Below w.heap.size w wx
/-- the step was made on both -/
def ReRel (i : Nat) (w : World) (g r : Nat) (s10 : Value) (wx : World) : Prop :=
  ∃ (mo : Option Nat) (v : Value) (L : List Kn), s10 = .bool true ∧ Gm w.heap.size wx g mo L ∧ Rg w.heap.size wx r v L ∧ L.length ≤ i + 1 ∧ Below w.heap.size w wx
theorem below_drewN (W : World) (n : Nat) : Below W.heap.size W (W.drewN n) := ⟨by simp [World.drewN], by simp [World.drewN], by simp [World.drewN], by simp [World.drewN], fun k _ => by simp [World.drewN]⟩

set_option maxRecDepth 100000 in
set_option maxHeartbeats 16000000 in
theorem walk (l : List Stp) (lo : Option Addr) (lc : Nat) (w : World) (hl : l.length ≤ 9223372036854775807) (hL : Seen oc 5 lo l w) : Calls Try.prog 3 #[.slice lo l.length lc] w fun e w' => e = .returned (.bool true) ∧ Below w.heap.size w w' := by
  have AW := Lib.hid awake_any
  have NW := Lib.hid new_any
  have RE := Lib.hid (fun g mo L i p n hi hL W h hB => release_any w.heap.size g mo L i p n hi hL W h hB)
  have FO := Lib.hid (fun g mo L i hi W h => forget_any w.heap.size g mo L i hi W h)
  have LA := Lib.hid (fun g mo L i hi W h => last_any w.heap.size g mo L i hi W h)
  have NE := Lib.hid (fun g mo L i hi W h => next_any w.heap.size g mo L i hi W h)
  have ID := Lib.hid (fun g mo L hL W h => ids_any w.heap.size g mo L hL W h)
  have LE := Lib.hid (fun g mo L W h => len_any w.heap.size g mo L W h)
  have RRE := Lib.hid (fun r v L i p n hL hri W h => rrelease_any w.heap.size r v L i p n hL hri W h)
  have RFO := Lib.hid (fun r v L i hL hri W h => rforget_any w.heap.size r v L i hL hri W h)
  have RLA := Lib.hid (fun r v L i hL W h => rlast_any w.heap.size r v L i hL W h)
  have RNE := Lib.hid (fun r v L i hL W h => rnext_any w.heap.size r v L i hL W h)
  have RID := Lib.hid (fun r v L hL W h => rids_any w.heap.size r v L hL W h)
  have SA := Lib.hid same_any
  have NS := Lib.hid hL
  clear hL
  go_enter Try.func3, Try.ntmps3
  go_wp2_with fail
  (with_reducible refine (AW.out _).mono ?_)
  rintro e w1 ⟨rfl, b1⟩
  have B1 := Lib.hid b1
  clear b1 AW
  go_wp2_with fail
  (with_reducible refine (NW.out _).mono ?_)
  rintro e w2 ⟨rfl, rfl⟩
  have H0 := Lib.hid (gm_new w1)
  have B2 : Hid (Below w.heap.size w (w1.alloc (.cells #[.map none] 47))) := Lib.hid (B1.out.alloc B1.out.size _)
  have hB0 : w.heap.size ≤ w1.heap.size := B1.out.size
  generalize w1.alloc (.cells #[.map none] 47) = W1 at *
  have H1 := Lib.hid (H0.out.mono hB0)
  generalize w1.heap.size = g at *
  clear H0 B1 NW hB0
  have R0 : Hid (Rg w.heap.size (W1.alloc (.cells #[.slice none 0 0] 29)) W1.heap.size (.slice none 0 0) []) := Lib.hid ((rg_new W1).mono B2.out.size)
  have G0 : Hid (Gm w.heap.size (W1.alloc (.cells #[.slice none 0 0] 29)) g none []) := Lib.hid (H1.out.call ((Below.refl _ W1).alloc (Nat.le_refl _) _))
  have B3 : Hid (Below w.heap.size w (W1.alloc (.cells #[.slice none 0 0] 29))) := Lib.hid (B2.out.alloc B2.out.size _)
  clear H1 B2
  go_wp2_with fail
  generalize W1.alloc (.cells #[.slice none 0 0] 29) = W2 at *
  generalize W1.heap.size = r at *
  obtain ⟨n, hn⟩ : ∃ n, n = min l.length 60 := ⟨_, rfl⟩
  have HN := Lib.hid hn
  clear hn
  go_loopg [6, 7] n (PlRel n w g r)
  case atStart => exact ⟨0, 0, none, _, [], by omega, rfl, rfl, G0.out, R0.out, by simp, by omega, by omega, B3.out⟩
  case round =>
    obtain ⟨i, now, mo, v, L, hi, rfl, rfl, hgm, hrg, hLl, n0, n1, hb⟩ := hrel
    have HG := Lib.hid hgm
    have HR := Lib.hid hrg
    have HB := Lib.hid hb
    clear G0 R0 B3 hgm hrg hb
    by_cases hlt : i < n
    · have hil : i < l.length := by have := HN.out; omega
      have hi60 : i < 60 := by have := HN.out; omega
      obtain ⟨o, ho⟩ : ∃ o, l[i]? = some o := ⟨_, List.getElem?_eq_getElem hil⟩
      obtain ⟨lb, off, rfl, o0, o1, o2, o3, o4⟩ := seen_op (NS.out.below HB.out (Nat.le_refl _)) ho
      obtain ⟨oi, op, on, near, fo⟩ := o
      simp only at o0 o1 o2 o3 o4
      have hil1 : (i : Int) < (l.length : Int) := by omega
      have hi61 : (i : Int) < 60 := by omega
      have hiw : IntKind.i64.wrap (i : Int) = (i : Int) := IntWalk.i64_in _ (by omega)
      have hiw1 : IntKind.i64.wrap ((i : Int) + 1) = (i : Int) + 1 := IntWalk.i64_in _ (by omega)
      obtain ⟨u, hu, u0, u1⟩ : ∃ u, bits .and .i64 oi 7 = u ∧ 0 ≤ u ∧ u ≤ 7 := ⟨_, and_pow oi 7 3 (by decide) (by decide), by omega, by omega⟩
      obtain ⟨x, hx, x0, x1⟩ : ∃ x, bits .and .i64 on 7 = x ∧ 0 ≤ x ∧ x ≤ 7 := ⟨_, and_pow on 7 3 (by decide) (by decide), by omega, by omega⟩
      obtain ⟨y, hy, y0, y1⟩ : ∃ y, bits .and .i64 op 7 = y ∧ 0 ≤ y ∧ y ≤ 7 := ⟨_, and_pow op 7 3 (by decide) (by decide), by omega, by omega⟩
      obtain ⟨N, hN⟩ : ∃ N, N = now + x := ⟨_, rfl⟩
      have hNw : IntKind.i64.wrap (now + x) = N := by rw [hN]; exact IntWalk.i64_in _ (by omega)
      obtain ⟨P, hP⟩ : ∃ P, P = 1 + y := ⟨_, rfl⟩
      have hPw : IntKind.i64.wrap (1 + y) = P := by rw [hP]; exact IntWalk.i64_in _ (by omega)
      have N0 : 0 ≤ N := by omega
      have N1 : N ≤ 7 * ((i : Int) + 1) := by omega
      have huw : IntKind.i64.wrap u = u := IntWalk.i64_in _ (by omega)
      have wu : -9223372036854775808 ≤ u ∧ u ≤ 9223372036854775807 := by omega
      have W3 : Hid (Below w.heap.size w (wr.alloc (.cells #[.int .i64 oi, .int .i64 op, .int .i64 on, .bool near, .bool fo] 31))) := Lib.hid (HB.out.alloc HB.out.size _)
      have b3 : Below wr.heap.size wr (wr.alloc (.cells #[.int .i64 oi, .int .i64 op, .int .i64 on, .bool near, .bool fo] 31)) := (Below.refl _ wr).alloc (Nat.le_refl _) _
      have G3 := Lib.hid (HG.out.call b3)
      have R3 := Lib.hid (HR.out.call b3)
      have O3 : Hid ((wr.alloc (.cells #[.int .i64 oi, .int .i64 op, .int .i64 on, .bool near, .bool fo] 31)).heap[wr.heap.size]? = some (.cells #[.int .i64 oi, .int .i64 op, .int .i64 on, .bool near, .bool fo] 31 (0, 0))) := Lib.hid (heap_alloc_new wr _)
      have OS := Lib.hid HB.out.size
      have HI := Lib.hid hi
      have HLT := Lib.hid hlt
      have n2 : 0 ≤ now ∧ now ≤ 7 * ((i : Int) + 1) := by omega
      clear ho hi hlt hN hP b3 HG HR HB n0 n1 x0 x1 y0 y1 u0 u1
      go_upto_region 11 with (fail)
      generalize wr.alloc (.cells #[.int .i64 oi, .int .i64 op, .int .i64 on, .bool near, .bool fo] 31) = WO at *
      generalize wr.heap.size = ob at *
      have d0 : WO.cell? ⟨ob, 0, none⟩ = some (.int .i64 oi) := by rw [Lib.cell_of_heap O3.out]; rfl
      have d1 : WO.cell? ⟨ob, 1, none⟩ = some (.int .i64 op) := by rw [Lib.cell_of_heap O3.out]; rfl
      have d2 : WO.cell? ⟨ob, 2, none⟩ = some (.int .i64 on) := by rw [Lib.cell_of_heap O3.out]; rfl
      have d3 : WO.cell? ⟨ob, 3, none⟩ = some (.bool near) := by rw [Lib.cell_of_heap O3.out]; rfl
      have f1 := Lib.frozen_of_heap O3.out 1
      have f2 := Lib.frozen_of_heap O3.out 2
      have OT : Hid (((WO.setCell ⟨ob, 2, none⟩ (.int .i64 N)).setCell ⟨ob, 1, none⟩ (.int .i64 P)).heap[ob]? = some (.cells #[.int .i64 oi, .int .i64 P, .int .i64 N, .bool near, .bool fo] 31 (0, 0))) := Lib.hid (by have := ob_set (j := 1) (ob_set (j := 2) O3.out (.int .i64 N)) (.int .i64 P); simpa using this)
      have GT := Lib.hid ((G3.out.obs (j := 2) O3.out (by decide) (.int .i64 N)).obs (j := 1) (ob_set O3.out _) (by decide) (.int .i64 P))
      have RT := Lib.hid ((R3.out.obs (j := 2) O3.out (by decide) (by decide) (.int .i64 N)).obs (j := 1) (ob_set O3.out _) (by decide) (by decide) (.int .i64 P))
      have WT : Hid (Below w.heap.size w ((WO.setCell ⟨ob, 2, none⟩ (.int .i64 N)).setCell ⟨ob, 1, none⟩ (.int .i64 P))) := Lib.hid ((W3.out.setCell OS.out _).setCell OS.out _)
      clear o0 o1 o2 o3 o4
      have NB := Lib.hid (And.intro N0 N1)
      have NN := Lib.hid n2
      clear N0 N1 n2
      go_upto_if 40 with (fail)
      go_cut [6] (NrRel i w g r ob mo v L oi near fo)
      case first =>
        cases near
        · go_wp2_with fail
          go_meet
          exact ⟨now, op, on, rfl, NN.out.1, NN.out.2, O3.out, G3.out, R3.out, W3.out⟩
        · go_wp2_with fail
          go_meet
          exact ⟨N, P, N, rfl, NB.out.1, NB.out.2, OT.out, GT.out, RT.out, WT.out⟩
      case rest =>
        obtain ⟨now2, P2, N2, rfl, m0, m1, hob, hg2, hr2, hb2⟩ := hcut
        have O5 := Lib.hid hob
        have G5 := Lib.hid hg2
        have R5 := Lib.hid hr2
        have B5 := Lib.hid hb2
        have MM := Lib.hid (And.intro m0 m1)
        clear d0 d1 d2 d3 f1 f2 OT GT RT WT O3 G3 R3 W3 hob hg2 hr2 hb2 m0 m1 NB NN
        have d4 : wc.cell? ⟨ob, 4, none⟩ = some (.bool fo) := by rw [Lib.cell_of_heap O5.out]; rfl
        go_upto_if 54 with (fail)
        go_cut [10] (ReRel i w g r)
        case first =>
          cases fo
          · have GD := Lib.hid (G5.out.call (Below.refl wc.heap.size wc).drew)
            have RD := Lib.hid (R5.out.call (Below.refl wc.heap.size wc).drew)
            have BD := Lib.hid (B5.out.trans ((Below.refl wc.heap.size wc).drew.mono B5.out.size))
            have OD : Hid (wc.drew.heap[ob]? = some (.cells #[.int .i64 oi, .int .i64 P2, .int .i64 N2, .bool near, .bool false] 31 (0, 0))) := Lib.hid O5.out
            have cS : wc.drew.cell? ⟨ob, 1, none⟩ = some (.int .i64 P2) ∧ wc.drew.cell? ⟨ob, 2, none⟩ = some (.int .i64 N2) := ⟨by rw [Lib.cell_of_heap OD.out]; rfl, by rw [Lib.cell_of_heap OD.out]; rfl⟩
            have FF := Lib.hid (RE.out g mo L u P2 N2 wu (by omega) _ GD.out BD.out.size)
            have RF := Lib.hid (fun W h => RRE.out r v L u P2 N2 (by omega) GD.out.rise W h)
            have HCL := Lib.hid (show (relL L u P2 N2).length ≤ i + 1 by have := rel_len L u P2 N2; omega)
            generalize relA L u P2 N2 = A at *
            generalize relL L u P2 N2 = L6 at *
            clear d4
            go_wp2_with fail
            refine wp_region_held_drew (S := (fun W' => W'.cell? ⟨ob, 1, none⟩ = some (.int .i64 P2) ∧ W'.cell? ⟨ob, 2, none⟩ = some (.int .i64 N2))) (by kernel_rfl) (cS) (fun hHeld => ?_)
            refine Gh.tk 0 ?_
            refine Gh.tk 1 ?_
            refine Gh.tk 2 ?_
            refine Gh.tk 3 ?_
            refine Gh.tk 4 ?_
            refine Gh.tk 5 ?_
            refine Gh.tk 7 ?_
            refine Gh.tk 8 ?_
            refine Gh.tk 9 ?_
            refine Gh.tk 10 ?_
            refine Gh.tk 11 ?_
            refine Gh.tk 12 ?_
            refine Gh.rd 6 (fun K hK => ?_)
            go_simp
            (with_reducible refine FF.out.mono ?_)
            rintro e w6 ⟨rfl, mo6, g6, m6, -⟩
            have R6 := Lib.hid (RD.out.beside GD.out m6)
            have B6 := Lib.hid (m6.gm GD.out BD.out)
            have G6 := Lib.hid g6
            have O6 := ob_left OD.out (by decide) GD.out m6
            have cS6 : w6.cell? ⟨ob, 1, none⟩ = some (.int .i64 P2) ∧ w6.cell? ⟨ob, 2, none⟩ = some (.int .i64 N2) := ⟨by rw [Lib.cell_of_heap O6]; rfl, by rw [Lib.cell_of_heap O6]; rfl⟩
            have O7 := Lib.hid O6
            clear g6 m6 FF O6 GD RD BD OD cS
            go_simp
            refine hK.out _ _ (cS6) (fun hHeld => ?_)
            clear hK K
            refine Gh.pt ?_
            refine Gh.rd 13 (fun K hK => ?_)
            go_simp
            (with_reducible refine (RF.out _ R6.out).mono ?_)
            rintro e w7 ⟨rfl, v7, r7, m7⟩
            have G7 := Lib.hid (G6.out.beside R6.out m7)
            have B7 := Lib.hid (m7.rg R6.out B6.out)
            have O8 := ob_right O7.out (by decide) R6.out m7
            have cS7 : w7.cell? ⟨ob, 1, none⟩ = some (.int .i64 P2) ∧ w7.cell? ⟨ob, 2, none⟩ = some (.int .i64 N2) := ⟨by rw [Lib.cell_of_heap O8]; rfl, by rw [Lib.cell_of_heap O8]; rfl⟩
            have R7 := Lib.hid r7
            clear r7 m7 RF O8 O7 G6 R6 B6 cS6
            go_simp
            refine hK.out _ _ (cS7) (fun hHeld => ?_)
            clear hK K
            refine Gh.pt ?_
            refine Gh.tk 14 ?_
            refine Gh.tk 15 ?_
            refine wpAnyH_done (by kernel_rfl) ?_ _
            clear hHeld
            clear hHeld
            clear hHeld
            go_wp2_with fail
            go_meet
            exact ⟨mo6, v7, L6, by first | rfl | simp, G7.out, R7.out, HCL.out, B7.out⟩
          · have FF := Lib.hid (FO.out g mo L u wu wc G5.out)
            have RF := Lib.hid (fun W h => RFO.out r v L u (by omega) G5.out.rise W h)
            have hcl : (cut L u).length ≤ i + 1 := by have := cut_len L u; omega
            have HCL := Lib.hid hcl
            clear hcl
            generalize isIn L u = bi at *
            go_wp2_with fail
            (with_reducible refine FF.out.mono ?_)
            rintro e w6 ⟨rfl, g6, m6⟩
            have R6 := Lib.hid (R5.out.beside G5.out m6)
            have B6 := Lib.hid (m6.gm G5.out B5.out)
            have G6 := Lib.hid g6
            clear g6 m6 FF
            go_wp2_with fail
            (with_reducible refine (RF.out _ R6.out).mono ?_)
            rintro e w7 ⟨rfl, v7, r7, m7⟩
            have G7 := Lib.hid (G6.out.beside R6.out m7)
            have B7 := Lib.hid (m7.rg R6.out B6.out)
            have R7 := Lib.hid r7
            clear r7 m7 RF G6 R6 B6
            go_wp2_with fail
            go_meet
            exact ⟨mo, v7, cut L u, by first | rfl | simp, G7.out, R7.out, HCL.out, B7.out⟩
        case rest =>
          obtain ⟨mo3, v3, L3, rfl, hg3, hr3, hl3, hb3⟩ := hcut
          have G7 := Lib.hid hg3
          have R7 := Lib.hid hr3
          have B7 := Lib.hid hb3
          have hl60 : L3.length ≤ 60 := by omega
          have HL3 := Lib.hid hl3
          have HLN := Lib.hid (ids_len L3)
          have LF := Lib.hid (LA.out g mo3 L3 u wu wc G7.out)
          have RLF := Lib.hid (fun W h => RLA.out r v3 L3 u (by omega) W h)
          have IF := Lib.hid (fun W h => ID.out g mo3 L3 (by omega) W h)
          have RIF := Lib.hid (fun W h => RID.out r v3 L3 (by omega) W h)
          have NF := Lib.hid (fun W h => NE.out g mo3 L3 u wu W h)
          have RNF := Lib.hid (fun W h => RNE.out r v3 L3 u (by omega) W h)
          have LEF := Lib.hid (fun W h => LE.out g mo3 L3 W h)
          have SAF := Lib.hid (fun pa qa pc qc W h1 h2 => SA.out (ids L3) pa qa pc qc W h1 h2 (by rw [HLN.out]; omega))
          clear hg3 hr3 hb3 hl3 G5 R5 B5 O5 d4 hl60 RE FO LA NE ID LE RRE RFO RLA RNE RID SA
          generalize lastOf L3 u = la at *
          generalize nextOf L3 u = nx at *
          generalize isIn L3 u = bi at *
          generalize ids L3 = il at *
          go_wp2_with fail
          (with_reducible refine LF.out.mono ?_)
          rintro e w8 ⟨rfl, b8⟩
          have G8 := Lib.hid (G7.out.call b8)
          have R8 := Lib.hid (R7.out.call b8)
          have B8 := Lib.hid (B7.out.trans (b8.mono B7.out.size))
          clear b8 G7 R7 B7 LF
          go_wp2_with fail
          (with_reducible refine (RLF.out _ R8.out).mono ?_)
          rintro e _ ⟨rfl, rfl⟩
          clear RLF
          go_wp2_with fail
          (with_reducible refine (IF.out _ G8.out).mono ?_)
          rintro e w9 ⟨v9, rfl, i9, b9⟩
          have G9 := Lib.hid (G8.out.call b9)
          have R9 := Lib.hid (R8.out.call b9)
          have B9 := Lib.hid (B8.out.trans (b9.mono B8.out.size))
          have I9 := Lib.hid i9
          clear i9 b9 G8 R8 B8 IF
          go_wp2_with fail
          (with_reducible refine (RIF.out _ R9.out).mono ?_)
          rintro e wa ⟨va, rfl, ia, ba⟩
          have Ga := Lib.hid (G9.out.call ba)
          have Ra := Lib.hid (R9.out.call ba)
          have Ba := Lib.hid (B9.out.trans (ba.mono B9.out.size))
          have Ia := I9.out.call ba
          obtain ⟨p1, c1, rfl, -, s1⟩ := Ia.form
          obtain ⟨p2, c2, rfl, -, s2⟩ := ia.form
          have S1 := Lib.hid s1
          have S2 := Lib.hid s2
          clear ia ba Ia s1 s2 G9 R9 B9 RIF I9
          go_wp2_with fail
          (with_reducible refine (SAF.out p1 p2 c1 c2 wa S1.out S2.out).mono ?_)
          rintro e wb ⟨rfl, qb⟩
          have Gb := Lib.hid (Ga.out.call (qb.below _))
          have Rb := Lib.hid (Ra.out.call (qb.below _))
          have Bb := Lib.hid (Ba.out.trans (qb.below _))
          clear qb S1 S2 SAF Ga Ra Ba
          have GD := Lib.hid (Gb.out.call (Below.refl wb.heap.size wb).drew)
          have RD := Lib.hid (Rb.out.call (Below.refl wb.heap.size wb).drew)
          have BD := Lib.hid (Bb.out.trans ((Below.refl wb.heap.size wb).drew.mono Bb.out.size))
          obtain ⟨ao3, cap3, ev3, -⟩ := RD.out.seen
          have cR := RD.out.cell
          rw [ev3] at cR
          clear ev3 Gb Rb Bb
          have ela : (la != la) = false := by simp
          have ebi : (bi != bi) = false := by simp
          have enx : (nx != nx) = false := by simp
          have eln : ((L3.length : Int) != (L3.length : Int)) = false := by simp
          generalize hln : L3.length = ln at *
          have HL4 := Lib.hid hln
          clear hln
          go_wp2_with fail
          refine wp_region_held_drew (S := (fun W' => W'.cell? ⟨r, 0, none⟩ = some (.slice ao3 ln cap3))) (by kernel_rfl) (cR) (fun hHeld => ?_)
          refine Gh.tk 0 ?_
          refine Gh.tk 1 ?_
          refine Gh.tk 2 ?_
          refine Gh.tk 3 ?_
          refine Gh.tk 4 ?_
          refine Gh.tk 5 ?_
          refine Gh.tk 6 ?_
          refine Gh.tk 7 ?_
          refine Gh.tk 8 ?_
          refine Gh.tk 9 ?_
          refine Gh.tk 10 ?_
          refine Gh.tk 11 ?_
          refine Gh.tk 12 ?_
          refine Gh.tk 13 ?_
          refine Gh.tk 14 ?_
          refine Gh.tk 16 ?_
          refine Gh.tk 17 ?_
          refine Gh.rd 15 (fun K hK => ?_)
          go_simp
          (with_reducible refine (NF.out _ GD.out).mono ?_)
          rintro e wd ⟨rfl, bd⟩
          have Gc := Lib.hid (GD.out.call bd)
          have Rc := Lib.hid (RD.out.call bd)
          have Bc := Lib.hid (BD.out.trans (bd.mono BD.out.size))
          have cR2 := carry bd cR
          clear bd GD RD BD cR NF
          go_simp
          refine hK.out _ _ (cR2) (fun hHeld => ?_)
          clear hK K
          refine Gh.pt ?_
          refine Gh.rd 18 (fun K hK => ?_)
          go_simp
          (with_reducible refine (RNF.out _ Rc.out).mono ?_)
          rintro e _ ⟨rfl, rfl⟩
          go_simp
          refine hK.out _ _ (cR2) (fun hHeld => ?_)
          clear hK K
          refine Gh.pt ?_
          refine Gh.tk 19 ?_
          refine Gh.tk 20 ?_
          refine Gh.tk 21 ?_
          refine Gh.tk 22 ?_
          refine Gh.tk 23 ?_
          refine Gh.tk 24 ?_
          refine Gh.tk 25 ?_
          refine Gh.tk 26 ?_
          refine Gh.tk 28 ?_
          refine Gh.tk 29 ?_
          refine Gh.tk 30 ?_
          refine Gh.tk 31 ?_
          refine Gh.tk 32 ?_
          refine Gh.rd 27 (fun K hK => ?_)
          go_simp
          (with_reducible refine (LEF.out _ Gc.out).mono ?_)
          rintro e _ ⟨rfl, rfl⟩
          go_simp
          refine hK.out _ _ (cR2) (fun hHeld => ?_)
          clear hK K
          refine Gh.pt ?_
          refine Gh.tk 33 ?_
          refine Gh.tk 34 ?_
          refine wpAnyH_done (by kernel_rfl) ?_ _
          clear hHeld
          clear hHeld
          clear hHeld
          clear hHeld
          go_wp2
          go_roundg (n - (i + 1))
          case measure => have := HI.out; have := HLT.out; omega
          case rel => exact ⟨i + 1, now2, mo3, v3, L3, by have := HLT.out; omega, by first | rfl | go_num, by go_num, Gc.out, Rc.out, by rw [HL4.out]; exact HL3.out, MM.out.1, by have := MM.out.2; omega, Bc.out⟩
    · have e : i = n := by omega
      have FN := Lib.hid HB.out
      have hno : ¬ (i < l.length ∧ i < 60) := by have := HN.out; omega
      clear HG HR HB NS hLl hi hlt HN e n0 n1
      by_cases h1 : i < l.length
      · have h1i : (i : Int) < (l.length : Int) := by omega
        have h2i : (60 : Int) ≤ (i : Int) := by omega
        clear hno
        go_wp2
        go_ret
        exact ⟨rfl, FN.out⟩
      · have h1d : decide (i < l.length) = false := decide_eq_false h1
        have h1i : (l.length : Int) ≤ (i : Int) := by omega
        clear hno h1
        go_wp2
        go_ret
        exact ⟨rfl, FN.out⟩

set_option maxRecDepth 100000 in
set_option maxHeartbeats 1600000 in
theorem lifted (os : Os) (started : os.Started) (H : Type) (enc : TypeId × Value → H) :
    ReturnsInHanded {} Try.checked os 3 .any (Rows.guardPlaysSpec.pre6 enc Try.prog Try.f3 Rows.guardPlaysRow.domain false) (Rows.guardPlaysSpec.post enc Try.prog Try.f3 false true false false) := by
  refine returnsInHanded_of_change (C := Try.checked) own started (by kernel_rfl) Try.func3
    (ChangeSpec.witness6 (enc := enc) (C := Try.checked) false ⟨#[], #[.slice none 0 0], []⟩ 8 (by kernel_rfl) (by kernel_rfl) (by kernel_rfl) (by kernel_rfl)) ?_
  intro W base args ds gs before hval0 hW hcnd _
  have hval : ∀ (j : Nat) t v, Try.f3.params[j]? = some t → args[j]? = some v → Value.okWide Try.prog W .any base t v := hval0
  have hW' := hW
  obtain ⟨p, q, hA0, hV, rfl, hfz, hnd⟩ := hW
  have hA : DataW.TrodAll enc Try.prog W 0 (fun _ => true) true Try.f3.params.toList args.toList ds p := hA0
  rw [Try.params3] at hA hval
  obtain ⟨v0, vs0, d0, ds0, p0, q0, hargs, rfl, rfl, h0, r0⟩ := trodAll_cons hA
  obtain ⟨rfl, rfl, rfl⟩ := trodAll_nil r0
  obtain rfl : args = #[v0] := by cases args; simp_all
  obtain ⟨rfl, rfl⟩ := trodVars_none hV
  have lt0 : ∀ x ∈ p0, x.block < W.heap.size := by obtain ⟨m, hm⟩ := h0; exact DataW.trod_lt m _ _ _ hm
  obtain ⟨lo, l, lc, rfl, ll, ls⟩ := open_ops (hval 0 22 v0 rfl rfl) h0
  clear hA0 hval0
  refine (walk l lo lc W ll ls).mono fun e W' ⟨he, bel⟩ => ?_
  subst he
  exact ⟨_, rfl, _, _, _, [], _, [], hW', trodAll_mk1 (shut_bool Try.underlying4 _), (trodAll_cons_mk (Below.trod laidOut (by kernel_rfl) (of_decide_eq_true (by kernel_rfl)) h0 bel lt0) trodAll_mk0), rfl, bel.frame _, fun h => by cases h⟩

theorem proved : Rows.GuardPlaysSaid :=
  OpenClaim.holds_of_wide 3 Try.f3 rfl rfl rfl rfl rfl rfl rfl ⟨rfl, rfl, rfl, rfl, rfl⟩ rfl rfl rfl rfl rfl (by kernel_rfl) Try.func3 (by kernel_rfl)
    (of_decide_eq_true (by kernel_rfl)) (by unfold Func.isWrapper; first | (rw [if_pos (by decide +kernel)]; kernel_rfl) | (rw [if_neg (by decide +kernel)]; exact ⟨rfl, rfl⟩))
    (fun os started H enc _ => lifted os started H enc)
#print axioms proved
end Go.Proofs.Ytcmgdllofkgaoaa.guardPlays
