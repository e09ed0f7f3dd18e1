/- horariumlaw19.ServerPlays answers true at every row of steps: a pool goes on, step by step, as the document says. No condition. -/
import Derived.Test.YtacgoobkpolcdaaSvO
import Derived.Deep.CutBlock
import Derived.Deep.DeepCutAuto
import Derived.Test.YtacgoobkpolcdaaGnH
namespace Go.Proofs.Ytacgoobkpolcdaa.serverPlays
open Go.ChangeShapes Go.WideShapes Go.ChangeAt Go.RowKit Go.Joins
set_option maxRecDepth 100000
set_option linter.unusedVariables false
set_option linter.unusedSimpArgs false
open Sv
open Ge (El Seen Row)
/-- i steps were made -/
def PlRel (n : Nat) (w : World) (g r : Nat) (m : Nat) (s6 : Value) (wr : World) : Prop :=
  ∃ (i : Nat) (a b : Option Nat) (L T : List Kn), i + m = n ∧ s6 = .int .i64 (i : Int) ∧ Pm w.heap.size wr g a b L T ∧ Rq w.heap.size wr r L T ∧ Below w.heap.size w wr
/-- the step's number stands -/
def IdRel (W : World) (s8 : Value) (wx : World) : Prop := ∃ id : Int, s8 = .int .i64 id ∧ I64 id ∧ wx = W
/-- the step was made on both -/
def PsRel (w : World) (g r : Nat) (s9 : Value) (wx : World) : Prop :=
  ∃ (a b : Option Nat) (L T : List Kn), s9 = .bool true ∧ Pm w.heap.size wx g a b L T ∧ Rq w.heap.size wx r L T ∧ Below w.heap.size w wx

set_option maxRecDepth 100000 in
set_option maxHeartbeats 16000000 in
theorem walk (l : List {o : Stp // I64 o.id}) (lo : Option Addr) (lc : Nat) (w : World) (hl : l.length ≤ 9223372036854775807) (hL : Seen (fun o : {o : Stp // I64 o.id} => oc o.1) 4 lo l w) : Calls Try.prog 3 #[.slice lo l.length lc] w fun e w' => e = .returned (.bool true) ∧ Below w.heap.size w w' := by
  have AW := Lib.hid awake_any
  have NW := Lib.hid new_any
  have AS := Lib.hid (fun g a b L T i n W h hB => ask_any w.heap.size g a b L T i n W h hB)
  have TA := Lib.hid (fun g a b L T i m hi W h => take_any w.heap.size g a b L T i m hi W h)
  have BA := Lib.hid (fun g a b L T i hi W h => backlog_any w.heap.size g a b L T i hi W h)
  have TN := Lib.hid (fun g a b L T i hi W h => taken_any w.heap.size g a b L T i hi W h)
  have DR := Lib.hid (fun g a b L T i hi W h => drop_any w.heap.size g a b L T i hi W h)
  have WT := Lib.hid (fun g a b L T W h => waiting_any w.heap.size g a b L T W h)
  have RAS := Lib.hid (fun r L T hL i n W h => rask_any w.heap.size r L T hL i n W h)
  have RTA := Lib.hid (fun r L T hL hT i m W h => rtake_any w.heap.size r L T hL hT i m W h)
  have RDR := Lib.hid (fun r L T hL hT i W h => rdrop_any w.heap.size r L T hL hT i W h)
  have RBA := Lib.hid (fun r L T hL i W h => rbacklog_any w.heap.size r L T hL i W h)
  have RMA := Lib.hid (fun r L T hT i W h => rmany_any w.heap.size r L T hT i W h)
  have RWT := Lib.hid (fun r L T hL W h => rwaiting_any w.heap.size r L T hL W h)
  have SA := Lib.hid same_any
  have NS := Lib.hid hL
  obtain ⟨Z, hZ⟩ : ∃ Z : Array Value, Z = Array.replicate 2048 (.int .i64 0) := ⟨_, rfl⟩
  have zp : ∀ W : World, (zeroValue 29).run Try.prog W = .ok (.agg Z) W := fun W => by rw [hZ]; exact zeroP W
  have RN : ∀ W : World, Rq W.heap.size (W.alloc (.cells Z 29)) W.heap.size [] [] := fun W => by rw [hZ]; exact rq_new W
  have HRN := Lib.hid RN
  clear hL hZ RN
  go_enter Try.func3, Try.ntmps3
  go_wp2_with fail
  (with_reducible refine (AW.out _).mono ?_)
  rintro e w1 ⟨rfl, b1⟩
  have B1 := Lib.hid b1
  clear b1 AW
  go_wp2_with fail
  (with_reducible refine (NW.out _).mono ?_)
  rintro e w2 ⟨rfl, rfl⟩
  have H0 := Lib.hid (pm_new w1)
  have B2 : Hid (Below w.heap.size w (w1.alloc (.cells #[.map none, .map none] 44))) := Lib.hid (B1.out.alloc B1.out.size _)
  have hB0 : w.heap.size ≤ w1.heap.size := B1.out.size
  generalize w1.alloc (.cells #[.map none, .map none] 44) = W1 at *
  have H1 := Lib.hid (H0.out.mono hB0)
  generalize w1.heap.size = g at *
  clear H0 B1 NW hB0
  have R0 : Hid (Rq w.heap.size (W1.alloc (.cells Z 29)) W1.heap.size [] []) := Lib.hid ((HRN.out W1).mono B2.out.size)
  have G0 : Hid (Pm w.heap.size (W1.alloc (.cells Z 29)) g none none [] []) := Lib.hid (H1.out.call ((Below.refl _ W1).alloc (Nat.le_refl _) _))
  have B3 : Hid (Below w.heap.size w (W1.alloc (.cells Z 29))) := Lib.hid (B2.out.alloc B2.out.size _)
  clear H1 B2 HRN
  go_wp2_with fail
  generalize W1.alloc (.cells Z 29) = W2 at *
  generalize W1.heap.size = r at *
  clear zp
  obtain ⟨n, hn⟩ : ∃ n, n = min l.length 60 := ⟨_, rfl⟩
  have HN := Lib.hid hn
  clear hn
  go_loopg [6] n (PlRel n w g r)
  case atStart => exact ⟨0, none, none, [], [], by omega, rfl, G0.out, R0.out, B3.out⟩
  case round =>
    obtain ⟨i, a, b, L, T, hi, rfl, hpm, hrq, hb⟩ := hrel
    have HG := Lib.hid hpm
    have HR := Lib.hid hrq
    have HB := Lib.hid hb
    clear G0 R0 B3 hpm hrq hb
    by_cases hlt : i < n
    · have hil : i < l.length := by have := HN.out; omega
      have hi60 : i < 60 := by have := HN.out; omega
      obtain ⟨o', ho⟩ : ∃ o, l[i]? = some o := ⟨_, List.getElem?_eq_getElem hil⟩
      obtain ⟨lb, off, rfl, o0, o1, o2, o3⟩ := seen_op (NS.out.below HB.out (Nat.le_refl _)) ho
      obtain ⟨o, hoi⟩ := o'
      simp only at o0 o1 o2 o3
      have HOI := Lib.hid hoi
      have hil1 : (i : Int) < (l.length : Int) := by omega
      have hi61 : (i : Int) < 60 := by omega
      have hiw : IntKind.i64.wrap (i : Int) = (i : Int) := IntWalk.i64_in _ (by omega)
      have hiw1 : IntKind.i64.wrap ((i : Int) + 1) = (i : Int) + 1 := IntWalk.i64_in _ (by omega)
      obtain ⟨k, hk⟩ : ∃ k, bits .and .i64 o.kind 7 = k := ⟨_, rfl⟩
      obtain ⟨u, hu, u0, u1⟩ : ∃ u, bits .and .i64 o.id 7 = u ∧ 0 ≤ u ∧ u ≤ 7 := ⟨_, and_pow o.id 7 3 (by decide) (by decide), by omega, by omega⟩
      have HU : Hid (I64 u) := Lib.hid (by unfold I64; omega)
      have bA : Below wr.heap.size wr (wr.alloc (.cells #[.int .i64 o.kind, .int .i64 o.id, .bool o.far, .int .i64 o.n] 31)) := (Below.refl _ _).alloc (Nat.le_refl _) _
      have G3 := Lib.hid (HG.out.call bA)
      have R3 := Lib.hid (HR.out.call bA)
      have B4 := Lib.hid (HB.out.trans (bA.mono HB.out.size))
      have O3 : Hid (Ob (wr.alloc (.cells #[.int .i64 o.kind, .int .i64 o.id, .bool o.far, .int .i64 o.n] 31)) wr.heap.size o) := Lib.hid ⟨heap_alloc_new wr _⟩
      have HI := Lib.hid hi
      have HLT := Lib.hid hlt
      clear ho hi hlt bA HG HR HB hoi
      go_upto_region 10 with (fail)
      generalize wr.alloc (.cells #[.int .i64 o.kind, .int .i64 o.id, .bool o.far, .int .i64 o.n] 31) = W3 at *
      generalize wr.heap.size = ob at *
      clear o0 o1 o2 o3
      obtain ⟨q0, q1, q2, q3⟩ := O3.out.cells
      go_upto_if 35 with (fail)
      go_cut [8] (IdRel W3)
      case first =>
        cases hfar : o.far
        · rw [hfar] at q2
          go_wp2_with fail
          go_meet
          exact ⟨u, rfl, HU.out, rfl⟩
        · rw [hfar] at q2
          go_wp2_with fail
          go_meet
          exact ⟨o.id, rfl, HOI.out, rfl⟩
      case rest =>
        obtain ⟨id, rfl, hid, rfl⟩ := hcut
        have HID := Lib.hid hid
        clear hid HU HOI q1 q2 u0 u1 hu
        go_upto_block 2 with (fail)
        go_cut [9] (PsRel w g r)
        case first =>
          by_cases k4 : k = 4
          · subst k4
            have GD := Lib.hid (G3.out.call (Below.refl wc.heap.size wc).drew)
            have RD := Lib.hid (R3.out.call (Below.refl wc.heap.size wc).drew)
            have BD := Lib.hid (B4.out.trans ((Below.refl wc.heap.size wc).drew.mono B4.out.size))
            have OD := Lib.hid (O3.out.call (Below.refl wc.heap.size wc).drew)
            have cS : wc.drew.cell? ⟨ob, 3, none⟩ = some (.int .i64 o.n) := OD.out.cells.2.2.2
            have FF := Lib.hid (TA.out g a b L T id o.n HID.out _ GD.out)
            have RF := Lib.hid (fun W h => RTA.out r L T G3.out.ok G3.out.okt id o.n W h)
            generalize took L id o.n = A at *
            clear q0 q3
            go_wp2_with fail
            refine wp_region_held_drew (S := (fun W' => W'.cell? ⟨ob, 3, none⟩ = some (.int .i64 o.n))) (by kernel_rfl) (cS) (fun hHeld => ?_)
            refine Gh.tk 0 ?_
            refine Gh.tk 1 ?_
            refine Gh.tk 2 ?_
            refine Gh.tk 3 ?_
            refine Gh.tk 5 ?_
            refine Gh.tk 6 ?_
            refine Gh.tk 7 ?_
            refine Gh.tk 8 ?_
            refine Gh.rd 4 (fun K hK => ?_)
            go_simp
            (with_reducible refine FF.out.mono ?_)
            rintro e w6 ⟨rfl, g6, m6⟩
            have R6 := Lib.hid (RD.out.left GD.out m6)
            have B6 := Lib.hid (m6.below GD.out BD.out)
            have G6 := Lib.hid g6
            have O6 := Lib.hid (OD.out.left GD.out m6)
            have cS6 : w6.cell? ⟨ob, 3, none⟩ = some (.int .i64 o.n) := O6.out.cells.2.2.2
            clear g6 m6 FF GD RD BD OD cS
            go_simp
            refine hK.out _ _ (cS6) (fun hHeld => ?_)
            clear hK K
            refine Gh.pt ?_
            refine Gh.rd 9 (fun K hK => ?_)
            go_simp
            (with_reducible refine (RF.out _ R6.out).mono ?_)
            rintro e w7 ⟨rfl, r7, m7⟩
            have G7 := Lib.hid (G6.out.right R6.out m7)
            have B7 := Lib.hid (m7.rq R6.out B6.out)
            have O7 := Lib.hid (O6.out.right R6.out m7)
            have cS7 : w7.cell? ⟨ob, 3, none⟩ = some (.int .i64 o.n) := O7.out.cells.2.2.2
            have R7 := Lib.hid r7
            clear r7 m7 RF O6 G6 R6 B6 cS6
            go_simp
            refine hK.out _ _ (cS7) (fun hHeld => ?_)
            clear hK K
            refine Gh.pt ?_
            refine Gh.tk 10 ?_
            refine Gh.tk 11 ?_
            refine wpAnyH_done (by kernel_rfl) ?_ _
            clear hHeld
            clear hHeld
            clear hHeld
            go_wp2_with fail
            go_meet
            exact ⟨_, _, _, _, by first | rfl | simp, G7.out, R7.out, B7.out⟩
          by_cases k5 : k = 5
          · subst k5
            have GD := Lib.hid (G3.out.call (Below.refl wc.heap.size wc).drew)
            have RD := Lib.hid (R3.out.call (Below.refl wc.heap.size wc).drew)
            have BD := Lib.hid (B4.out.trans ((Below.refl wc.heap.size wc).drew.mono B4.out.size))
            have OD := Lib.hid (O3.out.call (Below.refl wc.heap.size wc).drew)
            have cS : wc.drew.cell? ⟨ob, 3, none⟩ = some (.int .i64 o.n) := OD.out.cells.2.2.2
            have FF := Lib.hid (TA.out g a b L T id o.n HID.out _ GD.out)
            have RF := Lib.hid (fun W h => RTA.out r L T G3.out.ok G3.out.okt id o.n W h)
            generalize took L id o.n = A at *
            clear q0 q3
            go_wp2_with fail
            refine wp_region_held_drew (S := (fun W' => W'.cell? ⟨ob, 3, none⟩ = some (.int .i64 o.n))) (by kernel_rfl) (cS) (fun hHeld => ?_)
            refine Gh.tk 0 ?_
            refine Gh.tk 1 ?_
            refine Gh.tk 2 ?_
            refine Gh.tk 3 ?_
            refine Gh.tk 5 ?_
            refine Gh.tk 6 ?_
            refine Gh.tk 7 ?_
            refine Gh.tk 8 ?_
            refine Gh.rd 4 (fun K hK => ?_)
            go_simp
            (with_reducible refine FF.out.mono ?_)
            rintro e w6 ⟨rfl, g6, m6⟩
            have R6 := Lib.hid (RD.out.left GD.out m6)
            have B6 := Lib.hid (m6.below GD.out BD.out)
            have G6 := Lib.hid g6
            have O6 := Lib.hid (OD.out.left GD.out m6)
            have cS6 : w6.cell? ⟨ob, 3, none⟩ = some (.int .i64 o.n) := O6.out.cells.2.2.2
            clear g6 m6 FF GD RD BD OD cS
            go_simp
            refine hK.out _ _ (cS6) (fun hHeld => ?_)
            clear hK K
            refine Gh.pt ?_
            refine Gh.rd 9 (fun K hK => ?_)
            go_simp
            (with_reducible refine (RF.out _ R6.out).mono ?_)
            rintro e w7 ⟨rfl, r7, m7⟩
            have G7 := Lib.hid (G6.out.right R6.out m7)
            have B7 := Lib.hid (m7.rq R6.out B6.out)
            have O7 := Lib.hid (O6.out.right R6.out m7)
            have cS7 : w7.cell? ⟨ob, 3, none⟩ = some (.int .i64 o.n) := O7.out.cells.2.2.2
            have R7 := Lib.hid r7
            clear r7 m7 RF O6 G6 R6 B6 cS6
            go_simp
            refine hK.out _ _ (cS7) (fun hHeld => ?_)
            clear hK K
            refine Gh.pt ?_
            refine Gh.tk 10 ?_
            refine Gh.tk 11 ?_
            refine wpAnyH_done (by kernel_rfl) ?_ _
            clear hHeld
            clear hHeld
            clear hHeld
            go_wp2_with fail
            go_meet
            exact ⟨_, _, _, _, by first | rfl | simp, G7.out, R7.out, B7.out⟩
          by_cases k6 : k = 6
          · subst k6
            have GD := Lib.hid (G3.out.call (Below.refl wc.heap.size wc).drew)
            have RD := Lib.hid (R3.out.call (Below.refl wc.heap.size wc).drew)
            have BD := Lib.hid (B4.out.trans ((Below.refl wc.heap.size wc).drew.mono B4.out.size))
            have OD := Lib.hid (O3.out.call (Below.refl wc.heap.size wc).drew)
            have cS : wc.drew.cell? ⟨ob, 3, none⟩ = some (.int .i64 o.n) := OD.out.cells.2.2.2
            have FF := Lib.hid (TA.out g a b L T id o.n HID.out _ GD.out)
            have RF := Lib.hid (fun W h => RTA.out r L T G3.out.ok G3.out.okt id o.n W h)
            generalize took L id o.n = A at *
            clear q0 q3
            go_wp2_with fail
            refine wp_region_held_drew (S := (fun W' => W'.cell? ⟨ob, 3, none⟩ = some (.int .i64 o.n))) (by kernel_rfl) (cS) (fun hHeld => ?_)
            refine Gh.tk 0 ?_
            refine Gh.tk 1 ?_
            refine Gh.tk 2 ?_
            refine Gh.tk 3 ?_
            refine Gh.tk 5 ?_
            refine Gh.tk 6 ?_
            refine Gh.tk 7 ?_
            refine Gh.tk 8 ?_
            refine Gh.rd 4 (fun K hK => ?_)
            go_simp
            (with_reducible refine FF.out.mono ?_)
            rintro e w6 ⟨rfl, g6, m6⟩
            have R6 := Lib.hid (RD.out.left GD.out m6)
            have B6 := Lib.hid (m6.below GD.out BD.out)
            have G6 := Lib.hid g6
            have O6 := Lib.hid (OD.out.left GD.out m6)
            have cS6 : w6.cell? ⟨ob, 3, none⟩ = some (.int .i64 o.n) := O6.out.cells.2.2.2
            clear g6 m6 FF GD RD BD OD cS
            go_simp
            refine hK.out _ _ (cS6) (fun hHeld => ?_)
            clear hK K
            refine Gh.pt ?_
            refine Gh.rd 9 (fun K hK => ?_)
            go_simp
            (with_reducible refine (RF.out _ R6.out).mono ?_)
            rintro e w7 ⟨rfl, r7, m7⟩
            have G7 := Lib.hid (G6.out.right R6.out m7)
            have B7 := Lib.hid (m7.rq R6.out B6.out)
            have O7 := Lib.hid (O6.out.right R6.out m7)
            have cS7 : w7.cell? ⟨ob, 3, none⟩ = some (.int .i64 o.n) := O7.out.cells.2.2.2
            have R7 := Lib.hid r7
            clear r7 m7 RF O6 G6 R6 B6 cS6
            go_simp
            refine hK.out _ _ (cS7) (fun hHeld => ?_)
            clear hK K
            refine Gh.pt ?_
            refine Gh.tk 10 ?_
            refine Gh.tk 11 ?_
            refine wpAnyH_done (by kernel_rfl) ?_ _
            clear hHeld
            clear hHeld
            clear hHeld
            go_wp2_with fail
            go_meet
            exact ⟨_, _, _, _, by first | rfl | simp, G7.out, R7.out, B7.out⟩
          by_cases k7 : k = 7
          · subst k7
            have FF := Lib.hid (DR.out g a b L T id HID.out _ G3.out)
            have RF := Lib.hid (fun W h => RDR.out r L T G3.out.ok G3.out.okt id W h)
            generalize vof L id = A at *
            clear q0 q3
            go_wp2_with fail
            (with_reducible refine FF.out.mono ?_)
            rintro e w6 ⟨rfl, g6, m6⟩
            have R6 := Lib.hid (R3.out.left G3.out m6)
            have B6 := Lib.hid (m6.below G3.out B4.out)
            have G6 := Lib.hid g6
            clear g6 m6 FF
            go_wp2_with fail
            (with_reducible refine (RF.out _ R6.out).mono ?_)
            rintro e w7 ⟨rfl, r7, m7⟩
            have G7 := Lib.hid (G6.out.right R6.out m7)
            have B7 := Lib.hid (m7.rq R6.out B6.out)
            have R7 := Lib.hid r7
            clear r7 m7 RF G6 R6 B6
            go_wp2_with fail
            go_meet
            exact ⟨_, _, _, _, by first | rfl | simp, G7.out, R7.out, B7.out⟩
          · have GD := Lib.hid (G3.out.call (Below.refl wc.heap.size wc).drew)
            have RD := Lib.hid (R3.out.call (Below.refl wc.heap.size wc).drew)
            have BD := Lib.hid (B4.out.trans ((Below.refl wc.heap.size wc).drew.mono B4.out.size))
            have OD := Lib.hid (O3.out.call (Below.refl wc.heap.size wc).drew)
            have cS : wc.drew.cell? ⟨ob, 3, none⟩ = some (.int .i64 o.n) := OD.out.cells.2.2.2
            have FF := Lib.hid (AS.out g a b L T id o.n _ GD.out BD.out.size)
            have RF := Lib.hid (fun W h => RAS.out r L T G3.out.ok id o.n W h)
            generalize askA L id o.n = A at *
            clear q0 q3
            go_wp2_with fail
            refine wp_region_held_drew (S := (fun W' => W'.cell? ⟨ob, 3, none⟩ = some (.int .i64 o.n))) (by kernel_rfl) (cS) (fun hHeld => ?_)
            refine Gh.tk 0 ?_
            refine Gh.tk 1 ?_
            refine Gh.tk 2 ?_
            refine Gh.tk 3 ?_
            refine Gh.tk 5 ?_
            refine Gh.tk 6 ?_
            refine Gh.tk 7 ?_
            refine Gh.tk 8 ?_
            refine Gh.rd 4 (fun K hK => ?_)
            go_simp
            (with_reducible refine FF.out.mono ?_)
            rintro e w6 ⟨rfl, a6, b6, g6, m6, -⟩
            have R6 := Lib.hid (RD.out.left GD.out m6)
            have B6 := Lib.hid (m6.below GD.out BD.out)
            have G6 := Lib.hid g6
            have O6 := Lib.hid (OD.out.left GD.out m6)
            have cS6 : w6.cell? ⟨ob, 3, none⟩ = some (.int .i64 o.n) := O6.out.cells.2.2.2
            clear g6 m6 FF GD RD BD OD cS
            go_simp
            refine hK.out _ _ (cS6) (fun hHeld => ?_)
            clear hK K
            refine Gh.pt ?_
            refine Gh.rd 9 (fun K hK => ?_)
            go_simp
            (with_reducible refine (RF.out _ R6.out).mono ?_)
            rintro e w7 ⟨rfl, r7, m7⟩
            have G7 := Lib.hid (G6.out.right R6.out m7)
            have B7 := Lib.hid (m7.rq R6.out B6.out)
            have O7 := Lib.hid (O6.out.right R6.out m7)
            have cS7 : w7.cell? ⟨ob, 3, none⟩ = some (.int .i64 o.n) := O7.out.cells.2.2.2
            have R7 := Lib.hid r7
            clear r7 m7 RF O6 G6 R6 B6 cS6
            go_simp
            refine hK.out _ _ (cS7) (fun hHeld => ?_)
            clear hK K
            refine Gh.pt ?_
            refine Gh.tk 10 ?_
            refine Gh.tk 11 ?_
            refine wpAnyH_done (by kernel_rfl) ?_ _
            clear hHeld
            clear hHeld
            clear hHeld
            go_wp2_with fail
            go_meet
            exact ⟨_, _, _, _, by first | rfl | simp, G7.out, R7.out, B7.out⟩
        case rest =>
          obtain ⟨a3, b3, L3, T3, rfl, hg3, hr3, hb3⟩ := hcut
          have G7 := Lib.hid hg3
          have R7 := Lib.hid hr3
          have B7 := Lib.hid hb3
          have WF := Lib.hid (fun W h => WT.out g a3 b3 L3 T3 W h)
          have RWF := Lib.hid (fun W h => RWT.out r L3 T3 G7.out.ok W h)
          have BF := Lib.hid (fun W h => BA.out g a3 b3 L3 T3 id HID.out W h)
          have TF := Lib.hid (fun W h => TN.out g a3 b3 L3 T3 id HID.out W h)
          have RBF := Lib.hid (fun W h => RBA.out r L3 T3 G7.out.ok id W h)
          have RMF := Lib.hid (fun W h => RMA.out r L3 T3 G7.out.okt id W h)
          have SAF := Lib.hid (fun pa qa pc qc W h1 h2 => SA.out (ids L3) pa qa pc qc W h1 h2 (by rw [ids_len]; have := G7.out.ok.len; omega))
          clear hg3 hr3 hb3 G3 R3 B4 O3 q0 q3 AS TA BA TN DR WT RAS RTA RDR RBA RMA RWT SA
          generalize vof L3 id = lv at *
          generalize vof T3 id = tv at *
          generalize ids L3 = il at *
          have elv : (lv != lv) = false := by simp
          have etv : (tv != tv) = false := by simp
          go_wp2_with fail
          (with_reducible refine (WF.out _ G7.out).mono ?_)
          rintro e w8 ⟨v8, rfl, i8, b8⟩
          have G8 := Lib.hid (G7.out.call b8)
          have R8 := Lib.hid (R7.out.call b8)
          have B8 := Lib.hid (B7.out.trans (b8.mono B7.out.size))
          have I8 := Lib.hid i8
          clear i8 b8 G7 R7 B7 WF
          go_wp2_with fail
          (with_reducible refine (RWF.out _ R8.out).mono ?_)
          rintro e wa ⟨va, rfl, ia, ba⟩
          have Ga := Lib.hid (G8.out.call ba)
          have Ra := Lib.hid (R8.out.call ba)
          have Ba := Lib.hid (B8.out.trans (ba.mono B8.out.size))
          have Ia := I8.out.call ba
          obtain ⟨p1, c1, rfl, -, s1⟩ := Ia.form
          obtain ⟨p2, c2, rfl, -, s2⟩ := ia.form
          have S1 := Lib.hid s1
          have S2 := Lib.hid s2
          clear ia ba Ia s1 s2 G8 R8 B8 RWF I8
          go_wp2_with fail
          (with_reducible refine (SAF.out p1 p2 c1 c2 wa S1.out S2.out).mono ?_)
          rintro e wb ⟨rfl, qb⟩
          have Gb := Lib.hid (Ga.out.call (qb.below _))
          have Rb := Lib.hid (Ra.out.call (qb.below _))
          have Bb := Lib.hid (Ba.out.trans (qb.below _))
          clear qb S1 S2 SAF Ga Ra Ba
          go_wp2_with fail
          (with_reducible refine (BF.out _ Gb.out).mono ?_)
          rintro e _ ⟨rfl, rfl⟩
          go_wp2_with fail
          (with_reducible refine (RBF.out _ Rb.out).mono ?_)
          rintro e _ ⟨rfl, rfl⟩
          go_wp2_with fail
          (with_reducible refine (TF.out _ Gb.out).mono ?_)
          rintro e _ ⟨rfl, rfl⟩
          go_wp2_with fail
          (with_reducible refine (RMF.out _ Rb.out).mono ?_)
          rintro e _ ⟨rfl, rfl⟩
          go_wp2
          go_roundg (n - (i + 1))
          case measure => have := HI.out; have := HLT.out; omega
          case rel => exact ⟨i + 1, a3, b3, L3, T3, by have := HLT.out; omega, by go_num, Gb.out, Rb.out, Bb.out⟩
    · have FN := Lib.hid HB.out
      have hno : ¬ (i < l.length ∧ i < 60) := by have := HN.out; omega
      clear HG HR HB NS hi hlt HN
      by_cases h1 : i < l.length
      · have h1i : (i : Int) < (l.length : Int) := by omega
        have h2i : (60 : Int) ≤ (i : Int) := by omega
        clear hno
        go_wp2
        go_ret
        exact ⟨rfl, FN.out⟩
      · have h1d : decide (i < l.length) = false := decide_eq_false h1
        have h1i : (l.length : Int) ≤ (i : Int) := by omega
        clear hno h1
        go_wp2
        go_ret
        exact ⟨rfl, FN.out⟩

set_option maxRecDepth 100000 in
set_option maxHeartbeats 1600000 in
theorem lifted (os : Os) (started : os.Started) (H : Type) (enc : TypeId × Value → H) :
    ReturnsInHanded {} Try.checked os 3 .any (Rows.serverPlaysSpec.pre6 enc Try.prog Try.f3 Rows.serverPlaysRow.domain false) (Rows.serverPlaysSpec.post enc Try.prog Try.f3 false true false false) := by
  refine returnsInHanded_of_change (C := Try.checked) own started (by kernel_rfl) Try.func3
    (ChangeSpec.witness6 (enc := enc) (C := Try.checked) false ⟨#[], #[.slice none 0 0], []⟩ 8 (by kernel_rfl) (by kernel_rfl) (by kernel_rfl) (by kernel_rfl)) ?_
  intro W base args ds gs before hval0 hW hcnd _
  have hval : ∀ (j : Nat) t v, Try.f3.params[j]? = some t → args[j]? = some v → Value.okWide Try.prog W .any base t v := hval0
  have hW' := hW
  obtain ⟨p, q, hA0, hV, rfl, hfz, hnd⟩ := hW
  have hA : DataW.TrodAll enc Try.prog W 0 (fun _ => true) true Try.f3.params.toList args.toList ds p := hA0
  rw [Try.params3] at hA hval
  obtain ⟨v0, vs0, d0, ds0, p0, q0, hargs, rfl, rfl, h0, r0⟩ := trodAll_cons hA
  obtain ⟨rfl, rfl, rfl⟩ := trodAll_nil r0
  obtain rfl : args = #[v0] := by cases args; simp_all
  obtain ⟨rfl, rfl⟩ := trodVars_none hV
  have lt0 : ∀ x ∈ p0, x.block < W.heap.size := by obtain ⟨m, hm⟩ := h0; exact DataW.trod_lt m _ _ _ hm
  obtain ⟨lo, l, lc, rfl, ll, ls⟩ := open_ops (hval 0 22 v0 rfl rfl) h0
  clear hA0 hval0
  refine (walk l lo lc W ll ls).mono fun e W' ⟨he, bel⟩ => ?_
  subst he
  exact ⟨_, rfl, _, _, _, [], _, [], hW', trodAll_mk1 (shut_bool Try.underlying4 _), (trodAll_cons_mk (Below.trod laidOut (by kernel_rfl) (of_decide_eq_true (by kernel_rfl)) h0 bel lt0) trodAll_mk0), rfl, bel.frame _, fun h => by cases h⟩

theorem proved : Rows.ServerPlaysSaid :=
  OpenClaim.holds_of_wide 3 Try.f3 rfl rfl rfl rfl rfl rfl rfl ⟨rfl, rfl, rfl, rfl, rfl⟩ rfl rfl rfl rfl rfl (by kernel_rfl) Try.func3 (by kernel_rfl)
    (of_decide_eq_true (by kernel_rfl)) (by unfold Func.isWrapper; first | (rw [if_pos (by decide +kernel)]; kernel_rfl) | (rw [if_neg (by decide +kernel)]; exact ⟨rfl, rfl⟩))
    (fun os started H enc _ => lifted os started H enc)
#print axioms proved
end Go.Proofs.Ytacgoobkpolcdaa.serverPlays
