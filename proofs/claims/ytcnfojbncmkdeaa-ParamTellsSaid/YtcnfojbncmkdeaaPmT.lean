/- The statements' function tells of layer 9: tasks, periods and loads of one row, both ways. -/
import Derived.Test.YtcnfojbncmkdeaaPmN
import Derived.Test.YtcnfojbncmkdeaaPmQ
import Derived.Test.YtcnfojbncmkdeaaPmH
import Derived.Deep.RegionHeld3
import Derived.Deep.DeepCutAuto
namespace Go.Proofs.Ytcnfojbncmkdeaa.Pm
open Go.ChangeShapes Go.WideShapes Go.ChangeAt Go.RowKit Go.Joins
set_option maxRecDepth 100000
set_option maxRecDepth 100000
set_option linter.unusedVariables false
set_option linter.unusedSimpArgs false
/-- two tasks of a row in memory -/
theorem both_call {W0 w1 w' : World} {b off i : Nat} {xi xc xd xt xm yi yc yd yt ym : Int} (h : w1.cell? ⟨b, off + i * 5, none⟩ = some (.int .i64 xi) ∧ w1.cell? ⟨b, off + i * 5 + 1, none⟩ = some (.int .i64 xc) ∧ w1.cell? ⟨b, off + i * 5 + 2, none⟩ = some (.int .i64 xd) ∧ w1.cell? ⟨b, off + i * 5 + 3, none⟩ = some (.int .i64 xt) ∧ w1.cell? ⟨b, off + i * 5 + 4, none⟩ = some (.int .i64 xm) ∧ w1.cell? ⟨b, off, none⟩ = some (.int .i64 yi) ∧ w1.cell? ⟨b, off + 1, none⟩ = some (.int .i64 yc) ∧ w1.cell? ⟨b, off + 2, none⟩ = some (.int .i64 yd) ∧ w1.cell? ⟨b, off + 3, none⟩ = some (.int .i64 yt) ∧ w1.cell? ⟨b, off + 4, none⟩ = some (.int .i64 ym) ∧ Below W0.heap.size W0 w1) (hb : Below w1.heap.size w1 w') : w'.cell? ⟨b, off + i * 5, none⟩ = some (.int .i64 xi) ∧ w'.cell? ⟨b, off + i * 5 + 1, none⟩ = some (.int .i64 xc) ∧ w'.cell? ⟨b, off + i * 5 + 2, none⟩ = some (.int .i64 xd) ∧ w'.cell? ⟨b, off + i * 5 + 3, none⟩ = some (.int .i64 xt) ∧ w'.cell? ⟨b, off + i * 5 + 4, none⟩ = some (.int .i64 xm) ∧ w'.cell? ⟨b, off, none⟩ = some (.int .i64 yi) ∧ w'.cell? ⟨b, off + 1, none⟩ = some (.int .i64 yc) ∧ w'.cell? ⟨b, off + 2, none⟩ = some (.int .i64 yd) ∧ w'.cell? ⟨b, off + 3, none⟩ = some (.int .i64 yt) ∧ w'.cell? ⟨b, off + 4, none⟩ = some (.int .i64 ym) ∧ Below W0.heap.size W0 w' := by
  obtain ⟨a0, a1, a2, a3, a4, b0, b1, b2, b3, b4, k⟩ := h
  exact ⟨carry hb a0, carry hb a1, carry hb a2, carry hb a3, carry hb a4, carry hb b0, carry hb b1, carry hb b2, carry hb b3, carry hb b4, k.trans (hb.mono k.size)⟩
theorem both_drew {W0 w1 : World} {b off i : Nat} {xi xc xd xt xm yi yc yd yt ym : Int} (h : w1.cell? ⟨b, off + i * 5, none⟩ = some (.int .i64 xi) ∧ w1.cell? ⟨b, off + i * 5 + 1, none⟩ = some (.int .i64 xc) ∧ w1.cell? ⟨b, off + i * 5 + 2, none⟩ = some (.int .i64 xd) ∧ w1.cell? ⟨b, off + i * 5 + 3, none⟩ = some (.int .i64 xt) ∧ w1.cell? ⟨b, off + i * 5 + 4, none⟩ = some (.int .i64 xm) ∧ w1.cell? ⟨b, off, none⟩ = some (.int .i64 yi) ∧ w1.cell? ⟨b, off + 1, none⟩ = some (.int .i64 yc) ∧ w1.cell? ⟨b, off + 2, none⟩ = some (.int .i64 yd) ∧ w1.cell? ⟨b, off + 3, none⟩ = some (.int .i64 yt) ∧ w1.cell? ⟨b, off + 4, none⟩ = some (.int .i64 ym) ∧ Below W0.heap.size W0 w1) : w1.drew.cell? ⟨b, off + i * 5, none⟩ = some (.int .i64 xi) ∧ w1.drew.cell? ⟨b, off + i * 5 + 1, none⟩ = some (.int .i64 xc) ∧ w1.drew.cell? ⟨b, off + i * 5 + 2, none⟩ = some (.int .i64 xd) ∧ w1.drew.cell? ⟨b, off + i * 5 + 3, none⟩ = some (.int .i64 xt) ∧ w1.drew.cell? ⟨b, off + i * 5 + 4, none⟩ = some (.int .i64 xm) ∧ w1.drew.cell? ⟨b, off, none⟩ = some (.int .i64 yi) ∧ w1.drew.cell? ⟨b, off + 1, none⟩ = some (.int .i64 yc) ∧ w1.drew.cell? ⟨b, off + 2, none⟩ = some (.int .i64 yd) ∧ w1.drew.cell? ⟨b, off + 3, none⟩ = some (.int .i64 yt) ∧ w1.drew.cell? ⟨b, off + 4, none⟩ = some (.int .i64 ym) ∧ Below W0.heap.size W0 w1.drew := by
  obtain ⟨a0, a1, a2, a3, a4, b0, b1, b2, b3, b4, k⟩ := h
  exact ⟨a0, a1, a2, a3, a4, b0, b1, b2, b3, b4, k.drew⟩
def TeRel (l : List Tk) (W : World) (g : Nat) (s : Value) (wx : World) : Prop := ∃ i : Nat, i + g = l.length ∧ s = .int .i64 (i : Int) ∧ Below W.heap.size W wx
set_option maxHeartbeats 8000000 in
theorem tells_any (l : List Tk) (ao : Option Addr) (cap : Nat) (w : World) (hT : Ts ao l w) (hl : l.length ≤ 1000) :
    Calls Try.prog 10 #[.slice ao l.length cap] w fun e w' => e = .returned (.bool true) ∧ Below w.heap.size w w' := by
  have T := Lib.hid hT
  have PE := Lib.hid (fun w h => period_any l ao cap w h (by omega))
  have RP := Lib.hid (fun w h => rperiod_any l ao cap w h (by omega))
  have LO := Lib.hid (fun w h => load_any l ao cap w h (by omega))
  have RL := Lib.hid (fun w h => rload_any l ao cap w h (by omega))
  have OV := Lib.hid (fun w h => over_any l ao cap w h (by omega))
  have RO := Lib.hid (fun w h => row_any l ao cap w h (by omega))
  have RR := Lib.hid (fun w h => rrow_any l ao cap w h (by omega))
  clear hT
  unfold Ld.v at RL
  generalize loadR l = ld at *
  obtain ⟨ln, lp, le⟩ := ld
  generalize periodR l = pr at *
  obtain ⟨pp, pe⟩ := pr
  generalize rowB l = rb at *
  simp only at PE RP LO RL OV
  go_enter Try.func10, Try.ntmps10
  go_wp2_with fail
  go_loopg [3] l.length (TeRel l w)
  case atStart => exact ⟨0, by omega, rfl, Below.refl _ _⟩
  case round =>
    obtain ⟨i, hi, rfl, hB⟩ := hrel
    have KB := Lib.hid hB
    have TW := Lib.hid (T.out.below hB (Nat.le_refl _))
    clear hB
    by_cases hlt : i < l.length
    · obtain ⟨b, off, rfl, hb, hat⟩ := TW.out (by omega)
      have hx := hat i l[i] (List.getElem?_eq_getElem hlt)
      have hy := hat 0 l[0] (List.getElem?_eq_getElem (by omega))
      have CK := Lib.hid (chk_any l[i])
      have CR := Lib.hid (rchk_any l[i])
      have H1 := Lib.hid (heavier_any l[i] l[0])
      have H2 := Lib.hid (heavier_any l[0] l[i])
      have R1 := Lib.hid (rheavier_any l[i] l[0])
      have R2 := Lib.hid (rheavier_any l[0] l[i])
      have HI := Lib.hid hi
      have hg0 : 0 < gk := by omega
      have hl0 : 0 < l.length := by omega
      clear hat TW PE RP LO RL OV RO RR
      generalize heavy l[i] l[0] = h1 at *
      generalize heavy l[0] l[i] = h2 at *
      generalize chk l[i] = ck at *
      generalize l[i] = x at *
      generalize l[0] = y at *
      obtain ⟨c0, c1, c2, c3, c4⟩ := hx
      obtain ⟨d0, d1, d2, d3, d4⟩ := hy
      obtain ⟨xi, xc, xd, xt, xm⟩ := x
      obtain ⟨yi, yc, yd, yt, ym⟩ := y
      unfold Tk.v at CK CR H1 H2 R1 R2
      simp only [Nat.zero_mul, Nat.add_zero] at CK CR H1 H2 R1 R2 c0 c1 c2 c3 c4 d0 d1 d2 d3 d4
      have F0 : Hid (wr.cell? ⟨b, off + i * 5, none⟩ = some (.int .i64 xi) ∧ wr.cell? ⟨b, off + i * 5 + 1, none⟩ = some (.int .i64 xc) ∧ wr.cell? ⟨b, off + i * 5 + 2, none⟩ = some (.int .i64 xd) ∧ wr.cell? ⟨b, off + i * 5 + 3, none⟩ = some (.int .i64 xt) ∧ wr.cell? ⟨b, off + i * 5 + 4, none⟩ = some (.int .i64 xm) ∧ wr.cell? ⟨b, off, none⟩ = some (.int .i64 yi) ∧ wr.cell? ⟨b, off + 1, none⟩ = some (.int .i64 yc) ∧ wr.cell? ⟨b, off + 2, none⟩ = some (.int .i64 yd) ∧ wr.cell? ⟨b, off + 3, none⟩ = some (.int .i64 yt) ∧ wr.cell? ⟨b, off + 4, none⟩ = some (.int .i64 ym) ∧ Below w.heap.size w wr) := Lib.hid ⟨c0, c1, c2, c3, c4, d0, d1, d2, d3, d4, KB.out⟩
      have F1 := Lib.hid (both_drew F0.out)
      clear c0 c1 c2 c3 c4 d0 d1 d2 d3 d4
      have n1 : (ck != ck) = false := by cases ck <;> rfl
      have n2 : (h1 != h1) = false := by cases h1 <;> rfl
      have n3 : (h2 != h2) = false := by cases h2 <;> rfl
      go_wp2_with fail
      go_region_held3 (fun w' => w'.cell? ⟨b, off + i * 5, none⟩ = some (.int .i64 xi) ∧ w'.cell? ⟨b, off + i * 5 + 1, none⟩ = some (.int .i64 xc) ∧ w'.cell? ⟨b, off + i * 5 + 2, none⟩ = some (.int .i64 xd) ∧ w'.cell? ⟨b, off + i * 5 + 3, none⟩ = some (.int .i64 xt) ∧ w'.cell? ⟨b, off + i * 5 + 4, none⟩ = some (.int .i64 xm) ∧ w'.cell? ⟨b, off, none⟩ = some (.int .i64 yi) ∧ w'.cell? ⟨b, off + 1, none⟩ = some (.int .i64 yc) ∧ w'.cell? ⟨b, off + 2, none⟩ = some (.int .i64 yd) ∧ w'.cell? ⟨b, off + 3, none⟩ = some (.int .i64 yt) ∧ w'.cell? ⟨b, off + 4, none⟩ = some (.int .i64 ym) ∧ Below w.heap.size w w') (first | exact F0.out | exact F1.out | assumption) (first
        | (go_at_call 19; (with_reducible refine (CK.out _).mono ?_); rintro e w1 ⟨rfl, b1⟩; (have f1 := (by first | exact both_call F1.out b1 | exact both_call F0.out b1 : w1.cell? ⟨b, off + i * 5, none⟩ = some (.int .i64 xi) ∧ w1.cell? ⟨b, off + i * 5 + 1, none⟩ = some (.int .i64 xc) ∧ w1.cell? ⟨b, off + i * 5 + 2, none⟩ = some (.int .i64 xd) ∧ w1.cell? ⟨b, off + i * 5 + 3, none⟩ = some (.int .i64 xt) ∧ w1.cell? ⟨b, off + i * 5 + 4, none⟩ = some (.int .i64 xm) ∧ w1.cell? ⟨b, off, none⟩ = some (.int .i64 yi) ∧ w1.cell? ⟨b, off + 1, none⟩ = some (.int .i64 yc) ∧ w1.cell? ⟨b, off + 2, none⟩ = some (.int .i64 yd) ∧ w1.cell? ⟨b, off + 3, none⟩ = some (.int .i64 yt) ∧ w1.cell? ⟨b, off + 4, none⟩ = some (.int .i64 ym) ∧ Below w.heap.size w w1)))
        | (go_at_call 20; (with_reducible refine (CR.out _).mono ?_); rintro e w2 ⟨rfl, b2⟩; (have f2 := both_call f1 b2))
        | (go_at_call 18; (with_reducible refine (H1.out _).mono ?_); rintro e w3 ⟨rfl, b3⟩; (have f3 := both_call f2 b3))
        | (go_at_call 21; (with_reducible refine (R1.out _).mono ?_); rintro e w4 ⟨rfl, b4⟩; (have f4 := both_call f3 b4))
        | (go_at_call 18; (with_reducible refine (H2.out _).mono ?_); rintro e w5 ⟨rfl, b5⟩; (have f5 := both_call f4 b5))
        | (go_at_call 21; (with_reducible refine (R2.out _).mono ?_); rintro e w6 ⟨rfl, b6⟩; (have f6 := both_call f5 b6))
        | fail)
      all_goals
        have BK := Lib.hid f6.2.2.2.2.2.2.2.2.2.2
        clear f1 f2 f3 f4 f5 f6 F0 F1
        go_wp2
        go_roundg (gk - 1)
        case measure => omega
        case rel => exact ⟨i + 1, by have := HI.out; omega, by go_num, BK.out⟩
    · have hge : (l.length : Int) ≤ (i : Int) := by omega
      clear hlt hi
      have hdec : decide (i < l.length) = false := by simp; omega
      go_wp2_with fail
      (with_reducible refine (PE.out _ TW.out).mono ?_)
      rintro e w1 ⟨rfl, b1⟩
      have T1 := Lib.hid (TW.out.call b1)
      have K1 := Lib.hid (KB.out.trans (b1.mono KB.out.size))
      clear b1 TW KB PE T hge hdec
      go_wp2_with fail
      (with_reducible refine (RP.out _ T1.out).mono ?_)
      rintro e w2 ⟨rfl, b2⟩
      have T2 := Lib.hid (T1.out.call b2)
      have K2 := Lib.hid (K1.out.trans (b2.mono K1.out.size))
      clear b2 T1 K1 RP
      go_wp2_with fail
      (with_reducible refine (LO.out _ T2.out).mono ?_)
      rintro e w3 ⟨rfl, b3⟩
      have T3 := Lib.hid (T2.out.call b3)
      have K3 := Lib.hid (K2.out.trans (b3.mono K2.out.size))
      clear b3 T2 K2 LO
      go_wp2_with fail
      (with_reducible refine (RL.out _ T3.out).mono ?_)
      rintro e w4 ⟨rfl, b4⟩
      have T4 := Lib.hid (fun o => (T3.out.call b4).call ((Below.refl _ _).alloc (Nat.le_refl _) o))
      have K4 := Lib.hid (fun o => (K3.out.trans (b4.mono K3.out.size)).alloc (by have := K3.out.size; have := b4.size; omega) o)
      clear b4 T3 K3 RL
      go_wp2_with fail
      (with_reducible refine (OV.out _ (T4.out _)).mono ?_)
      rintro e w5 ⟨rfl, b5⟩
      have q0 := carry b5 (p := ⟨w4.heap.size, 0, none⟩) (v := .int .i64 ln) (by simp [go_sem])
      have q1 := carry b5 (p := ⟨w4.heap.size, 1, none⟩) (v := .int .i64 lp) (by simp [go_sem])
      have q2 := carry b5 (p := ⟨w4.heap.size, 2, none⟩) (v := .int .i64 le) (by simp [go_sem])
      have T5 := Lib.hid ((T4.out _).call b5)
      have K5 := Lib.hid ((K4.out _).trans (b5.mono (K4.out _).size))
      generalize hbo : decide (lp < ln) = bo at *
      have HBO := Lib.hid hbo
      clear b5 T4 K4 OV
      go_wp2_with fail
      (with_reducible refine (RO.out _ T5.out).mono ?_)
      rintro e w6 ⟨rfl, b6⟩
      have T6 := Lib.hid (T5.out.call b6)
      have K6 := Lib.hid (K5.out.trans (b6.mono K5.out.size))
      clear b6 T5 K5 RO q0 q1 q2
      go_wp2_with fail
      (with_reducible refine (RR.out _ T6.out).mono ?_)
      rintro e w7 ⟨rfl, b7⟩
      have K7 := Lib.hid (K6.out.trans (b7.mono K6.out.size))
      clear b7 T6 K6 RR
      go_wp2
      go_ret
      refine ⟨?_, K7.out⟩
      first | rfl | (cases rb <;> rfl)
end Go.Proofs.Ytcnfojbncmkdeaa.Pm
