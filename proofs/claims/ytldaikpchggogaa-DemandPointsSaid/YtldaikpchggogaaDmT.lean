/- The statements' function tells of layer 10: work and deadlines of one row, both ways. -/
import Derived.Test.YtldaikpchggogaaDmK
import Derived.Deep.RegionHeld3
namespace Go.Proofs.Ytldaikpchggogaa.Dm
open Go.ChangeShapes Go.WideShapes Go.ChangeAt Go.RowKit Go.Joins
open Pm
set_option maxRecDepth 100000
set_option maxRecDepth 100000
set_option linter.unusedVariables false
set_option linter.unusedSimpArgs false
theorem ans_form (n : Option Int) : ∃ (y : Int) (b : Bool), ans n = .tuple #[.int .i64 y, .bool b] := by
  cases n with
  | none => exact ⟨_, _, rfl⟩
  | some y => exact ⟨_, _, rfl⟩
theorem five_call {W0 w1 w' : World} {b off i : Nat} {ti tc td tt tm : Int} (h : w1.cell? ⟨b, off + i * 5, none⟩ = some (.int .i64 ti) ∧ w1.cell? ⟨b, off + i * 5 + 1, none⟩ = some (.int .i64 tc) ∧ w1.cell? ⟨b, off + i * 5 + 2, none⟩ = some (.int .i64 td) ∧ w1.cell? ⟨b, off + i * 5 + 3, none⟩ = some (.int .i64 tt) ∧ w1.cell? ⟨b, off + i * 5 + 4, none⟩ = some (.int .i64 tm) ∧ Below W0.heap.size W0 w1) (hb : Below w1.heap.size w1 w') : w'.cell? ⟨b, off + i * 5, none⟩ = some (.int .i64 ti) ∧ w'.cell? ⟨b, off + i * 5 + 1, none⟩ = some (.int .i64 tc) ∧ w'.cell? ⟨b, off + i * 5 + 2, none⟩ = some (.int .i64 td) ∧ w'.cell? ⟨b, off + i * 5 + 3, none⟩ = some (.int .i64 tt) ∧ w'.cell? ⟨b, off + i * 5 + 4, none⟩ = some (.int .i64 tm) ∧ Below W0.heap.size W0 w' := by
  obtain ⟨a0, a1, a2, a3, a4, k⟩ := h
  exact ⟨carry hb a0, carry hb a1, carry hb a2, carry hb a3, carry hb a4, k.trans (hb.mono k.size)⟩
theorem five_drew {W0 w1 : World} {b off i : Nat} {ti tc td tt tm : Int} (h : w1.cell? ⟨b, off + i * 5, none⟩ = some (.int .i64 ti) ∧ w1.cell? ⟨b, off + i * 5 + 1, none⟩ = some (.int .i64 tc) ∧ w1.cell? ⟨b, off + i * 5 + 2, none⟩ = some (.int .i64 td) ∧ w1.cell? ⟨b, off + i * 5 + 3, none⟩ = some (.int .i64 tt) ∧ w1.cell? ⟨b, off + i * 5 + 4, none⟩ = some (.int .i64 tm) ∧ Below W0.heap.size W0 w1) : w1.drew.cell? ⟨b, off + i * 5, none⟩ = some (.int .i64 ti) ∧ w1.drew.cell? ⟨b, off + i * 5 + 1, none⟩ = some (.int .i64 tc) ∧ w1.drew.cell? ⟨b, off + i * 5 + 2, none⟩ = some (.int .i64 td) ∧ w1.drew.cell? ⟨b, off + i * 5 + 3, none⟩ = some (.int .i64 tt) ∧ w1.drew.cell? ⟨b, off + i * 5 + 4, none⟩ = some (.int .i64 tm) ∧ Below W0.heap.size W0 w1.drew := by
  obtain ⟨a0, a1, a2, a3, a4, k⟩ := h
  exact ⟨a0, a1, a2, a3, a4, k.drew⟩
def TeRel (l : List Tk) (W : World) (g : Nat) (s : Value) (wx : World) : Prop := ∃ i : Nat, i + g = l.length ∧ s = .int .i64 (i : Int) ∧ Below W.heap.size W wx
set_option maxHeartbeats 8000000 in
theorem tells_any (l : List Tk) (ao : Option Addr) (cap : Nat) (x : Int) (w : World) (hT : Ts ao l w) (hl : l.length ≤ 1000) :
    Calls Try.prog 10 #[.slice ao l.length cap, .int .i64 x] w fun e w' => e = .returned (.bool true) ∧ Below w.heap.size w w' := by
  have T := Lib.hid hT
  have NE := Lib.hid (fun w h => next_any l ao cap x w h (by omega))
  have RN := Lib.hid (fun w h => rnexts_any l ao cap x w h (by omega))
  have BE := Lib.hid (fun w h => before_any l ao cap x w h (by omega))
  have RB := Lib.hid (fun w h => rbefore_any l ao cap x w h (by omega))
  have OF := Lib.hid (fun w h => of_any l ao cap x w h (by omega))
  have RO := Lib.hid (fun w h => rof_any l ao cap x w h (by omega))
  have ON := Lib.hid (fun i (h : i < l.length) => one_any l[i] x)
  have OR := Lib.hid (fun i (h : i < l.length) => rone_any l[i] x)
  obtain ⟨y, yb, hy⟩ := ans_form (nextR l x)
  obtain ⟨z, zb, hz⟩ := ans_form (beforeR l x)
  rw [hy] at NE RN
  rw [hz] at BE RB
  clear hT hy hz
  generalize ofR l x = o at *
  have e1 : (yb == yb) = true := by simp
  have e2 : (zb == zb) = true := by simp
  go_enter Try.func10, Try.ntmps10
  go_wp2_with fail
  (with_reducible refine (NE.out _ T.out).mono ?_)
  rintro e w1 ⟨rfl, b1⟩
  have T1 := Lib.hid (T.out.call b1)
  have K1 := Lib.hid b1
  clear b1 T NE
  go_wp2_with fail
  (with_reducible refine (RN.out _ T1.out).mono ?_)
  rintro e w2 ⟨rfl, b2⟩
  have T2 := Lib.hid (T1.out.call b2)
  have K2 := Lib.hid (K1.out.trans (b2.mono K1.out.size))
  clear b2 T1 RN K1
  go_wp2_with fail
  (with_reducible refine (BE.out _ T2.out).mono ?_)
  rintro e w3 ⟨rfl, b3⟩
  have T3 := Lib.hid (T2.out.call b3)
  have K3 := Lib.hid (K2.out.trans (b3.mono K2.out.size))
  clear b3 T2 BE K2
  go_wp2_with fail
  (with_reducible refine (RB.out _ T3.out).mono ?_)
  rintro e w4 ⟨rfl, b4⟩
  have T4 := Lib.hid (T3.out.call b4)
  have K4 := Lib.hid (K3.out.trans (b4.mono K3.out.size))
  clear b4 T3 RB K3
  go_wp2_with fail
  go_loopg [13] l.length (TeRel l w4)
  case atStart => exact ⟨0, by omega, rfl, Below.refl _ _⟩
  case round =>
    obtain ⟨i, hi, rfl, hB⟩ := hrel
    have KB := Lib.hid hB
    have TW := Lib.hid (T4.out.call hB)
    clear hB
    by_cases hlt : i < l.length
    · obtain ⟨b, off, rfl, hb, hat⟩ := TW.out (by omega)
      have hx := hat i l[i] (List.getElem?_eq_getElem hlt)
      have O1 := Lib.hid (ON.out i hlt)
      have O2 := Lib.hid (OR.out i hlt)
      have HI := Lib.hid hi
      have hg0 : 0 < gk := by omega
      have hlt' : (i : Int) < (l.length : Int) := by omega
      clear hat TW OF RO ON OR hi
      generalize oneR l[i] x = r at *
      generalize l[i] = t at *
      obtain ⟨c0, c1, c2, c3, c4⟩ := hx
      obtain ⟨ti, tc, td, tt, tm⟩ := t
      unfold Tk.v at O1 O2
      simp only at *
      have F0 := Lib.hid (And.intro c0 (And.intro c1 (And.intro c2 (And.intro c3 (And.intro c4 KB.out)))))
      have F1 := Lib.hid (five_drew F0.out)
      have q1 : (r != r) = false := by simp
      go_wp2_with fail
      go_region_held3 (fun w' => w'.cell? ⟨b, off + i * 5, none⟩ = some (.int .i64 ti) ∧ w'.cell? ⟨b, off + i * 5 + 1, none⟩ = some (.int .i64 tc) ∧ w'.cell? ⟨b, off + i * 5 + 2, none⟩ = some (.int .i64 td) ∧ w'.cell? ⟨b, off + i * 5 + 3, none⟩ = some (.int .i64 tt) ∧ w'.cell? ⟨b, off + i * 5 + 4, none⟩ = some (.int .i64 tm) ∧ Below w4.heap.size w4 w') (first | exact F0.out | exact F1.out | assumption) (first
        | (go_at_call 17; (with_reducible refine (O1.out _).mono ?_); rintro e w5 ⟨rfl, b5⟩; (have f5 := five_call F1.out b5))
        | (go_at_call 21; (with_reducible refine (O2.out _).mono ?_); rintro e w6 ⟨rfl, b6⟩; (have f6 := five_call f5 b6))
        | fail)
      all_goals
        have BK := Lib.hid f6.2.2.2.2.2
        clear f5 f6 F0 F1 c0 c1 c2 c3 c4
        go_wp2
        go_roundg (gk - 1)
        case measure => omega
        case rel => exact ⟨i + 1, by have := HI.out; omega, by go_num, BK.out⟩
    · have hge : (l.length : Int) ≤ (i : Int) := by omega
      have K5 := Lib.hid (K4.out.trans (KB.out.mono K4.out.size))
      have hdec : decide (i < l.length) = false := decide_eq_false hlt
      clear hi hlt T4 K4 KB ON OR
      go_wp2_with fail
      (with_reducible refine (OF.out _ TW.out).mono ?_)
      rintro e w7 ⟨rfl, b7⟩
      have T7 := Lib.hid (TW.out.call b7)
      have K7 := Lib.hid (K5.out.trans (b7.mono K5.out.size))
      clear b7 TW K5
      go_wp2_with fail
      (with_reducible refine (RO.out _ T7.out).mono ?_)
      rintro e w8 ⟨rfl, b8⟩
      have K8 := Lib.hid (K7.out.trans (b8.mono K7.out.size))
      clear b8 T7 K7
      go_wp2
      go_ret
      exact ⟨rfl, K8.out⟩
end Go.Proofs.Ytldaikpchggogaa.Dm
