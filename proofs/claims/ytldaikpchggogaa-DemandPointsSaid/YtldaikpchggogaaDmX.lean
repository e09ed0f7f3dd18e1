/- Contracts of the document's First, Same of layer 10; the statements' function points. -/
import Derived.Test.YtldaikpchggogaaDmW
import Derived.Test.YtldaikpchggogaaDmT
namespace Go.Proofs.Ytldaikpchggogaa.Dm
open Go.ChangeShapes Go.WideShapes Go.ChangeAt Go.RowKit Go.Joins
open Pm (Tk chk chk_iff rowB rowB_all rowB_len TkAt Ts TRow below_drewN)
set_option maxRecDepth 100000
set_option maxRecDepth 100000
set_option linter.unusedVariables false
set_option linter.unusedSimpArgs false
theorem one_call {W0 w1 w' : World} {a : Addr} {v : Value} (h : w1.cell? a = some v ∧ Below W0.heap.size W0 w1) (hb : Below w1.heap.size w1 w') : w'.cell? a = some v ∧ Below W0.heap.size W0 w' :=
  ⟨carry hb h.1, h.2.trans (hb.mono h.2.size)⟩
theorem one_drew {W0 w1 : World} {a : Addr} {v : Value} (h : w1.cell? a = some v ∧ Below W0.heap.size W0 w1) : w1.drew.cell? a = some v ∧ Below W0.heap.size W0 w1.drew := ⟨h.1, h.2.drew⟩
set_option maxHeartbeats 4000000 in
theorem rfirst_any (l : List Tk) (ao : Option Addr) (cap : Nat) (most : Int) (w : World) (hT : Ts ao l w) (hl : l.length ≤ 1000000) :
    Calls Try.prog 26 #[.slice ao l.length cap, .int .i64 most] w fun e w' => e = .returned (ans (firstR l most)) ∧ Below w.heap.size w w' := by
  have PO := Lib.hid (rpoints_any l ao cap most w hT hl)
  have OF := Lib.hid (fun x w h => rof_any l ao cap x w h hl)
  have E : Hid (firstR l most = firstO l (ptsR l most)) := Lib.hid rfl
  have hlen := ptsR_length l most
  generalize firstR l most = r at *
  generalize ptsR l most = ps at *
  have T := Lib.hid hT
  clear hT
  go_enter Try.func26, Try.ntmps26
  go_wp2_with fail
  (with_reducible refine (PO.out).mono ?_)
  rintro e w1 ⟨v, rfl, nr, b1⟩
  obtain ⟨pa, pc, rfl, -, hns⟩ := nr.form
  have K1 := Lib.hid b1
  have T1 := Lib.hid (T.out.call b1)
  have N1 := Lib.hid hns
  clear nr hns b1 PO T
  go_wp2_with fail
  go_loopg [7] ps.length (FiRel l ps w1)
  case atStart => exact ⟨0, by omega, rfl, rfl, Below.refl _ _⟩
  case round =>
    obtain ⟨i, hi, rfl, hf, hB⟩ := hrel
    have TQ := Lib.hid (T1.out.call hB)
    have KB := Lib.hid hB
    have NQ := N1.out.call hB
    clear hB
    by_cases hlt : i < ps.length
    · obtain ⟨b, off, rfl, hb, hat⟩ := NQ (by omega)
      have hx := hat i ps[i] (List.getElem?_eq_getElem hlt)
      have hlt' : (i : Int) < (ps.length : Int) := by omega
      rw [firstO_drop hlt] at hf
      have HF := Lib.hid hf
      have HI := Lib.hid hi
      have hg0 : 0 < gk := by omega
      have F0 : Hid (wr.cell? ⟨b, off + i, none⟩ = some (.int .i64 ps[i]) ∧ Below w1.heap.size w1 wr) := Lib.hid ⟨hx, KB.out⟩
      have F1 := Lib.hid (one_drew F0.out)
      have ON := Lib.hid (OF.out ps[i] wr.drew (TQ.out.call (Below.refl _ _).drew))
      clear hat NQ hf hi OF TQ KB
      generalize ps[i] = p at *
      generalize ofR l p = o at *
      by_cases h : p < o
      · have E2 : Hid (r = some p) := Lib.hid (by rw [E.out, HF.out, if_pos h])
        have h2 : o > p := h
        clear E HF
        go_wp2_with fail
        go_region_held3 (fun w' => w'.cell? ⟨b, off + i, none⟩ = some (.int .i64 p) ∧ Below w1.heap.size w1 w') (first | exact F0.out | exact F1.out | assumption) (first
          | (go_at_call 22; (with_reducible refine (ON.out).mono ?_); rintro e w2 ⟨rfl, b2⟩; (have f2 := one_call F1.out b2))
          | fail)
        all_goals
          have K2 := Lib.hid (K1.out.trans (f2.2.mono K1.out.size))
          have hx2 := f2.1
          clear f2 F0 F1 ON b2 hx
          go_wp2
          try simp only [Exit.noGoto]
          exact bodyPost_ret (v := .tuple #[.int .i64 p, .bool true]) (by simp [results, Try.results26, go_sem]) rfl ⟨by rw [E2.out]; rfl, K2.out⟩
      · have E2 := Lib.hid (HF.out.trans (if_neg h))
        have h2 : o ≤ p := by omega
        clear HF h
        go_wp2_with fail
        go_region_held3 (fun w' => w'.cell? ⟨b, off + i, none⟩ = some (.int .i64 p) ∧ Below w1.heap.size w1 w') (first | exact F0.out | exact F1.out | assumption) (first
          | (go_at_call 22; (with_reducible refine (ON.out).mono ?_); rintro e w2 ⟨rfl, b2⟩; (have f2 := one_call F1.out b2))
          | fail)
        all_goals
          have K2 := Lib.hid f2.2
          clear f2 F0 F1 ON b2 hx
          go_wp2
          go_roundg (gk - 1)
          case measure => omega
          case rel => exact ⟨i + 1, by have := HI.out; omega, by go_num, E2.out, K2.out⟩
    · have hge : (ps.length : Int) ≤ (i : Int) := by omega
      rw [List.drop_eq_nil_of_le (by omega)] at hf
      have E2 : Hid (r = none) := Lib.hid (by rw [E.out, hf]; rfl)
      have K2 := Lib.hid (K1.out.trans (KB.out.mono K1.out.size))
      have hdec : decide (i < ps.length) = false := decide_eq_false hlt
      clear hi hlt hf E NQ KB
      go_wp2
      try simp only [Exit.noGoto]
      exact bodyPost_ret (v := .tuple #[.int .i64 0, .bool false]) (by simp [results, Try.results26, go_sem]) rfl ⟨by rw [E2.out]; rfl, K2.out⟩
def SaRel (l : List Int) (W : World) (g : Nat) (t : Value) (wx : World) : Prop := ∃ i : Nat, i + g = l.length ∧ t = .int .i64 (i : Int) ∧ Below W.heap.size W wx
set_option maxHeartbeats 2000000 in
theorem same_any (l : List Int) (pa qa : Option Addr) (pc qc : Nat) (w : World) (hp : Ns pa l w) (hq : Ns qa l w) (hl : l.length ≤ 1000000) :
    Calls Try.prog 23 #[.slice pa l.length pc, .slice qa l.length qc] w fun e w' => e = .returned (.bool true) ∧ Below w.heap.size w w' := by
  have P := Lib.hid hp
  have Q := Lib.hid hq
  have e0 : ((l.length : Int) != (l.length : Int)) = false := by simp
  clear hp hq
  go_enter Try.func23, Try.ntmps23
  go_wp2_with fail
  go_loopg [5] l.length (SaRel l w)
  case atStart => exact ⟨0, by omega, rfl, Below.refl _ _⟩
  case round =>
    obtain ⟨i, hi, rfl, hB⟩ := hrel
    have KB := Lib.hid hB
    have NP := P.out.call hB
    have NQ := Q.out.call hB
    clear hB
    by_cases hlt : i < l.length
    · obtain ⟨b, off, rfl, hb, hat⟩ := NP (by omega)
      obtain ⟨b', off', rfl, hb', hat'⟩ := NQ (by omega)
      have hx := hat i l[i] (List.getElem?_eq_getElem hlt)
      have hy := hat' i l[i] (List.getElem?_eq_getElem hlt)
      have hlt' : (i : Int) < (l.length : Int) := by omega
      have HI := Lib.hid hi
      have hg0 : 0 < gk := by omega
      clear hat hat' NP NQ hi
      generalize l[i] = p at *
      have e1 : (p != p) = false := by simp
      go_wp2_with fail
      go_quiet (fail)
      have K2 := Lib.hid (KB.out.trans ((below_drewN _ nq).mono KB.out.size))
      go_wp2
      go_roundg (gk - 1)
      case measure => omega
      case rel => exact ⟨i + 1, by have := HI.out; omega, by go_num, K2.out⟩
    · have hge : (l.length : Int) ≤ (i : Int) := by omega
      have hdec : decide (i < l.length) = false := decide_eq_false hlt
      clear hi hlt NP NQ
      go_wp2
      go_ret
      exact ⟨rfl, KB.out⟩
set_option maxHeartbeats 4000000 in
theorem pointsL_any (l : List Tk) (ao : Option Addr) (cap : Nat) (most : Int) (w : World) (hT : Ts ao l w) (hl : l.length ≤ 1000) :
    Calls Try.prog 13 #[.slice ao l.length cap, .int .i64 most] w fun e w' => e = .returned (.bool true) ∧ Below w.heap.size w w' := by
  have T := Lib.hid hT
  have PO := Lib.hid (fun w h => points_any l ao cap most w h (by omega))
  have RP := Lib.hid (fun w h => rpoints_any l ao cap most w h (by omega))
  have SA := Lib.hid (fun pa qa pc qc w hp hq => same_any (ptsR l most) pa qa pc qc w hp hq (by have := ptsR_length l most; omega))
  have FI := Lib.hid (fun w h => first_any l ao cap most w h (by omega))
  have RF := Lib.hid (fun w h => rfirst_any l ao cap most w h (by omega))
  obtain ⟨y, yb, hy⟩ := ans_form (firstR l most)
  rw [hy] at FI RF
  clear hT hy
  generalize ptsR l most = ps at *
  have e1 : (yb == yb) = true := by simp
  go_enter Try.func13, Try.ntmps13
  go_wp2_with fail
  (with_reducible refine (PO.out _ T.out).mono ?_)
  rintro e w1 ⟨v1, rfl, nr1, b1⟩
  obtain ⟨pa, pc, rfl, -, ns1⟩ := nr1.form
  have T1 := Lib.hid (T.out.call b1)
  have K1 := Lib.hid b1
  have N1 := Lib.hid ns1
  clear b1 T PO nr1 ns1
  go_wp2_with fail
  (with_reducible refine (RP.out _ T1.out).mono ?_)
  rintro e w2 ⟨v2, rfl, nr2, b2⟩
  obtain ⟨qa, qc, rfl, -, ns2⟩ := nr2.form
  have T2 := Lib.hid (T1.out.call b2)
  have K2 := Lib.hid (K1.out.trans (b2.mono K1.out.size))
  have S2 := Lib.hid (SA.out pa qa pc qc w2 (N1.out.call b2) ns2)
  clear b2 T1 RP K1 nr2 ns2 N1 SA
  go_wp2_with fail
  (with_reducible refine (S2.out).mono ?_)
  rintro e w3 ⟨rfl, b3⟩
  have T3 := Lib.hid (T2.out.call b3)
  have K3 := Lib.hid (K2.out.trans (b3.mono K2.out.size))
  clear b3 T2 K2 S2
  go_wp2_with fail
  (with_reducible refine (FI.out _ T3.out).mono ?_)
  rintro e w4 ⟨rfl, b4⟩
  have T4 := Lib.hid (T3.out.call b4)
  have K4 := Lib.hid (K3.out.trans (b4.mono K3.out.size))
  clear b4 T3 K3 FI
  go_wp2_with fail
  (with_reducible refine (RF.out _ T4.out).mono ?_)
  rintro e w5 ⟨rfl, b5⟩
  have K5 := Lib.hid (K4.out.trans (b5.mono K4.out.size))
  clear b5 T4 K4 RF
  go_wp2
  go_ret
  exact ⟨rfl, K5.out⟩
end Go.Proofs.Ytldaikpchggogaa.Dm
