/- The document's Steps, Same. -/
import Derived.Test.YtbhafcaekpccoaaBsH
import Derived.Test.YtbhafcaekpccoaaBsD
import Derived.BigQuiet
namespace Go.Proofs.Ytbhafcaekpccoaa.Bs
open Go.ChangeShapes Go.WideShapes Go.ChangeAt Go.RowKit Go.Joins
open Pm (Tk chk chk_iff rowB rowB_all rowB_len TkAt Ts TRow loadR wrap_in below_drewN)
open Dm (isTime isTime_iff nums NRow Ns nrow_nil nrow_append)
set_option maxRecDepth 100000
set_option maxRecDepth 100000
set_option linter.unusedVariables false
set_option linter.unusedSimpArgs false
/-- a row of one number, made -/
theorem nrow_one (B : Nat) (w : World) (x : Int) (hB : B ≤ w.heap.size) : NRow B (w.alloc (.cells #[.int .i64 x] 2)) (.slice (some ⟨w.heap.size, 0, none⟩) 1 1) [x] :=
  ⟨rfl, .inr ⟨w.heap.size, 1, #[.int .i64 x], rfl, hB, by show (w.heap.push _)[w.heap.size]? = _; rw [Array.getElem?_push_size], Nat.le_refl _, by simp [maxLen], rfl, rfl⟩⟩
theorem lengthR_good {l : List Tk} (he : (lengthR l).e = 0) : ∃ m, Good l m ∧ lengthR l = ⟨m, 0⟩ := by
  by_cases h1 : (loadR l).e = 0
  · by_cases h2 : (loadR l).n ≤ (loadR l).p
    · exact good_of h1 h2
    · rw [lengthR_over h1 (by omega)] at he; cases he
  · rw [lengthR_bad h1] at he; exact absurd he h1
/-- i tasks were counted -/
def ScRel (l : List Tk) (B : Nat) (w : World) (g : Nat) (s t : Value) (wx : World) : Prop :=
  ∃ i : Nat, i + g = l.length ∧ s = .int .i64 (wk (l.take i) 1) ∧ t = .int .i64 (i : Int) ∧ Below B w wx
/-- q, and then x, were told -/
def SqRel (l : List Tk) (m : Int) (w : World) (g : Nat) (s t : Value) (wx : World) : Prop :=
  ∃ (q : List Int) (x : Int), s = .int .i64 x ∧ NRow w.heap.size wx t (q ++ [x]) ∧ chainW l 1 (q ++ [x]) ∧ (∀ z ∈ q, z < m) ∧ x ≤ m ∧ (q.length : Int) + 1 ≤ x ∧ (g : Int) = m - x ∧ Below w.heap.size w wx
def SaRel (l : List Int) (W : World) (g : Nat) (t : Value) (wx : World) : Prop := ∃ i : Nat, i + g = l.length ∧ t = .int .i64 (i : Int) ∧ Below W.heap.size W wx
set_option maxHeartbeats 2000000 in
theorem same_any (l : List Int) (pa qa : Option Addr) (pc qc : Nat) (w : World) (hp : Ns pa l w) (hq : Ns qa l w) (hl : l.length ≤ 4000000) :
    Calls Try.prog 14 #[.slice pa l.length pc, .slice qa l.length qc] w fun e w' => e = .returned (.bool true) ∧ Below w.heap.size w w' := by
  have P := Lib.hid hp
  have Q := Lib.hid hq
  have e0 : ((l.length : Int) != (l.length : Int)) = false := by simp
  clear hp hq
  go_enter Try.func14, Try.ntmps14
  go_wp2_with fail
  go_loopg [5] l.length (SaRel l w)
  case atStart => exact ⟨0, by omega, rfl, Below.refl _ _⟩
  case round =>
    obtain ⟨i, hi, rfl, hB⟩ := hrel
    have KB := Lib.hid hB
    have NP := P.out.call hB
    have NQ := Q.out.call hB
    clear hB
    by_cases hlt : i < l.length
    · obtain ⟨b, off, rfl, hb, hat⟩ := NP (by omega)
      obtain ⟨b', off', rfl, hb', hat'⟩ := NQ (by omega)
      have hx := hat i l[i] (List.getElem?_eq_getElem hlt)
      have hy := hat' i l[i] (List.getElem?_eq_getElem hlt)
      have hlt' : (i : Int) < (l.length : Int) := by omega
      have HI := Lib.hid hi
      have hg0 : 0 < gk := by omega
      clear hat hat' NP NQ hi
      generalize l[i] = p at *
      have e1 : (p != p) = false := by simp
      go_wp2_with fail
      go_quiet (fail)
      have K2 := Lib.hid (KB.out.trans ((below_drewN _ nq).mono KB.out.size))
      go_wp2
      go_roundg (gk - 1)
      case measure => omega
      case rel => exact ⟨i + 1, by have := HI.out; omega, by go_num, K2.out⟩
    · have hge : (l.length : Int) ≤ (i : Int) := by omega
      have hdec : decide (i < l.length) = false := decide_eq_false hlt
      clear hi hlt NP NQ
      go_wp2
      go_ret
      exact ⟨rfl, KB.out⟩
end Go.Proofs.Ytbhafcaekpccoaa.Bs
