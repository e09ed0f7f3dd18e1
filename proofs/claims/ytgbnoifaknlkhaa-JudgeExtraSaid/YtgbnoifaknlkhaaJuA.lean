/- Rows of tasks, seen as layer 12 sees them; Test both ways of a row. -/
import Derived.Test.YtgbnoifaknlkhaaJuMath
import Derived.Test.YtgbnoifaknlkhaaMTt
import Derived.Test.YtgbnoifaknlkhaaMQa
import Derived.Test.YtgbnoifaknlkhaaQpE
namespace Go.Proofs.Ytgbnoifaknlkhaa.Ju
open Go.ChangeShapes Go.WideShapes Go.ChangeAt Go.RowKit Go.Joins
open Pm (Tk Ts TkAt)
open Ge (El Seen Row)
open Qp (testR test_any rtest_any)
open Tb
set_option maxRecDepth 100000
set_option maxRecDepth 100000
set_option linter.unusedVariables false
set_option linter.unusedSimpArgs false
theorem seen_ts {ao : Option Addr} {l : List Tk} {w : World} (h : Seen tcs 5 ao l w) : Ts ao l w := fun h0 => by
  obtain ⟨b, off, rfl, hb, hat⟩ := h h0
  refine ⟨b, off, rfl, hb, fun i x hi => ?_⟩
  obtain ⟨c0, c1, c2, c3, c4⟩ := tk_cells hat hi
  exact ⟨c0, c1, c2, c3, c4⟩
theorem row_tk {B : Nat} {w : World} {ao : Option Addr} {k cap : Nat} {l : List Tk} (h : Row tcs 5 32 B w (.slice ao k cap) l) : Seen tcs 5 ao l w ∧ k = l.length ∧ k ≤ cap := by
  obtain ⟨a, c, e, hc, hs, -⟩ := Ge.Row.form tcs_len h
  cases e
  exact ⟨hs, rfl, hc⟩
theorem test_seen (l : List Tk) (ao : Option Addr) (cap : Nat) (w : World) (h : Seen tcs 5 ao l w) (hl : l.length ≤ 1000000) :
    Calls Try.prog 42 #[.slice ao l.length cap] w fun e w' => e = .returned (.int .i64 (testR l)) ∧ Below w.heap.size w w' := test_any l ao cap w (seen_ts h) hl
theorem rtest_seen (l : List Tk) (ao : Option Addr) (cap : Nat) (w : World) (h : Seen tcs 5 ao l w) (hl : l.length ≤ 1000000) :
    Calls Try.prog 14 #[.slice ao l.length cap] w fun e w' => e = .returned (.int .i64 (testR l)) ∧ Below w.heap.size w w' := rtest_any l ao cap w (seen_ts h) hl
end Go.Proofs.Ytgbnoifaknlkhaa.Ju
