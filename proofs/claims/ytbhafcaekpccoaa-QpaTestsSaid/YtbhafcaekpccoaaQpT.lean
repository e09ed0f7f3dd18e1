/- The statements' function tests of layer 12. -/
import Derived.Test.YtbhafcaekpccoaaQpC
import Derived.Test.YtbhafcaekpccoaaQpE
import Derived.Test.YtbhafcaekpccoaaQpH
import Derived.Test.YtbhafcaekpccoaaQpE4
namespace Go.Proofs.Ytbhafcaekpccoaa.Qp
open Go.ChangeShapes Go.WideShapes Go.ChangeAt Go.RowKit Go.Joins
open Pm (Tk chk chk_iff rowB rowB_all rowB_len TkAt Ts TRow)
set_option maxRecDepth 100000
set_option maxRecDepth 100000
set_option linter.unusedVariables false
set_option linter.unusedSimpArgs false
set_option maxHeartbeats 4000000 in
theorem tests_any (l : List Tk) (ao : Option Addr) (cap : Nat) (w : World) (hT : Ts ao l w) (hl : l.length ≤ 100000) :
    Calls Try.prog 11 #[.slice ao l.length cap] w fun e w' => e = .returned (.bool true) ∧ Below w.heap.size w w' := by
  have M1 := Lib.hid (fun w h => miss_any l ao cap w h (by omega))
  have M2 := Lib.hid (fun w h => rmiss_any l ao cap w h (by omega))
  have T1 := Lib.hid (fun w h => test_any l ao cap w h (by omega))
  have T2 := Lib.hid (fun w h => rtest_any l ao cap w h (by omega))
  have D1 := Lib.hid (fun w h => modes_any l ao cap w h hl)
  have D2 := Lib.hid (fun w h => rmodes_any l ao cap w h hl)
  have T := Lib.hid hT
  generalize missR l = r at *
  obtain ⟨rn, re⟩ := r
  generalize testR l = te at *
  generalize mdR l 0 = d0 at *
  generalize mdR l 1 = d1 at *
  generalize mdR l 2 = d2 at *
  generalize mdR l 3 = d3 at *
  simp only at M1 M2
  clear hT
  go_enter Try.func11, Try.ntmps11
  go_wp2_with fail
  (with_reducible refine (M1.out _ T.out).mono ?_)
  rintro e w1 ⟨rfl, b1⟩
  have X1 := Lib.hid (T.out.call b1)
  have K1 := Lib.hid b1
  clear b1 M1
  go_wp2_with fail
  (with_reducible refine (M2.out _ X1.out).mono ?_)
  rintro e w2 ⟨rfl, b2⟩
  have X2 := Lib.hid (X1.out.call b2)
  have K2 := Lib.hid (K1.out.trans (b2.mono K1.out.size))
  clear b2 M2 X1 K1
  go_wp2_with fail
  (with_reducible refine (T1.out _ X2.out).mono ?_)
  rintro e w3 ⟨rfl, b3⟩
  have X3 := Lib.hid (X2.out.call b3)
  have K3 := Lib.hid (K2.out.trans (b3.mono K2.out.size))
  clear b3 T1 X2 K2
  go_wp2_with fail
  (with_reducible refine (T2.out _ X3.out).mono ?_)
  rintro e w4 ⟨rfl, b4⟩
  have X4 := Lib.hid (X3.out.call b4)
  have K4 := Lib.hid (K3.out.trans (b4.mono K3.out.size))
  clear b4 T2 X3 K3
  go_wp2_with fail
  (with_reducible refine (D1.out _ X4.out).mono ?_)
  rintro e w5 ⟨rfl, b5⟩
  have X5 := Lib.hid (X4.out.call b5)
  have K5 := Lib.hid (K4.out.trans (b5.mono K4.out.size))
  clear b5 D1 X4 K4
  go_wp2_with fail
  (with_reducible refine (D2.out _ X5.out).mono ?_)
  rintro e w6 ⟨rfl, b6⟩
  have X6 := Lib.hid (X5.out.call b6)
  have K6 := Lib.hid (K5.out.trans (b6.mono K5.out.size))
  clear b6 D2 X5 K5
  have EQ := eq4 d0 d1 d2 d3 w6
  go_wp2
  go_ret
  exact ⟨rfl, K6.out⟩
end Go.Proofs.Ytbhafcaekpccoaa.Qp
