/- The statements' functions tells, lengths of layer 11: one row, both ways. -/
import Derived.Test.YtfnagjfgnbnlbaaBsN
import Derived.BigQuiet
namespace Go.Proofs.Ytfnagjfgnbnlbaa.Bs
open Go.ChangeShapes Go.WideShapes Go.ChangeAt Go.RowKit Go.Joins
open Pm
set_option maxRecDepth 100000
set_option maxRecDepth 100000
set_option linter.unusedVariables false
set_option linter.unusedSimpArgs false
set_option maxHeartbeats 4000000 in
theorem tells_any (l : List Tk) (ao : Option Addr) (cap : Nat) (x : Int) (w : World) (hT : Ts ao l w) (hl : l.length ≤ 1000) :
    Calls Try.prog 10 #[.slice ao l.length cap, .int .i64 x] w fun e w' => e = .returned (.bool true) ∧ Below w.heap.size w w' := by
  have T := Lib.hid hT
  have WK := Lib.hid (fun w h => work_any l ao cap x w h (by omega))
  have RW := Lib.hid (fun w h => rwork_any l ao cap x w h (by omega))
  have ID := Lib.hid (fun w h => idle_any l ao cap x w h (by omega))
  have RI := Lib.hid (fun w h => ridle_any l ao cap x w h (by omega))
  have LE := Lib.hid (fun w h => least_any l ao cap w h (by omega))
  have RL := Lib.hid (fun w h => rleast_any l ao cap w h (by omega))
  clear hT
  generalize workR l x = a at *
  generalize idleR l x = b at *
  generalize leastR l = c at *
  have e1 : (a == a) = true := by simp
  have e2 : (b == b) = true := by simp
  have e3 : (c == c) = true := by simp
  go_enter Try.func10, Try.ntmps10
  go_wp2_with fail
  (with_reducible refine (WK.out _ T.out).mono ?_)
  rintro e w1 ⟨rfl, b1⟩
  have T1 := Lib.hid (T.out.call b1)
  have K1 := Lib.hid b1
  clear b1 T WK
  go_wp2_with fail
  (with_reducible refine (RW.out _ T1.out).mono ?_)
  rintro e w2 ⟨rfl, b2⟩
  have T2 := Lib.hid (T1.out.call b2)
  have K2 := Lib.hid (K1.out.trans (b2.mono K1.out.size))
  clear b2 T1 RW K1
  go_wp2_with fail
  (with_reducible refine (ID.out _ T2.out).mono ?_)
  rintro e w3 ⟨rfl, b3⟩
  have T3 := Lib.hid (T2.out.call b3)
  have K3 := Lib.hid (K2.out.trans (b3.mono K2.out.size))
  clear b3 T2 ID K2
  go_wp2_with fail
  (with_reducible refine (RI.out _ T3.out).mono ?_)
  rintro e w4 ⟨rfl, b4⟩
  have T4 := Lib.hid (T3.out.call b4)
  have K4 := Lib.hid (K3.out.trans (b4.mono K3.out.size))
  clear b4 T3 RI K3
  go_wp2_with fail
  (with_reducible refine (LE.out _ T4.out).mono ?_)
  rintro e w5 ⟨rfl, b5⟩
  have T5 := Lib.hid (T4.out.call b5)
  have K5 := Lib.hid (K4.out.trans (b5.mono K4.out.size))
  clear b5 T4 LE K4
  go_wp2_with fail
  (with_reducible refine (RL.out _ T5.out).mono ?_)
  rintro e w6 ⟨rfl, b6⟩
  have K6 := Lib.hid (K5.out.trans (b6.mono K5.out.size))
  clear b6 T5 RL K5
  go_wp2
  go_ret
  exact ⟨rfl, K6.out⟩
set_option maxHeartbeats 4000000 in
theorem lengths_any (l : List Tk) (ao : Option Addr) (cap : Nat) (w : World) (hT : Ts ao l w) (hl : l.length ≤ 1000) :
    Calls Try.prog 13 #[.slice ao l.length cap] w fun e w' => e = .returned (.bool true) ∧ Below w.heap.size w w' := by
  have T := Lib.hid hT
  have LE := Lib.hid (fun w h => length_any l ao cap w h (by omega))
  have RL := Lib.hid (fun w h => rlength_any l ao cap w h (by omega))
  have SP := Lib.hid (fun w h => bsteps_any l ao cap w h (by omega))
  have RS := Lib.hid (fun w h => rsteps_any l ao cap w h (by omega))
  have SA := Lib.hid same_any
  clear hT
  generalize lengthR l = z at *
  obtain ⟨n, e⟩ := z
  simp only at *
  have e1 : (n == n) = true := by simp
  have e2 : (e == e) = true := by simp
  go_enter Try.func13, Try.ntmps13
  go_wp2_with fail
  (with_reducible refine (LE.out _ T.out).mono ?_)
  rintro e w1 ⟨rfl, b1⟩
  have T1 := Lib.hid (T.out.call b1)
  have K1 := Lib.hid b1
  clear b1 T LE
  go_wp2_with fail
  (with_reducible refine (RL.out _ T1.out).mono ?_)
  rintro e w2 ⟨rfl, b2⟩
  have T2 := Lib.hid (T1.out.call b2)
  have K2 := Lib.hid (K1.out.trans (b2.mono K1.out.size))
  clear b2 T1 RL K1
  go_wp2_with fail
  (with_reducible refine (SP.out _ T2.out).mono ?_)
  rintro e w3 ⟨v3, r, rfl, nr, so, b3⟩
  have T3 := Lib.hid (T2.out.call b3)
  have K3 := Lib.hid (K2.out.trans (b3.mono K2.out.size))
  have NR := Lib.hid nr
  have SO := Lib.hid so
  clear b3 T2 SP K2 nr so
  go_wp2_with fail
  (with_reducible refine (RS.out _ T3.out).mono ?_)
  rintro e w4 ⟨v4, r2, rfl, nr2, so2, b4⟩
  have K4 := Lib.hid (K3.out.trans (b4.mono K3.out.size))
  obtain rfl : r = r2 := SO.out.uniq so2
  obtain ⟨pa, pc, rfl, -, n1⟩ := (NR.out.call b4).form
  obtain ⟨qa, qc, rfl, -, n2⟩ := nr2.form
  have SS := Lib.hid (SA.out r pa qa pc qc w4 n1 n2 (by have := steps_len so2; omega))
  clear b4 T3 RS K3 NR SO so2 n1 n2 nr2 SA
  generalize r.length = rn at *
  go_wp2_with fail
  (with_reducible refine SS.out.mono ?_)
  rintro e w5 ⟨rfl, b5⟩
  have K5 := Lib.hid (K4.out.trans (b5.mono K4.out.size))
  clear b5 K4 SS
  go_wp2
  go_ret
  exact ⟨rfl, K5.out⟩
end Go.Proofs.Ytfnagjfgnbnlbaa.Bs
