/- Contract of package slots' Write. -/
import Derived.Test.YtgfpnjidpdjpaaaSlH
namespace Go.Proofs.Ytgfpnjidpdjpaaa.Sl
open Go.ChangeShapes Go.WideShapes Go.ChangeAt Go.RowKit Go.Joins
open Dk (Dk DS Moved ptr)
set_option maxRecDepth 100000
set_option linter.unusedVariables false
set_option linter.unusedSimpArgs false
theorem write_long (q b : Nat) (t : SS) (data : ByteArray) (w : World) (sl : Sl q b t w) (hk : 1 ≤ t.k) (hk2 : t.k ≤ 64) (hd : 43 * t.k < data.size) :
    Calls Try.prog 13 #[ptr q, .string data] w fun e w' => e = .returned (.tuple #[.int .u64 0, .int .i64 1]) ∧ w' = w := by
  have RM := Lib.hid (room_any w sl hk2)
  have h1 : ((43 * (t.k : Int)) == 0) = false := by simp; omega
  have h2 : 43 * (t.k : Int) < (data.size : Int) := by omega
  have h3 : ¬ 43 * (t.k : Int) = 0 := by omega
  clear sl hd
  generalize 43 * (t.k : Int) = R at *
  go_enter Try.func13, Try.ntmps13
  go_wp2_with fail
  (with_reducible refine RM.out.mono ?_)
  rintro e w1 ⟨rfl, rfl⟩
  go_wp2_with fail
  (with_reducible refine RM.out.mono ?_)
  rintro e w1 ⟨rfl, rfl⟩
  clear RM
  go_wp2
  go_ret2
  exact ⟨rfl, rfl⟩
theorem write_nil (data : ByteArray) (w : World) :
    Calls Try.prog 13 #[.pointer none, .string data] w fun e w' => e = .returned (.tuple #[.int .u64 0, .int .i64 1]) ∧ w' = w := by
  have RM := Lib.hid (room_nil w)
  go_enter Try.func13, Try.ntmps13
  go_wp2_with fail
  (with_reducible refine RM.out.mono ?_)
  rintro e w1 ⟨rfl, rfl⟩
  clear RM
  go_wp2
  go_ret2
  exact ⟨rfl, rfl⟩
theorem write_state (q b : Nat) (t : SS) (data : ByteArray) (w : World) (sl : Sl q b t w) (hk : 1 ≤ t.k) (hk2 : t.k ≤ 64) (hd : data.size ≤ 43 * t.k) (hr : t.rd = false) :
    Calls Try.prog 13 #[ptr q, .string data] w fun e w' => e = .returned (.tuple #[.int .u64 0, .int .i64 13]) ∧ w' = w := by
  have RM := Lib.hid (room_any w sl hk2)
  have h1 : ((43 * (t.k : Int)) == 0) = false := by simp; omega
  have h2 : (data.size : Int) ≤ 43 * (t.k : Int) := by omega
  have h3 : ¬ 43 * (t.k : Int) = 0 := by omega
  have c3 := sl.c3
  rw [hr] at c3
  clear sl hd
  generalize 43 * (t.k : Int) = R at *
  go_enter Try.func13, Try.ntmps13
  go_wp2_with fail
  (with_reducible refine RM.out.mono ?_)
  rintro e w1 ⟨rfl, rfl⟩
  go_wp2_with fail
  (with_reducible refine RM.out.mono ?_)
  rintro e w1 ⟨rfl, rfl⟩
  clear RM
  go_wp2
  go_ret2
  exact ⟨rfl, rfl⟩
/-- what slots know behind a Write -/
def wroteT (t : SS) (ok : Bool) : SS := ⟨t.at_, t.k, ok, t.nw + 1, if ok then 1 - t.nx else t.nx⟩
def wroteV (t : SS) (ok : Bool) : Value := if ok then .tuple #[.int .u64 ((t.nw + 1 : Nat) : Int), .int .i64 0] else .tuple #[.int .u64 0, .int .i64 18]
theorem write_any (B b q : Nat) (t : SS) (s : DS) (data : List UInt8) (w : World) (dk : Dk B b s w) (sl : Sl q b t w) (hk : 1 ≤ t.k) (hk2 : t.k ≤ 64) (hx : t.nx ≤ 1) (ha : t.at_ + t.nx * t.k + t.k ≤ s.sec.length) (hr : t.rd = true) (hnw : t.nw < 18446744073709551615) (hd : data.length ≤ 1000) (hd2 : data.length ≤ 43 * t.k) (hn : s.opn.length ≤ 800000) (hf : s.fail < 9223372036854775808) :
    Calls Try.prog 13 #[ptr q, .string (mkB data)] w fun e w' => e = .returned (wroteV t (putR s (t.at_ + t.nx * t.k) t.k data (t.nw + 1)).2) ∧ Dk B b (putR s (t.at_ + t.nx * t.k) t.k data (t.nw + 1)).1 w' ∧ Sl q b (wroteT t (putR s (t.at_ + t.nx * t.k) t.k data (t.nw + 1)).2) w' ∧ Mv b q w w' := by
  have RM := Lib.hid (room_any w sl hk2)
  have h1 : ((43 * (t.k : Int)) == 0) = false := by simp; omega
  have h2 : ((mkB data).size : Int) ≤ 43 * (t.k : Int) := by rw [mkB_size]; omega
  have h3 : ¬ 43 * (t.k : Int) = 0 := by omega
  have c3 := sl.c3
  have c4 := sl.c4
  have f4 := sl.fz 4
  rw [hr] at c3
  have hne : ((t.nw : Int) == 18446744073709551615) = false := by simp; omega
  have hne2 : ¬ (t.nw : Int) = 18446744073709551615 := by omega
  have hnw1 : (t.nw : Int) + 1 < 18446744073709551616 := by omega
  have hqb := sl.ne dk
  have S1 := Lib.hid (fun x (e : x = ((t.nw + 1 : Nat) : Int)) => show Dk B b s (w.setCell ⟨q, 4, none⟩ (.int .u64 x)) ∧ Sl q b ⟨t.at_, t.k, true, t.nw + 1, t.nx⟩ (w.setCell ⟨q, 4, none⟩ (.int .u64 x)) ∧ Mv b q w (w.setCell ⟨q, 4, none⟩ (.int .u64 x)) from ⟨Dk_setOther dk (sl.notOwn dk), by have := sl.setNw e; rw [hr] at this; exact this, (Mv.refl b q w).set hqb 4 _⟩)
  have PT := Lib.hid (fun w1 (hd' : Dk B b s w1) (hs : Sl q b ⟨t.at_, t.k, true, t.nw + 1, t.nx⟩ w1) => put_any B b q ⟨t.at_, t.k, true, t.nw + 1, t.nx⟩ s data w1 hd' hs hk hk2 hx ha (by show t.nw + 1 < _; omega) hd hd2 hn hf)
  have HX := Lib.hid hx
  have HQ := Lib.hid hqb
  have HNW := Lib.hid hnw
  clear sl dk hd hd2 ha hf hn hqb hnw
  dsimp only at PT
  generalize hP : putR s (t.at_ + t.nx * t.k) t.k data (t.nw + 1) = P at *
  clear hP
  obtain ⟨P1, P2⟩ := P
  dsimp only at PT ⊢
  generalize 43 * (t.k : Int) = R at *
  generalize mkB data = DT at *
  have E1 := Lib.hid (show (t.nw : Int) + 1 = ((t.nw + 1 : Nat) : Int) by push_cast; rfl)
  have nw0 : (0 : Int) ≤ (t.nw : Int) := by omega
  clear hnw1 hne2
  have nw1 : (t.nw : Int) ≤ 18446744073709551614 := by have := HNW.out; omega
  generalize (t.nw : Int) = NI at *
  go_enter Try.func13, Try.ntmps13
  go_wp2_with fail
  (with_reducible refine RM.out.mono ?_)
  rintro e w1 ⟨rfl, rfl⟩
  go_wp2_with fail
  (with_reducible refine RM.out.mono ?_)
  rintro e w1 ⟨rfl, rfl⟩
  clear RM
  go_wp2_with fail
  have S2 := S1.out _ E1.out
  clear S1
  (with_reducible refine (PT.out _ S2.1 S2.2.1).mono ?_)
  rintro e w2 ⟨rfl, k2, m2⟩
  have K2 := Lib.hid (And.intro k2 (And.intro (S2.2.1.disk S2.1 m2) (S2.2.2.moved m2)))
  clear k2 m2 S2 PT c3 c4 f4
  have d3 := K2.out.2.1.c3
  have g3 := K2.out.2.1.fz 3
  have d4 := K2.out.2.1.c4
  have d5 := K2.out.2.1.c5
  have g5 := K2.out.2.1.fz 5
  cases P2 with
  | false =>
    have FIN := Lib.hid (show Dk B b P1 (w2.setCell ⟨q, 3, none⟩ (.bool false)) ∧ Sl q b (wroteT t false) (w2.setCell ⟨q, 3, none⟩ (.bool false)) ∧ Mv b q w1 (w2.setCell ⟨q, 3, none⟩ (.bool false)) from ⟨Dk_setOther K2.out.1 (K2.out.2.1.notOwn K2.out.1), K2.out.2.1.setRd false, K2.out.2.2.set HQ.out 3 _⟩)
    clear K2
    go_wp2
    go_ret2
    exact ⟨rfl, FIN.out⟩
  | true =>
    have OT := Lib.hid (fun w => other_any t.nx w HX.out)
    have FIN := Lib.hid (fun x (e : x = ((1 - t.nx : Nat) : Int)) => show Dk B b P1 ((w2.setCell ⟨q, 3, none⟩ (.bool true)).setCell ⟨q, 5, none⟩ (.int .i64 x)) ∧ Sl q b (wroteT t true) ((w2.setCell ⟨q, 3, none⟩ (.bool true)).setCell ⟨q, 5, none⟩ (.int .i64 x)) ∧ Mv b q w1 ((w2.setCell ⟨q, 3, none⟩ (.bool true)).setCell ⟨q, 5, none⟩ (.int .i64 x)) from by
      have s1 := K2.out.2.1.setRd true
      have d1 := Dk_setOther (o := 3) (v := .bool true) K2.out.1 (K2.out.2.1.notOwn K2.out.1)
      exact ⟨Dk_setOther d1 (s1.notOwn d1), s1.setNx e, (K2.out.2.2.set HQ.out 3 _).set HQ.out 5 _⟩)
    have E2 := Lib.hid (show (1 : Int) - (t.nx : Int) = ((1 - t.nx : Nat) : Int) by have := HX.out; omega)
    clear K2
    go_wp2_with fail
    (with_reducible refine (OT.out _).mono ?_)
    rintro e w3 ⟨rfl, rfl⟩
    clear OT
    go_wp2
    go_ret2
    exact ⟨rfl, FIN.out _ E2.out⟩
end Go.Proofs.Ytgfpnjidpdjpaaa.Sl
