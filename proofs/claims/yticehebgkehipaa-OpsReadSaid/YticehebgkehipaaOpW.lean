/- How the arguments of the statements of layer 13 are opened; awake, short, tells. -/
import Derived.Test.YticehebgkehipaaOpK
import Derived.ChangeOld
import Derived.ShutString
import Derived.Deep.Slices
import Derived.ChangeSlices
import Derived.Laws.BytesString
import Derived.Laws.IdiomStrings
namespace Go.Proofs.Yticehebgkehipaa.Ox
open Go.ChangeShapes Go.WideShapes Go.ChangeAt Go.RowKit Go.Joins
open Oc
open Pm (Tk chk chk_iff I64)
set_option maxRecDepth 100000
set_option maxRecDepth 100000
set_option linter.unusedVariables false
set_option linter.unusedSimpArgs false
theorem one_of {cs : List Value} {j : Nat} (h : j < cs.length) : (cs.drop j).take 1 = [cs[j]] := by
  rw [List.drop_eq_getElem_cons h]; rfl
theorem i64_wf {z : Int} (h : (Lit.int .i64 z).wf = true) : I64 z := by
  have := bounds_i64 h
  unfold I64; omega
theorem open_task {H : Type} {enc : TypeId × Value → H} {W : World} {base : Nat} {spare : Nat → Bool} {held : Bool} {fuel : Nat} {cs : List Value} {x : DataW H × List MemPlace} (hl : cs.length = 5)
    (h : DataW.trod enc Try.prog W base spare held fuel 23 cs = some x) : ∃ t : Tk, cs = [.int .i64 t.id, .int .i64 t.c, .int .i64 t.d, .int .i64 t.t, .int .i64 t.m] ∧ t.Ok := by
  have ci : Try.prog.cellsOf 3 = 1 := by kernel_rfl
  have cl : Try.prog.cellsOf 2 = 1 := by kernel_rfl
  obtain ⟨ys, n', hn', hy, hlen, hyl, hfd⟩ := DataW.trod_struct Try.underlying23 h
  have g0 : DataW.trod enc Try.prog W base spare held n' 3 ((cs.drop 0).take (Try.prog.cellsOf 3)) = ys[0]? := hfd 0 _ rfl
  have g1 : DataW.trod enc Try.prog W base spare held n' 2 ((cs.drop 1).take (Try.prog.cellsOf 2)) = ys[1]? := hfd 1 _ rfl
  have g2 : DataW.trod enc Try.prog W base spare held n' 2 ((cs.drop 2).take (Try.prog.cellsOf 2)) = ys[2]? := hfd 2 _ rfl
  have g3 : DataW.trod enc Try.prog W base spare held n' 2 ((cs.drop 3).take (Try.prog.cellsOf 2)) = ys[3]? := hfd 3 _ rfl
  have g4 : DataW.trod enc Try.prog W base spare held n' 3 ((cs.drop 4).take (Try.prog.cellsOf 3)) = ys[4]? := hfd 4 _ rfl
  have hy5 : ys.length = 5 := by rw [hyl]; rfl
  rw [ci, one_of (j := 0) (by omega), List.getElem?_eq_getElem (by omega)] at g0
  obtain ⟨z0, e0, -, w0⟩ := DataW.trod_int Try.underlying3 g0
  rw [cl, one_of (j := 1) (by omega), List.getElem?_eq_getElem (by omega)] at g1
  obtain ⟨z1, e1, -, w1⟩ := DataW.trod_int Try.underlying2 g1
  rw [cl, one_of (j := 2) (by omega), List.getElem?_eq_getElem (by omega)] at g2
  obtain ⟨z2, e2, -, w2⟩ := DataW.trod_int Try.underlying2 g2
  rw [cl, one_of (j := 3) (by omega), List.getElem?_eq_getElem (by omega)] at g3
  obtain ⟨z3, e3, -, w3⟩ := DataW.trod_int Try.underlying2 g3
  rw [ci, one_of (j := 4) (by omega), List.getElem?_eq_getElem (by omega)] at g4
  obtain ⟨z4, e4, -, w4⟩ := DataW.trod_int Try.underlying3 g4
  refine ⟨⟨z0, z1, z2, z3, z4⟩, ?_, ⟨i64_wf w0, i64_wf w1, i64_wf w2, i64_wf w3, i64_wf w4⟩⟩
  clear hfd hy g0 g1 g2 g3 g4
  match cs, hl, e0, e1, e2, e3, e4 with
  | [u0, u1, u2, u3, u4], _, e0, e1, e2, e3, e4 =>
    simp at e0 e1 e2 e3 e4
    subst e0 e1 e2 e3 e4
    rfl
structure Od.Ok (o : Od) : Prop where
  kind : I64 o.kind
  task : o.task.Ok
  id : I64 o.id
  c : I64 o.c
  mode : I64 o.mode
theorem open_op {H : Type} {enc : TypeId × Value → H} {W : World} {r : Reach} {b0 base : Nat} {spare : Nat → Bool} {held : Bool} {v : Value} {d : DataW H} {p : List MemPlace}
    (hok : Value.okWide Try.prog W r b0 25 v) (h : DataW.Trod enc Try.prog W base spare held 25 v d p) : ∃ o : Od, v = o.v ∧ o.Ok := by
  have hC : Try.prog.cellsOf 25 = 10 := by kernel_rfl
  have ci : Try.prog.cellsOf 3 = 1 := by kernel_rfl
  have cl : Try.prog.cellsOf 2 = 1 := by kernel_rfl
  have cb : Try.prog.cellsOf 4 = 1 := by kernel_rfl
  have ct : Try.prog.cellsOf 23 = 5 := by kernel_rfl
  obtain ⟨cv, rfl, hsz, _⟩ : ∃ cs, v = .agg cs ∧ cs.size = Try.prog.cellsOf 25 ∧ Row.okWide Try.prog W r b0 25 cs := by
    have hu := Try.underlying25
    simpa [Value.okWide, hu] using hok
  rw [hC] at hsz
  obtain ⟨fuel, hf⟩ := h
  have ecs : (Value.agg cv).cells.toList = cv.toList := by simp [Value.cells]
  rw [ecs] at hf
  obtain ⟨cs, hcs⟩ : ∃ cs, cs = cv.toList := ⟨_, rfl⟩
  rw [← hcs] at hf
  have hl : cs.length = 10 := by rw [hcs]; simpa using hsz
  have hcv : cv = cs.toArray := by rw [hcs]
  clear hcs ecs hsz
  obtain ⟨ys, n', hn', hy, hlen, hyl, hfd⟩ := DataW.trod_struct Try.underlying25 hf
  have g0 : DataW.trod enc Try.prog W base spare held n' 3 ((cs.drop 0).take (Try.prog.cellsOf 3)) = ys[0]? := hfd 0 _ rfl
  have g1 : DataW.trod enc Try.prog W base spare held n' 23 ((cs.drop 1).take (Try.prog.cellsOf 23)) = ys[1]? := hfd 1 _ rfl
  have g2 : DataW.trod enc Try.prog W base spare held n' 4 ((cs.drop 6).take (Try.prog.cellsOf 4)) = ys[2]? := hfd 2 _ rfl
  have g3 : DataW.trod enc Try.prog W base spare held n' 3 ((cs.drop 7).take (Try.prog.cellsOf 3)) = ys[3]? := hfd 3 _ rfl
  have g4 : DataW.trod enc Try.prog W base spare held n' 2 ((cs.drop 8).take (Try.prog.cellsOf 2)) = ys[4]? := hfd 4 _ rfl
  have g5 : DataW.trod enc Try.prog W base spare held n' 3 ((cs.drop 9).take (Try.prog.cellsOf 3)) = ys[5]? := hfd 5 _ rfl
  have hy5 : ys.length = 6 := by rw [hyl]; rfl
  rw [ct, List.getElem?_eq_getElem (by omega)] at g1
  obtain ⟨tk, et, okt⟩ := open_task (by rw [List.length_take, List.length_drop]; omega) g1
  rw [ci, one_of (j := 0) (by omega), List.getElem?_eq_getElem (by omega)] at g0
  obtain ⟨z0, e0, -, w0⟩ := DataW.trod_int Try.underlying3 g0
  rw [cb, one_of (j := 6) (by omega), List.getElem?_eq_getElem (by omega)] at g2
  obtain ⟨z2, e2, -⟩ := DataW.trod_bool Try.underlying4 g2
  rw [ci, one_of (j := 7) (by omega), List.getElem?_eq_getElem (by omega)] at g3
  obtain ⟨z3, e3, -, w3⟩ := DataW.trod_int Try.underlying3 g3
  rw [cl, one_of (j := 8) (by omega), List.getElem?_eq_getElem (by omega)] at g4
  obtain ⟨z4, e4, -, w4⟩ := DataW.trod_int Try.underlying2 g4
  rw [ci, one_of (j := 9) (by omega), List.getElem?_eq_getElem (by omega)] at g5
  obtain ⟨z5, e5, -, w5⟩ := DataW.trod_int Try.underlying3 g5
  refine ⟨⟨z0, tk, z2, z3, z4, z5⟩, ?_, ⟨i64_wf w0, okt, i64_wf w3, i64_wf w4, i64_wf w5⟩⟩
  clear hfd hy g0 g1 g2 g3 g4 g5
  subst hcv
  match cs, hl, e0, et, e2, e3, e4, e5 with
  | [u0, u1, u2, u3, u4, u5, u6, u7, u8, u9], _, e0, et, e2, e3, e4, e5 =>
    simp at e0 et e2 e3 e4 e5
    obtain ⟨rfl, rfl, rfl, rfl, rfl⟩ := et
    subst e0 e2 e3 e4 e5
    rfl
/-- three numbers -/
theorem open_three {H : Type} {enc : TypeId × Value → H} {W : World} {r : Reach} {b0 base : Nat} {spare : Nat → Bool} {held : Bool} {v : Value} {d : DataW H} {p : List MemPlace}
    (hok : Value.okWide Try.prog W r b0 31 v) (h : DataW.Trod enc Try.prog W base spare held 31 v d p) :
    ∃ a b c : Int, v = .agg #[.int .i64 a, .int .i64 b, .int .i64 c] ∧ I64 a ∧ I64 b ∧ I64 c := by
  have ht : Try.prog.underlying 31 = some (.array 3 3) := Try.underlying31
  obtain ⟨cv, rfl, hsz, _⟩ : ∃ cs, v = .agg cs ∧ cs.size = Try.prog.cellsOf 31 ∧ Row.okWide Try.prog W r b0 31 cs := by
    simpa [Value.okWide, ht] using hok
  have hC : Try.prog.cellsOf 31 = 3 := by kernel_rfl
  rw [hC] at hsz
  obtain ⟨fuel, hf⟩ := h
  have ecs : (Value.agg cv).cells.toList = cv.toList := by simp [Value.cells]
  rw [ecs] at hf
  obtain ⟨cs, hcs⟩ : ∃ cs, cs = cv.toList := ⟨_, rfl⟩
  rw [← hcs] at hf
  have hl3 : cs.length = 3 := by rw [hcs]; simpa using hsz
  have hcv : cv = cs.toArray := by rw [hcs]
  obtain ⟨xs, m, rfl, -, -, hl, hx⟩ := DataW.trod_array ht hf
  have h1 : Try.prog.cellsOf 3 = 1 := by kernel_rfl
  have key : ∀ i (hi : i < cs.length), ∃ z, cs[i] = .int .i64 z ∧ I64 z := by
    intro i hi
    have := hx i (by omega)
    rw [h1, Nat.mul_one, one_of hi, List.getElem?_eq_getElem (by omega)] at this
    obtain ⟨z, e0, -, wz⟩ := DataW.trod_int Try.underlying3 this
    exact ⟨z, by simpa using e0, i64_wf wz⟩
  obtain ⟨a, ea, wa⟩ := key 0 (by omega)
  obtain ⟨b, eb, wb⟩ := key 1 (by omega)
  obtain ⟨c, ec, wc⟩ := key 2 (by omega)
  refine ⟨a, b, c, ?_, wa, wb, wc⟩
  clear key hx hf hcs
  subst hcv
  match cs, hl3, ea, eb, ec with
  | [u, v, z], _, ea, eb, ec =>
    simp at ea eb ec
    subst ea eb ec
    rfl
theorem bytes2 : bytesOf 2 = [2] := by rw [bytesOf_pos (by decide), show 2 / 256 = 0 from rfl, bytesOf_zero]; rfl
theorem bytes7 : bytesOf 7 = [7] := by rw [bytesOf_pos (by decide), show 7 / 256 = 0 from rfl, bytesOf_zero]; rfl
theorem example_op : bytesR ⟨2, tk0, false, 7, 0, 0⟩ = (⟨#[1, 2, 1, 7]⟩, 0) := by
  unfold bytesR
  rw [if_pos (by decide)]
  have e : encO ⟨2, tk0, false, 7, 0, 0⟩ = encInt 2 ++ encInt 7 := rfl
  rw [e]
  unfold encInt enc
  rw [show (2 : Int).toNat = 2 from rfl, show (7 : Int).toNat = 7 from rfl, bytes2, bytes7]
  rfl
theorem awake_any (w : World) :
    Calls Try.prog 9 #[] w fun e w' => e = .returned (.bool true) ∧ Below w.heap.size w w' := by
  have BY := Lib.hid (bytes_any ⟨2, tk0, false, 7, 0, 0⟩)
  rw [example_op] at BY
  have NM := Lib.hid (name_any 4)
  have e4 : nameR 4 = ⟨#[109, 111, 100, 101]⟩ := rfl
  rw [e4] at NM
  simp only [Od.v, Od.cs, tk0] at BY
  clear e4
  go_enter Try.func9, Try.ntmps9
  go_wp2_with fail
  (with_reducible refine (BY.out _).mono ?_)
  rintro e w1 ⟨rfl, b1⟩
  have B1 := Lib.hid b1
  clear b1 BY
  go_wp2_with fail
  (with_reducible refine (NM.out _).mono ?_)
  rintro e w2 ⟨rfl, b2⟩
  have B2 := Lib.hid (B1.out.trans (b2.mono B1.out.size))
  clear b2 B1 NM
  go_wp2
  go_ret
  exact ⟨rfl, B2.out⟩
theorem short_any (s : ByteArray) (n : Nat) (w : World) (hn : n < 1000) :
    Calls Try.prog 14 #[.string s, .int .i64 (n : Int)] w fun e w' => e = .returned (.string (cut s n)) ∧ w' = w := by
  by_cases h : n < s.size
  · have e : cut s n = s.extract 0 n := if_pos h
    rw [e]; clear e
    go_enter Try.func14, Try.ntmps14
    go_wp2
    go_ret
    exact ⟨rfl, rfl⟩
  · have e : cut s n = s := if_neg h
    rw [e]; clear e
    have h' : s.size ≤ n := by omega
    clear h
    go_enter Try.func14, Try.ntmps14
    go_wp2
    go_ret
    exact ⟨rfl, rfl⟩
set_option maxHeartbeats 4000000 in
theorem tells_any (o : Od) (w : World) :
    Calls Try.prog 10 #[o.v] w fun e w' => e = .returned (.bool true) ∧ Below w.heap.size w w' := by
  have BY := Lib.hid (bytes_any o)
  have RY := Lib.hid (rbytes_any o)
  have CK := Lib.hid (check_any o)
  have RC := Lib.hid (rcheck_any o)
  have BA := Lib.hid (bare_any o)
  have RA := Lib.hid (rbare_any o)
  have EQ := eql_op (bareR o) (bareR o)
  rw [decide_eq_true rfl] at EQ
  have H0 := Lib.hid (bx_new w o.cs)
  generalize chkR o = q at *
  generalize bareR o = b at *
  generalize bytesR o = y at *
  obtain ⟨k, ⟨i, c, d, t, m⟩, s, id, cc, mo⟩ := o
  obtain ⟨bk, ⟨bi, bc, bd, bt, bm⟩, bs, bid, bcc, bmo⟩ := b
  obtain ⟨yb, ye⟩ := y
  simp only [Od.v, Od.cs] at *
  have a0 := cons10 H0.out.cell
  obtain ⟨a0, a1, a2, a3, a4, a5, a6, a7, a8, a9⟩ := a0
  go_enter Try.func10, Try.ntmps10
  go_wp2_with fail
  (with_reducible refine (BY.out _).mono ?_)
  rintro e w1 ⟨rfl, b1⟩
  have H1 := Lib.hid (H0.out.call b1)
  clear b1 BY H0 a0 a1 a2 a3 a4 a5 a6 a7 a8 a9
  obtain ⟨a0, a1, a2, a3, a4, a5, a6, a7, a8, a9⟩ := cons10 H1.out.cell
  go_wp2_with fail
  (with_reducible refine (RY.out _).mono ?_)
  rintro e w2 ⟨rfl, b2⟩
  have H2 := Lib.hid (H1.out.call b2)
  clear b2 RY H1 a0 a1 a2 a3 a4 a5 a6 a7 a8 a9
  have D2 := Lib.hid (H2.out.call (Below.refl _ _).drew)
  have K2 := Lib.hid (cons10 H2.out.cell)
  have KD := Lib.hid (cons10 D2.out.cell)
  go_wp2_with fail
  go_region_held3 (fun w' => w'.cell? ⟨w.heap.size, 0, none⟩ = some (.int .i64 k) ∧ w'.cell? ⟨w.heap.size, 1, none⟩ = some (.int .i64 i) ∧ w'.cell? ⟨w.heap.size, 2, none⟩ = some (.int .i64 c) ∧ w'.cell? ⟨w.heap.size, 3, none⟩ = some (.int .i64 d) ∧ w'.cell? ⟨w.heap.size, 4, none⟩ = some (.int .i64 t) ∧ w'.cell? ⟨w.heap.size, 5, none⟩ = some (.int .i64 m) ∧ w'.cell? ⟨w.heap.size, 6, none⟩ = some (.bool s) ∧ w'.cell? ⟨w.heap.size, 7, none⟩ = some (.int .i64 id) ∧ w'.cell? ⟨w.heap.size, 8, none⟩ = some (.int .i64 cc) ∧ w'.cell? ⟨w.heap.size, 9, none⟩ = some (.int .i64 mo)) (first | exact KD.out | exact K2.out | assumption | fail) (first | (go_at_call 19; (with_reducible refine (CK.out _).mono ?_); rintro e x1 ⟨rfl, b1⟩; (have X1 := Lib.hid (D2.out.call b1)); (have k1 := cons10 X1.out.cell); clear b1) | (go_at_call 18; (with_reducible refine (RC.out _).mono ?_); rintro e x2 ⟨rfl, b2⟩; (have X2 := Lib.hid (X1.out.call b2)); (have k2 := cons10 X2.out.cell); clear b2) | (go_at_call 21; (with_reducible refine (BA.out _).mono ?_); rintro e x3 ⟨rfl, b3⟩; (have X3 := Lib.hid (X2.out.call b3)); (have k3 := cons10 X3.out.cell); clear b3) | (go_at_call 11; (with_reducible refine (RA.out _).mono ?_); rintro e x4 ⟨rfl, b4⟩; (have X4 := Lib.hid (X3.out.call b4)); (have k4 := cons10 X4.out.cell); clear b4) | fail)
  all_goals go_wp2
  all_goals go_ret
  all_goals exact ⟨rfl, X4.out.bl⟩
end Go.Proofs.Yticehebgkehipaa.Ox
