/- How the arguments of the statements of layer 13 are opened; awake, short, tells. -/
import Derived.Test.YtnaanahgflbihaaOpK
import Derived.ChangeOld
import Derived.ShutString
import Derived.Deep.Slices
import Derived.ChangeSlices
import Derived.Laws.BytesString
import Derived.Laws.IdiomStrings
namespace Go.Proofs.Ytnaanahgflbihaa.Ox
open Go.ChangeShapes Go.WideShapes Go.ChangeAt Go.RowKit Go.Joins
open Oc
open Pm (Tk chk chk_iff I64)
set_option maxRecDepth 100000
set_option maxRecDepth 100000
set_option linter.unusedVariables false
set_option linter.unusedSimpArgs false
theorem one_of {cs : List Value} {j : Nat} (h : j < cs.length) : (cs.drop j).take 1 = [cs[j]] := by
  rw [List.drop_eq_getElem_cons h]; rfl
theorem i64_wf {z : Int} (h : (Lit.int .i64 z).wf = true) : I64 z := by
  have := bounds_i64 h
  unfold I64; omega
theorem open_task {H : Type} {enc : TypeId × Value → H} {W : World} {base : Nat} {spare : Nat → Bool} {held : Bool} {fuel : Nat} {cs : List Value} {x : DataW H × List MemPlace} (hl : cs.length = 5)
    (h : DataW.trod enc Try.prog W base spare held fuel 27 cs = some x) : ∃ t : Tk, cs = [.int .i64 t.id, .int .i64 t.c, .int .i64 t.d, .int .i64 t.t, .int .i64 t.m] ∧ t.Ok := by
  have ci : Try.prog.cellsOf 3 = 1 := by kernel_rfl
  have cl : Try.prog.cellsOf 2 = 1 := by kernel_rfl
  obtain ⟨ys, n', hn', hy, hlen, hyl, hfd⟩ := DataW.trod_struct Try.underlying27 h
  have g0 : DataW.trod enc Try.prog W base spare held n' 3 ((cs.drop 0).take (Try.prog.cellsOf 3)) = ys[0]? := hfd 0 _ rfl
  have g1 : DataW.trod enc Try.prog W base spare held n' 2 ((cs.drop 1).take (Try.prog.cellsOf 2)) = ys[1]? := hfd 1 _ rfl
  have g2 : DataW.trod enc Try.prog W base spare held n' 2 ((cs.drop 2).take (Try.prog.cellsOf 2)) = ys[2]? := hfd 2 _ rfl
  have g3 : DataW.trod enc Try.prog W base spare held n' 2 ((cs.drop 3).take (Try.prog.cellsOf 2)) = ys[3]? := hfd 3 _ rfl
  have g4 : DataW.trod enc Try.prog W base spare held n' 3 ((cs.drop 4).take (Try.prog.cellsOf 3)) = ys[4]? := hfd 4 _ rfl
  have hy5 : ys.length = 5 := by rw [hyl]; rfl
  rw [ci, one_of (j := 0) (by omega), List.getElem?_eq_getElem (by omega)] at g0
  obtain ⟨z0, e0, -, w0⟩ := DataW.trod_int Try.underlying3 g0
  rw [cl, one_of (j := 1) (by omega), List.getElem?_eq_getElem (by omega)] at g1
  obtain ⟨z1, e1, -, w1⟩ := DataW.trod_int Try.underlying2 g1
  rw [cl, one_of (j := 2) (by omega), List.getElem?_eq_getElem (by omega)] at g2
  obtain ⟨z2, e2, -, w2⟩ := DataW.trod_int Try.underlying2 g2
  rw [cl, one_of (j := 3) (by omega), List.getElem?_eq_getElem (by omega)] at g3
  obtain ⟨z3, e3, -, w3⟩ := DataW.trod_int Try.underlying2 g3
  rw [ci, one_of (j := 4) (by omega), List.getElem?_eq_getElem (by omega)] at g4
  obtain ⟨z4, e4, -, w4⟩ := DataW.trod_int Try.underlying3 g4
  refine ⟨⟨z0, z1, z2, z3, z4⟩, ?_, ⟨i64_wf w0, i64_wf w1, i64_wf w2, i64_wf w3, i64_wf w4⟩⟩
  clear hfd hy g0 g1 g2 g3 g4
  match cs, hl, e0, e1, e2, e3, e4 with
  | [u0, u1, u2, u3, u4], _, e0, e1, e2, e3, e4 =>
    simp at e0 e1 e2 e3 e4
    subst e0 e1 e2 e3 e4
    rfl
structure Od.Ok (o : Od) : Prop where
  kind : I64 o.kind
  task : o.task.Ok
  id : I64 o.id
  c : I64 o.c
  mode : I64 o.mode
theorem open_op {H : Type} {enc : TypeId × Value → H} {W : World} {r : Reach} {b0 base : Nat} {spare : Nat → Bool} {held : Bool} {v : Value} {d : DataW H} {p : List MemPlace}
    (hok : Value.okWide Try.prog W r b0 29 v) (h : DataW.Trod enc Try.prog W base spare held 29 v d p) : ∃ o : Od, v = o.v ∧ o.Ok := by
  have hC : Try.prog.cellsOf 29 = 10 := by kernel_rfl
  have ci : Try.prog.cellsOf 3 = 1 := by kernel_rfl
  have cl : Try.prog.cellsOf 2 = 1 := by kernel_rfl
  have cb : Try.prog.cellsOf 4 = 1 := by kernel_rfl
  have ct : Try.prog.cellsOf 27 = 5 := by kernel_rfl
  obtain ⟨cv, rfl, hsz, _⟩ : ∃ cs, v = .agg cs ∧ cs.size = Try.prog.cellsOf 29 ∧ Row.okWide Try.prog W r b0 29 cs := by
    have hu := Try.underlying29
    simpa [Value.okWide, hu] using hok
  rw [hC] at hsz
  obtain ⟨fuel, hf⟩ := h
  have ecs : (Value.agg cv).cells.toList = cv.toList := by simp [Value.cells]
  rw [ecs] at hf
  obtain ⟨cs, hcs⟩ : ∃ cs, cs = cv.toList := ⟨_, rfl⟩
  rw [← hcs] at hf
  have hl : cs.length = 10 := by rw [hcs]; simpa using hsz
  have hcv : cv = cs.toArray := by rw [hcs]
  clear hcs ecs hsz
  obtain ⟨ys, n', hn', hy, hlen, hyl, hfd⟩ := DataW.trod_struct Try.underlying29 hf
  have g0 : DataW.trod enc Try.prog W base spare held n' 3 ((cs.drop 0).take (Try.prog.cellsOf 3)) = ys[0]? := hfd 0 _ rfl
  have g1 : DataW.trod enc Try.prog W base spare held n' 27 ((cs.drop 1).take (Try.prog.cellsOf 27)) = ys[1]? := hfd 1 _ rfl
  have g2 : DataW.trod enc Try.prog W base spare held n' 4 ((cs.drop 6).take (Try.prog.cellsOf 4)) = ys[2]? := hfd 2 _ rfl
  have g3 : DataW.trod enc Try.prog W base spare held n' 3 ((cs.drop 7).take (Try.prog.cellsOf 3)) = ys[3]? := hfd 3 _ rfl
  have g4 : DataW.trod enc Try.prog W base spare held n' 2 ((cs.drop 8).take (Try.prog.cellsOf 2)) = ys[4]? := hfd 4 _ rfl
  have g5 : DataW.trod enc Try.prog W base spare held n' 3 ((cs.drop 9).take (Try.prog.cellsOf 3)) = ys[5]? := hfd 5 _ rfl
  have hy5 : ys.length = 6 := by rw [hyl]; rfl
  rw [ct, List.getElem?_eq_getElem (by omega)] at g1
  obtain ⟨tk, et, okt⟩ := open_task (by rw [List.length_take, List.length_drop]; omega) g1
  rw [ci, one_of (j := 0) (by omega), List.getElem?_eq_getElem (by omega)] at g0
  obtain ⟨z0, e0, -, w0⟩ := DataW.trod_int Try.underlying3 g0
  rw [cb, one_of (j := 6) (by omega), List.getElem?_eq_getElem (by omega)] at g2
  obtain ⟨z2, e2, -⟩ := DataW.trod_bool Try.underlying4 g2
  rw [ci, one_of (j := 7) (by omega), List.getElem?_eq_getElem (by omega)] at g3
  obtain ⟨z3, e3, -, w3⟩ := DataW.trod_int Try.underlying3 g3
  rw [cl, one_of (j := 8) (by omega), List.getElem?_eq_getElem (by omega)] at g4
  obtain ⟨z4, e4, -, w4⟩ := DataW.trod_int Try.underlying2 g4
  rw [ci, one_of (j := 9) (by omega), List.getElem?_eq_getElem (by omega)] at g5
  obtain ⟨z5, e5, -, w5⟩ := DataW.trod_int Try.underlying3 g5
  refine ⟨⟨z0, tk, z2, z3, z4, z5⟩, ?_, ⟨i64_wf w0, okt, i64_wf w3, i64_wf w4, i64_wf w5⟩⟩
  clear hfd hy g0 g1 g2 g3 g4 g5
  subst hcv
  match cs, hl, e0, et, e2, e3, e4, e5 with
  | [u0, u1, u2, u3, u4, u5, u6, u7, u8, u9], _, e0, et, e2, e3, e4, e5 =>
    simp at e0 et e2 e3 e4 e5
    obtain ⟨rfl, rfl, rfl, rfl, rfl⟩ := et
    subst e0 e2 e3 e4 e5
    rfl
/-- three numbers -/
theorem open_three {H : Type} {enc : TypeId × Value → H} {W : World} {r : Reach} {b0 base : Nat} {spare : Nat → Bool} {held : Bool} {v : Value} {d : DataW H} {p : List MemPlace}
    (hok : Value.okWide Try.prog W r b0 41 v) (h : DataW.Trod enc Try.prog W base spare held 41 v d p) :
    ∃ a b c : Int, v = .agg #[.int .i64 a, .int .i64 b, .int .i64 c] ∧ I64 a ∧ I64 b ∧ I64 c := by
  have ht : Try.prog.underlying 41 = some (.array 3 3) := Try.underlying41
  obtain ⟨cv, rfl, hsz, _⟩ : ∃ cs, v = .agg cs ∧ cs.size = Try.prog.cellsOf 41 ∧ Row.okWide Try.prog W r b0 41 cs := by
    simpa [Value.okWide, ht] using hok
  have hC : Try.prog.cellsOf 41 = 3 := by kernel_rfl
  rw [hC] at hsz
  obtain ⟨fuel, hf⟩ := h
  have ecs : (Value.agg cv).cells.toList = cv.toList := by simp [Value.cells]
  rw [ecs] at hf
  obtain ⟨cs, hcs⟩ : ∃ cs, cs = cv.toList := ⟨_, rfl⟩
  rw [← hcs] at hf
  have hl3 : cs.length = 3 := by rw [hcs]; simpa using hsz
  have hcv : cv = cs.toArray := by rw [hcs]
  obtain ⟨xs, m, rfl, -, -, hl, hx⟩ := DataW.trod_array ht hf
  have h1 : Try.prog.cellsOf 3 = 1 := by kernel_rfl
  have key : ∀ i (hi : i < cs.length), ∃ z, cs[i] = .int .i64 z ∧ I64 z := by
    intro i hi
    have := hx i (by omega)
    rw [h1, Nat.mul_one, one_of hi, List.getElem?_eq_getElem (by omega)] at this
    obtain ⟨z, e0, -, wz⟩ := DataW.trod_int Try.underlying3 this
    exact ⟨z, by simpa using e0, i64_wf wz⟩
  obtain ⟨a, ea, wa⟩ := key 0 (by omega)
  obtain ⟨b, eb, wb⟩ := key 1 (by omega)
  obtain ⟨c, ec, wc⟩ := key 2 (by omega)
  refine ⟨a, b, c, ?_, wa, wb, wc⟩
  clear key hx hf hcs
  subst hcv
  match cs, hl3, ea, eb, ec with
  | [u, v, z], _, ea, eb, ec =>
    simp at ea eb ec
    subst ea eb ec
    rfl
theorem bytes2 : bytesOf 2 = [2] := by rw [bytesOf_pos (by decide), show 2 / 256 = 0 from rfl, bytesOf_zero]; rfl
theorem bytes7 : bytesOf 7 = [7] := by rw [bytesOf_pos (by decide), show 7 / 256 = 0 from rfl, bytesOf_zero]; rfl
theorem example_op : bytesR ⟨2, tk0, false, 7, 0, 0⟩ = (⟨#[1, 2, 1, 7]⟩, 0) := by
  unfold bytesR
  rw [if_pos (by decide)]
  have e : encO ⟨2, tk0, false, 7, 0, 0⟩ = encInt 2 ++ encInt 7 := rfl
  rw [e]
  unfold encInt enc
  rw [show (2 : Int).toNat = 2 from rfl, show (7 : Int).toNat = 7 from rfl, bytes2, bytes7]
  rfl
theorem short_any (s : ByteArray) (n : Nat) (w : World) (hn : n < 1000) :
    Calls Try.prog 19 #[.string s, .int .i64 (n : Int)] w fun e w' => e = .returned (.string (cut s n)) ∧ w' = w := by
  by_cases h : n < s.size
  · have e : cut s n = s.extract 0 n := if_pos h
    rw [e]; clear e
    go_enter Try.func19, Try.ntmps19
    go_wp2
    go_ret
    exact ⟨rfl, rfl⟩
  · have e : cut s n = s := if_neg h
    rw [e]; clear e
    have h' : s.size ≤ n := by omega
    clear h
    go_enter Try.func19, Try.ntmps19
    go_wp2
    go_ret
    exact ⟨rfl, rfl⟩
end Go.Proofs.Ytnaanahgflbihaa.Ox
