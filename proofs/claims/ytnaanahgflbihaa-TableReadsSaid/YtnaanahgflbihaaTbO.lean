/- How the arguments of the statements of layer 14 are opened: tables, rows of ops. -/
import Derived.Test.YtnaanahgflbihaaTbE
import Derived.Test.YtnaanahgflbihaaOpW
namespace Go.Proofs.Ytnaanahgflbihaa.Tb
open Go.ChangeShapes Go.WideShapes Go.ChangeAt Go.RowKit Go.Joins
open Pm (Tk chk chk_iff I64)
open Ge (El Seen Row)
open Ox (Od one_of i64_wf open_task)
set_option maxRecDepth 100000
set_option maxRecDepth 100000
set_option linter.unusedVariables false
set_option linter.unusedSimpArgs false
/-- an op's cells -/
def ocs (o : Od) : List Value := [.int .i64 o.kind, .int .i64 o.task.id, .int .i64 o.task.c, .int .i64 o.task.d, .int .i64 o.task.t, .int .i64 o.task.m, .bool o.server, .int .i64 o.id, .int .i64 o.c, .int .i64 o.mode]
theorem open_opc {H : Type} {enc : TypeId × Value → H} {W : World} {base : Nat} {spare : Nat → Bool} {held : Bool} {fuel : Nat} {cs : List Value} {x : DataW H × List MemPlace} (hl : cs.length = 10)
    (hf : DataW.trod enc Try.prog W base spare held fuel 29 cs = some x) : ∃ o : Od, cs = ocs o ∧ o.Ok := by
  have ci : Try.prog.cellsOf 3 = 1 := by kernel_rfl
  have cl : Try.prog.cellsOf 2 = 1 := by kernel_rfl
  have cb : Try.prog.cellsOf 4 = 1 := by kernel_rfl
  have ct : Try.prog.cellsOf 27 = 5 := by kernel_rfl
  obtain ⟨ys, n', hn', hy, hlen, hyl, hfd⟩ := DataW.trod_struct Try.underlying29 hf
  have g0 : DataW.trod enc Try.prog W base spare held n' 3 ((cs.drop 0).take (Try.prog.cellsOf 3)) = ys[0]? := hfd 0 _ rfl
  have g1 : DataW.trod enc Try.prog W base spare held n' 27 ((cs.drop 1).take (Try.prog.cellsOf 27)) = ys[1]? := hfd 1 _ rfl
  have g2 : DataW.trod enc Try.prog W base spare held n' 4 ((cs.drop 6).take (Try.prog.cellsOf 4)) = ys[2]? := hfd 2 _ rfl
  have g3 : DataW.trod enc Try.prog W base spare held n' 3 ((cs.drop 7).take (Try.prog.cellsOf 3)) = ys[3]? := hfd 3 _ rfl
  have g4 : DataW.trod enc Try.prog W base spare held n' 2 ((cs.drop 8).take (Try.prog.cellsOf 2)) = ys[4]? := hfd 4 _ rfl
  have g5 : DataW.trod enc Try.prog W base spare held n' 3 ((cs.drop 9).take (Try.prog.cellsOf 3)) = ys[5]? := hfd 5 _ rfl
  have hy5 : ys.length = 6 := by rw [hyl]; rfl
  rw [ct, List.getElem?_eq_getElem (by omega)] at g1
  obtain ⟨tk, et, okt⟩ := open_task (by rw [List.length_take, List.length_drop]; omega) g1
  rw [ci, one_of (j := 0) (by omega), List.getElem?_eq_getElem (by omega)] at g0
  obtain ⟨z0, e0, -, w0⟩ := DataW.trod_int Try.underlying3 g0
  rw [cb, one_of (j := 6) (by omega), List.getElem?_eq_getElem (by omega)] at g2
  obtain ⟨z2, e2, -⟩ := DataW.trod_bool Try.underlying4 g2
  rw [ci, one_of (j := 7) (by omega), List.getElem?_eq_getElem (by omega)] at g3
  obtain ⟨z3, e3, -, w3⟩ := DataW.trod_int Try.underlying3 g3
  rw [cl, one_of (j := 8) (by omega), List.getElem?_eq_getElem (by omega)] at g4
  obtain ⟨z4, e4, -, w4⟩ := DataW.trod_int Try.underlying2 g4
  rw [ci, one_of (j := 9) (by omega), List.getElem?_eq_getElem (by omega)] at g5
  obtain ⟨z5, e5, -, w5⟩ := DataW.trod_int Try.underlying3 g5
  refine ⟨⟨z0, tk, z2, z3, z4, z5⟩, ?_, ⟨i64_wf w0, okt, i64_wf w3, i64_wf w4, i64_wf w5⟩⟩
  clear hfd hy g0 g1 g2 g3 g4 g5 hf
  match cs, hl, e0, et, e2, e3, e4, e5 with
  | [u0, u1, u2, u3, u4, u5, u6, u7, u8, u9], _, e0, et, e2, e3, e4, e5 =>
    simp at e0 et e2 e3 e4 e5
    obtain ⟨rfl, rfl, rfl, rfl, rfl⟩ := et
    subst e0 e2 e3 e4 e5
    rfl
theorem open_rowc {H : Type} {enc : TypeId × Value → H} {W : World} {base : Nat} {spare : Nat → Bool} {held : Bool} {fuel : Nat} {cs : List Value} {x : DataW H × List MemPlace} (hl : cs.length = 6)
    (hf : DataW.trod enc Try.prog W base spare held fuel 57 cs = some x) : ∃ r : Rw, cs = r.cs := by
  have cb : Try.prog.cellsOf 4 = 1 := by kernel_rfl
  have ct : Try.prog.cellsOf 27 = 5 := by kernel_rfl
  obtain ⟨ys, n', hn', hy, hlen, hyl, hfd⟩ := DataW.trod_struct Try.underlying57 hf
  have g1 : DataW.trod enc Try.prog W base spare held n' 27 ((cs.drop 0).take (Try.prog.cellsOf 27)) = ys[0]? := hfd 0 _ rfl
  have g2 : DataW.trod enc Try.prog W base spare held n' 4 ((cs.drop 5).take (Try.prog.cellsOf 4)) = ys[1]? := hfd 1 _ rfl
  have hy5 : ys.length = 2 := by rw [hyl]; rfl
  rw [ct, List.getElem?_eq_getElem (by omega)] at g1
  obtain ⟨tk, et, okt⟩ := open_task (by rw [List.length_take, List.length_drop]; omega) g1
  rw [cb, one_of (j := 5) (by omega), List.getElem?_eq_getElem (by omega)] at g2
  obtain ⟨z2, e2, -⟩ := DataW.trod_bool Try.underlying4 g2
  refine ⟨⟨tk, z2⟩, ?_⟩
  clear hfd hy g1 g2 hf
  match cs, hl, et, e2 with
  | [u1, u2, u3, u4, u5, u6], _, et, e2 =>
    simp at et e2
    obtain ⟨rfl, rfl, rfl, rfl, rfl⟩ := et
    subst e2
    rfl
/-- rows of elements that came in -/
theorem open_els {α : Type} [Inhabited α] {H : Type} {enc : TypeId × Value → H} {W : World} {base : Nat} {spare : Nat → Bool} {held : Bool} {fuel : Nat} {T ST : TypeId} {n : Nat} {f : α → List Value} {v : Value} {x : DataW H × List MemPlace} (hST : Try.prog.underlying ST = some (.slice T)) (hC : Try.prog.cellsOf T = n) (hn : 0 < n) (hlen : ∀ y, (f y).length = n)
    (hel : ∀ (m : Nat) (cs : List Value) (z : DataW H × List MemPlace), cs.length = n → DataW.trod enc Try.prog W base spare held m T cs = some z → ∃ y, cs = f y)
    (hf : DataW.trod enc Try.prog W base spare held fuel ST [v] = some x) :
    ∃ (ao : Option Addr) (l : List α) (cap : Nat), v = .slice ao l.length cap ∧ l.length ≤ 9223372036854775807 ∧ l.length ≤ cap ∧ (ao = none → cap = 0) ∧ Seen f n ao l W := by
  rcases Go.Deep.open_slice hST hf with ⟨hcs, hx⟩ | ⟨a, len, cap, m, k, D, Pl, hcs, _, hl, hm, hmm, hx, hi⟩
  · simp at hcs
    subst hcs
    exact ⟨none, [], 0, rfl, by simp, by simp, fun _ => rfl, Ge.seen_nil _ _⟩
  · simp at hcs
    subst hcs
    have hml : len ≤ m := by rw [hmm]; split <;> omega
    rw [hC] at hi
    have key : ∀ i, i < len → ∃ y : α, ∀ j u, (f y)[j]? = some u → W.cell? ((a.add (i * n)).add j) = some u := by
      intro i hil
      obtain ⟨cs, hc, ht⟩ := hi i (by omega)
      obtain ⟨_, hcl, hat⟩ := World.cells?_some hc
      obtain ⟨y, rfl⟩ := hel _ cs _ hcl ht
      refine ⟨y, fun j u hj => ?_⟩
      have hjl := (List.getElem?_eq_some_iff.1 hj).1
      have := hat j (by rw [hlen] at hjl; exact hjl)
      rw [hj] at this
      exact this
    obtain ⟨g, hg⟩ := Go.Deep.choose_lt key
    have hlenm : ((List.range len).map g).length = len := by simp
    refine ⟨some a, (List.range len).map g, cap, by rw [hlenm], by rw [hlenm]; unfold maxLen at hm; omega, by rw [hlenm]; exact hl, ⟨fun h => by simp at h, fun h0 => ?_⟩⟩
    rw [hlenm] at h0
    obtain ⟨b, off, spot⟩ := a
    have h00 : (f (g 0))[0]? = some ((f (g 0))[0]'(by rw [hlen]; exact hn)) := List.getElem?_eq_getElem _
    have c0 := hg 0 h0 0 _ h00
    have hspot : spot = none := by simpa [Addr.add] using World.cell?_spot c0
    subst hspot
    refine ⟨b, off, rfl, World.block_lt_of_cell? _ _ (by rw [Ge.addr_add, Ge.addr_add] at c0; exact c0), fun i y hiy j u hj => ?_⟩
    obtain ⟨hi2, rfl⟩ := List.getElem?_eq_some_iff.1 hiy
    simp only [List.getElem_map, List.getElem_range] at hj
    have := hg i (by omega) j u hj
    rw [Ge.addr_add, Ge.addr_add] at this
    exact this
instance : Inhabited Od := ⟨⟨0, ⟨0, 0, 0, 0, 0⟩, false, 0, 0, 0⟩⟩
instance : Inhabited Rw := ⟨⟨⟨0, 0, 0, 0, 0⟩, false⟩⟩
theorem open_ops {H : Type} {enc : TypeId × Value → H} {W : World} {r : Reach} {b0 base : Nat} {spare : Nat → Bool} {held : Bool} {v : Value} {d : DataW H} {p : List MemPlace}
    (hok : Value.okWide Try.prog W r b0 25 v) (h : DataW.Trod enc Try.prog W base spare held 25 v d p) :
    ∃ (ao : Option Addr) (l : List Od) (cap : Nat), v = .slice ao l.length cap ∧ l.length ≤ 9223372036854775807 ∧ l.length ≤ cap ∧ Seen ocs 10 ao l W := by
  obtain ⟨ao, len, cap, rfl⟩ := okWide_slice Try.underlying25 hok
  obtain ⟨fuel, hf⟩ := h
  obtain ⟨ao', l, cap', e, h1, h2, -, h3⟩ := open_els (f := ocs) (n := 10) Try.underlying25 (by kernel_rfl) (by omega) (fun _ => rfl) (fun m cs z hl ht => by obtain ⟨o, e, -⟩ := open_opc hl ht; exact ⟨o, e⟩) (by simpa [Value.cells] using hf)
  exact ⟨ao', l, cap', e, h1, h2, h3⟩
theorem open_table {H : Type} {enc : TypeId × Value → H} {W : World} {r : Reach} {b0 base : Nat} {spare : Nat → Bool} {held : Bool} {v : Value} {d : DataW H} {p : List MemPlace}
    (hok : Value.okWide Try.prog W r b0 24 v) (h : DataW.Trod enc Try.prog W base spare held 24 v d p) :
    ∃ (t : Tb) (ao : Option Addr) (cap : Nat), v = tv ao t.rows.length cap t.mode ∧ t.rows.length ≤ 9223372036854775807 ∧ Sl (.slice ao t.rows.length cap) t.rows W ao cap := by
  have hC : Try.prog.cellsOf 24 = 2 := by kernel_rfl
  have ci : Try.prog.cellsOf 3 = 1 := by kernel_rfl
  have cs1 : Try.prog.cellsOf 22 = 1 := by kernel_rfl
  obtain ⟨cv, rfl, hsz, _⟩ : ∃ cs, v = .agg cs ∧ cs.size = Try.prog.cellsOf 24 ∧ Row.okWide Try.prog W r b0 24 cs := by
    have hu := Try.underlying24
    simpa [Value.okWide, hu] using hok
  rw [hC] at hsz
  obtain ⟨fuel, hf⟩ := h
  have ecs : (Value.agg cv).cells.toList = cv.toList := by simp [Value.cells]
  rw [ecs] at hf
  obtain ⟨cs, hcs⟩ : ∃ cs, cs = cv.toList := ⟨_, rfl⟩
  rw [← hcs] at hf
  have hl : cs.length = 2 := by rw [hcs]; simpa using hsz
  have hcv : cv = cs.toArray := by rw [hcs]
  clear hcs ecs hsz
  obtain ⟨ys, n', hn', hy, hlen, hyl, hfd⟩ := DataW.trod_struct Try.underlying24 hf
  have g0 : DataW.trod enc Try.prog W base spare held n' 22 ((cs.drop 0).take (Try.prog.cellsOf 22)) = ys[0]? := hfd 0 _ rfl
  have g1 : DataW.trod enc Try.prog W base spare held n' 3 ((cs.drop 1).take (Try.prog.cellsOf 3)) = ys[1]? := hfd 1 _ rfl
  have hy2 : ys.length = 2 := by rw [hyl]; rfl
  rw [cs1, one_of (j := 0) (by omega), List.getElem?_eq_getElem (by omega)] at g0
  rw [ci, one_of (j := 1) (by omega), List.getElem?_eq_getElem (by omega)] at g1
  obtain ⟨ao, l, cap, e0, h1, h2, h3, h4⟩ := open_els (f := Rw.cs) (n := 6) Try.underlying22 (by kernel_rfl) (by omega) cs_len (fun m cs z hl ht => open_rowc hl ht) g0
  obtain ⟨z1, e1, -, w1⟩ := DataW.trod_int Try.underlying3 g1
  refine ⟨⟨l, z1⟩, ao, cap, ?_, h1, ⟨rfl, h2, h3, h4⟩⟩
  clear hfd hy g0 g1 hf
  subst hcv
  match cs, hl, e0, e1 with
  | [u0, u1], _, e0, e1 =>
    simp at e0 e1
    subst e0 e1
    rfl
end Go.Proofs.Ytnaanahgflbihaa.Tb
