/- How the steps of ServerPlays are opened; two pools beside each other. -/
import Derived.Test.YtacgoobkpolcdaaSvK
import Derived.ChangeOld
import Derived.ShutString
import Derived.ChangeMaps5
import Derived.Test.YtacgoobkpolcdaaGnE
namespace Go.Proofs.Ytacgoobkpolcdaa.Sv
open Go.ChangeShapes Go.WideShapes Go.ChangeAt Go.RowKit Go.Joins
open Ge (El Seen Row)
set_option maxRecDepth 100000
set_option maxRecDepth 100000
set_option linter.unusedVariables false
set_option linter.unusedSimpArgs false
theorem one_of {cs : List Value} {j : Nat} (h : j < cs.length) : (cs.drop j).take 1 = [cs[j]] := by
  rw [List.drop_eq_getElem_cons h]; rfl
/-- a step -/
structure Stp where
  kind : Int
  id : Int
  far : Bool
  n : Int
def oc (o : Stp) : List Value := [.int .i64 o.kind, .int .i64 o.id, .bool o.far, .int .i64 o.n]
/-- numbers of 64 bits -/
def Wide (o : Stp) : Prop := I64 o.id
theorem open_oc {H : Type} {enc : TypeId × Value → H} {W : World} {base : Nat} {spare : Nat → Bool} {held : Bool} {fuel : Nat} {cs : List Value} {x : DataW H × List MemPlace} (hl : cs.length = 4)
    (hf : DataW.trod enc Try.prog W base spare held fuel 31 cs = some x) : ∃ n : {o : Stp // I64 o.id}, cs = oc n.1 := by
  have ci : Try.prog.cellsOf 3 = 1 := by kernel_rfl
  have c6 : Try.prog.cellsOf 2 = 1 := by kernel_rfl
  have cb : Try.prog.cellsOf 4 = 1 := by kernel_rfl
  obtain ⟨ys, n', hn', hy, hlen, hyl, hfd⟩ := DataW.trod_struct Try.underlying31 hf
  have g0 : DataW.trod enc Try.prog W base spare held n' 3 ((cs.drop 0).take (Try.prog.cellsOf 3)) = ys[0]? := hfd 0 _ rfl
  have g1 : DataW.trod enc Try.prog W base spare held n' 3 ((cs.drop 1).take (Try.prog.cellsOf 3)) = ys[1]? := hfd 1 _ rfl
  have g2 : DataW.trod enc Try.prog W base spare held n' 4 ((cs.drop 2).take (Try.prog.cellsOf 4)) = ys[2]? := hfd 2 _ rfl
  have g3 : DataW.trod enc Try.prog W base spare held n' 2 ((cs.drop 3).take (Try.prog.cellsOf 2)) = ys[3]? := hfd 3 _ rfl
  have hy5 : ys.length = 4 := by rw [hyl]; rfl
  rw [ci, one_of (j := 0) (by omega), List.getElem?_eq_getElem (by omega)] at g0
  obtain ⟨z0, e0, -, w0⟩ := DataW.trod_int Try.underlying3 g0
  rw [ci, one_of (j := 1) (by omega), List.getElem?_eq_getElem (by omega)] at g1
  obtain ⟨z1, e1, -, w1⟩ := DataW.trod_int Try.underlying3 g1
  rw [cb, one_of (j := 2) (by omega), List.getElem?_eq_getElem (by omega)] at g2
  obtain ⟨z2, e2, -⟩ := DataW.trod_bool Try.underlying4 g2
  rw [c6, one_of (j := 3) (by omega), List.getElem?_eq_getElem (by omega)] at g3
  obtain ⟨z3, e3, -, w3⟩ := DataW.trod_int Try.underlying2 g3
  refine ⟨⟨⟨z0, z1, z2, z3⟩, wf_in w1⟩, ?_⟩
  clear hfd hy g0 g1 g2 g3 hf
  match cs, hl, e0, e1, e2, e3 with
  | [u0, u1, u2, u3], _, e0, e1, e2, e3 =>
    simp at e0 e1 e2 e3
    subst e0 e1 e2 e3
    rfl
theorem open_els {α : Type} [Inhabited α] {H : Type} {enc : TypeId × Value → H} {W : World} {base : Nat} {spare : Nat → Bool} {held : Bool} {fuel : Nat} {T ST : TypeId} {n : Nat} {f : α → List Value} {v : Value} {x : DataW H × List MemPlace} (hST : Try.prog.underlying ST = some (.slice T)) (hC : Try.prog.cellsOf T = n) (hn : 0 < n) (hlen : ∀ y, (f y).length = n)
    (hel : ∀ (m : Nat) (cs : List Value) (z : DataW H × List MemPlace), cs.length = n → DataW.trod enc Try.prog W base spare held m T cs = some z → ∃ y, cs = f y)
    (hf : DataW.trod enc Try.prog W base spare held fuel ST [v] = some x) :
    ∃ (ao : Option Addr) (l : List α) (cap : Nat), v = .slice ao l.length cap ∧ l.length ≤ 9223372036854775807 ∧ l.length ≤ cap ∧ (ao = none → cap = 0) ∧ Seen f n ao l W := by
  rcases Go.Deep.open_slice hST hf with ⟨hcs, hx⟩ | ⟨a, len, cap, m, k, D, Pl, hcs, _, hl, hm, hmm, hx, hi⟩
  · simp at hcs
    subst hcs
    exact ⟨none, [], 0, rfl, by simp, by simp, fun _ => rfl, Ge.seen_nil _ _⟩
  · simp at hcs
    subst hcs
    have hml : len ≤ m := by rw [hmm]; split <;> omega
    rw [hC] at hi
    have key : ∀ i, i < len → ∃ y : α, ∀ j u, (f y)[j]? = some u → W.cell? ((a.add (i * n)).add j) = some u := by
      intro i hil
      obtain ⟨cs, hc, ht⟩ := hi i (by omega)
      obtain ⟨_, hcl, hat⟩ := World.cells?_some hc
      obtain ⟨y, rfl⟩ := hel _ cs _ hcl ht
      refine ⟨y, fun j u hj => ?_⟩
      have hjl := (List.getElem?_eq_some_iff.1 hj).1
      have := hat j (by rw [hlen] at hjl; exact hjl)
      rw [hj] at this
      exact this
    obtain ⟨g, hg⟩ := Go.Deep.choose_lt key
    have hlenm : ((List.range len).map g).length = len := by simp
    refine ⟨some a, (List.range len).map g, cap, by rw [hlenm], by rw [hlenm]; unfold maxLen at hm; omega, by rw [hlenm]; exact hl, ⟨fun h => by simp at h, fun h0 => ?_⟩⟩
    rw [hlenm] at h0
    obtain ⟨b, off, spot⟩ := a
    have h00 : (f (g 0))[0]? = some ((f (g 0))[0]'(by rw [hlen]; exact hn)) := List.getElem?_eq_getElem _
    have c0 := hg 0 h0 0 _ h00
    have hspot : spot = none := by simpa [Addr.add] using World.cell?_spot c0
    subst hspot
    refine ⟨b, off, rfl, World.block_lt_of_cell? _ _ (by rw [Ge.addr_add, Ge.addr_add] at c0; exact c0), fun i y hiy j u hj => ?_⟩
    obtain ⟨hi2, rfl⟩ := List.getElem?_eq_some_iff.1 hiy
    simp only [List.getElem_map, List.getElem_range] at hj
    have := hg i (by omega) j u hj
    rw [Ge.addr_add, Ge.addr_add] at this
    exact this
instance : Inhabited {o : Stp // I64 o.id} := ⟨⟨⟨0, 0, false, 0⟩, by unfold I64; simp⟩⟩
theorem open_ops {H : Type} {enc : TypeId × Value → H} {W : World} {r : Reach} {b0 base : Nat} {spare : Nat → Bool} {held : Bool} {v : Value} {d : DataW H} {p : List MemPlace}
    (hok : Value.okWide Try.prog W r b0 22 v) (h : DataW.Trod enc Try.prog W base spare held 22 v d p) :
    ∃ (ao : Option Addr) (l : List {o : Stp // I64 o.id}) (cap : Nat), v = .slice ao l.length cap ∧ l.length ≤ 9223372036854775807 ∧ Seen (fun o : {o : Stp // I64 o.id} => oc o.1) 4 ao l W := by
  obtain ⟨ao, len, cap, rfl⟩ := okWide_slice Try.underlying22 hok
  obtain ⟨fuel, hf⟩ := h
  obtain ⟨ao', l, cap', e, h1, h2, -, h3⟩ := open_els (f := fun o : {o : Stp // I64 o.id} => oc o.1) (n := 4) Try.underlying22 (by kernel_rfl) (by omega) (fun _ => rfl) (fun m cs z hl ht => open_oc hl ht) (by simpa [Value.cells] using hf)
  exact ⟨ao', l, cap', e, h1, h3⟩
theorem seen_op {ao : Option Addr} {l : List {o : Stp // I64 o.id}} {w : World} (h : Seen (fun o : {o : Stp // I64 o.id} => oc o.1) 4 ao l w) {i : Nat} {x : {o : Stp // I64 o.id}} (hx : l[i]? = some x) : ∃ b off, ao = some ⟨b, off, none⟩ ∧ w.cell? ⟨b, off + i * 4, none⟩ = some (.int .i64 x.1.kind) ∧ w.cell? ⟨b, off + i * 4 + 1, none⟩ = some (.int .i64 x.1.id) ∧ w.cell? ⟨b, off + i * 4 + 2, none⟩ = some (.bool x.1.far) ∧
    w.cell? ⟨b, off + i * 4 + 3, none⟩ = some (.int .i64 x.1.n) := by
  obtain ⟨b, off, e, -, hc⟩ := h (by have := (List.getElem?_eq_some_iff.1 hx).1; omega)
  exact ⟨b, off, e, by simpa using hc i x hx 0 _ rfl, hc i x hx 1 _ rfl, hc i x hx 2 _ rfl, hc i x hx 3 _ rfl⟩
section
variable {B g r ob : Nat} {a b a' b' : Option Nat} {L T L' T' : List Kn} {o : Stp} {w w' : World}
theorem Pm.out (h : Pm B w g a b L T) {k : Nat} {cs : Array Value} {Y : TypeId} {fz : Nat × Nat} (hk : w.heap[k]? = some (.cells cs Y fz)) (hY : Y ≠ 44) : k ∉ Sv.ks g a b := by
  intro hm
  simp only [Sv.ks, List.mem_cons, List.mem_append, Option.mem_toList] at hm
  rcases hm with rfl | hm | hm
  · rw [h.blk] at hk; cases hk; exact hY rfl
  · obtain ⟨es, clock, hb⟩ := (h.fst k hm).2.mapped
    rw [hb] at hk; cases hk
  · obtain ⟨es, clock, hb⟩ := (h.snd k hm).2.mapped
    rw [hb] at hk; cases hk
/-- the document's pool beside ours -/
theorem Rq.out (k : Rq B w r L T) (h : Pm B w g a b L' T') : r ∉ Sv.ks g a b := by
  obtain ⟨cs, hb⟩ := k.blk
  exact h.out hb (by decide)
theorem Rq.left (k : Rq B w r L T) (h : Pm B w g a b L' T') (m : MvK (Sv.ks g a b) w w') : Rq B w' r L T := k.of_block (m.block r k.lt (k.out h))
theorem Pm.right (h : Pm B w g a b L T) (k : Rq B w r L' T') (m : MvK [r] w w') : Pm B w' g a b L T :=
  h.of_blocks fun j hj => m.block j (h.ks j hj).2 (fun e => by simp at e; subst e; exact k.out h hj)
/-- the step's block beside them -/
structure Ob (w : World) (ob : Nat) (o : Stp) : Prop where
  at_ : w.heap[ob]? = some (.cells #[.int .i64 o.kind, .int .i64 o.id, .bool o.far, .int .i64 o.n] 31 (0, 0))
theorem Ob.call (h : Ob w ob o) (hb : Below w.heap.size w w') : Ob w' ob o := ⟨(hb.block ob (lt_of_heap h.at_)).trans h.at_⟩
theorem Ob.left (h : Ob w ob o) (k : Pm B w g a b L T) (m : MvK (Sv.ks g a b) w w') : Ob w' ob o := ⟨(m.block ob (lt_of_heap h.at_) (k.out h.at_ (by decide))).trans h.at_⟩
theorem Ob.right (h : Ob w ob o) (k : Rq B w r L T) (m : MvK [r] w w') : Ob w' ob o := ⟨(m.block ob (lt_of_heap h.at_) (fun e => by
  simp at e; subst e
  obtain ⟨cs, hb⟩ := k.blk
  rw [h.at_] at hb; cases hb)).trans h.at_⟩
theorem Ob.cells (h : Ob w ob o) : w.cell? ⟨ob, 0, none⟩ = some (.int .i64 o.kind) ∧ w.cell? ⟨ob, 1, none⟩ = some (.int .i64 o.id) ∧ w.cell? ⟨ob, 2, none⟩ = some (.bool o.far) ∧ w.cell? ⟨ob, 3, none⟩ = some (.int .i64 o.n) := by
  refine ⟨?_, ?_, ?_, ?_⟩ <;> (rw [Lib.cell_of_heap h.at_]; rfl)
end
end Go.Proofs.Ytacgoobkpolcdaa.Sv
