/- Package ops' put: what ops of one kind say, as a writer puts it. -/
import Derived.Test.YtnaanahgflbihaaOpC
import Derived.Test.YtnaanahgflbihaaOcG
import Derived.Deep.RegionHeld3
namespace Go.Proofs.Ytnaanahgflbihaa.Ox
open Go.ChangeShapes Go.WideShapes Go.ChangeAt Go.RowKit Go.Joins
open Oc
open Pm (Tk chk chk_iff)
set_option maxRecDepth 100000
set_option maxRecDepth 100000
set_option linter.unusedVariables false
set_option linter.unusedSimpArgs false
/-- the bytes of what ops of one kind say -/
def bodyR : Fd → List UInt8
  | .admit t s => encInt t.id ++ enc t.c.toNat ++ enc t.d.toNat ++ enc t.t.toNat ++ encInt t.m ++ encFlag s
  | .remove i => encInt i
  | .resize i c => encInt i ++ enc c.toNat
  | .mode m => encInt m
  | .unknown _ => []
/-- what ops of one kind say, in a block of its own beside a writer -/
structure Bd (B b p T : Nat) (cs : Array Value) (l : List UInt8) (w W : World) : Prop where
  wr : Wr B b l W
  at_ : W.heap[p]? = some (.cells cs T (0, 0))
  ty : T ≠ 5
  ne : p ≠ b
  mv : Moved b w W
  sz : B ≤ W.heap.size
theorem Bd.moved {B b p T : Nat} {cs : Array Value} {l l' : List UInt8} {w W W' : World} (h : Bd B b p T cs l w W) (k : Wr B b l' W') (m : Moved b W W') : Bd B b p T cs l' w W' :=
  ⟨k, (m.block p (lt_of_heap h.at_) h.ne (h.wr.buf_ne h.at_ h.ty)).trans h.at_, h.ty, h.ne, h.mv.trans m, Nat.le_trans h.sz m.size⟩
theorem Bd.drew {B b p T : Nat} {cs : Array Value} {l : List UInt8} {w W : World} (h : Bd B b p T cs l w W) : Bd B b p T cs l w W.drew :=
  ⟨h.wr, h.at_, h.ty, h.ne, h.mv.drew, h.sz⟩
theorem Bd.cell {B b p T : Nat} {cs : Array Value} {l : List UInt8} {w W : World} (h : Bd B b p T cs l w W) (o : Nat) : W.cell? ⟨p, o, none⟩ = cs[o]? := by
  rw [Lib.cell_of_heap h.at_]
theorem bd_new {B b : Nat} {l : List UInt8} {w : World} (k : Wr B b l w) (hB : B ≤ w.heap.size) (cs : Array Value) (T : Nat) (hT : T ≠ 5) : Bd B b w.heap.size T cs l w (w.alloc (.cells cs T)) :=
  ⟨k.call ((Below.refl _ _).alloc (Nat.le_refl _) _), heap_alloc_new _ _, hT, (by have := k.lt; omega), Moved.alloc k.lt _, by simp; omega⟩
theorem int_wf {n : Int} (h0 : 0 ≤ n) (h1 : n ≤ 1000000) : (Lit.int .i64 n).wf = true := by simp [Lit.wf, IntKind.min, IntKind.max, IntKind.bits, IntKind.signed]; omega
theorem int_c {B b p T : Nat} {cs : Array Value} {w : World} (l : List UInt8) (n : Int) (hn : 0 ≤ n ∧ n ≤ 1000000) (hl : l.length ≤ 900000) :
    ∀ W, Bd B b p T cs l w W → Calls Try.prog 56 #[self b, .int .i64 n] W fun e w' => e = .returned (self b) ∧ Bd B b p T cs (l ++ encInt n) w w' := fun W h =>
  (int_any B b n l W h.wr (int_wf hn.1 hn.2) hl h.sz).mono fun e w' ⟨he, hw, hm⟩ => ⟨he, h.moved hw hm⟩
theorem num_c {B b p T : Nat} {cs : Array Value} {w : World} (l : List UInt8) (n : Int) (hn : 0 ≤ n ∧ n ≤ 2147483648) (hl : l.length ≤ 900000) :
    ∀ W, Bd B b p T cs l w W → Calls Try.prog 74 #[self b, .int .u64 n] W fun e w' => e = .returned (self b) ∧ Bd B b p T cs (l ++ enc n.toNat) w w' := fun W h => by
  have := num_any B b n.toNat l W h.wr (by omega) hl h.sz
  rw [show (n.toNat : Int) = n by omega] at this
  exact this.mono fun e w' ⟨he, hw, hm⟩ => ⟨he, h.moved hw hm⟩
theorem flag_c {B b p T : Nat} {cs : Array Value} {w : World} (l : List UInt8) (f : Bool) (hl : l.length ≤ 900000) :
    ∀ W, Bd B b p T cs l w W → Calls Try.prog 75 #[self b, .bool f] W fun e w' => e = .returned (self b) ∧ Bd B b p T cs (l ++ encFlag f) w w' := fun W h =>
  (flag_any B b f l W h.wr hl h.sz).mono fun e w' ⟨he, hw, hm⟩ => ⟨he, h.moved hw hm⟩
theorem len9 {n : Nat} (h : n < 18446744073709551616) : (enc n).length ≤ 9 := enc_len9 h
theorem cons6 {W : World} {p : Nat} {a b c d e f : Value} (h : ∀ o, W.cell? ⟨p, o, none⟩ = (#[a, b, c, d, e, f] : Array Value)[o]?) : W.cell? ⟨p, 0, none⟩ = some a ∧ W.cell? ⟨p, 1, none⟩ = some b ∧ W.cell? ⟨p, 2, none⟩ = some c ∧ W.cell? ⟨p, 3, none⟩ = some d ∧ W.cell? ⟨p, 4, none⟩ = some e ∧ W.cell? ⟨p, 5, none⟩ = some f := ⟨h 0, h 1, h 2, h 3, h 4, h 5⟩
theorem cons2 {W : World} {p : Nat} {a b : Value} (h : ∀ o, W.cell? ⟨p, o, none⟩ = (#[a, b] : Array Value)[o]?) : W.cell? ⟨p, 0, none⟩ = some a ∧ W.cell? ⟨p, 1, none⟩ = some b := ⟨h 0, h 1⟩
end Go.Proofs.Ytnaanahgflbihaa.Ox
