/- The steps, one by one: contracts of package busy's stepping, of the closure that makes them, and of the function over which they are gone: it has no end of its own. -/
import Derived.RangeFuncNested
import Derived.RangeFuncBound
import Derived.RangeFuncCalls
import Derived.RangeFuncLeaves
import Derived.RangeFuncBox
import Derived.Maps.AppendAt
import Derived.Shelf.Abstract
import Derived.Shelf.RegionOpen
import Derived.OwnWalkIn
import Derived.TacticsInMore
import Derived.LoopNIn
import Derived.LoopIn
import Derived.Stop.RegionWithIn
import Derived.Lib.Builder
import Derived.Test.YtbhafcaekpccoaaBsA
namespace Go.Proofs.Ytbhafcaekpccoaa.Bs
open Go.ChangeShapes Go.WideShapes Go.ChangeAt Go.RowKit Go.Joins Go.Shelf
open Pm (Tk chk chk_iff rowB rowB_all rowB_len TkAt Ts TRow)
attribute [local go_sem] Oper.semAt_some
set_option maxRecDepth 100000
set_option maxRecDepth 100000
set_option linter.unusedVariables false
set_option linter.unusedSimpArgs false
/-- each one is the work of the one ahead of it -/
def chainW (l : List Tk) : Int → List Int → Prop
  | _, [] => True
  | x, y :: r => y = workR l x ∧ chainW l y r
def lastI (x : Int) : List Int → Int
  | [] => x
  | y :: r => lastI y r
theorem lastI_snoc (x y : Int) (r : List Int) : lastI x (r ++ [y]) = y := by
  induction r generalizing x with
  | nil => rfl
  | cons z r ih => exact ih z
theorem chainW_snoc {l : List Tk} : ∀ {r : List Int} {x y : Int}, chainW l x (r ++ [y]) ↔ chainW l x r ∧ y = workR l (lastI x r) := by
  intro r
  induction r with
  | nil => intro x y; exact ⟨fun h => ⟨trivial, h.1⟩, fun h => ⟨h.2, trivial⟩⟩
  | cons z r ih => intro x y; exact ⟨fun h => ⟨⟨h.1, (ih.1 h.2).1⟩, (ih.1 h.2).2⟩, fun h => ⟨h.1.1, ih.2 ⟨h.1.2, h.2⟩⟩⟩
/-- but for the blocks from lo up to hi nothing has turned -/
structure Off (lo hi : Nat) (A B : World) : Prop where
  os : B.os = A.os
  tape : B.tape = A.tape
  output : B.output = A.output
  size : A.heap.size ≤ B.heap.size
  block : ∀ k, k < A.heap.size → (k < lo ∨ hi ≤ k) → B.heap[k]? = A.heap[k]?
theorem Off.of_below {lo hi : Nat} {A B : World} (h : Below A.heap.size A B) : Off lo hi A B := ⟨h.os, h.tape, h.output, h.size, fun k hk _ => h.block k hk⟩
theorem Off.mono {lo hi lo' hi' : Nat} {A B : World} (h : Off lo hi A B) (h1 : lo' ≤ lo) (h2 : hi ≤ hi') : Off lo' hi' A B := ⟨h.os, h.tape, h.output, h.size, fun k hk ho => h.block k hk (by omega)⟩
theorem Off.put {lo hi k : Nat} (A : World) (o : Obj) (h1 : lo ≤ k) (h2 : k < hi) : Off lo hi A (A.putObj k o) := ⟨rfl, rfl, rfl, by simp [World.putObj], fun j hj ho => World.putObj_heap_other (by omega)⟩
theorem Off.below {lo hi N : Nat} {A B W : World} (h : Off lo hi A B) (h1 : N ≤ lo) (hb : Below N W A) (h2 : N ≤ W.heap.size) : Below N W B :=
  ⟨h.os.trans hb.os, h.tape.trans hb.tape, h.output.trans hb.output, Nat.le_trans hb.size h.size, fun k hk => (h.block k (by have := hb.size; omega) (by omega)).trans (hb.block k hk)⟩
theorem Ts.of_block {b : Nat} {ao : Option Addr} {l : List Tk} {A B : World} (hT : Ts ao l A) (hbo : 0 < l.length → ∀ k off, ao = some ⟨k, off, none⟩ → k = b) (hs : A.heap.size ≤ B.heap.size) (h : B.heap[b]? = A.heap[b]?) : Ts ao l B := fun h0 => by
  obtain ⟨g, off, rfl, hl, hc⟩ := hT h0
  obtain rfl := hbo h0 g off rfl
  exact ⟨g, off, rfl, by omega, fun i x hi => (hc i x hi).of_block h⟩
theorem stepping_any (ao : Option Addr) (n cap : Nat) (w : World) :
    Calls Try.prog 54 #[.slice ao n cap] w fun e w' => e = .returned (.func (.func 61) #[] #[.pointer (some ⟨w.heap.size, 0, none⟩), .pointer (some ⟨w.heap.size + 1, 0, none⟩)]) ∧ w' = (w.alloc (.cells #[.slice ao n cap] 22)).alloc (.cells #[.int .i64 1] 2) := by
  go_enter Try.func54, Try.ntmps54
  go_wp2
  go_ret
  exact ⟨rfl, rfl⟩
theorem steps_any (ao : Option Addr) (n cap : Nat) (w : World) :
    Calls Try.prog 41 #[.slice ao n cap] w fun e w' => e = .returned (.func (.func 53) #[] #[.pointer (some ⟨w.heap.size, 0, none⟩)]) ∧ w' = w.alloc (.cells #[.slice ao n cap] 22) := by
  go_enter Try.func41, Try.ntmps41
  go_wp2
  go_ret
  exact ⟨rfl, rfl⟩
/-- the closure's own blocks: the tasks, and the step that was told last -/
structure St (B b : Nat) (ao : Option Addr) (l : List Tk) (cap : Nat) (x : Int) (w : World) : Prop where
  box : w.heap[B]? = some (.cells #[.slice ao l.length cap] 22 (0, 0))
  num : w.heap[B + 1]? = some (.cells #[.int .i64 x] 2 (0, 0))
  row : Ts ao l w
set_option maxHeartbeats 1000000 in
theorem step_any (B b : Nat) (ao : Option Addr) (l : List Tk) (cap : Nat) (x : Int) (w : World) (hl : l.length ≤ 9223372036854775807) (hbo : 0 < l.length → ∀ k off, ao = some ⟨k, off, none⟩ → k = b) (hb : b < B) (h : St B b ao l cap x w) :
    Calls Try.prog 61 #[.pointer (some ⟨B, 0, none⟩), .pointer (some ⟨B + 1, 0, none⟩)] w fun e w' => e = .returned (.int .i64 (workR l x)) ∧ St B b ao l cap (workR l x) w' ∧ Off B (B + 2) w w' := by
  have WK := Lib.hid (work_any l ao cap x w h.row hl)
  have cB : w.cell? ⟨B, 0, none⟩ = some (.slice ao l.length cap) := by rw [Lib.cell_of_heap h.box]; rfl
  have cX : w.cell? ⟨B + 1, 0, none⟩ = some (.int .i64 x) := by rw [Lib.cell_of_heap h.num]; rfl
  have hB1 : B + 1 < w.heap.size := (Array.getElem?_eq_some_iff.1 h.num).1
  have H := Lib.hid h
  have FIN : Hid (∀ w1 y, Below w.heap.size w w1 → w1.cell? ⟨B + 1, 0, none⟩ = some (.int .i64 x) ∧ w1.frozen? ⟨B + 1, 0, none⟩ = false ∧ St B b ao l cap y (w1.setCell ⟨B + 1, 0, none⟩ (.int .i64 y)) ∧ Off B (B + 2) w (w1.setCell ⟨B + 1, 0, none⟩ (.int .i64 y))) := Lib.hid (fun w1 y b1 => by
    have n1 := (b1.block (B + 1) hB1).trans h.num
    have hz := b1.size
    have other : ∀ k, k ≠ B + 1 → (w1.setCell ⟨B + 1, 0, none⟩ (.int .i64 y)).heap[k]? = w1.heap[k]? := fun k hn => Below.heap_setCell _ _ _ _ hn
    have hsz : (w1.setCell ⟨B + 1, 0, none⟩ (.int .i64 y)).heap.size = w1.heap.size := by simp [World.setCell]
    refine ⟨by rw [Lib.cell_of_heap n1]; rfl, Lib.frozen_of_heap n1 0, ⟨?_, ?_, ?_⟩, ⟨b1.os, b1.tape, b1.output, by omega, fun k hk ho => (other k (by omega)).trans (b1.block k hk)⟩⟩
    · rw [other B (by omega)]; exact (b1.block B (by omega)).trans h.box
    · simp [World.setCell, Array.getElem?_modify, n1]
    · exact Ts.of_block (h.row.call b1) hbo (by omega) (other b (by omega)))
  clear h hB1
  generalize workR l x = y at *
  go_enter Try.func61, Try.ntmps61
  go_wp2_with fail
  (with_reducible refine WK.out.mono ?_)
  rintro e w1 ⟨rfl, b1⟩
  obtain ⟨c1, f1, s1, o1⟩ := FIN.out w1 y b1
  have S1 := Lib.hid s1
  have O1 := Lib.hid o1
  clear b1 FIN WK s1 o1 cB cX
  go_wp2
  go_ret
  exact ⟨rfl, S1.out, O1.out⟩
/-- what the body of a round keeps -/
def Kq (b N : Nat) (A B : World) : Prop := B.heap[b]? = A.heap[b]? ∧ B.heap[N]? = A.heap[N]? ∧ B.heap[N + 1]? = A.heap[N + 1]? ∧ A.heap.size ≤ B.heap.size
theorem Kq.trans {b N : Nat} {A B C : World} (h : Kq b N A B) (k : Kq b N B C) : Kq b N A C := ⟨k.1.trans h.1, k.2.1.trans h.2.1, k.2.2.1.trans h.2.2.1, Nat.le_trans h.2.2.2 k.2.2.2⟩
theorem Kq.put {b N k : Nat} (A : World) (o : Obj) (h1 : k ≠ b) (h2 : k < N) : Kq b N A (A.putObj k o) := ⟨World.putObj_heap_other (Ne.symm h1), World.putObj_heap_other (by omega), World.putObj_heap_other (by omega), by simp [World.putObj]⟩
theorem Kq.st {b N : Nat} {A B : World} {ao : Option Addr} {l : List Tk} {cap : Nat} {x : Int} (hbo : 0 < l.length → ∀ k off, ao = some ⟨k, off, none⟩ → k = b) (h : Kq b N A B) (s : St N b ao l cap x A) : St N b ao l cap x B :=
  ⟨h.2.1.trans s.box, h.2.2.1.trans s.num, Ts.of_block s.row hbo h.2.2.2 h.1⟩
def encS (x : Int) : Array Value := #[.int .i64 x]
/-- at most g rounds are to come -/
def SgRel (M N b : Nat) (ao : Option Addr) (l : List Tk) (cap : Nat) (J : List Int → World → Prop) (g : Nat) (wr : World) : Prop :=
  ∃ pre, pre.length + g = M ∧ chainW l 1 pre ∧ J pre wr ∧ St N b ao l cap (lastI 1 pre) wr
set_option maxHeartbeats 4000000 in
theorem steps1_in (n : Nat) (hn : 1 ≤ n) (Y X0 b M : Nat) (l : List Tk) (ao : Option Addr) (cap : Nat) (hl : l.length ≤ 9223372036854775807) (hbo : 0 < l.length → ∀ k off, ao = some ⟨k, off, none⟩ → k = b) (J Jx : List Int → World → Prop) (W : World)
    (hJ : ∀ pre A B, J pre A → Off W.heap.size (W.heap.size + 2) A B → J pre B) (hM : ∀ pre A, J pre A → pre.length ≤ M)
    (hY : ∀ pre x A, W.heap.size + 2 ≤ A.heap.size → J pre A → chainW l 1 (pre ++ [x]) → YieldAt Fence.wide (n - 1) Try.prog Y (encS x) A fun e B =>
      (e = .returned (.bool true) ∧ J (pre ++ [x]) B ∧ Kq b W.heap.size A B) ∨ (e = .returned (.bool false) ∧ Jx (pre ++ [x]) B))
    (hX : W.cell? ⟨X0, 0, none⟩ = some (.slice ao l.length cap)) (hT : Ts ao l W) (hb : b < W.heap.size) (h0 : J [] W) :
    CallsIn Fence.wide n Try.prog 53 #[.func (.yield Y) #[] #[], .pointer (some ⟨X0, 0, none⟩)] W fun e W' => (∃ v, e = .returned v) ∧ ∃ pre, chainW l 1 pre ∧ Jx pre W' := by
  have SG := Lib.hid (fun k w => (callsIn_wide (n := k)).2 (stepping_any ao l.length cap w))
  have SA := Lib.hid (fun k x w h => (callsIn_wide (n := k)).2 (step_any W.heap.size b ao l cap x w hl hbo hb h))
  have HJ := Lib.hid hJ
  have HM := Lib.hid hM
  have S0 : Hid (J [] ((W.alloc (.cells #[.slice ao l.length cap] 22)).alloc (.cells #[.int .i64 1] 2)) ∧ St W.heap.size b ao l cap 1 ((W.alloc (.cells #[.slice ao l.length cap] 22)).alloc (.cells #[.int .i64 1] 2))) := Lib.hid (by
    have b2 : Below W.heap.size W ((W.alloc (.cells #[.slice ao l.length cap] 22)).alloc (.cells #[.int .i64 1] 2)) := ((Below.refl _ _).alloc (Nat.le_refl _) _).alloc (by simp) _
    refine ⟨hJ _ _ _ h0 (Off.of_below b2), ⟨?_, ?_, hT.call b2⟩⟩
    all_goals simp only [World.alloc, Array.getElem?_push, Array.size_push]
    · rw [if_neg (by omega), if_pos trivial]
    · rw [if_pos trivial])
  have SG0 := Lib.hid (SG.out (n - 1) W)
  clear SG
  refine callsIn_of_wp Try.func53 rfl trivial ?_ rfl
  simp only [Try.ntmps53, List.size_toArray, List.length_cons, List.length_nil, Nat.reduceAdd, Nat.reduceSub, Array.replicate_succ, Array.replicate_zero, List.push_toArray, List.append_toArray, List.nil_append, List.cons_append]
  have HYY := Lib.hid hY
  clear hJ hM hY h0 hT
  gi_wp2
  refine ⟨trivial, SG0.out.mono ?_⟩
  rintro e w1 ⟨rfl, e1⟩
  obtain ⟨j0, s0⟩ := S0.out
  rw [← e1] at j0 s0
  have J0 := Lib.hid j0
  have T0 := Lib.hid s0
  clear e1 j0 s0 S0 SG0 hX
  gi_wp2
  gi_loopw [] (fun wr => ∃ g, SgRel M W.heap.size b ao l cap J g wr) (fun wr => leastOf (fun g => SgRel M W.heap.size b ao l cap J g wr))
  case atStart => exact ⟨M, [], by simp, trivial, J0.out, T0.out⟩
  case round =>
    have hsp := leastOf_spec hrel
    have LE := Lib.hid (fun (wr' : World) (h : ∃ g, g < leastOf (fun g => SgRel M W.heap.size b ao l cap J g wr) ∧ SgRel M W.heap.size b ao l cap J g wr') => (show (∃ g, SgRel M W.heap.size b ao l cap J g wr') ∧ leastOf (fun g => SgRel M W.heap.size b ao l cap J g wr') < leastOf (fun g => SgRel M W.heap.size b ao l cap J g wr) by
      obtain ⟨g, h1, h2⟩ := h
      exact ⟨⟨g, h2⟩, Nat.lt_of_le_of_lt ((leastOf_spec ⟨g, h2⟩).2 g h2) h1⟩))
    obtain ⟨⟨pre, hg, hc, hj, hst⟩, -⟩ := hsp
    generalize leastOf (fun g => SgRel M W.heap.size b ao l cap J g wr) = gk at *
    have hML := HM.out _ _ hj
    have SA1 := Lib.hid (SA.out (n - 1) _ wr hst)
    have PC := Lib.hid hc
    have PJ := Lib.hid hj
    have PG := Lib.hid hg
    have PS := Lib.hid ((Array.getElem?_eq_some_iff.1 hst.num).1)
    clear hrel hg hc hj hst J0 T0 hML
    gi_wp2
    refine ⟨trivial, SA1.out.mono ?_⟩
    rintro e w2 ⟨rfl, s2, o2⟩
    have CH : Hid (chainW l 1 (pre ++ [workR l (lastI 1 pre)])) := Lib.hid (chainW_snoc.2 ⟨PC.out, rfl⟩)
    have LA : Hid (lastI 1 (pre ++ [workR l (lastI 1 pre)]) = workR l (lastI 1 pre)) := Lib.hid (lastI_snoc _ _ _)
    have j2 := HJ.out _ _ _ PJ.out o2
    have S2 := Lib.hid s2
    have z2 := o2.size
    generalize workR l (lastI 1 pre) = y at *
    obtain ⟨fn, tmps, assign, body, hy, hR⟩ := HYY.out pre y w2 (by have := PS.out; omega) j2 CH.out
    have HR := Lib.hid hR
    unfold encS at hy
    clear hR s2 o2 j2 z2 SA1
    gi_wp2
    refine HR.out.mono ?_
    rintro e W3 (⟨rfl, hJ3, hk3⟩ | ⟨rfl, hJx3⟩)
    · have J3 := Lib.hid hJ3
      have T3 := Lib.hid (hk3.st hbo S2.out)
      have RR : Hid ((∃ g, SgRel M W.heap.size b ao l cap J g W3) ∧ leastOf (fun g => SgRel M W.heap.size b ao l cap J g W3) < gk) := Lib.hid (LE.out W3 (by
        have h1 := HM.out _ _ J3.out
        have h2 := PG.out
        simp only [List.length_append, List.length_singleton] at h1
        exact ⟨gk - 1, by omega, _, by simp only [List.length_append, List.length_singleton]; omega, CH.out, J3.out, by rw [LA.out]; exact T3.out⟩))
      clear hJ3 hk3
      gi_wp2
      go_roundw
      case rel => exact RR.out.1
      case measure => exact RR.out.2
    · gi_wp2
      go_end0
      exact ⟨⟨_, rfl⟩, _, CH.out, hJx3⟩
end Go.Proofs.Ytbhafcaekpccoaa.Bs
