/- The times by which tasks are tested: package qpa's times, behind, and the function over which they are gone, for whatever body. -/
import Derived.RangeFuncNested
import Derived.RangeFuncBound
import Derived.RangeFuncCalls
import Derived.RangeFuncLeaves
import Derived.RangeFuncBox
import Derived.Maps.AppendAt
import Derived.Shelf.Abstract
import Derived.Shelf.RegionOpen
import Derived.OwnWalkIn
import Derived.TacticsInMore
import Derived.LoopNIn
import Derived.LoopIn
import Derived.Stop.RegionWithIn
import Derived.Test.YtbhafcaekpccoaaQpMath
namespace Go.Proofs.Ytbhafcaekpccoaa.Qp
open Go.ChangeShapes Go.WideShapes Go.ChangeAt Go.RowKit Go.Joins Go.Shelf
open Pm (Tk chk chk_iff rowB rowB_all rowB_len TkAt Ts TRow)
open Dm (ans before_any beforeR ofR of_any)
open Bs (leastR least_any)
attribute [local go_sem] Oper.semAt_some
set_option maxRecDepth 100000
set_option maxRecDepth 100000
set_option linter.unusedVariables false
set_option linter.unusedSimpArgs false
theorem times_any (ao : Option Addr) (n cap : Nat) (len : Int) (w : World) :
    Calls Try.prog 30 #[.slice ao n cap, .int .i64 len] w fun e w' => e = .returned (.func (.func 42) #[] #[.pointer (some ⟨w.heap.size, 0, none⟩), .pointer (some ⟨w.heap.size + 1, 0, none⟩)]) ∧ w' = (w.alloc (.cells #[.slice ao n cap] 22)).alloc (.cells #[.int .i64 len] 2) := by
  go_enter Try.func30, Try.ntmps30
  go_wp2
  go_ret
  exact ⟨rfl, rfl⟩
theorem ans_two (n : Option Int) : ∃ y b, ans n = .tuple #[.int .i64 y, .bool b] ∧ ((n = some y ∧ b = true) ∨ (n = none ∧ y = 0 ∧ b = false)) := by
  cases n with
  | none => exact ⟨0, false, rfl, .inr ⟨rfl, rfl, rfl⟩⟩
  | some y => exact ⟨y, true, rfl, .inl ⟨rfl, rfl⟩⟩
set_option maxHeartbeats 1000000 in
theorem behind_any (l : List Tk) (ao : Option Addr) (cap : Nat) (x n : Int) (w : World) (hT : Ts ao l w) (hl : l.length ≤ 1000000) :
    Calls Try.prog 46 #[.slice ao l.length cap, .int .i64 x, .int .i64 n] w fun e w' => e = .returned (ans (behR l x n)) ∧ Below w.heap.size w w' := by
  have BE := Lib.hid (before_any l ao cap x w hT (by omega))
  unfold behR
  by_cases h : n < x
  · rw [if_pos h]
    clear BE hT
    go_enter Try.func46, Try.ntmps46
    go_wp2
    refine bodyPost_ret (v := .tuple #[.int .i64 n, .bool true]) (by simp [results, Try.results46, go_sem]) rfl ⟨rfl, Below.refl _ _⟩
  · rw [if_neg h]
    obtain ⟨y, b, ea, -⟩ := ans_two (beforeR l x)
    rw [ea] at BE ⊢
    have h' : x ≤ n := by omega
    clear hT h ea
    go_enter Try.func46, Try.ntmps46
    go_wp2_with fail
    (with_reducible refine BE.out.mono ?_)
    rintro e w1 ⟨rfl, b1⟩
    have K1 := Lib.hid b1
    clear b1 BE
    go_wp2
    refine bodyPost_ret (v := .tuple #[.int .i64 y, .bool b]) (by simp [results, Try.results46, go_sem]) rfl ⟨rfl, K1.out⟩
/-- what is read between two rounds stays -/
def Kt (X b : Nat) (A B : World) : Prop := B.heap[X]? = A.heap[X]? ∧ B.heap[X + 1]? = A.heap[X + 1]? ∧ B.heap[b]? = A.heap[b]? ∧ A.heap.size ≤ B.heap.size
theorem Kt.trans {X q : Nat} {A B C : World} (h : Kt X q A B) (k : Kt X q B C) : Kt X q A C := ⟨k.1.trans h.1, k.2.1.trans h.2.1, k.2.2.1.trans h.2.2.1, Nat.le_trans h.2.2.2 k.2.2.2⟩
theorem Kt.put {X q : Nat} {w : World} (hX : X + 1 < w.heap.size) (hq : q < w.heap.size) (W : World) (l : Nat) (o o' : Obj) (hl : w.heap.size ≤ l) (h : W.heap[l]? = some o) (_ : o.isCells = false) (_ : o.isWalk = false) : Kt X q W (W.putObj l o') :=
  ⟨World.putObj_heap_other (by omega), World.putObj_heap_other (by omega), World.putObj_heap_other (by omega), by simp [World.putObj]⟩
theorem Kt.call {X b : Nat} {A B : World} (hb : Below A.heap.size A B) (hX : X + 1 < A.heap.size) (hq : b < A.heap.size) : Kt X b A B := ⟨hb.block X (by omega), hb.block (X + 1) hX, hb.block b hq, hb.size⟩
theorem Kt.lt {X b k : Nat} {A B : World} (h : Kt X b A B) (hk : k < A.heap.size) : k < B.heap.size := by have := h.2.2.2; omega
theorem Kt.ts {X b : Nat} {ao : Option Addr} {l : List Tk} {A B : World} (h : Kt X b A B) (hbo : 0 < l.length → ∀ k off, ao = some ⟨k, off, none⟩ → k = b) (hT : Ts ao l A) : Ts ao l B := fun h0 => by
  obtain ⟨g, off, rfl, hl, hc⟩ := hT h0
  obtain rfl := hbo h0 g off rfl
  exact ⟨g, off, rfl, by have := h.2.2.2; omega, fun i x hi => (hc i x hi).of_block h.2.2.1⟩
def encT (l : List Tk) (x : Int) : Array Value := #[.int .i64 x, .int .i64 (ofR l x)]
def measT (s t : Value) : Nat := match t with
  | .bool true => (intOf s).toNat + 1
  | _ => 0
/-- ahead of a round: what is told next -/
def toldP (o : Option Int) (s t : Value) : Prop := (∃ y, o = some y ∧ s = .int .i64 y ∧ t = .bool true) ∨ (o = none ∧ s = .int .i64 0 ∧ t = .bool false)
set_option maxHeartbeats 4000000 in
theorem times1_in (n : Nat) (hn : 1 ≤ n) (Y X b N0 : Nat) (l : List Tk) (ao : Option Addr) (cap : Nat) (len : Int) (hl : l.length ≤ 1000000) (hlen : len ≤ 1048576) (hbo : 0 < l.length → ∀ k off, ao = some ⟨k, off, none⟩ → k = b) (J Jx : List Int → World → Prop) (hJ : AbidesFrom N0 J)
    (hY : ∀ pre x W, J pre W → pre.length < 1048576 → YieldAt Fence.wide (n - 1) Try.prog Y (encT l x) W fun e W' =>
      (e = .returned (.bool true) ∧ J (pre ++ [x]) W' ∧ Kt X b W W') ∨ (e = .returned (.bool false) ∧ Jx (pre ++ [x]) W'))
    (W : World) (hX : W.cell? ⟨X, 0, none⟩ = some (.slice ao l.length cap)) (hX2 : W.cell? ⟨X + 1, 0, none⟩ = some (.int .i64 len)) (hT : Ts ao l W) (hb : b < W.heap.size) (h0 : J [] W) :
    CallsIn Fence.wide n Try.prog 42 #[.func (.yield Y) #[] #[], .pointer (some ⟨X, 0, none⟩), .pointer (some ⟨X + 1, 0, none⟩)] W fun e W' => (∃ v, e = .returned v) ∧
      ((∃ ys, (chainP l (beforeR l len) ys ∧ afterP l (beforeR l len) ys = none) ∧ J ys W') ∨ (∃ pre, (∃ q z, pre = q ++ [z] ∧ chainP l (beforeR l len) pre) ∧ Jx pre W')) := by
  have LE := Lib.hid (fun k w (h : Ts ao l w) => (callsIn_wide (n := k)).2 (least_any l ao cap w h (by omega)))
  have BE := Lib.hid (fun k x w (h : Ts ao l w) => (callsIn_wide (n := k)).2 (before_any l ao cap x w h (by omega)))
  have OF := Lib.hid (fun k x w (h : Ts ao l w) => (callsIn_wide (n := k)).2 (of_any l ao cap x w h (by omega)))
  have BH := Lib.hid (fun k x m w (h : Ts ao l w) => (callsIn_wide (n := k)).2 (behind_any l ao cap x m w h hl))
  refine callsIn_of_wp Try.func42 rfl trivial ?_ rfl
  simp only [Try.ntmps42, List.size_toArray, List.length_cons, List.length_nil, Nat.reduceAdd, Nat.reduceSub, Array.replicate_succ, Array.replicate_zero, List.push_toArray, List.append_toArray, List.nil_append, List.cons_append]
  have hXl : X + 1 < W.heap.size := World.block_lt_of_cell? _ _ hX2
  have hfall : ∀ y, beforeR l len = some y → 1 ≤ y ∧ y < len := fun y h => by have := before_fall h; omega
  have grown : ∀ {A B : World}, Below A.heap.size A B → A.grownBy B none := fun h => ⟨h.os, h.tape, h.output, h.size, fun k hk _ => h.block k hk⟩
  have hG : ∀ pre A B, J pre A → Below A.heap.size A B → J pre B := fun pre A B h k => hJ pre A B none h (grown k) (fun r e => by cases e)
  have HT := Lib.hid hT
  have HG := Lib.hid hG
  have HF := Lib.hid hfall
  have H0 := Lib.hid h0
  have LE0 := Lib.hid (LE.out (n - 1) W hT)
  obtain ⟨ms, hms⟩ : ∃ ms, leastR l = ms := ⟨_, rfl⟩
  rw [hms] at LE0
  have HMS := Lib.hid hms
  clear hms
  obtain ⟨y0, b0, ea, ho⟩ := ans_two (beforeR l len)
  have BE0 := Lib.hid (fun w h => BE.out (n - 1) len w h)
  rw [ea] at BE0
  generalize beforeR l len = o at *
  have TO0 : Hid (toldP o (.int .i64 y0) (.bool b0)) := Lib.hid (by
    rcases ho with ⟨h1, rfl⟩ | ⟨h1, rfl, rfl⟩
    · exact .inl ⟨y0, h1, rfl, rfl⟩
    · exact .inr ⟨h1, rfl, rfl⟩)
  clear ho ea hG h0 hT grown hfall LE BE
  gi_wp2
  refine ⟨trivial, LE0.out.mono ?_⟩
  rintro e w1 ⟨rfl, hb1⟩
  have JW := Lib.hid (HG.out _ _ _ H0.out hb1)
  have KW := Lib.hid (Kt.call hb1 hXl hb)
  have T1 := Lib.hid (HT.out.call hb1)
  have c1 : w1.cell? ⟨X, 0, none⟩ = some (.slice ao l.length cap) := (World.cell?_of_block (w := W) (a := ⟨X, 0, none⟩) KW.out.1).trans hX
  have c2 : w1.cell? ⟨X + 1, 0, none⟩ = some (.int .i64 len) := (World.cell?_of_block (w := W) (a := ⟨X + 1, 0, none⟩) KW.out.2.1).trans hX2
  clear hb1 LE0 H0
  gi_wp2
  refine ⟨trivial, (BE0.out _ T1.out).mono ?_⟩
  rintro e w2 ⟨rfl, hb2⟩
  have JW2 := Lib.hid (HG.out _ _ _ JW.out hb2)
  have KW2 := Lib.hid (KW.out.trans (Kt.call hb2 (KW.out.lt hXl) (KW.out.lt hb)))
  clear hb2 BE0 JW KW c1 c2 T1
  gi_wp2
  gi_loopw [5, 6] (fun s t wr => ∃ pre, toldP (afterP l o pre) s t ∧ chainP l o pre ∧ J pre wr ∧ Kt X b W wr) (fun s t _ => measT s t)
  case atStart => exact ⟨[], TO0.out, trivial, JW2.out, KW2.out⟩
  case round =>
    obtain ⟨pre, ⟨y, hn, rfl, rfl⟩ | ⟨hn, rfl, rfl⟩, hc, hJs, hkp⟩ := hrel
    · have hcs : chainP l o (pre ++ [y]) := chainP_snoc.2 ⟨hc, hn⟩
      have hfa := chainP_fall HF.out hcs
      have hlt : pre.length < 1048576 := by
        have := hfa.2.1
        simp only [List.length_append, List.length_singleton] at this
        split at this <;> omega
      have hy1 := (hfa.1 y (by simp)).1
      have CS := Lib.hid hcs
      have KB := Lib.hid hkp
      have TW := Lib.hid (hkp.ts hbo HT.out)
      have OF0 := Lib.hid (OF.out (n - 1) y wr TW.out)
      have JB := Lib.hid hJs
      have NE : Hid (ofR l y ≤ ms → nextP l y = none) := Lib.hid (fun h => by unfold nextP; rw [HMS.out, if_pos h])
      have NS : Hid (ms < ofR l y → nextP l y = behR l y (ofR l y)) := Lib.hid (fun h => by unfold nextP; rw [HMS.out, if_neg (by omega)])
      have NF := Lib.hid (fun z (h : nextP l y = some z) => nextP_fall h)
      have BH1 := Lib.hid (fun m w h => BH.out (n - 1) y m w h)
      have cX : wr.cell? ⟨X, 0, none⟩ = some (.slice ao l.length cap) := (World.cell?_of_block (w := W) (a := ⟨X, 0, none⟩) hkp.1).trans hX
      have HYY := Lib.hid (fun A (h : J pre A) => hY pre y A h hlt)
      have AF : Hid (∀ e, nextP l y = e → afterP l o (pre ++ [y]) = e) := Lib.hid (fun e h => by rw [afterP_snoc, h])
      clear hY hc hJs hkp hlt hfa hcs hn JW2 KW2 TO0 OF BH hX2
      gi_wp2
      refine ⟨trivial, OF0.out.mono ?_⟩
      rintro e w3 ⟨rfl, b3⟩
      have J3 := Lib.hid (HG.out _ _ _ JB.out b3)
      have K3 := Lib.hid (KB.out.trans (Kt.call b3 (KB.out.lt hXl) (KB.out.lt hb)))
      obtain ⟨fn, tmps, assign, body, hy, hR⟩ := HYY.out w3 J3.out
      have HR := Lib.hid hR
      unfold encT at hy
      clear b3 hR HYY JB KB OF0 TW cX
      generalize ofR l y = m at *
      gi_wp2
      refine HR.out.mono ?_
      rintro e W3 (⟨rfl, hJ3, hk3⟩ | ⟨rfl, hJx3⟩)
      · have K4 := Lib.hid (K3.out.trans hk3)
        have J4 := Lib.hid hJ3
        clear hJ3 hk3 HR hy
        by_cases hm : m ≤ ms
        · have NE1 := Lib.hid (NE.out hm)
          gi_wp2
          refine bodyPost_ret (results_none rfl _ _ _) rfl ?_
          exact ⟨⟨_, rfl⟩, .inl ⟨pre ++ [y], ⟨CS.out, AF.out _ NE1.out⟩, J4.out⟩⟩
        · have hm' : ms < m := by omega
          have NS1 := Lib.hid (NS.out hm')
          have cX : W3.cell? ⟨X, 0, none⟩ = some (.slice ao l.length cap) := (World.cell?_of_block (w := W) (a := ⟨X, 0, none⟩) K4.out.1).trans hX
          obtain ⟨y1, b1, ea, ho⟩ := ans_two (behR l y m)
          have B1 := Lib.hid (BH1.out m W3 (K4.out.ts hbo HT.out))
          rw [ea] at B1
          have HO := Lib.hid ho
          clear ho ea BH1 hm
          gi_wp2
          refine ⟨trivial, B1.out.mono ?_⟩
          rintro e w4 ⟨rfl, b4⟩
          have J5 := Lib.hid (HG.out _ _ _ J4.out b4)
          have K5 := Lib.hid (K4.out.trans (Kt.call b4 (K4.out.lt hXl) (K4.out.lt hb)))
          clear b4 B1 J4 K4 cX
          gi_wp2
          go_roundw
          case rel =>
            refine ⟨pre ++ [y], ?_, CS.out, J5.out, K5.out⟩
            rw [AF.out _ NS1.out]
            rcases HO.out with ⟨h1, rfl⟩ | ⟨h1, rfl, rfl⟩
            · exact .inl ⟨y1, h1, rfl, rfl⟩
            · exact .inr ⟨h1, rfl, rfl⟩
          case measure =>
            rcases HO.out with ⟨h1, rfl⟩ | ⟨h1, rfl, rfl⟩
            · have := NF.out y1 (NS1.out.trans h1)
              simp [measT, intOf]; omega
            · simp [measT, intOf]
      · gi_wp2
        refine bodyPost_ret (results_none rfl _ _ _) rfl ?_
        exact ⟨⟨_, rfl⟩, .inr ⟨pre ++ [y], ⟨pre, y, rfl, CS.out⟩, hJx3⟩⟩
    · gi_wp2
      go_end0
      exact ⟨⟨_, rfl⟩, .inl ⟨pre, ⟨hc, hn⟩, hJs⟩⟩
end Go.Proofs.Ytbhafcaekpccoaa.Qp
