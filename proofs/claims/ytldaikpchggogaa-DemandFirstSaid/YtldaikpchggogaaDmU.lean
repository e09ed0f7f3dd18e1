/- The function over which package demand's deadlines are gone: its contract, for whatever body. -/
import Derived.RangeFuncNested
import Derived.RangeFuncBound
import Derived.RangeFuncCalls
import Derived.RangeFuncLeaves
import Derived.RangeFuncBox
import Derived.Maps.AppendAt
import Derived.Shelf.Abstract
import Derived.Shelf.RegionOpen
import Derived.OwnWalkIn
import Derived.TacticsInMore
import Derived.LoopNIn
import Derived.LoopIn
import Derived.Stop.RegionWithIn
import Derived.Test.YtldaikpchggogaaDmO
namespace Go.Proofs.Ytldaikpchggogaa.Dm
open Go.ChangeShapes Go.WideShapes Go.ChangeAt Go.RowKit Go.Joins Go.Shelf
open Pm (Tk chk chk_iff rowB rowB_all rowB_len TkAt Ts TRow)
attribute [local go_sem] Oper.semAt_some
set_option maxRecDepth 100000
set_option maxRecDepth 100000
set_option linter.unusedVariables false
set_option linter.unusedSimpArgs false
/-- each one is the next one of the one ahead of it -/
def chain (l : List Tk) : Int → List Int → Prop
  | _, [] => True
  | x, y :: r => nextR l x = some y ∧ chain l y r
def lastOf (x : Int) : List Int → Int
  | [] => x
  | y :: r => lastOf y r
theorem lastOf_snoc (x y : Int) (r : List Int) : lastOf x (r ++ [y]) = y := by
  induction r generalizing x with
  | nil => rfl
  | cons z r ih => exact ih z
theorem chain_snoc {l : List Tk} : ∀ {r : List Int} {x y : Int}, chain l x r → nextR l (lastOf x r) = some y → chain l x (r ++ [y]) := by
  intro r
  induction r with
  | nil => intro x y _ h; exact ⟨h, trivial⟩
  | cons z r ih => intro x y hc h; exact ⟨hc.1, ih hc.2 h⟩
theorem nextR_rise {l : List Tk} {x y : Int} (h : nextR l x = some y) : 0 ≤ x ∧ x < y ∧ y ≤ 1099511627776 := by
  by_cases hr : rowB l = true ∧ isTime x = true
  · have hl := rowB_all hr.1
    have h1 := nextR_is (fun t ht => by have := chk_iff.1 (hl t ht); omega) h
    have := isTime_iff.1 hr.2
    omega
  · unfold nextR at h; rw [if_neg hr] at h; cases h
theorem chain_len {l : List Tk} : ∀ {r : List Int} {x : Int}, 0 ≤ x → x ≤ 1099511627776 → chain l x r → 0 ≤ lastOf x r ∧ lastOf x r ≤ 1099511627776 ∧ x + r.length ≤ lastOf x r := by
  intro r
  induction r with
  | nil => intro x h0 h1 _; simp [lastOf]; omega
  | cons y r ih =>
    intro x h0 h1 hc
    have h2 := nextR_rise hc.1
    have h3 := ih (by omega) h2.2.2 hc.2
    simp only [lastOf, List.length_cons]
    omega
/-- what is read between two rounds stays -/
def Kp (X b : Nat) (A B : World) : Prop := B.heap[X]? = A.heap[X]? ∧ B.heap[b]? = A.heap[b]? ∧ A.heap.size ≤ B.heap.size
theorem Kp.trans {X q : Nat} {A B C : World} (h : Kp X q A B) (k : Kp X q B C) : Kp X q A C := ⟨k.1.trans h.1, k.2.1.trans h.2.1, Nat.le_trans h.2.2 k.2.2⟩
theorem Kp.put {X q : Nat} {w : World} (hX : X < w.heap.size) (hq : q < w.heap.size) (W : World) (l : Nat) (o o' : Obj) (hl : w.heap.size ≤ l) (h : W.heap[l]? = some o) (_ : o.isCells = false) (_ : o.isWalk = false) : Kp X q W (W.putObj l o') :=
  ⟨World.putObj_heap_other (by omega), World.putObj_heap_other (by omega), by simp [World.putObj]⟩
theorem Kp.call {X b : Nat} {A B : World} (hb : Below A.heap.size A B) (hX : X < A.heap.size) (hq : b < A.heap.size) : Kp X b A B := ⟨hb.block X hX, hb.block b hq, hb.size⟩
theorem Kp.lt {X b k : Nat} {A B : World} (h : Kp X b A B) (hk : k < A.heap.size) : k < B.heap.size := by have := h.2.2; omega
theorem Kp.ts {X b : Nat} {ao : Option Addr} {l : List Tk} {A B : World} (h : Kp X b A B) (hbo : 0 < l.length → ∀ k off, ao = some ⟨k, off, none⟩ → k = b) (hT : Ts ao l A) : Ts ao l B := fun h0 => by
  obtain ⟨g, off, rfl, hl, hc⟩ := hT h0
  obtain rfl := hbo h0 g off rfl
  exact ⟨g, off, rfl, by have := h.2.2; omega, fun i x hi => (hc i x hi).of_block h.2.1⟩
def encD (x : Int) : Array Value := #[.int .i64 x]
def meas (s t : Value) : Nat := match t with
  | .bool true => (1099511627777 - intOf s).toNat + 1
  | _ => 0
/-- ahead of a round: what is told next -/
def told (l : List Tk) (x : Int) (s t : Value) : Prop := (∃ y, nextR l x = some y ∧ s = .int .i64 y ∧ t = .bool true) ∨ (nextR l x = none ∧ s = .int .i64 0 ∧ t = .bool false)
theorem ans_two (n : Option Int) : ∃ y b, ans n = .tuple #[.int .i64 y, .bool b] ∧ ((n = some y ∧ b = true) ∨ (n = none ∧ y = 0 ∧ b = false)) := by
  cases n with
  | none => exact ⟨0, false, rfl, .inr ⟨rfl, rfl, rfl⟩⟩
  | some y => exact ⟨y, true, rfl, .inl ⟨rfl, rfl⟩⟩
set_option maxHeartbeats 4000000 in
theorem deadlines1_in (n : Nat) (hn : 1 ≤ n) (Y X b N0 : Nat) (l : List Tk) (ao : Option Addr) (cap : Nat) (hl : l.length ≤ 9223372036854775807) (hbo : 0 < l.length → ∀ k off, ao = some ⟨k, off, none⟩ → k = b) (J Jx : List Int → World → Prop) (hJ : AbidesFrom N0 J)
    (hY : ∀ pre x W, J pre W → pre.length < 1099511627776 → YieldAt Fence.wide (n - 1) Try.prog Y (encD x) W fun e W' =>
      (e = .returned (.bool true) ∧ J (pre ++ [x]) W' ∧ Kp X b W W') ∨ (e = .returned (.bool false) ∧ Jx (pre ++ [x]) W'))
    (W : World) (hX : W.cell? ⟨X, 0, none⟩ = some (.slice ao l.length cap)) (hT : Ts ao l W) (hb : b < W.heap.size) (h0 : J [] W) :
    CallsIn Fence.wide n Try.prog 38 #[.func (.yield Y) #[] #[], .pointer (some ⟨X, 0, none⟩)] W fun e W' => (∃ v, e = .returned v) ∧
      ((∃ ys, (chain l 0 ys ∧ nextR l (lastOf 0 ys) = none) ∧ J ys W') ∨ (∃ pre, (∃ q z, pre = q ++ [z] ∧ chain l 0 pre) ∧ Jx pre W')) := by
  have NE := Lib.hid (fun k x w (h : Ts ao l w) => (callsIn_wide (n := k)).2 (next_any l ao cap x w h hl))
  refine callsIn_of_wp Try.func38 rfl trivial ?_ rfl
  simp only [Try.ntmps38, List.size_toArray, List.length_cons, List.length_nil, Nat.reduceAdd, Nat.reduceSub, Array.replicate_succ, Array.replicate_zero, List.push_toArray, List.append_toArray, List.nil_append, List.cons_append]
  have hXl := World.block_lt_of_cell? _ _ hX
  obtain ⟨y0, b0, ea, ho⟩ := ans_two (nextR l 0)
  have N0' := Lib.hid (NE.out (n - 1) 0 W hT)
  rw [ea] at N0'
  have grown : ∀ {A B : World}, Below A.heap.size A B → A.grownBy B none := fun h => ⟨h.os, h.tape, h.output, h.size, fun k hk _ => h.block k hk⟩
  have hG : ∀ pre A B, J pre A → Below A.heap.size A B → J pre B := fun pre A B h k => hJ pre A B none h (grown k) (fun r e => by cases e)
  have HT := Lib.hid hT
  have HG := Lib.hid hG
  have H0 := Lib.hid h0
  have TO0 : Hid (told l 0 (.int .i64 y0) (.bool b0)) := Lib.hid (by
    rcases ho with ⟨h1, rfl⟩ | ⟨h1, rfl, rfl⟩
    · exact .inl ⟨y0, h1, rfl, rfl⟩
    · exact .inr ⟨h1, rfl, rfl⟩)
  clear ho ea hG h0 hT grown
  gi_wp2
  refine ⟨trivial, N0'.out.mono ?_⟩
  rintro e w1 ⟨rfl, hb1⟩
  have JW := Lib.hid (HG.out _ _ _ H0.out hb1)
  have KW := Lib.hid (Kp.call hb1 hXl hb)
  clear hb1 N0' H0
  gi_wp2
  gi_loopw [3, 4] (fun s t wr => ∃ pre, told l (lastOf 0 pre) s t ∧ chain l 0 pre ∧ J pre wr ∧ Kp X b W wr) (fun s t _ => meas s t)
  case atStart => exact ⟨[], TO0.out, trivial, JW.out, KW.out⟩
  case round =>
    obtain ⟨pre, ⟨y, hn, rfl, rfl⟩ | ⟨hn, rfl, rfl⟩, hc, hJs, hkp⟩ := hrel
    · have hcl := chain_len (by omega) (by omega) hc
      have hri := nextR_rise hn
      obtain ⟨fn, tmps, assign, body, hy, hR⟩ := hY pre y wr hJs (by omega)
      have CS := Lib.hid (chain_snoc hc hn)
      have KB := Lib.hid hkp
      have HR := Lib.hid hR
      unfold encD at hy
      clear hc hJs hkp hR hY hJ TO0 JW KW hcl
      gi_wp2
      refine HR.out.mono ?_
      rintro e W3 (⟨rfl, hJ3, hk3⟩ | ⟨rfl, hJx3⟩)
      · have K3 := Lib.hid (KB.out.trans hk3)
        have cX : W3.cell? ⟨X, 0, none⟩ = some (.slice ao l.length cap) := (World.cell?_of_block (w := W) (a := ⟨X, 0, none⟩) K3.out.1).trans hX
        obtain ⟨y1, b1, ea, ho⟩ := ans_two (nextR l y)
        have N1 := Lib.hid (NE.out (n - 1) y W3 (K3.out.ts hbo HT.out))
        rw [ea] at N1
        have HO := Lib.hid ho
        have J3 := Lib.hid hJ3
        clear ho hJ3 hk3 ea
        gi_wp2
        refine ⟨trivial, N1.out.mono ?_⟩
        rintro e w4 ⟨rfl, b4⟩
        have J4 := Lib.hid (HG.out _ _ _ J3.out b4)
        have K4 := Lib.hid (K3.out.trans (Kp.call b4 (K3.out.lt hXl) (K3.out.lt hb)))
        clear b4 N1 J3 K3 cX
        gi_wp2
        go_roundw
        case rel =>
          refine ⟨pre ++ [y], ?_, CS.out, J4.out, K4.out⟩
          rw [lastOf_snoc]
          rcases HO.out with ⟨h1, rfl⟩ | ⟨h1, rfl, rfl⟩
          · exact .inl ⟨y1, h1, rfl, rfl⟩
          · exact .inr ⟨h1, rfl, rfl⟩
        case measure =>
          rcases HO.out with ⟨h1, rfl⟩ | ⟨h1, rfl, rfl⟩
          · have := nextR_rise h1
            simp [meas, intOf]; omega
          · simp [meas, intOf]
      · gi_wp2
        refine bodyPost_ret (results_none rfl _ _ _) rfl ?_
        exact ⟨⟨_, rfl⟩, .inr ⟨pre ++ [y], ⟨pre, y, rfl, CS.out⟩, hJx3⟩⟩
    · gi_wp2
      go_end0
      exact ⟨⟨_, rfl⟩, .inl ⟨pre, ⟨hc, hn⟩, hJs⟩⟩
end Go.Proofs.Ytldaikpchggogaa.Dm
