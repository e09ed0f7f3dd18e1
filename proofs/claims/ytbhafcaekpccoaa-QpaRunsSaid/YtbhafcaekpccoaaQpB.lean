/- Contract of package qpa's Test. -/
import Derived.Sort.CutIn
import Derived.Lib.Builder
import Derived.RangeFuncWrites
import Derived.Test.YtbhafcaekpccoaaQpA
namespace Go.Proofs.Ytbhafcaekpccoaa.Qp
open Go.ChangeShapes Go.WideShapes Go.ChangeAt Go.RowKit Go.Joins Go.Shelf
open Pm (Tk chk chk_iff rowB rowB_all rowB_len TkAt Ts TRow loadR)
open Dm (ans before_any beforeR ofR of_any)
open Bs (lengthR lengthR_bad lengthR_over good_of length_any)
attribute [local go_sem] Oper.semAt_some
set_option maxRecDepth 100000
set_option maxRecDepth 100000
set_option linter.unusedVariables false
set_option linter.unusedSimpArgs false
theorem length_may {l : List Tk} (h : (lengthR l).e = 0) : May l ∧ ∃ m, Bs.Good l m ∧ lengthR l = ⟨m, 0⟩ := by
  by_cases h1 : (loadR l).e = 0
  · by_cases h2 : (loadR l).n ≤ (loadR l).p
    · exact ⟨may_of h1 h2, good_of h1 h2⟩
    · rw [lengthR_over h1 (by omega)] at h; cases h
  · rw [lengthR_bad h1] at h; exact absurd h h1
theorem length_err {l : List Tk} (h : (lengthR l).e ≠ 0) : ((loadR l).e ≠ 0 ∧ lengthR l = ⟨0, (loadR l).e⟩) ∨ ((loadR l).e = 0 ∧ (loadR l).p < (loadR l).n ∧ lengthR l = ⟨0, 17⟩) := by
  by_cases h1 : (loadR l).e = 0
  · by_cases h2 : (loadR l).n ≤ (loadR l).p
    · obtain ⟨m, -, e⟩ := good_of h1 h2
      rw [e] at h; exact absurd rfl h
    · exact .inr ⟨h1, by omega, lengthR_over h1 (by omega)⟩
  · exact .inl ⟨h1, lengthR_bad h1⟩
theorem testR_err {l : List Tk} (h : (lengthR l).e ≠ 0) : testR l = (lengthR l).e := by
  unfold testR
  rcases length_err h with ⟨h1, h2⟩ | ⟨h1, h2, h3⟩
  · rw [if_pos h1, h2]
  · rw [if_neg (by omega), if_pos (.inl h2), h3]
theorem enter_times (args : Array Value) (w : World) : (callFunc 42 args).run Try.prog w = .ok (.enter 42 args) w := enters_of Try.func42 (by kernel_rfl) rfl args w
theorem times_stops (n : Nat) (hn : 1 ≤ n) (X b : Nat) (l : List Tk) (ao : Option Addr) (cap : Nat) (len : Int) (hl : l.length ≤ 1000000) (hlen : len ≤ 1048576) (hbo : 0 < l.length → ∀ k off, ao = some ⟨k, off, none⟩ → k = b) (w : World) (hX : X + 1 < w.heap.size) (hb : b < w.heap.size)
    (cX : w.cell? ⟨X, 0, none⟩ = some (.slice ao l.length cap)) (cX2 : w.cell? ⟨X + 1, 0, none⟩ = some (.int .i64 len)) (hT : Ts ao l w) :
    SeqStopsK Fence.wide n Try.prog 42 #[.pointer (some ⟨X, 0, none⟩), .pointer (some ⟨X + 1, 0, none⟩)] (encT l) (Kt X b) (fun ys => chainP l (beforeR l len) ys ∧ afterP l (beforeR l len) ys = none) (fun pre => ∃ q z, pre = q ++ [z] ∧ chainP l (beforeR l len) pre) 1048576 w := fun Y J Jx W hW hJ hJx hY h0 =>
  times1_in n hn Y X b W.heap.size l ao cap len hl hlen hbo J Jx hJ hY W ((hW.cell (p := ⟨X, 0, none⟩) (by show X < _; omega)).trans cX) ((hW.cell (p := ⟨X + 1, 0, none⟩) hX).trans cX2) (hT.call hW) (Nat.lt_of_lt_of_le hb hW.size) h0
/-- a block of the function's own, and what was there ahead of it -/
structure Own1 (w : World) (o : Obj) (W : World) : Prop where
  cell : W.heap[w.heap.size]? = some o
  bel : Below w.heap.size w W
theorem Own1.grown {w W W' : World} {o : Obj} {row : Option Nat} (h : Own1 w o W) (hg : W.grownBy W' row) (hr : ∀ r, row = some r → w.heap.size + 1 ≤ r) : Own1 w o W' := by
  have hlt : w.heap.size < W.heap.size := (Array.getElem?_eq_some_iff.1 h.cell).1
  refine ⟨(hg.block _ hlt (fun e => by have := hr _ e.symm; omega)).trans h.cell, hg.os.trans h.bel.os, hg.tape.trans h.bel.tape, hg.output.trans h.bel.output, Nat.le_trans h.bel.size hg.size, fun k hk => ?_⟩
  rw [hg.block k (Nat.lt_of_lt_of_le hk h.bel.size) (fun e => by have := hr _ e.symm; omega), h.bel.block k hk]
theorem Own1.put {w W : World} {v v' : Value} {T : TypeId} (h : Own1 w (.cells #[v] T (0, 0)) W) :
    W.cell? ⟨w.heap.size, 0, none⟩ = some v ∧ W.frozen? ⟨w.heap.size, 0, none⟩ = false ∧ Own1 w (.cells #[v'] T (0, 0)) (W.setCell ⟨w.heap.size, 0, none⟩ v') ∧
    KeepsFrom (w.heap.size + 1) W (W.setCell ⟨w.heap.size, 0, none⟩ v') ∧ (∀ k, k ≠ w.heap.size → (W.setCell ⟨w.heap.size, 0, none⟩ v').heap[k]? = W.heap[k]?) ∧ (W.setCell ⟨w.heap.size, 0, none⟩ v').heap.size = W.heap.size := by
  have other : ∀ k, k ≠ w.heap.size → (W.setCell ⟨w.heap.size, 0, none⟩ v').heap[k]? = W.heap[k]? := fun k hn => Below.heap_setCell _ _ _ _ hn
  have hsz : (W.setCell ⟨w.heap.size, 0, none⟩ v').heap.size = W.heap.size := by simp [World.setCell]
  refine ⟨by rw [Lib.cell_of_heap h.cell]; rfl, Lib.frozen_of_heap h.cell 0, ⟨?_, h.bel.setCell (by simp) _⟩, ⟨by omega, fun k o hB hk ho => (other k (by omega)).trans hk⟩, other, hsz⟩
  simp [World.setCell, Array.getElem?_modify, h.cell]
def TsI (w : World) (l : List Tk) (pre : List Int) (W : World) : Prop := (∀ y ∈ pre, ofR l y ≤ y) ∧ Own1 w (.cells #[.int .i64 0] 32 (0, 0)) W
def TsX (w : World) (l : List Tk) (c : Code) (pre : List Int) (W : World) : Prop := c = .ret ∧ (∃ q x, pre = q ++ [x] ∧ x < ofR l x) ∧ Own1 w (.cells #[.int .i64 17] 32 (0, 0)) W
theorem tsI_own {w : World} {l : List Tk} {N : Nat} (hN : w.heap.size + 1 ≤ N) : OwnFrom N (TsI w l) := fun pre X Y row hs hg hr => ⟨hs.1, hs.2.grown hg (fun r e => Nat.le_trans hN (hr r e).1)⟩
theorem tsX_own {w : World} {l : List Tk} {N : Nat} (hN : w.heap.size + 1 ≤ N) (c : Code) : OwnFrom N (TsX w l c) := fun pre X Y row hs hg hr => ⟨hs.1, hs.2.1, hs.2.2.grown hg (fun r e => Nat.le_trans hN (hr r e).1)⟩
theorem results_cell {fn : Func} {p : Tmp} {ty : TypeId} (h : fn.results = #[.cell p ty]) (tmps : Array Value) (P : Program) (w : World) :
    (results fn tmps).run P w = ((asAddr (tmps.getD p undef)).run P w).andThen fun a w' => (loadVar ty a).run P w' := by
  simp [results, h]
set_option maxHeartbeats 4000000 in
theorem test_any (l : List Tk) (ao : Option Addr) (cap : Nat) (w : World) (hT : Ts ao l w) (hl : l.length ≤ 1000000) :
    Calls Try.prog 18 #[.slice ao l.length cap] w fun e w' => e = .returned (.int .i64 (testR l)) ∧ Below w.heap.size w w' := by
  have o0 : Own1 w (.cells #[.int .i64 0] 32 (0, 0)) (w.alloc (.cells #[.int .i64 0] 32)) := ⟨(by show (w.heap.push _)[w.heap.size]? = _; rw [Array.getElem?_push_size]), (Below.refl _ _).alloc (Nat.le_refl _) _⟩
  have LE := Lib.hid (fun w h => length_any l ao cap w h hl)
  have O0 := Lib.hid o0
  have T0 := Lib.hid (hT.call o0.bel)
  have SS := Lib.hid (fun len w => times_any ao l.length cap len w)
  clear o0
  by_cases he : (lengthR l).e = 0
  · obtain ⟨hmay, m, hg, hE⟩ := length_may he
    rw [hE] at LE
    simp only at LE
    have hm1 := hg.2.1
    refine (callsIn_wide (n := 3)).1 ?_
    refine callsIn_of_wp_marks Try.func18 rfl trivial ?_ rfl
    simp only [Try.ntmps18, List.size_toArray, List.length_cons, List.length_nil, Nat.reduceAdd, Nat.reduceSub, Array.replicate_succ, Array.replicate_zero, List.push_toArray, List.append_toArray, List.nil_append, List.cons_append]
    refine wpIn_wide.2 ?_
    go_wp2_with fail
    (with_reducible refine (LE.out _ T0.out).mono ?_)
    rintro e w1 ⟨rfl, b1⟩
    have o1 := O0.out.grown (row := none) ⟨b1.os, b1.tape, b1.output, b1.size, fun k hk _ => b1.block k hk⟩ (fun r e => by cases e)
    have T1 := T0.out.call b1
    have z1 : w.heap.size + 1 ≤ w1.heap.size := by have := b1.size; simp at this; omega
    clear b1 LE O0 T0
    go_wp2_with fail
    (with_reducible refine (SS.out _ _).mono ?_)
    rintro e w2 ⟨rfl, e2⟩
    clear SS
    have b2 : Below w1.heap.size w1 w2 := by rw [e2]; exact ((Below.refl _ _).alloc (Nat.le_refl _) _).alloc (by simp) _
    have lay : w2.cell? ⟨w1.heap.size, 0, none⟩ = some (.slice ao l.length cap) ∧ w2.cell? ⟨w1.heap.size + 1, 0, none⟩ = some (.int .i64 m) ∧ w2.heap.size = w1.heap.size + 2 := by
      rw [e2]
      exact ⟨by simp [go_sem], by simp [go_sem], by simp⟩
    clear e2
    obtain ⟨y0, y1, z2⟩ := lay
    have o2 := o1.grown (row := none) ⟨b2.os, b2.tape, b2.output, b2.size, fun k hk _ => b2.block k hk⟩ (fun r e => by cases e)
    have T2 := T1.call b2
    obtain ⟨b, hb, hbo⟩ : ∃ b, b < w2.heap.size ∧ b ≠ w.heap.size ∧ (0 < l.length → ∀ k off, ao = some ⟨k, off, none⟩ → k = b) := by
      by_cases h0 : 0 < l.length
      · obtain ⟨g, off, rfl, hg, -⟩ := hT h0
        exact ⟨g, by omega, by omega, fun _ k o e => by cases e; rfl⟩
      · exact ⟨w1.heap.size, by omega, by omega, fun h => absurd h h0⟩
    obtain ⟨hbn, hbo⟩ := hbo
    have hN : w.heap.size + 1 ≤ w2.heap.size := by omega
    have E2 := Lib.hid (fun ys h1 h2 h3 => test_good hmay (r := ys) h1 h2 h3)
    have E1 := Lib.hid (fun q x h1 h2 => test_bad hmay (r := q) (x := x) h1 h2)
    have ST : startP l = beforeR l m := by unfold startP; rw [hE]
    rw [ST] at E2 E1
    clear T1 o1 b2 hmay hg hE he ST
    go_wp2_with fail
    refine (wpIn_wide (n := 3)).1 ?_
    refine wpIn_rangeFunc_ownG rfl (by omega) (gf := 42) (lb := #[.pointer (some ⟨w1.heap.size, 0, none⟩), .pointer (some ⟨w1.heap.size + 1, 0, none⟩)]) rfl trivial enter_times
      (times_stops _ (by omega) w1.heap.size b l ao cap m hl hm1 hbo w2 (by omega) (by omega) y0 y1 T2) Kt.trans (Kt.put (by omega) (by omega)) (Below.refl _ _) (fun _ => rfl)
      (TsI w l) (TsX w l) (tsI_own hN) (fun c => tsX_own hN c)
      ⟨by simp, o2⟩
      (fun x => { tmps := #[.slice ao l.length cap, undef, .pointer (some ⟨w.heap.size, 0, none⟩), .int .i64 m, .int .i64 0, .int .i64 x, .int .i64 (ofR l x), .tuple #[.int .i64 m, .int .i64 0], .slice ao l.length cap, .tuple #[.int .i64 m, .int .i64 0], .int .i64 m, .int .i64 0, .int .i64 0, .bool false, undef, .slice ao l.length cap, .int .i64 m, .func (.func 42) #[] #[.pointer (some ⟨w1.heap.size, 0, none⟩), .pointer (some ⟨w1.heap.size + 1, 0, none⟩)], .int .i64 x, .int .i64 (ofR l x), undef, undef, undef], defers := [] }) ?assign ?body ?done ?stop
    case assign =>
      intro Y x W K hK
      simp only [encT]
      gi_wp2
      exact hK
    case body =>
      rintro Y pre x W ⟨hb1, hO⟩ hpl
      obtain ⟨p1, p2, p3, p4, p5, p6⟩ := hO.put (v' := .int .i64 17)
      by_cases hx : x < ofR l x
      · have FIN : Hid (KeepsFrom w2.heap.size W (W.setCell ⟨w.heap.size, 0, none⟩ (.int .i64 17)) ∧ TsX w l .ret (pre ++ [x]) (W.setCell ⟨w.heap.size, 0, none⟩ (.int .i64 17))) := Lib.hid ⟨⟨p4.size, fun k o hk => p4.same k o (by omega)⟩, rfl, ⟨pre, x, rfl, hx⟩, p3⟩
        clear hb1 hO hpl p3 p4 p5 p6 E1 E2 T2 y0 y1
        generalize ofR l x = n at *
        gi_wp2
        exact FIN.out
      · have FIN : Hid (KeepsFrom w2.heap.size W W ∧ Kt w1.heap.size b W W ∧ TsI w l (pre ++ [x]) W) := Lib.hid ⟨KeepsFrom.refl _ _, ⟨rfl, rfl, rfl, Nat.le_refl _⟩, fun y hy => by
          rcases List.mem_append.1 hy with hy | hy
          · exact hb1 y hy
          · obtain rfl : y = x := by simpa using hy
            omega, hO⟩
        have hx' : ofR l x ≤ x := by omega
        clear hb1 hO hpl p1 p2 p3 p4 p5 p6 E1 E2 T2 y0 y1 hx
        generalize ofR l x = n at *
        gi_wp2
        exact FIN.out
    case done =>
      rintro D xs W hD ⟨hc, hn⟩ ⟨hb1, hO⟩ hK
      have E := Lib.hid (E2.out xs hc hn hb1)
      obtain ⟨p1, p2, p3, p4, p5, p6⟩ := hO.put (v' := .int .i64 0)
      have hK' := (p5 D (by omega)).trans hK
      have hg := p3.grown (grownBy_putObj' _ D (.deferred none)) (fun r e => by cases e; omega)
      have c0 := Lib.hid hg.cell
      have FB := Lib.hid hg.bel
      have HK := Lib.hid hK'
      clear hK hK' hc hb1 E1 E2 T2 y0 y1 hO p3 p4 p5 p6 hg
      go_wp2
      try simp only [Exit.noGoto]
      refine ⟨by simp, .inl ⟨_, _, rfl, run_takeDeferred HK.out, ?_⟩⟩
      refine ⟨.int .i64 0, ?_, by rw [E.out], FB.out⟩
      have hc5 : ((W.setCell ⟨w.heap.size, 0, none⟩ (.int .i64 0)).putObj D (.deferred none)).cell? ⟨w.heap.size, 0, none⟩ = some (.int .i64 0) := by rw [Lib.cell_of_heap c0.out]; rfl
      simp [results, Try.results18, go_sem, hc5]
    case stop =>
      rintro D c pre W hD ⟨q0, z0, rfl, hc⟩ ⟨rfl, ⟨q, x, he, hx⟩, hO⟩ hK
      obtain ⟨rfl, hz⟩ := List.append_inj' he rfl
      obtain rfl : z0 = x := by simpa using hz
      have E := Lib.hid (E1.out _ _ hc hx)
      have hg := hO.grown (grownBy_putObj' _ D (.deferred none)) (fun r e => by cases e; omega)
      have c0 := Lib.hid hg.cell
      have FB := Lib.hid hg.bel
      have HK := Lib.hid hK
      clear hK hc E1 E2 T2 y0 y1 hO hg he
      refine wpIn_wide.2 ?_
      go_wp2
      try simp only [Exit.noGoto]
      refine ⟨by simp, .inl ⟨_, _, rfl, run_takeDeferred HK.out, ?_⟩⟩
      refine ⟨.int .i64 17, ?_, by rw [E.out], FB.out⟩
      have hc5 : (W.putObj D (.deferred none)).cell? ⟨w.heap.size, 0, none⟩ = some (.int .i64 17) := by rw [Lib.cell_of_heap c0.out]; rfl
      simp [results, Try.results18, go_sem, hc5]
  · have E := Lib.hid (testR_err he)
    generalize (lengthR l).e = e0 at *
    generalize (lengthR l).n = n0 at *
    have h1 : (e0 == 0) = false := by simpa using he
    have h2 : (e0 != 0) = true := by simpa using he
    clear he SS
    go_enter Try.func18, Try.ntmps18
    go_wp2_with fail
    (with_reducible refine (LE.out _ T0.out).mono ?_)
    rintro e w1 ⟨rfl, b1⟩
    have o1 := O0.out.grown (row := none) ⟨b1.os, b1.tape, b1.output, b1.size, fun k hk _ => b1.block k hk⟩ (fun r e => by cases e)
    obtain ⟨p1, p2, p3, p4, p5, p6⟩ := o1.put (v' := .int .i64 e0)
    have FB := Lib.hid p3.bel
    have hc5 : (w1.setCell ⟨w.heap.size, 0, none⟩ (.int .i64 e0)).cell? ⟨w.heap.size, 0, none⟩ = some (.int .i64 e0) := by rw [Lib.cell_of_heap p3.cell]; rfl
    clear b1 LE o1 p3 p4 p5 p6
    go_wp2
    exact bodyPost_ret (v := .int .i64 e0) (by simp [results, Try.results18, go_sem, hc5]) rfl ⟨by rw [E.out], FB.out⟩
end Go.Proofs.Ytbhafcaekpccoaa.Qp
