/- Contract of package qpa's Path. -/
import Derived.Test.YtbhafcaekpccoaaQpC
namespace Go.Proofs.Ytbhafcaekpccoaa.Qp
open Go.ChangeShapes Go.WideShapes Go.ChangeAt Go.RowKit Go.Joins Go.Shelf
open Pm (Tk chk chk_iff rowB rowB_all rowB_len TkAt Ts TRow loadR periodR)
open Dm (ans before_any beforeR beforeR_no2 ofR of_any NRow Ns nrow_nil nrow_append nums befs befs_is)
open Bs (lengthR lengthR_bad lengthR_over good_of length_any)
attribute [local go_sem] Oper.semAt_some
set_option maxRecDepth 100000
set_option maxRecDepth 100000
set_option linter.unusedVariables false
set_option linter.unusedSimpArgs false
theorem lt_of_heap {w : World} {k : Nat} {o : Obj} (h : w.heap[k]? = some o) : k < w.heap.size := (Array.getElem?_eq_some_iff.1 h).1
theorem wpListIn_append_run {F : Fence} {n : Nat} {P : Program} (w : World) {ops : Array Oper} {rest : List Oper} {o : Oper} {a : Act} {Q : Exit → Act → World → Prop} (hgd : o.guard = none) (s x : Operand) (t tn : TypeId)
    (hop : o.op = .call { callee := .builtin .append, args := #[s, x], argTypes := #[t, tn] }) (vs vx : Value) (hs : a.eval s = vs) (hx : a.eval x = vx)
    (v' : Value) (w' : World) (hr : (Builtin.append_ #[t, tn] o.type #[vs, vx]).run P w = .ok v' w') (h : wpListIn F n P ops Q rest (a.put o.dst v') w') : wpListIn F n P ops Q (o :: rest) a w := by
  refine wpListIn_plain hgd fun K hK' => ?_
  unfold Oper.wpIn
  refine ⟨?_, ?_⟩
  · simp [Oper.about, hop, resolve, Target.leads, Sem.run_pure]
  · rw [Oper.semAt_plain F _ _ (by rw [hop]; intro c hc'; cases hc')]
    simp [execOp, hop, resolve, invoke, builtin, hs, hx, hr, Result.andThen]
    exact hK' _ _ h
theorem keeps_row {N : Nat} {W W' : World} (hs : W.heap.size ≤ W'.heap.size) (h : ∀ (k : Nat) (o : Obj), W.heap[k]? = some o → o.isCells = false → W'.heap[k]? = W.heap[k]?) : KeepsFrom N W W' := ⟨hs, fun k o _ hk ho => (h k o hk ho).trans hk⟩
/-- Path's own blocks: the box of the row, the row behind the two boxes of times -/
structure Py (w : World) (v : Value) (pre : List Int) (W : World) : Prop where
  told : W.heap[w.heap.size]? = some (.cells #[v] 30 (0, 0))
  row : NRow (w.heap.size + 3) W v pre
  bel : Below w.heap.size w W
section
variable {w : World} {v : Value} {pre : List Int} {W W' : World}
theorem Py.grown {row : Option Nat} (h : Py w v pre W) (hg : W.grownBy W' row) (hr : ∀ r, row = some r → w.heap.size ≤ r ∧ ∃ o : Obj, W.heap[r]? = some o ∧ o.isCells = false) : Py w v pre W' := by
  have e : ∀ (k : Nat) (cs : Array Value) (T : TypeId) (fz : Nat × Nat), W.heap[k]? = some (Obj.cells cs T fz) → W'.heap[k]? = W.heap[k]? := fun k cs T fz hk => hg.block k (lt_of_heap hk) (fun e => by
    obtain ⟨_, o, ho, hc⟩ := hr k e.symm
    rw [hk] at ho; cases ho; cases hc)
  refine ⟨(e _ _ _ _ h.told).trans h.told, h.row.of_blocks fun k hk => ?_, hg.os.trans h.bel.os, hg.tape.trans h.bel.tape, hg.output.trans h.bel.output, Nat.le_trans h.bel.size hg.size, fun k hk => ?_⟩
  · obtain ⟨cur, hc⟩ := h.row.block k hk
    exact e _ _ _ _ hc
  · rw [hg.block k (Nat.lt_of_lt_of_le hk h.bel.size) (fun e => by have := (hr k e.symm).1; omega), h.bel.block k hk]
theorem Py.ctold (h : Py w v pre W) : W.cell? ⟨w.heap.size, 0, none⟩ = some v := by rw [Lib.cell_of_heap h.told]; rfl
/-- one number more -/
theorem Py.app (h : Py w v pre W) (x : Int) (hn : pre.length ≤ 1048576) (hz : w.heap.size + 3 ≤ W.heap.size) :
    ∃ v' w', (Builtin.append_ #[30, 30] 30 #[v, .slice (some ⟨W.heap.size, 0, none⟩) 1 1]).run Try.prog (W.alloc (.cells #[.int .i64 x] 2)) = .ok v' w' ∧ w'.cell? ⟨w.heap.size, 0, none⟩ = some v ∧ w'.frozen? ⟨w.heap.size, 0, none⟩ = false ∧
      Py w v' (pre ++ [x]) (w'.setCell ⟨w.heap.size, 0, none⟩ v') ∧
      (∀ k, k < W.heap.size → k ≠ w.heap.size → v.ownBlock ≠ some k → (w'.setCell ⟨w.heap.size, 0, none⟩ v').heap[k]? = W.heap[k]?) ∧ W.heap.size ≤ (w'.setCell ⟨w.heap.size, 0, none⟩ v').heap.size := by
  obtain ⟨v', w', hr, ho, hb, hk, hs⟩ := nrow_append (w.heap.size + 3) W v pre x h.row hz (by omega)
  have hlt := fun k e => (h.row.lt k e).1
  have b1 : w'.heap[w.heap.size]? = some (.cells #[v] 30 (0, 0)) := (hk _ (by omega) (fun e => by have := hlt _ e; omega)).trans h.told
  have other : ∀ k, k ≠ w.heap.size → (w'.setCell ⟨w.heap.size, 0, none⟩ v').heap[k]? = w'.heap[k]? := fun k hn => Below.heap_setCell _ _ _ _ hn
  have hsz : (w'.setCell ⟨w.heap.size, 0, none⟩ v').heap.size = w'.heap.size := by simp [World.setCell]
  refine ⟨v', w', hr, by rw [Lib.cell_of_heap b1]; rfl, Lib.frozen_of_heap b1 0, ⟨?_, ho.of_blocks fun k hk => other k (fun e => by have := (ho.lt k hk).1; omega), ?_⟩, fun k hk1 hn1 hn2 => (other k hn1).trans (hk k hk1 hn2), by omega⟩
  · simp [World.setCell, Array.getElem?_modify, b1]
  · exact h.bel.trans ((hb.mono (by omega)).setCell (by simp) _)
end
def PyI (w : World) (l : List Tk) (pre : List Int) (W : World) : Prop := (∀ y ∈ pre, ofR l y ≤ y) ∧ w.heap.size + 3 ≤ W.heap.size ∧ ∃ v, Py w v pre W
def PyX (id : Nat) (w : World) (l : List Tk) (c : Code) (pre : List Int) (W : World) : Prop := c = .exit id ∧ (∃ q x, pre = q ++ [x] ∧ x < ofR l x ∧ ∀ y ∈ q, ofR l y ≤ y) ∧ ∃ v, Py w v pre W
theorem pyI_own {w : World} {l : List Tk} {N : Nat} (hN : w.heap.size ≤ N) : OwnFrom N (PyI w l) := fun pre X Y row hs hg hr => by
  obtain ⟨h1, h2, v, h⟩ := hs
  exact ⟨h1, Nat.le_trans h2 hg.size, v, h.grown hg (fun r e => ⟨Nat.le_trans hN (hr r e).1, (hr r e).2⟩)⟩
theorem pyX_own {id : Nat} {w : World} {l : List Tk} {N : Nat} (hN : w.heap.size ≤ N) (c : Code) : OwnFrom N (PyX id w l c) := fun pre X Y row hs hg hr => by
  obtain ⟨h1, h2, v, h⟩ := hs
  exact ⟨h1, h2, v, h.grown hg (fun r e => ⟨Nat.le_trans hN (hr r e).1, (hr r e).2⟩)⟩
theorem before_zero (l : List Tk) : beforeR l 0 = none := by
  cases h : beforeR l 0 with
  | none => rfl
  | some y => have := before_fall h; omega
theorem length_path (l : List Tk) : (lengthR l).n ≤ 1048576 ∧ beforeR l (lengthR l).n = pathO l := by
  unfold pathO
  by_cases he : (lengthR l).e = 0
  · obtain ⟨-, m, hg, hE⟩ := length_may he
    rw [if_pos he]
    exact ⟨by rw [hE]; exact hg.2.1, rfl⟩
  · rw [if_neg he]
    rcases length_err he with ⟨-, h⟩ | ⟨-, -, h⟩ <;> rw [h] <;> exact ⟨(by show (0 : Int) ≤ 1048576; omega), before_zero l⟩
set_option maxHeartbeats 4000000 in
theorem path_any (l : List Tk) (ao : Option Addr) (cap : Nat) (w : World) (hT : Ts ao l w) (hl : l.length ≤ 1000000) :
    Calls Try.prog 15 #[.slice ao l.length cap] w fun e w' => ∃ v r, e = .returned v ∧ NRow w.heap.size w' v r ∧ PathOf l (pathO l) r ∧ Below w.heap.size w w' := by
  have LE := Lib.hid (length_any l ao cap w hT hl)
  have SS := Lib.hid (fun len w => times_any ao l.length cap len w)
  obtain ⟨hlen, hpath⟩ := length_path l
  generalize (lengthR l).n = m at *
  generalize (lengthR l).e = e0 at *
  rw [← hpath]
  refine (callsIn_wide (n := 3)).1 ?_
  refine callsIn_of_wp_marks Try.func15 rfl trivial ?_ rfl
  simp only [Try.ntmps15, List.size_toArray, List.length_cons, List.length_nil, Nat.reduceAdd, Nat.reduceSub, Array.replicate_succ, Array.replicate_zero, List.push_toArray, List.append_toArray, List.nil_append, List.cons_append]
  refine wpIn_wide.2 ?_
  clear hpath
  go_wp2_with fail
  (with_reducible refine LE.out.mono ?_)
  rintro e w1 ⟨rfl, b1⟩
  have T1 := hT.call b1
  have K1 := Lib.hid b1
  have z1 := b1.size
  clear b1 LE
  have hbl : 0 < l.length → ∀ k off, ao = some ⟨k, off, none⟩ → k < w.heap.size := fun h0 k off e => by
    obtain ⟨g, off', e', hg, -⟩ := hT h0
    rw [e'] at e; cases e; exact hg
  clear hT
  go_wp2_with fail
  (with_reducible refine (SS.out _ _).mono ?_)
  rintro e w2 ⟨rfl, e2⟩
  clear SS
  have b2 : Below w1.heap.size w1 w2 := by rw [e2]; exact (((Below.refl _ _).alloc (Nat.le_refl _) _).alloc (by simp) _).alloc (by simp; omega) _
  have zz : (w1.alloc (.cells #[.slice none 0 0] 30)).heap.size = w1.heap.size + 1 := by simp
  have lay : w2.heap[w1.heap.size]? = some (.cells #[.slice none 0 0] 30 (0, 0)) ∧ w2.cell? ⟨w1.heap.size + 1, 0, none⟩ = some (.slice ao l.length cap) ∧ w2.cell? ⟨w1.heap.size + 1 + 1, 0, none⟩ = some (.int .i64 m) ∧ w2.heap.size = w1.heap.size + 3 := by
    rw [e2]
    refine ⟨?_, by rw [← zz]; simp [go_sem], by rw [← zz]; simp [go_sem], by simp⟩
    simp only [World.alloc, Array.getElem?_push, Array.size_push]
    rw [if_neg (by omega), if_neg (by omega), if_pos trivial]
  clear e2
  simp only [zz]
  clear zz
  obtain ⟨y2, y0, y1, z2⟩ := lay
  have T2 := T1.call b2
  obtain ⟨b, hb, hbo⟩ : ∃ b, b < w2.heap.size ∧ b ≠ w1.heap.size ∧ b ≤ w1.heap.size + 1 ∧ (0 < l.length → ∀ k off, ao = some ⟨k, off, none⟩ → k = b) := by
    by_cases h0 : 0 < l.length
    · obtain ⟨g, off, rfl, hg, -⟩ := T1 h0
      have := hbl h0 g off rfl
      exact ⟨g, by omega, by omega, by omega, fun _ k o e => by cases e; rfl⟩
    · exact ⟨w1.heap.size + 1, by omega, by omega, by omega, fun h => absurd h h0⟩
  obtain ⟨hbn, hbm, hbo⟩ := hbo
  have hN : w1.heap.size ≤ w2.heap.size := by omega
  have P0 : PyI w1 l [] w2 := ⟨by simp, by omega, _, y2, nrow_nil _ _, b2⟩
  clear b2 T1 hbl y2
  go_wp2_with fail
  refine (wpIn_wide (n := 3)).1 ?_
  refine wpIn_rangeFunc_ownG rfl (by omega) (gf := 42) (lb := #[.pointer (some ⟨w1.heap.size + 1, 0, none⟩), .pointer (some ⟨w1.heap.size + 1 + 1, 0, none⟩)]) rfl trivial enter_times
    (times_stops _ (by omega) (w1.heap.size + 1) b l ao cap m hl hlen hbo w2 (by omega) (by omega) y0 y1 T2) Kt.trans (Kt.put (by omega) (by omega)) (Below.refl _ _) (fun _ => rfl)
    (PyI w1 l) (PyX 0 w1 l) (pyI_own hN) (fun c => pyX_own hN c)
    P0
    (fun x => { tmps := #[.slice ao l.length cap, undef, .slice none 0 0, .int .i64 m, .int .i64 e0, .pointer (some ⟨w1.heap.size, 0, none⟩), .int .i64 x, .int .i64 (ofR l x), .tuple #[.int .i64 m, .int .i64 e0], .slice ao l.length cap, .tuple #[.int .i64 m, .int .i64 e0], .int .i64 m, .int .i64 e0, .slice ao l.length cap, .int .i64 m, .func (.func 42) #[] #[.pointer (some ⟨w1.heap.size + 1, 0, none⟩), .pointer (some ⟨w1.heap.size + 1 + 1, 0, none⟩)], .int .i64 x, .int .i64 (ofR l x), undef, undef, undef, undef, undef, undef, undef, undef], defers := [] }) ?assign ?body ?done ?stop
  case assign =>
    intro Y x W K hK
    simp only [encT]
    gi_wp2
    exact hK
  case body =>
    rintro Y pre x W ⟨hle, hz, v, pt⟩ hpl
    have ct := pt.ctold
    obtain ⟨v', w', hap, ct2, ft2, pt2, hk2, hs2⟩ := pt.app x (by omega) hz
    have KK : KeepsFrom w2.heap.size W (w'.setCell ⟨w1.heap.size, 0, none⟩ v') ∧ Kt (w1.heap.size + 1) b W (w'.setCell ⟨w1.heap.size, 0, none⟩ v') := by
      have hrow := fun k e => (pt.row.lt k e).1
      refine ⟨keeps_row (by omega) (fun k o hk ho => hk2 k (lt_of_heap hk) (fun e => ?_) (fun e => ?_)), hk2 _ (by omega) (by omega) (fun e => by have := hrow _ e; omega), hk2 _ (by omega) (by omega) (fun e => by have := hrow _ e; omega), hk2 _ (by omega) (by omega) (fun e => by have := hrow _ e; omega), by omega⟩
      · subst e; rw [pt.told] at hk; cases hk; cases ho
      · obtain ⟨cur, hc⟩ := pt.row.block k e; rw [hc] at hk; cases hk; cases ho
    obtain ⟨pa, pc, rfl, -, -⟩ := pt.row.form
    obtain ⟨pb, pd, rfl, -, -⟩ := pt2.row.form
    by_cases hx : x < ofR l x
    · have FIN : Hid (KeepsFrom w2.heap.size W (w'.setCell ⟨w1.heap.size, 0, none⟩ (.slice pb (pre ++ [x]).length pd)) ∧ PyX 0 w1 l (.exit 0) (pre ++ [x]) (w'.setCell ⟨w1.heap.size, 0, none⟩ (.slice pb (pre ++ [x]).length pd))) := Lib.hid ⟨KK.1, rfl, ⟨pre, x, rfl, hx, hle⟩, _, pt2⟩
      clear KK hle pt pt2 hk2 hs2 T2 P0 y0 y1
      generalize ofR l x = n at *
      generalize (pre ++ [x]).length = n2 at *
      generalize pre.length = n3 at *
      gi_wp2_with (gi_at_builtin; refine wpListIn_append_run _ rfl _ _ _ _ rfl _ _ rfl rfl _ _ hap ?_)
      exact FIN.out
    · have FIN : Hid (KeepsFrom w2.heap.size W (w'.setCell ⟨w1.heap.size, 0, none⟩ (.slice pb (pre ++ [x]).length pd)) ∧ Kt (w1.heap.size + 1) b W (w'.setCell ⟨w1.heap.size, 0, none⟩ (.slice pb (pre ++ [x]).length pd)) ∧ PyI w1 l (pre ++ [x]) (w'.setCell ⟨w1.heap.size, 0, none⟩ (.slice pb (pre ++ [x]).length pd))) := Lib.hid ⟨KK.1, KK.2, fun y hy => by
          rcases List.mem_append.1 hy with hy | hy
          · exact hle y hy
          · obtain rfl : y = x := by simpa using hy
            omega, by omega, _, pt2⟩
      have hx' : ofR l x ≤ x := by omega
      clear KK hle pt pt2 hk2 hs2 T2 P0 y0 y1 hx
      generalize ofR l x = n at *
      generalize (pre ++ [x]).length = n2 at *
      generalize pre.length = n3 at *
      gi_wp2_with (gi_at_builtin; refine wpListIn_append_run _ rfl _ _ _ _ rfl _ _ rfl rfl _ _ hap ?_)
      exact FIN.out
  case done =>
    rintro D xs W hD ⟨hc, hn⟩ ⟨hle, hz, v, pt⟩ hK
    have E := Lib.hid (pathOf_end hc hn hle)
    obtain ⟨pa, pc, rfl, -, -⟩ := pt.row.form
    have ct := pt.ctold
    have PT := Lib.hid (pt.grown (grownBy_putObj' _ D (.deferred none)) (fun r e => by cases e; exact ⟨by omega, _, hK, rfl⟩))
    have HK := Lib.hid hK
    clear pt hK hc hn hle P0 T2 y0 y1
    generalize xs.length = n at *
    go_wp2
    try simp only [Exit.noGoto]
    refine ⟨by simp, .inl ⟨_, _, rfl, run_takeDeferred HK.out, ?_⟩⟩
    exact ⟨.slice pa n pc, by simp [results, Try.results15, go_sem], _, xs, rfl, PT.out.row.mono (by omega), E.out, K1.out.trans (PT.out.bel.mono K1.out.size)⟩
  case stop =>
    rintro D c pre W hD ⟨q0, z0, rfl, hc⟩ ⟨rfl, ⟨q, x, he, hx, hle⟩, v, pt⟩ hK
    obtain ⟨rfl, hz⟩ := List.append_inj' he rfl
    obtain rfl : z0 = x := by simpa using hz
    have E := Lib.hid (pathOf_stop hc hle hx)
    obtain ⟨pa, pc, rfl, -, -⟩ := pt.row.form
    have ct := pt.ctold
    have PT := Lib.hid (pt.grown (grownBy_putObj' _ D (.deferred none)) (fun r e => by cases e; exact ⟨by omega, _, hK, rfl⟩))
    have HK := Lib.hid hK
    clear pt hK hc hle P0 T2 y0 y1 he
    refine wpIn_wide.2 ?_
    generalize q0 ++ [z0] = xs at *
    generalize xs.length = n at *
    go_wp2
    try simp only [Exit.noGoto]
    refine ⟨by simp, .inl ⟨_, _, rfl, run_takeDeferred HK.out, ?_⟩⟩
    exact ⟨.slice pa n pc, by simp [results, Try.results15, go_sem], _, rfl, xs, PT.out.row.mono (by omega), E.out, K1.out.trans (PT.out.bel.mono K1.out.size)⟩
end Go.Proofs.Ytbhafcaekpccoaa.Qp
