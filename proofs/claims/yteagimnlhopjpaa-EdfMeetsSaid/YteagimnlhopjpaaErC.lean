/- The document's executive (layer 18): Run, Same. -/
import Derived.Test.YteagimnlhopjpaaErB
namespace Go.Proofs.Yteagimnlhopjpaa.Hj
open Go.ChangeShapes Go.WideShapes Go.ChangeAt Go.RowKit Go.Joins
open Ed (Jo wk own_an hasR lateR leftR addR runR mayJ)
set_option maxRecDepth 100000
set_option maxRecDepth 100000
set_option linter.unusedVariables false
set_option linter.unusedSimpArgs false
/-- all but the first one of a slice -/
theorem slice_next (g n cap : Nat) (h1 : 1 ≤ n) (h2 : n ≤ cap) : ∃ off' : Nat, (1 < n → off' = 4) ∧ ∀ w, (Instr.sliceAt 27 (.slice (some ⟨g, 0, none⟩) n cap) (some (.int .i64 1)) none none).run Try.prog w = .ok (.slice (some ⟨g, off', none⟩) (n - 1) (cap - 1)) w := by
  have e : ∀ w, (sizeOf (Try.prog.elem 27)).run Try.prog w = .ok 4 w := fun w => by kernel_rfl
  by_cases hc : cap = 1
  · refine ⟨0, fun h => by omega, fun w => ?_⟩
    rw [run_sliceAt_slice w _ _ _ _ _ (by kernel_rfl), run_slice_l w _ _ _ _ (by kernel_rfl) _ _ (by omega) (by omega), e]
    simp [Result.andThen, sliced, hc]
  · refine ⟨4, fun _ => rfl, fun w => ?_⟩
    rw [run_sliceAt_slice w _ _ _ _ _ (by kernel_rfl), run_slice_l w _ _ _ _ (by kernel_rfl) _ _ (by omega) (by omega), e]
    simp [Result.andThen, sliced, hc, Addr.add]
theorem Ns.cons {g : Nat} {a : Jo} {L : List Jo} {w : World} (h : Ns (some ⟨g, 0, none⟩) (a :: L) w) : Ns (some ⟨g, 4, none⟩) L w := by
  have := Ge.Seen.drop h 1
  rw [Nat.zero_add, Nat.one_mul] at this
  exact this
theorem rrun_nil (LB c : Nat) (ao : Option Addr) (w : World) (h : Rx LB w c ao []) :
    Calls Try.prog 10 #[.pointer (some ⟨c, 0, none⟩)] w fun e w' => e = .returned (.agg #[.int .i64 (-1), .bool false]) ∧ Below w.heap.size w w' := by
  have b0 : Below w.heap.size w (w.alloc (.cells #[.int .i64 0, .bool false] 35)) := (Below.refl _ w).alloc (Nat.le_refl _) _
  obtain ⟨cap, -, hc, -⟩ := (h.call b0).cell
  clear h b0
  go_enter Try.func10, Try.ntmps10
  simp only [List.length_nil] at hc
  go_wp2
  exact bodyPost_ret (v := .agg #[.int .i64 (-1), .bool false]) (by simp [results, Try.results10, go_sem]) rfl ⟨rfl, (Below.refl _ w).alloc (Nat.le_refl _) _⟩
theorem Rx.laid {LB c : Nat} {ao : Option Addr} {M : List Jo} {w : World} {v : Value} {cap : Nat} (hc : w.heap[c]? = some (.cells #[v] 29 (0, 0))) (hcap : M.length ≤ cap) (hs : Ns ao M w) (hl : LB ≤ c) (ha : ∀ a, ao = some a → LB ≤ a.block ∧ a.block < w.heap.size ∧ a.block ≠ c) :
    Rx LB (w.setCell ⟨c, 0, none⟩ (.slice ao M.length cap)) c ao M :=
  ⟨⟨cap, hcap, by simp [World.setCell, Array.getElem?_modify, hc]⟩, hs.of_block (by simp [World.setCell]) fun b off e _ => Below.heap_setCell _ _ _ _ (ha _ e).2.2, hl, fun a e => by obtain ⟨h1, h2, h3⟩ := ha a e; exact ⟨h1, by simp [World.setCell]; exact h2, h3⟩⟩
theorem Rx.mv {LB c Y : Nat} {ao : Option Addr} {M : List Jo} {w w' : World} (h : Rx LB w c ao M) (m : Mv Y none w w') (hY : c ≠ Y) (ha : ∀ a, ao = some a → a.block ≠ Y) : Rx LB w' c ao M :=
  h.of_blocks m.size (m.block c h.lt hY (by simp)) fun a e => m.block _ (h.at_ a e).2.1 (ha a e) (by simp)
theorem Mv.row1' {b g : Nat} {r : Option Nat} {u v w : World} (h : Mv b r u v) (k : Mv g none v w) (hg : u.heap.size ≤ g) : Mv b r u w :=
  ⟨k.os.trans h.os, k.tape.trans h.tape, k.output.trans h.output, Nat.le_trans h.size k.size, fun i hi hb hn => (k.block i (Nat.lt_of_lt_of_le hi h.size) (by omega) (by simp)).trans (h.block i hi hb hn)⟩
set_option maxHeartbeats 4000000 in
theorem rrun_cons (LB c : Nat) (ao : Option Addr) (a : Jo) (L : List Jo) (ha : 1 ≤ a.le ∧ a.le ≤ 2147483648) (hL : L.length ≤ 80000) (w : World) (h : Rx LB w c ao (a :: L)) :
    Calls Try.prog 10 #[.pointer (some ⟨c, 0, none⟩)] w fun e w' => e = .returned (.agg #[.int .i64 a.id, .bool (decide (a.le = 1))]) ∧ AddTo LB c ao (runR (a :: L)).1 w w' := by
  have b0 : Below w.heap.size w (w.alloc (.cells #[.int .i64 0, .bool false] 35)) := (Below.refl _ w).alloc (Nat.le_refl _) _
  have H := Lib.hid (h.call b0)
  have BW := Lib.hid b0
  obtain ⟨cap, hcap, hc, hf⟩ := H.out.cell
  obtain ⟨n, hn⟩ : ∃ n, n = (a :: L).length := ⟨_, rfl⟩
  rw [← hn] at hc hcap
  have hn0 : (0 : Int) < (n : Int) := by rw [hn, List.length_cons]; omega
  have hnz : ((n : Int) == 0) = false := by rw [beq_eq_false_iff_ne]; omega
  have hn1 : 1 ≤ n := by rw [hn, List.length_cons]; omega
  have HN := Lib.hid hn
  obtain ⟨k, off, rfl, -, -⟩ := H.out.seen.at (by simp)
  have b1 : Below (w.alloc (.cells #[.int .i64 0, .bool false] 35)).heap.size (w.alloc (.cells #[.int .i64 0, .bool false] 35)) ((w.alloc (.cells #[.int .i64 0, .bool false] 35)).alloc (.cells #[] 31)) := (Below.refl _ _).alloc (Nat.le_refl _) _
  have hY := (heap_alloc_new w (.cells #[.int .i64 0, .bool false] 35))
  have HY := Lib.hid hY
  have hYc : w.heap.size ≠ c := by
    intro e
    obtain ⟨cap0, -, e0⟩ := H.out.head
    rw [← e, hY] at e0
    cases e0
  clear hY
  generalize hW0 : w.alloc (.cells #[.int .i64 0, .bool false] 35) = W0 at *
  have HW0 := Lib.hid hW0
  clear hW0 h b0 hn
  have hc1 := carry b1 hc
  obtain ⟨v, w2, hap, hr, hb⟩ := Ge.full_all elJ (ty := 27) (c := cap) (cl := 0) (ao := some ⟨W0.heap.size, 0, none⟩) (l := []) (Ge.seen_nil _ _) (fun e => by cases e) (Nat.le_refl _) ((H.out.call b1).seen) (by simp) (by simp; omega)
  rw [List.nil_append] at hr
  rw [← HN.out] at hap
  have HAP := hap
  clear hap
  have hb2 : Below W0.heap.size W0 w2 := b1.trans (hb.mono (by simp))
  obtain ⟨g, cg, rfl, hcg, hg1, hg2⟩ := NRow.inBlock (show NRow _ w2 v (a :: L) from hr) (by simp)
  rw [← HN.out] at hcg
  have R2 := Lib.hid (show NRow W0.heap.size w2 (.slice (some ⟨g, 0, none⟩) (a :: L).length cg) (a :: L) from Ge.Row.mono hr (by simp))
  rw [← HN.out] at R2 HAP
  have hgW : W0.heap.size ≤ g := (R2.out.lt g rfl).1
  have hcW := H.out.lt
  have hYW : w.heap.size < W0.heap.size := lt_of_heap HY.out
  obtain ⟨m, hm⟩ : ∃ m, m = a.le - 1 := ⟨_, rfl⟩
  have hmw : IntKind.i64.wrap (a.le - 1) = m := by rw [hm]; exact IntWalk.i64_in _ (by omega)
  have hm0 : (m == 0) = decide (a.le = 1) := by
    by_cases e : a.le = 1
    · have : m = 0 := by omega
      rw [this, decide_eq_true e]; rfl
    · rw [decide_eq_false e, beq_eq_false_iff_ne]; omega
  obtain ⟨a0, a1, a2, a3⟩ := R2.out.at (i := 0) rfl
  simp only [Nat.zero_mul, Nat.zero_add] at a0 a1 a2 a3
  have f3 := R2.out.free 3
  have R4 : Hid (NRow W0.heap.size (w2.setCell ⟨g, 3, none⟩ (.int .i64 m)) (.slice (some ⟨g, 0, none⟩) n cg) ({ a with le := m } :: L)) := Lib.hid (by
    have := (Ge.row_f jc_len R2.out HN.out (i := 0) (x := a) rfl (j := 3) (by omega) (.int .i64 m) { a with le := m } rfl).2.1
    unfold NRow
    simpa using this)
  have hn0n : 0 < n := by omega
  have HM := Lib.hid hm
  clear hm
  have hb4 : Below W0.heap.size W0 (w2.setCell ⟨g, 3, none⟩ (.int .i64 m)) := hb2.setCell hgW _
  simp only [List.length_nil] at HAP
  go_enter Try.func10, Try.ntmps10
  go_upto_region 1 with (fail)
  rw [HW0.out]
  go_upto_region 4 with (at_builtin; refine Lib.wpList_append_run _ rfl _ _ _ _ rfl _ _ rfl rfl _ _ HAP ?_)
  go_upto_region 5 with (fail)
  generalize w2.setCell ⟨g, 3, none⟩ (.int .i64 m) = W4 at *
  obtain ⟨e0, e1, e2, e3⟩ := R4.out.at (i := 0) rfl
  simp only [Nat.zero_mul, Nat.zero_add] at e0 e1 e2 e3
  have c4 := carry hb4 hc
  have hg4 : g < W4.heap.size := World.block_lt_of_cell? _ _ e0
  have hc4 := hc
  clear a0 a1 a2 a3 f3 HAP hr hc hc1 hf
  go_wp2_with fail
  go_region
  have b5 : Below W4.heap.size W4 (W4.alloc (.cells #[.int .i64 a.id, .bool (decide (a.le = 1))] 35)).drew := ((Below.refl _ _).alloc (Nat.le_refl _) _).drew
  have r0 : (W4.alloc (.cells #[.int .i64 a.id, .bool (decide (a.le = 1))] 35)).drew.cell? ⟨W4.heap.size, 0, none⟩ = some (.int .i64 a.id) := by
    rw [Lib.cell_of_heap (show (W4.alloc (.cells #[.int .i64 a.id, .bool (decide (a.le = 1))] 35)).drew.heap[W4.heap.size]? = _ from heap_alloc_new W4 _)]; rfl
  have r1 : (W4.alloc (.cells #[.int .i64 a.id, .bool (decide (a.le = 1))] 35)).drew.cell? ⟨W4.heap.size, 1, none⟩ = some (.bool (decide (a.le = 1))) := by
    rw [Lib.cell_of_heap (show (W4.alloc (.cells #[.int .i64 a.id, .bool (decide (a.le = 1))] 35)).drew.heap[W4.heap.size]? = _ from heap_alloc_new W4 _)]; rfl
  have hb5 : Below W0.heap.size W0 (W4.alloc (.cells #[.int .i64 a.id, .bool (decide (a.le = 1))] 35)).drew := hb4.trans (b5.mono hb4.size)
  have R5 := Lib.hid (R4.out.call b5)
  have hrW := hb4.size
  clear e0 e1 e2 e3 c4 b5 R4 R2 hb hb2 hb4
  generalize (W4.alloc (.cells #[.int .i64 a.id, .bool (decide (a.le = 1))] 35)).drew = W5 at *
  generalize W4.heap.size = rb at *
  have hc5 : W5.heap[c]? = some (.cells #[.slice (some ⟨k, off, none⟩) n cap] 29 (0, 0)) := by
    rw [hb5.block c hcW]
    obtain ⟨cap0, -, e0⟩ := H.out.head
    have := hc4
    rw [Lib.cell_of_heap e0] at this
    rw [e0]
    have e3 : (Value.slice (some ⟨k, off, none⟩) (a :: L).length cap0) = .slice (some ⟨k, off, none⟩) n cap := by simpa using this
    rw [e3]
  have c5 : W5.cell? ⟨c, 0, none⟩ = some (.slice (some ⟨k, off, none⟩) n cap) := by rw [Lib.cell_of_heap hc5]; rfl
  have fc5 := Lib.frozen_of_heap hc5 0
  have hY5 : W5.heap[w.heap.size]? = some (.cells #[.int .i64 0, .bool false] 35 (0, 0)) := (hb5.block _ hYW).trans HY.out
  have y0 : W5.cell? ⟨w.heap.size, 0, none⟩ = some (.int .i64 0) := by rw [Lib.cell_of_heap hY5]; rfl
  have y1 : W5.cell? ⟨w.heap.size, 1, none⟩ = some (.bool false) := by rw [Lib.cell_of_heap hY5]; rfl
  have fy0 := Lib.frozen_of_heap hY5 0
  have fy1 := Lib.frozen_of_heap hY5 1
  have hg5 : g < W5.heap.size := (R5.out.lt g rfl).2
  have hgc : g ≠ c := by omega
  have hgY : g ≠ w.heap.size := by omega
  have HC5 := Lib.hid hc5
  have hrc : rb ≠ c := by omega
  have hcr : c ≠ rb := by omega
  have hrY : rb ≠ w.heap.size := by omega
  have hYr : w.heap.size ≠ rb := by omega
  have hLBc := H.out.lb
  have hLBW : LB ≤ W0.heap.size := by omega
  have MW := Lib.hid (Mv.of_below (b := c) (r := none) (BW.out.trans (hb5.mono BW.out.size)))
  have hlen : L.length + 1 = n := by rw [HN.out]; rfl
  have HLEN := Lib.hid hlen
  clear hc5 hY5 hb5 hc4 hm0 hmw H HY hcW hlen
  by_cases h1 : a.le = 1
  · have hd : decide (a.le = 1) = true := decide_eq_true h1
    rw [hd] at r1
    obtain ⟨o', ho', SN⟩ := slice_next g n cg hn1 hcg
    have FIN : Hid (AddTo LB c (some ⟨k, off, none⟩) (runR (a :: L)).1 w (((W5.setCell ⟨c, 0, none⟩ (.slice (some ⟨g, o', none⟩) (n - 1) (cg - 1))).setCell ⟨w.heap.size, 0, none⟩ (.int .i64 a.id)).setCell ⟨w.heap.size, 1, none⟩ (.bool true))) := Lib.hid (by
      have e1 : (runR (a :: L)).1 = L := by rw [Ed.run_cons, if_pos h1]
      have e2 : n - 1 = L.length := by have := HLEN.out; omega
      rw [e1, e2]
      have hs : Ns (some ⟨g, o', none⟩) L W5 := by
        by_cases h0 : L.length = 0
        · obtain rfl : L = [] := List.eq_nil_of_length_eq_zero h0
          exact ns_nil _ _
        · rw [ho' (by omega)]
          exact R5.out.ns.cons
      have hx := Rx.laid (LB := LB) (cap := cg - 1) HC5.out (by omega) hs hLBc (fun b e => by cases e; exact ⟨by show LB ≤ g; omega, hg5, hgc⟩)
      have hmY : Mv w.heap.size none (W5.setCell ⟨c, 0, none⟩ (.slice (some ⟨g, o', none⟩) L.length (cg - 1))) (((W5.setCell ⟨c, 0, none⟩ (.slice (some ⟨g, o', none⟩) L.length (cg - 1))).setCell ⟨w.heap.size, 0, none⟩ (.int .i64 a.id)).setCell ⟨w.heap.size, 1, none⟩ (.bool true)) := ((Mv.refl _ _ _).set _ (.inl rfl)).set _ (.inl rfl)
      exact ⟨_, hx.mv hmY (Ne.symm hYc) (fun b e => by cases e; exact hgY), (MW.out.set _ (.inl rfl)).row1' hmY (Nat.le_refl _), fun b e => .inr (by cases e; show w.heap.size ≤ g; omega)⟩)
    have hYc' := Ne.symm hYc
    clear R5 HC5 MW HLEN
    go_wp2
    exact bodyPost_ret (v := .agg #[.int .i64 a.id, .bool true]) (by simp [results, Try.results10, go_sem, y0, y1, hYc, hYc', hrc, hcr, hrY, hYr]) rfl ⟨by rw [hd], FIN.out⟩
  · have hd : decide (a.le = 1) = false := decide_eq_false h1
    rw [hd] at r1
    have FIN : Hid (AddTo LB c (some ⟨k, off, none⟩) (runR (a :: L)).1 w (((W5.setCell ⟨c, 0, none⟩ (.slice (some ⟨g, 0, none⟩) n cg)).setCell ⟨w.heap.size, 0, none⟩ (.int .i64 a.id)).setCell ⟨w.heap.size, 1, none⟩ (.bool false))) := Lib.hid (by
      have e1 : (runR (a :: L)).1 = { a with le := m } :: L := by rw [Ed.run_cons, if_neg h1, HM.out]
      have e2 : n = ({ a with le := m } :: L : List Jo).length := by rw [List.length_cons]; exact HLEN.out.symm
      rw [e1]
      have hx := Rx.laid (LB := LB) (cap := cg) (M := { a with le := m } :: L) HC5.out (by rw [← e2]; exact hcg) R5.out.ns hLBc (fun b e => by cases e; exact ⟨by show LB ≤ g; omega, hg5, hgc⟩)
      rw [← e2] at hx
      have hmY : Mv w.heap.size none (W5.setCell ⟨c, 0, none⟩ (.slice (some ⟨g, 0, none⟩) n cg)) (((W5.setCell ⟨c, 0, none⟩ (.slice (some ⟨g, 0, none⟩) n cg)).setCell ⟨w.heap.size, 0, none⟩ (.int .i64 a.id)).setCell ⟨w.heap.size, 1, none⟩ (.bool false)) := ((Mv.refl _ _ _).set _ (.inl rfl)).set _ (.inl rfl)
      exact ⟨_, hx.mv hmY (Ne.symm hYc) (fun b e => by cases e; exact hgY), (MW.out.set _ (.inl rfl)).row1' hmY (Nat.le_refl _), fun b e => .inr (by cases e; show w.heap.size ≤ g; omega)⟩)
    have hYc' := Ne.symm hYc
    clear R5 HC5 MW HLEN
    go_wp2
    exact bodyPost_ret (v := .agg #[.int .i64 a.id, .bool false]) (by simp [results, Try.results10, go_sem, y0, y1, hYc, hYc', hrc, hcr, hrY, hYr]) rfl ⟨by rw [hd], FIN.out⟩
theorem AddTo.of_below {LB c : Nat} {ao : Option Addr} {M : List Jo} {w w' : World} (h : Rx LB w c ao M) (hb : Below w.heap.size w w') : AddTo LB c ao M w w' := ⟨ao, h.call hb, Mv.of_below hb, fun a e => .inl e⟩
theorem rrun_any (LB c : Nat) (ao : Option Addr) (L : List Jo) (hg : ∀ j ∈ L, 1 ≤ j.le ∧ j.le ≤ 2147483648) (hL : L.length ≤ 80000) (w : World) (h : Rx LB w c ao L) :
    Calls Try.prog 10 #[.pointer (some ⟨c, 0, none⟩)] w fun e w' => e = .returned (.agg #[.int .i64 (runR L).2.1, .bool (runR L).2.2]) ∧ AddTo LB c ao (runR L).1 w w' := by
  cases L with
  | nil => exact (rrun_nil LB c ao w h).mono fun e w' ⟨he, hb⟩ => ⟨he, .of_below h hb⟩
  | cons a L =>
    refine (rrun_cons LB c ao a L (hg a (by simp)) (by simp at hL; omega) w h).mono fun e w' ⟨he, ht⟩ => ⟨?_, ht⟩
    rw [he, Ed.run_cons]
    by_cases h1 : a.le = 1
    · rw [if_pos h1, decide_eq_true h1]
    · rw [if_neg h1, decide_eq_false h1]
theorem eql_ran (a : Int) (d : Bool) (w : World) : (binOp .eql 35 (.agg #[.int .i64 a, .bool d]) (.agg #[.int .i64 a, .bool d])).run Try.prog w = .ok (.bool true) w := by
  rw [run_eql_struct]
  simp [go_sem]
/-- jobs, held against one another -/
theorem neq_job (x : Jo) (w : World) : (binOp .neq 31 (.agg #[.int .i64 x.id, .int .i64 x.rel, .int .i64 x.dl, .int .i64 x.le]) (.agg #[.int .i64 x.id, .int .i64 x.rel, .int .i64 x.dl, .int .i64 x.le])).run Try.prog w = .ok (.bool false) w := by
  rw [run_neq_struct]
  simp [go_sem]
theorem qt_drewN {w w' : World} (h : Qt w w') (n : Nat) : Qt w (w'.drewN n) := h.trans ⟨by simp [World.drewN], by simp [World.drewN], by simp [World.drewN], by simp [World.drewN]⟩
def SaRel (l : List Jo) (W : World) (g : Nat) (t : Value) (wx : World) : Prop := ∃ i : Nat, i + g = l.length ∧ t = .int .i64 (i : Int) ∧ Qt W wx
theorem same_any (l : List Jo) (pa qa : Option Addr) (pc qc : Nat) (w : World) (hp : Ns pa l w) (hq : Ns qa l w) (hl : l.length ≤ 4000000) :
    Calls Try.prog 11 #[.slice pa l.length pc, .slice qa l.length qc] w fun e w' => e = .returned (.bool true) ∧ Qt w w' := by
  have P := Lib.hid hp
  have Q := Lib.hid hq
  have NJ := neq_job
  have e0 : ((l.length : Int) != (l.length : Int)) = false := by simp
  clear hp hq
  go_enter Try.func11, Try.ntmps11
  go_wp2_with fail
  go_loopg [5] l.length (SaRel l w)
  case atStart => exact ⟨0, by omega, rfl, Qt.refl _⟩
  case round =>
    obtain ⟨i, hi, rfl, hB⟩ := hrel
    have KB := Lib.hid hB
    have NP := P.out.call (hB.below _)
    have NQ := Q.out.call (hB.below _)
    clear hB
    by_cases hlt : i < l.length
    · obtain ⟨b, off, rfl, hb, hat⟩ := NP.at (by omega)
      obtain ⟨b', off', rfl, hb', hat'⟩ := NQ.at (by omega)
      obtain ⟨p, hp⟩ : ∃ p, l[i]? = some p := ⟨_, List.getElem?_eq_getElem hlt⟩
      obtain ⟨x0, x1, x2, x3⟩ := hat i p hp
      obtain ⟨y0, y1, y2, y3⟩ := hat' i p hp
      have hlt' : (i : Int) < (l.length : Int) := by omega
      have HI := Lib.hid hi
      have hg0 : 0 < gk := by omega
      have hi1w : IntKind.i64.wrap ((i : Int) + 1) = (i : Int) + 1 := IntWalk.i64_in _ (by omega)
      clear hat hat' NP NQ hi hp
      go_wp2_with fail
      go_quiet (fail)
      have K2 := Lib.hid (qt_drewN KB.out nq)
      go_wp2
      go_roundg (gk - 1)
      case measure => omega
      case rel => exact ⟨i + 1, by have := HI.out; omega, by go_num, K2.out⟩
    · have hge : (l.length : Int) ≤ (i : Int) := by omega
      have hdec : decide (i < l.length) = false := decide_eq_false hlt
      clear hi hlt NP NQ
      go_wp2
      go_ret
      exact ⟨rfl, KB.out⟩
end Go.Proofs.Yteagimnlhopjpaa.Hj
