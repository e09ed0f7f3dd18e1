/- The statements' functions few and near of layer 14. -/
import Derived.Test.YtnaanahgflbihaaTbH
import Derived.Test.YtnaanahgflbihaaOpE
namespace Go.Proofs.Ytnaanahgflbihaa.Tb
open Go.ChangeShapes Go.WideShapes Go.ChangeAt Go.RowKit Go.Joins
open Pm (Tk chk chk_iff)
open Ge (El Seen Row)
open Ox (Od bareR)
set_option maxRecDepth 100000
set_option maxRecDepth 100000
set_option linter.unusedVariables false
set_option linter.unusedSimpArgs false
/-- a table's first rows, at most 18 -/
def fewT (t : Tb) : Tb := ⟨t.rows.take 18, t.mode⟩
theorem two_new (w : World) (a b : Value) (m n : Int) : Bos (TB w a b m n) w ((w.alloc (.cells #[a, .int .i64 m] 24)).alloc (.cells #[b, .int .i64 n] 24)) := by
  have := ((bos_nil w).new #[a, .int .i64 m] 24).new #[b, .int .i64 n] 24
  rw [World.size_alloc] at this
  exact this
theorem few_any (t : Tb) (ao : Option Addr) (cap : Nat) (w : World) (hl : t.rows.length ≤ 9223372036854775807) (hc : t.rows.length ≤ cap) :
    Calls Try.prog 12 #[tv ao t.rows.length cap t.mode] w fun e w' => e = .returned (tv ao (fewT t).rows.length cap (fewT t).mode) ∧ Below w.heap.size w w' := by
  have H0 := Lib.hid (tb_new w (.slice ao t.rows.length cap) t.mode)
  obtain ⟨l, m⟩ := t
  unfold fewT tv at *
  simp only at *
  obtain ⟨t0, t1⟩ := cell2 (H0.out.cell 1 rfl)
  obtain ⟨z0, z1⟩ := cell2 (H0.out.cell 0 rfl)
  have zf := H0.out.fz 0 rfl
  have tf := H0.out.fz 1 rfl
  by_cases h : 18 < l.length
  · have e : (l.take 18).length = 18 := by rw [List.length_take]; omega
    rw [e]
    have h1 : (18 : Int) < (l.length : Int) := by omega
    have sl : ∀ w, (Instr.sliceAt 22 (.slice ao l.length cap) none (some (.int .i64 18)) none).run Try.prog w = .ok (.slice ao 18 cap) w := fun w => by
      have e : (sizeOf (Try.prog.elem 22)).run Try.prog w = .ok 6 w := by kernel_rfl
      rw [run_sliceAt_slice w _ _ _ _ _ (by kernel_rfl), run_slice_h w _ _ _ _ (by kernel_rfl) _ _ (by omega) (by omega), e]
      simp only [Result.andThen, sliced]
      have : ao.map (fun x => x.add (0 * 6)) = ao := by cases ao <;> simp [Addr.add]
      rw [this]
      simp
    have H1 := Lib.hid (H0.out.set 1 rfl 0 (.slice ao 18 cap))
    obtain ⟨u0, u1⟩ := cell2 (H1.out.cell 1 rfl)
    obtain ⟨v0, v1⟩ := cell2 (H1.out.cell 0 rfl)
    have vf := H1.out.fz 0 rfl
    have HF : Hid (Bos (TB w (.slice ao 18 cap) (.slice ao 18 cap) m m) w _) := Lib.hid (two_new w (.slice ao 18 cap) (.slice ao 18 cap) m m)
    obtain ⟨q0, q1⟩ := cell2 (HF.out.cell 0 rfl)
    clear e h
    go_enter Try.func12, Try.ntmps12
    go_wp2
    refine bodyPost_ret (v := .agg #[.slice ao 18 cap, .int .i64 m]) (by simp [results, Try.results12, go_sem, q0, q1]) rfl ⟨rfl, HF.out.bl⟩
  · rw [List.take_of_length_le (by omega)]
    have h1 : (l.length : Int) ≤ 18 := by omega
    have HF := Lib.hid (two_new w (.slice ao l.length cap) (.slice ao l.length cap) m m)
    obtain ⟨q0, q1⟩ := cell2 (HF.out.cell 0 rfl)
    clear h
    go_enter Try.func12, Try.ntmps12
    go_wp2
    refine bodyPost_ret (v := .agg #[.slice ao l.length cap, .int .i64 m]) (by simp [results, Try.results12, go_sem, q0, q1]) rfl ⟨rfl, HF.out.bl⟩
/-- an ID to 16 -/
def nid (x : Int) : Int := (bits .and .i64 x 1023).tmod 17
/-- an op, bare, of IDs to 16 -/
def nearR (o : Od) : Od :=
  if o.kind = 1 then ⟨1, ⟨nid o.task.id, o.task.c, o.task.d, o.task.t, o.task.m⟩, o.server, 0, 0, 0⟩ else if o.kind = 2 then ⟨2, Ox.tk0, false, nid o.id, 0, 0⟩ else if o.kind = 3 then ⟨3, Ox.tk0, false, nid o.id, o.c, 0⟩ else if o.kind = 4 then ⟨4, Ox.tk0, false, 0, 0, o.mode⟩ else ⟨o.kind, Ox.tk0, false, nid 0, 0, 0⟩
/-- the boxes of an op that came, and of the one that is told -/
theorem oo_new (w : World) (a b : Array Value) : Bos [(w.heap.size + 1, b, 29), (w.heap.size, a, 29)] w ((w.alloc (.cells a 29)).alloc (.cells b 29)) := by
  have := ((bos_nil w).new a 29).new b 29
  rw [World.size_alloc] at this
  exact this
theorem nid_fact (x : Int) : (bits .and .i64 x 1023).tmod 17 = nid x := rfl
theorem set10 {L : List (Nat × Array Value × Nat)} {w W : World} {p : Nat} {T : Nat} {X : Nat × Array Value × Nat} {a0 a1 a2 a3 a4 a5 a6 a7 a8 a9 : Value} (h : Bos (X :: (p, #[a0, a1, a2, a3, a4, a5, a6, a7, a8, a9], T) :: L) w W) (b0 b1 b2 b3 b4 b5 b6 b7 b8 b9 : Value) : Bos (X :: (p, #[b0, b1, b2, b3, b4, b5, b6, b7, b8, b9], T) :: L) w ((((((((((W.setCell ⟨p, 0, none⟩ b0).setCell ⟨p, 1, none⟩ b1).setCell ⟨p, 2, none⟩ b2).setCell ⟨p, 3, none⟩ b3).setCell ⟨p, 4, none⟩ b4).setCell ⟨p, 5, none⟩ b5).setCell ⟨p, 6, none⟩ b6).setCell ⟨p, 7, none⟩ b7).setCell ⟨p, 8, none⟩ b8).setCell ⟨p, 9, none⟩ b9) := by
  have h0 : Bos (X :: (p, #[b0, a1, a2, a3, a4, a5, a6, a7, a8, a9], T) :: L) w (W.setCell ⟨p, 0, none⟩ b0) := h.set 1 rfl 0 b0
  have h1 : Bos (X :: (p, #[b0, b1, a2, a3, a4, a5, a6, a7, a8, a9], T) :: L) w ((W.setCell ⟨p, 0, none⟩ b0).setCell ⟨p, 1, none⟩ b1) := h0.set 1 rfl 1 b1
  have h2 : Bos (X :: (p, #[b0, b1, b2, a3, a4, a5, a6, a7, a8, a9], T) :: L) w (((W.setCell ⟨p, 0, none⟩ b0).setCell ⟨p, 1, none⟩ b1).setCell ⟨p, 2, none⟩ b2) := h1.set 1 rfl 2 b2
  have h3 : Bos (X :: (p, #[b0, b1, b2, b3, a4, a5, a6, a7, a8, a9], T) :: L) w ((((W.setCell ⟨p, 0, none⟩ b0).setCell ⟨p, 1, none⟩ b1).setCell ⟨p, 2, none⟩ b2).setCell ⟨p, 3, none⟩ b3) := h2.set 1 rfl 3 b3
  have h4 : Bos (X :: (p, #[b0, b1, b2, b3, b4, a5, a6, a7, a8, a9], T) :: L) w (((((W.setCell ⟨p, 0, none⟩ b0).setCell ⟨p, 1, none⟩ b1).setCell ⟨p, 2, none⟩ b2).setCell ⟨p, 3, none⟩ b3).setCell ⟨p, 4, none⟩ b4) := h3.set 1 rfl 4 b4
  have h5 : Bos (X :: (p, #[b0, b1, b2, b3, b4, b5, a6, a7, a8, a9], T) :: L) w ((((((W.setCell ⟨p, 0, none⟩ b0).setCell ⟨p, 1, none⟩ b1).setCell ⟨p, 2, none⟩ b2).setCell ⟨p, 3, none⟩ b3).setCell ⟨p, 4, none⟩ b4).setCell ⟨p, 5, none⟩ b5) := h4.set 1 rfl 5 b5
  have h6 : Bos (X :: (p, #[b0, b1, b2, b3, b4, b5, b6, a7, a8, a9], T) :: L) w (((((((W.setCell ⟨p, 0, none⟩ b0).setCell ⟨p, 1, none⟩ b1).setCell ⟨p, 2, none⟩ b2).setCell ⟨p, 3, none⟩ b3).setCell ⟨p, 4, none⟩ b4).setCell ⟨p, 5, none⟩ b5).setCell ⟨p, 6, none⟩ b6) := h5.set 1 rfl 6 b6
  have h7 : Bos (X :: (p, #[b0, b1, b2, b3, b4, b5, b6, b7, a8, a9], T) :: L) w ((((((((W.setCell ⟨p, 0, none⟩ b0).setCell ⟨p, 1, none⟩ b1).setCell ⟨p, 2, none⟩ b2).setCell ⟨p, 3, none⟩ b3).setCell ⟨p, 4, none⟩ b4).setCell ⟨p, 5, none⟩ b5).setCell ⟨p, 6, none⟩ b6).setCell ⟨p, 7, none⟩ b7) := h6.set 1 rfl 7 b7
  have h8 : Bos (X :: (p, #[b0, b1, b2, b3, b4, b5, b6, b7, b8, a9], T) :: L) w (((((((((W.setCell ⟨p, 0, none⟩ b0).setCell ⟨p, 1, none⟩ b1).setCell ⟨p, 2, none⟩ b2).setCell ⟨p, 3, none⟩ b3).setCell ⟨p, 4, none⟩ b4).setCell ⟨p, 5, none⟩ b5).setCell ⟨p, 6, none⟩ b6).setCell ⟨p, 7, none⟩ b7).setCell ⟨p, 8, none⟩ b8) := h7.set 1 rfl 8 b8
  have h9 : Bos (X :: (p, #[b0, b1, b2, b3, b4, b5, b6, b7, b8, b9], T) :: L) w ((((((((((W.setCell ⟨p, 0, none⟩ b0).setCell ⟨p, 1, none⟩ b1).setCell ⟨p, 2, none⟩ b2).setCell ⟨p, 3, none⟩ b3).setCell ⟨p, 4, none⟩ b4).setCell ⟨p, 5, none⟩ b5).setCell ⟨p, 6, none⟩ b6).setCell ⟨p, 7, none⟩ b7).setCell ⟨p, 8, none⟩ b8).setCell ⟨p, 9, none⟩ b9) := h8.set 1 rfl 9 b9
  exact h9
theorem ret_near (tmps : Array Value) (p : Nat) (W : World) (a0 a1 a2 a3 a4 a5 a6 a7 a8 a9 : Value) (h2 : tmps.getD 2 undef = .pointer (some ⟨p, 0, none⟩)) (q : ∀ o, W.cell? ⟨p, o, none⟩ = (#[a0, a1, a2, a3, a4, a5, a6, a7, a8, a9] : Array Value)[o]?) :
    (results Try.f13 tmps).run Try.prog W = .ok (.agg #[a0, a1, a2, a3, a4, a5, a6, a7, a8, a9]) W := by
  rw [Array.getD_eq_getD_getElem?] at h2
  obtain ⟨q0, q1, q2, q3, q4, q5, q6, q7, q8, q9⟩ := cell10 q
  simp [results, Try.results13, go_sem, h2, q0, q1, q2, q3, q4, q5, q6, q7, q8, q9]
set_option maxHeartbeats 4000000 in
theorem near_any (o : Od) (w : World) :
    Calls Try.prog 13 #[o.v] w fun e w' => e = .returned (nearR o).v ∧ Below w.heap.size w w' := by
  have BA := Lib.hid (Ox.rbare_any o)
  have H0 := Lib.hid (oo_new w o.cs #[.int .i64 0, .int .i64 0, .int .i64 0, .int .i64 0, .int .i64 0, .int .i64 0, .bool false, .int .i64 0, .int .i64 0, .int .i64 0])
  have NF := nid_fact
  unfold nearR
  unfold bareR at BA
  obtain ⟨k, ⟨i, c, d, t, m⟩, s, id, cc, mo⟩ := o
  unfold Od.v Od.cs Ox.tk0 at *
  simp only at *
  obtain ⟨o0, o1, o2, o3, o4, o5, o6, o7, o8, o9⟩ := cell10 (H0.out.cell 1 rfl)
  by_cases h1 : k = 1
  · subst h1
    simp only [if_true] at BA ⊢
    go_enter Try.func13, Try.ntmps13
    go_wp2_with fail
    (with_reducible refine (BA.out _).mono ?_)
    rintro e w1 ⟨rfl, b1⟩
    have H1 := Lib.hid (H0.out.call b1)
    clear b1 BA H0 o0 o1 o2 o3 o4 o5 o6 o7 o8 o9
    have H2 := Lib.hid (H1.out.new #[.int .i64 1, .int .i64 (nid i), .int .i64 c, .int .i64 d, .int .i64 t, .int .i64 m, .bool s, .int .i64 0, .int .i64 0, .int .i64 0] 29)
    obtain ⟨z0, z1, z2, z3, z4, z5, z6, z7, z8, z9⟩ := cell10 (H2.out.cell 1 rfl)
    have zf := H2.out.fz 1 rfl
    have HF := Lib.hid (set10 H2.out (.int .i64 1) (.int .i64 (nid i)) (.int .i64 c) (.int .i64 d) (.int .i64 t) (.int .i64 m) (.bool s) (.int .i64 0) (.int .i64 0) (.int .i64 0))
    have QF := Lib.hid (HF.out.cell 1 rfl)
    go_wp2
    refine bodyPost_ret (ret_near _ (w.heap.size + 1) _ (.int .i64 1) (.int .i64 (nid i)) (.int .i64 c) (.int .i64 d) (.int .i64 t) (.int .i64 m) (.bool s) (.int .i64 0) (.int .i64 0) (.int .i64 0) rfl QF.out) rfl ⟨rfl, HF.out.bl⟩
  
  have k1 : (k == 1) = false := by simpa using h1
  rw [if_neg h1] at BA ⊢
  by_cases h2 : k = 2
  · subst h2
    clear h1 k1
    simp only [if_true] at BA ⊢
    go_enter Try.func13, Try.ntmps13
    go_wp2_with fail
    (with_reducible refine (BA.out _).mono ?_)
    rintro e w1 ⟨rfl, b1⟩
    have H1 := Lib.hid (H0.out.call b1)
    clear b1 BA H0 o0 o1 o2 o3 o4 o5 o6 o7 o8 o9
    have H2 := Lib.hid (H1.out.new #[.int .i64 2, .int .i64 0, .int .i64 0, .int .i64 0, .int .i64 0, .int .i64 0, .bool false, .int .i64 (nid id), .int .i64 0, .int .i64 0] 29)
    obtain ⟨z0, z1, z2, z3, z4, z5, z6, z7, z8, z9⟩ := cell10 (H2.out.cell 1 rfl)
    have zf := H2.out.fz 1 rfl
    have HF := Lib.hid (set10 H2.out (.int .i64 2) (.int .i64 0) (.int .i64 0) (.int .i64 0) (.int .i64 0) (.int .i64 0) (.bool false) (.int .i64 (nid id)) (.int .i64 0) (.int .i64 0))
    have QF := Lib.hid (HF.out.cell 1 rfl)
    go_wp2
    refine bodyPost_ret (ret_near _ (w.heap.size + 1) _ (.int .i64 2) (.int .i64 0) (.int .i64 0) (.int .i64 0) (.int .i64 0) (.int .i64 0) (.bool false) (.int .i64 (nid id)) (.int .i64 0) (.int .i64 0) rfl QF.out) rfl ⟨rfl, HF.out.bl⟩
  
  rw [if_neg h2] at BA ⊢
  by_cases h3 : k = 3
  · subst h3
    clear h1 k1 h2
    simp only [if_true] at BA ⊢
    go_enter Try.func13, Try.ntmps13
    go_wp2_with fail
    (with_reducible refine (BA.out _).mono ?_)
    rintro e w1 ⟨rfl, b1⟩
    have H1 := Lib.hid (H0.out.call b1)
    clear b1 BA H0 o0 o1 o2 o3 o4 o5 o6 o7 o8 o9
    have H2 := Lib.hid (H1.out.new #[.int .i64 3, .int .i64 0, .int .i64 0, .int .i64 0, .int .i64 0, .int .i64 0, .bool false, .int .i64 (nid id), .int .i64 cc, .int .i64 0] 29)
    obtain ⟨z0, z1, z2, z3, z4, z5, z6, z7, z8, z9⟩ := cell10 (H2.out.cell 1 rfl)
    have zf := H2.out.fz 1 rfl
    have HF := Lib.hid (set10 H2.out (.int .i64 3) (.int .i64 0) (.int .i64 0) (.int .i64 0) (.int .i64 0) (.int .i64 0) (.bool false) (.int .i64 (nid id)) (.int .i64 cc) (.int .i64 0))
    have QF := Lib.hid (HF.out.cell 1 rfl)
    go_wp2
    refine bodyPost_ret (ret_near _ (w.heap.size + 1) _ (.int .i64 3) (.int .i64 0) (.int .i64 0) (.int .i64 0) (.int .i64 0) (.int .i64 0) (.bool false) (.int .i64 (nid id)) (.int .i64 cc) (.int .i64 0) rfl QF.out) rfl ⟨rfl, HF.out.bl⟩
  
  rw [if_neg h3] at BA ⊢
  by_cases h4 : k = 4
  · subst h4
    clear h1 k1 h2 h3
    simp only [if_true] at BA ⊢
    go_enter Try.func13, Try.ntmps13
    go_wp2_with fail
    (with_reducible refine (BA.out _).mono ?_)
    rintro e w1 ⟨rfl, b1⟩
    have H1 := Lib.hid (H0.out.call b1)
    clear b1 BA H0 o0 o1 o2 o3 o4 o5 o6 o7 o8 o9
    have H2 := Lib.hid (H1.out.new #[.int .i64 4, .int .i64 0, .int .i64 0, .int .i64 0, .int .i64 0, .int .i64 0, .bool false, .int .i64 0, .int .i64 0, .int .i64 mo] 29)
    obtain ⟨z0, z1, z2, z3, z4, z5, z6, z7, z8, z9⟩ := cell10 (H2.out.cell 1 rfl)
    have zf := H2.out.fz 1 rfl
    have HF := Lib.hid (set10 H2.out (.int .i64 4) (.int .i64 0) (.int .i64 0) (.int .i64 0) (.int .i64 0) (.int .i64 0) (.bool false) (.int .i64 0) (.int .i64 0) (.int .i64 mo))
    have QF := Lib.hid (HF.out.cell 1 rfl)
    go_wp2
    refine bodyPost_ret (ret_near _ (w.heap.size + 1) _ (.int .i64 4) (.int .i64 0) (.int .i64 0) (.int .i64 0) (.int .i64 0) (.int .i64 0) (.bool false) (.int .i64 0) (.int .i64 0) (.int .i64 mo) rfl QF.out) rfl ⟨rfl, HF.out.bl⟩
  
  have k4 : (k == 4) = false := by simpa using h4
  rw [if_neg h4] at BA ⊢
  clear h1 h2 h3 h4
  go_enter Try.func13, Try.ntmps13
  go_wp2_with fail
  (with_reducible refine (BA.out _).mono ?_)
  rintro e w1 ⟨rfl, b1⟩
  have H1 := Lib.hid (H0.out.call b1)
  clear b1 BA H0 o0 o1 o2 o3 o4 o5 o6 o7 o8 o9
  have H2 := Lib.hid (H1.out.new #[.int .i64 k, .int .i64 0, .int .i64 0, .int .i64 0, .int .i64 0, .int .i64 0, .bool false, .int .i64 (nid 0), .int .i64 0, .int .i64 0] 29)
  obtain ⟨z0, z1, z2, z3, z4, z5, z6, z7, z8, z9⟩ := cell10 (H2.out.cell 1 rfl)
  have zf := H2.out.fz 1 rfl
  have HF := Lib.hid (set10 H2.out (.int .i64 k) (.int .i64 0) (.int .i64 0) (.int .i64 0) (.int .i64 0) (.int .i64 0) (.bool false) (.int .i64 (nid 0)) (.int .i64 0) (.int .i64 0))
  have QF := Lib.hid (HF.out.cell 1 rfl)
  go_wp2
  refine bodyPost_ret (ret_near _ (w.heap.size + 1) _ (.int .i64 k) (.int .i64 0) (.int .i64 0) (.int .i64 0) (.int .i64 0) (.int .i64 0) (.bool false) (.int .i64 (nid 0)) (.int .i64 0) (.int .i64 0) rfl QF.out) rfl ⟨rfl, HF.out.bl⟩
end Go.Proofs.Ytnaanahgflbihaa.Tb
