/- Package ops' take: what a reader makes of a kind and of what ops of it say. -/
import Derived.Test.YtnaanahgflbihaaOpG
namespace Go.Proofs.Ytnaanahgflbihaa.Ox
open Go.ChangeShapes Go.WideShapes Go.ChangeAt Go.RowKit Go.Joins
open Oc
open Pm (Tk chk chk_iff)
set_option maxRecDepth 100000
set_option maxRecDepth 100000
set_option linter.unusedVariables false
set_option linter.unusedSimpArgs false
theorem num_left (o : St) (most : Nat) : left (num o most).2 ≤ left o := by
  cases h : (num o most).2 with
  | none => simp [left]
  | some r => obtain ⟨l, rfl, hlt, -⟩ := num_shorter h; simp only [left]; omega
theorem int_left' (o : St) (most : Int) : left (int o most).2 ≤ left o := by
  unfold int; split
  · simp [left]
  · exact num_left _ _
theorem flag_left (o : St) : left (flag o).2 ≤ left o := num_left o 1
/-- a reader beside a block that stays (p) and one that is written (q) -/
structure Tr (R b p PT q T : Nat) (ps cs : Array Value) (o : St) (w W : World) : Prop where
  rd : Rd R b o W
  le : left o ≤ 1000000
  pt : W.heap[p]? = some (.cells ps PT (0, 0))
  at_ : W.heap[q]? = some (.cells cs T (0, 0))
  pb : p ≠ b
  qb : q ≠ b
  pq : p ≠ q
  ap : Apart b w W
  lq : w.heap.size ≤ q
section
variable {R b p PT q T : Nat} {ps cs : Array Value} {o o' : St} {w W W' : World}
theorem Tr.step (h : Tr R b p PT q T ps cs o w W) (k : Rd R b o' W') (hl : left o' ≤ left o) (m : Apart b W W') : Tr R b p PT q T ps cs o' w W' :=
  ⟨k, Nat.le_trans hl h.le, (m.block p (lt_of_heap h.pt) h.pb).trans h.pt, (m.block q (lt_of_heap h.at_) h.qb).trans h.at_, h.pb, h.qb, h.pq, h.ap.trans m, h.lq⟩
theorem Tr.call (h : Tr R b p PT q T ps cs o w W) (hb : Below W.heap.size W W') : Tr R b p PT q T ps cs o w W' := h.step (h.rd.call hb) (Nat.le_refl _) (Apart.of_below hb)
theorem Tr.set (h : Tr R b p PT q T ps cs o w W) (j : Nat) (v : Value) : Tr R b p PT q T ps (cs.setIfInBounds j v) o w (W.setCell ⟨q, j, none⟩ v) := by
  have k2 : ∀ k, k ≠ q → (W.setCell ⟨q, j, none⟩ v).heap[k]? = W.heap[k]? := fun k hk => Below.heap_setCell W ⟨q, j, none⟩ v k hk
  refine ⟨h.rd.of_block (k2 b (Ne.symm h.qb)), h.le, (k2 p h.pq).trans h.pt, ?_, h.pb, h.qb, h.pq, ⟨h.ap.os, h.ap.tape, h.ap.output, by simpa [World.setCell] using h.ap.size, fun k hk hn => ?_⟩, h.lq⟩
  · simp [World.setCell, Array.getElem?_modify, h.at_]
  · have := h.lq
    rw [k2 k (by omega)]
    exact h.ap.block k hk hn
theorem Tr.cp (h : Tr R b p PT q T ps cs o w W) (j : Nat) : W.cell? ⟨p, j, none⟩ = ps[j]? := by rw [Lib.cell_of_heap h.pt]
theorem Tr.cq (h : Tr R b p PT q T ps cs o w W) (j : Nat) : W.cell? ⟨q, j, none⟩ = cs[j]? := by rw [Lib.cell_of_heap h.at_]
theorem Tr.fq (h : Tr R b p PT q T ps cs o w W) (j : Nat) : W.frozen? ⟨q, j, none⟩ = false := Lib.frozen_of_heap h.at_ j
theorem Tr.fp (h : Tr R b p PT q T ps cs o w W) (j : Nat) : W.frozen? ⟨p, j, none⟩ = false := Lib.frozen_of_heap h.pt j
end
theorem int_t {b p PT q T : Nat} {ps : Array Value} {o : St} {w : World} (most : Int) (hm : (Lit.int .i64 most).wf = true) :
    ∀ cs W, Tr RC b p PT q T ps cs o w W → Calls Try.prog 44 #[self b, .int .i64 most] W fun e w' => e = .returned (.int .i64 ((int o most).1 : Int)) ∧ Tr RC b p PT q T ps cs (int o most).2 w w' := fun cs W h =>
  (int_rd b o most W h.rd hm h.le).mono fun e w' ⟨he, hr, ha⟩ => ⟨he, h.step hr (int_left' _ _) ha⟩
theorem flag_t {b p PT q T : Nat} {ps : Array Value} {o : St} {w : World} :
    ∀ cs W, Tr RC b p PT q T ps cs o w W → Calls Try.prog 71 #[self b] W fun e w' => e = .returned (.bool (flag o).1) ∧ Tr RC b p PT q T ps cs (flag o).2 w w' := fun cs W h =>
  (flag_rd b o W h.rd h.le).mono fun e w' ⟨he, hr, ha⟩ => ⟨he, h.step hr (flag_left _) ha⟩
/-- the closure that reads a number -/
theorem clo_any {b p : Nat} {o : St} (w : World) (k : Rd RC b o w) (hl : left o ≤ 1000000) (hp : w.heap[p]? = some (.cells #[self b] 73 (0, 0))) :
    Calls Try.prog 85 #[.pointer (some ⟨p, 0, none⟩)] w fun e w' => e = .returned (.int .i64 ((num o 2147483648).1 : Int)) ∧ Rd RC b (num o 2147483648).2 w' ∧ Apart b w w' := by
  have c0 : w.cell? ⟨p, 0, none⟩ = some (self b) := by rw [Lib.cell_of_heap hp]; rfl
  have NR : Hid (Calls Try.prog 69 #[self b, .int .u64 2147483648] w fun e w' => e = .returned (.int .u64 ((num o 2147483648).1 : Int)) ∧ Rd RC b (num o 2147483648).2 w' ∧ Apart b w w') := Lib.hid (num_rd b o 2147483648 w k (by omega) hl)
  have hn := Oc.num_most o 2147483648
  generalize num o 2147483648 = x at *
  obtain ⟨n, o'⟩ := x
  simp only at hn NR ⊢
  have z1 : (n : Int) ≤ 2147483648 := by omega
  have z0 : 0 ≤ (n : Int) := by omega
  have u1 : IntKind.i64.wrap (n : Int) = (n : Int) := IntWalk.i64_in _ (by omega)
  clear k hp hl hn
  go_enter Try.func85, Try.ntmps85
  go_wp2_with fail
  (with_reducible refine NR.out.mono ?_)
  rintro e w1 ⟨rfl, hf⟩
  have H := Lib.hid hf
  clear hf NR
  go_wp2
  go_ret
  exact ⟨rfl, H.out⟩
theorem clo_t {b p q T : Nat} {o : St} {w : World} :
    ∀ cs W, Tr RC b p 73 q T #[self b] cs o w W → Calls Try.prog 85 #[.pointer (some ⟨p, 0, none⟩)] W fun e w' => e = .returned (.int .i64 ((num o 2147483648).1 : Int)) ∧ Tr RC b p 73 q T #[self b] cs (num o 2147483648).2 w w' := fun cs W h =>
  (clo_any W h.rd h.le h.pt).mono fun e w' ⟨he, hr, ha⟩ => ⟨he, h.step hr (num_left _ _) ha⟩
/-- what take makes of a reader -/
def takeR (o : St) : Fd × St :=
  if (int o 4).1 = 1 then (.admit ⟨(int (int o 4).2 1023).1, (num (int (int o 4).2 1023).2 2147483648).1, (num (num (int (int o 4).2 1023).2 2147483648).2 2147483648).1, (num (num (num (int (int o 4).2 1023).2 2147483648).2 2147483648).2 2147483648).1, (int (num (num (num (int (int o 4).2 1023).2 2147483648).2 2147483648).2 2147483648).2 15).1⟩ (flag (int (num (num (num (int (int o 4).2 1023).2 2147483648).2 2147483648).2 2147483648).2 15).2).1, (flag (int (num (num (num (int (int o 4).2 1023).2 2147483648).2 2147483648).2 2147483648).2 15).2).2)
  else if (int o 4).1 = 2 then (.remove (int (int o 4).2 1023).1, (int (int o 4).2 1023).2)
  else if (int o 4).1 = 3 then (.resize (int (int o 4).2 1023).1 (num (int (int o 4).2 1023).2 2147483648).1, (num (int (int o 4).2 1023).2 2147483648).2)
  else if (int o 4).1 = 4 then (.mode (int (int o 4).2 3).1, (int (int o 4).2 3).2)
  else (.unknown (int o 4).1, (int o 4).2)
theorem take_read (o : St) : (opR (takeR o).1, (takeR o).2) = readM o := by
  unfold takeR readM
  simp only
  repeat' split
  all_goals first | rfl | (simp_all; done)
theorem tr_new {b : Nat} {o o' : St} {w w1 w2 : World} (k : Rd RC b o w) (hl : left o' ≤ 1000000) (k1 : Rd RC b o' w1) (a1 : Apart b (w.alloc (.cells #[self b] 73)) w1) (b2 : Below w1.heap.size w1 w2) (cs : Array Value) (T : Nat) :
    Tr RC b w.heap.size 73 w2.heap.size T #[self b] cs o' w (w2.alloc (.cells cs T)) := by
  have hb := k.lt
  have hp : (w.alloc (.cells #[self b] 73)).heap[w.heap.size]? = some (.cells #[self b] 73 (0, 0)) := heap_alloc_new _ _
  have hp1 := (a1.block w.heap.size (by simp) (by omega)).trans hp
  have hp2 := (b2.block w.heap.size (lt_of_heap hp1)).trans hp1
  have s1 := a1.size
  rw [World.size_alloc] at s1
  have s2 := b2.size
  have b3 : Below w2.heap.size w2 (w2.alloc (.cells cs T)) := (Below.refl _ _).alloc (Nat.le_refl _) _
  exact ⟨(k1.call b2).call b3, hl, (b3.block w.heap.size (lt_of_heap hp2)).trans hp2, heap_alloc_new _ _, by omega, by omega, by omega, ((((Apart.refl b w).alloc _).trans a1).trans (Apart.of_below b2)).alloc _, by omega⟩
theorem self_def (b : Nat) : self b = .pointer (some ⟨b, 0, none⟩) := rfl
set_option maxHeartbeats 4000000 in
theorem take_remove {b : Nat} {o : St} (w : World) (k : Rd RC b o w) (hl : left o ≤ 1000000) (hk : (int o 4).1 = 2) :
    Calls Try.prog 73 #[self b] w fun e w' => e = .returned (takeR o).1.v ∧ Rd RC b (takeR o).2 w' ∧ Apart b w w' := by
  have hmf : ∀ (fn : Fn) (first cap : Array Value) (w : World), (Instr.makeFunc fn first cap).run Try.prog w = .ok (.func fn first cap) w := fun _ _ _ _ => rfl
  have C0 := Lib.hid (int_rd b o 4 (w.alloc (.cells #[self b] 73)) (k.call ((Below.refl _ _).alloc (Nat.le_refl _) _)) (by decide) hl)
  have OF := Lib.hid (of_any ⟨2, tk0, false, 0, 0, 0⟩)
  have EF : ofR ⟨2, tk0, false, 0, 0, 0⟩ = .remove 0 := rfl
  rw [EF] at OF
  simp only [Od.v, Od.cs, Fd.v, tk0] at OF
  clear EF
  have T0 := ta_remove_admit
  have T1 := ta_remove_remove
  have E : takeR o = (.remove (int (int o 4).2 1023).1, (int (int o 4).2 1023).2) := by unfold takeR; rw [if_neg (by omega), if_pos hk]
  rw [E]
  clear E
  have L1 : left (int o 4).2 ≤ 1000000 := Nat.le_trans (int_left' _ _) hl
  rw [hk] at C0
  have HZ := Lib.hid (fun w1 w2 k1 a1 b2 => tr_new (w1 := w1) (w2 := w2) (o' := (int o 4).2) k L1 k1 a1 b2 #[.int .i64 0] 121)
  clear L1 hk hl
  have LB := k.lt
  clear k
  generalize (int o 4).2 = o1 at *
  have C1 := Lib.hid (fun q => int_t (b := b) (p := w.heap.size) (PT := 73) (q := q) (T := 121) (ps := #[self b]) (o := o1) (w := w) 1023 (by decide))
  generalize hx1 : int o1 1023 = x1 at *
  clear hx1
  obtain ⟨n1, o2⟩ := x1
  simp only at *
  simp only [Fd.v]
  have c0 := (show (w.alloc (.cells #[self b] 73)).cell? ⟨w.heap.size, 0, none⟩ = some (self b) by rw [Lib.cell_of_heap (heap_alloc_new _ _)]; rfl)
  go_enter Try.func73, Try.ntmps73
  go_wp2_with fail
  (with_reducible refine C0.out.mono ?_)
  rintro e w1 ⟨rfl, k1, a1⟩
  have B1 := Lib.hid (And.intro k1 a1)
  clear k1 a1 c0 C0
  go_wp2_with fail
  (with_reducible refine (OF.out _).mono ?_)
  rintro e w2 ⟨rfl, b2⟩
  have H0 := Lib.hid (HZ.out w1 w2 B1.out.1 B1.out.2 b2)
  clear b2 B1 HZ OF
  have pq : w.heap.size ≠ w2.heap.size := H0.out.pq
  have pq' : w2.heap.size ≠ w.heap.size := H0.out.pq.symm
  have cp := H0.out.cp 0
  go_wp2_with fail
  (with_reducible refine ((C1.out _) _ _ H0.out).mono ?_)
  rintro e v1 ⟨rfl, h1⟩
  have H1 : Hid (Tr RC b w.heap.size 73 w2.heap.size 121 #[self b] #[.int .i64 0] o2 w v1) := Lib.hid h1
  clear h1 cp H0
  have cp := H1.out.cp 0
  have y0 := H1.out.cq 0
  have fq := H1.out.fq
  have FIN := Lib.hid (H1.out.set 0 (.int .i64 (n1 : Int)))
  go_wp2
  go_ret
  exact ⟨rfl, FIN.out.rd, FIN.out.ap⟩
set_option maxHeartbeats 4000000 in
theorem take_mode {b : Nat} {o : St} (w : World) (k : Rd RC b o w) (hl : left o ≤ 1000000) (hk : (int o 4).1 = 4) :
    Calls Try.prog 73 #[self b] w fun e w' => e = .returned (takeR o).1.v ∧ Rd RC b (takeR o).2 w' ∧ Apart b w w' := by
  have hmf : ∀ (fn : Fn) (first cap : Array Value) (w : World), (Instr.makeFunc fn first cap).run Try.prog w = .ok (.func fn first cap) w := fun _ _ _ _ => rfl
  have C0 := Lib.hid (int_rd b o 4 (w.alloc (.cells #[self b] 73)) (k.call ((Below.refl _ _).alloc (Nat.le_refl _) _)) (by decide) hl)
  have OF := Lib.hid (of_any ⟨4, tk0, false, 0, 0, 0⟩)
  have EF : ofR ⟨4, tk0, false, 0, 0, 0⟩ = .mode 0 := rfl
  rw [EF] at OF
  simp only [Od.v, Od.cs, Fd.v, tk0] at OF
  clear EF
  have T0 := ta_mode_admit
  have T1 := ta_mode_remove
  have T2 := ta_mode_resize
  have T3 := ta_mode_mode
  have E : takeR o = (.mode (int (int o 4).2 3).1, (int (int o 4).2 3).2) := by unfold takeR; rw [if_neg (by omega), if_neg (by omega), if_neg (by omega), if_pos hk]
  rw [E]
  clear E
  have L1 : left (int o 4).2 ≤ 1000000 := Nat.le_trans (int_left' _ _) hl
  rw [hk] at C0
  have HZ := Lib.hid (fun w1 w2 k1 a1 b2 => tr_new (w1 := w1) (w2 := w2) (o' := (int o 4).2) k L1 k1 a1 b2 #[.int .i64 0] 125)
  clear L1 hk hl
  have LB := k.lt
  clear k
  generalize (int o 4).2 = o1 at *
  have C1 := Lib.hid (fun q => int_t (b := b) (p := w.heap.size) (PT := 73) (q := q) (T := 125) (ps := #[self b]) (o := o1) (w := w) 3 (by decide))
  generalize hx1 : int o1 3 = x1 at *
  clear hx1
  obtain ⟨n1, o2⟩ := x1
  simp only at *
  simp only [Fd.v]
  have c0 := (show (w.alloc (.cells #[self b] 73)).cell? ⟨w.heap.size, 0, none⟩ = some (self b) by rw [Lib.cell_of_heap (heap_alloc_new _ _)]; rfl)
  go_enter Try.func73, Try.ntmps73
  go_wp2_with fail
  (with_reducible refine C0.out.mono ?_)
  rintro e w1 ⟨rfl, k1, a1⟩
  have B1 := Lib.hid (And.intro k1 a1)
  clear k1 a1 c0 C0
  go_wp2_with fail
  (with_reducible refine (OF.out _).mono ?_)
  rintro e w2 ⟨rfl, b2⟩
  have H0 := Lib.hid (HZ.out w1 w2 B1.out.1 B1.out.2 b2)
  clear b2 B1 HZ OF
  have pq : w.heap.size ≠ w2.heap.size := H0.out.pq
  have pq' : w2.heap.size ≠ w.heap.size := H0.out.pq.symm
  have cp := H0.out.cp 0
  go_wp2_with fail
  (with_reducible refine ((C1.out _) _ _ H0.out).mono ?_)
  rintro e v1 ⟨rfl, h1⟩
  have H1 : Hid (Tr RC b w.heap.size 73 w2.heap.size 125 #[self b] #[.int .i64 0] o2 w v1) := Lib.hid h1
  clear h1 cp H0
  have cp := H1.out.cp 0
  have y0 := H1.out.cq 0
  have fq := H1.out.fq
  have FIN := Lib.hid (H1.out.set 0 (.int .i64 (n1 : Int)))
  go_wp2
  go_ret
  exact ⟨rfl, FIN.out.rd, FIN.out.ap⟩
set_option maxHeartbeats 4000000 in
theorem take_resize {b : Nat} {o : St} (w : World) (k : Rd RC b o w) (hl : left o ≤ 1000000) (hk : (int o 4).1 = 3) :
    Calls Try.prog 73 #[self b] w fun e w' => e = .returned (takeR o).1.v ∧ Rd RC b (takeR o).2 w' ∧ Apart b w w' := by
  have hmf : ∀ (fn : Fn) (first cap : Array Value) (w : World), (Instr.makeFunc fn first cap).run Try.prog w = .ok (.func fn first cap) w := fun _ _ _ _ => rfl
  have C0 := Lib.hid (int_rd b o 4 (w.alloc (.cells #[self b] 73)) (k.call ((Below.refl _ _).alloc (Nat.le_refl _) _)) (by decide) hl)
  have OF := Lib.hid (of_any ⟨3, tk0, false, 0, 0, 0⟩)
  have EF : ofR ⟨3, tk0, false, 0, 0, 0⟩ = .resize 0 0 := rfl
  rw [EF] at OF
  simp only [Od.v, Od.cs, Fd.v, tk0] at OF
  clear EF
  have T0 := ta_resize_admit
  have T1 := ta_resize_remove
  have T2 := ta_resize_resize
  have E : takeR o = (.resize (int (int o 4).2 1023).1 (num (int (int o 4).2 1023).2 2147483648).1, (num (int (int o 4).2 1023).2 2147483648).2) := by unfold takeR; rw [if_neg (by omega), if_neg (by omega), if_pos hk]
  rw [E]
  clear E
  have L1 : left (int o 4).2 ≤ 1000000 := Nat.le_trans (int_left' _ _) hl
  rw [hk] at C0
  have HZ := Lib.hid (fun w1 w2 k1 a1 b2 => tr_new (w1 := w1) (w2 := w2) (o' := (int o 4).2) k L1 k1 a1 b2 #[.int .i64 0, .int .i64 0] 123)
  clear L1 hk hl
  have LB := k.lt
  clear k
  generalize (int o 4).2 = o1 at *
  have C1 := Lib.hid (fun q => int_t (b := b) (p := w.heap.size) (PT := 73) (q := q) (T := 123) (ps := #[self b]) (o := o1) (w := w) 1023 (by decide))
  generalize hx1 : int o1 1023 = x1 at *
  clear hx1
  obtain ⟨n1, o2⟩ := x1
  simp only at *
  have C2 := Lib.hid (fun q => clo_t (b := b) (p := w.heap.size) (q := q) (T := 123) (o := o2) (w := w))
  generalize hx2 : num o2 2147483648 = x2 at *
  clear hx2
  obtain ⟨n2, o3⟩ := x2
  simp only at *
  simp only [Fd.v]
  have c0 := (show (w.alloc (.cells #[self b] 73)).cell? ⟨w.heap.size, 0, none⟩ = some (self b) by rw [Lib.cell_of_heap (heap_alloc_new _ _)]; rfl)
  go_enter Try.func73, Try.ntmps73
  go_wp2_with fail
  (with_reducible refine C0.out.mono ?_)
  rintro e w1 ⟨rfl, k1, a1⟩
  have B1 := Lib.hid (And.intro k1 a1)
  clear k1 a1 c0 C0
  go_wp2_with fail
  (with_reducible refine (OF.out _).mono ?_)
  rintro e w2 ⟨rfl, b2⟩
  have H0 := Lib.hid (HZ.out w1 w2 B1.out.1 B1.out.2 b2)
  clear b2 B1 HZ OF
  have pq : w.heap.size ≠ w2.heap.size := H0.out.pq
  have pq' : w2.heap.size ≠ w.heap.size := H0.out.pq.symm
  have cp := H0.out.cp 0
  go_wp2_with fail
  (with_reducible refine ((C1.out _) _ _ H0.out).mono ?_)
  rintro e v1 ⟨rfl, h1⟩
  have H1 : Hid (Tr RC b w.heap.size 73 w2.heap.size 123 #[self b] #[.int .i64 0, .int .i64 0] o2 w v1) := Lib.hid h1
  clear h1 cp H0
  have cp := H1.out.cp 0
  go_wp2_with fail
  (with_reducible refine ((C2.out _) _ _ H1.out).mono ?_)
  rintro e v2 ⟨rfl, h2⟩
  have H2 : Hid (Tr RC b w.heap.size 73 w2.heap.size 123 #[self b] #[.int .i64 0, .int .i64 0] o3 w v2) := Lib.hid h2
  clear h2 cp H1
  have cp := H2.out.cp 0
  have y0 := H2.out.cq 0
  have y1 := H2.out.cq 1
  have fq := H2.out.fq
  have FIN := Lib.hid ((H2.out.set 0 (.int .i64 (n1 : Int))).set 1 (.int .i64 (n2 : Int)))
  go_wp2
  go_ret
  exact ⟨rfl, FIN.out.rd, FIN.out.ap⟩
set_option maxHeartbeats 4000000 in
theorem take_admit {b : Nat} {o : St} (w : World) (k : Rd RC b o w) (hl : left o ≤ 1000000) (hk : (int o 4).1 = 1) :
    Calls Try.prog 73 #[self b] w fun e w' => e = .returned (takeR o).1.v ∧ Rd RC b (takeR o).2 w' ∧ Apart b w w' := by
  have hmf : ∀ (fn : Fn) (first cap : Array Value) (w : World), (Instr.makeFunc fn first cap).run Try.prog w = .ok (.func fn first cap) w := fun _ _ _ _ => rfl
  have C0 := Lib.hid (int_rd b o 4 (w.alloc (.cells #[self b] 73)) (k.call ((Below.refl _ _).alloc (Nat.le_refl _) _)) (by decide) hl)
  have OF := Lib.hid (of_any ⟨1, tk0, false, 0, 0, 0⟩)
  have EF : ofR ⟨1, tk0, false, 0, 0, 0⟩ = .admit tk0 false := rfl
  rw [EF] at OF
  simp only [Od.v, Od.cs, Fd.v, tk0] at OF
  clear EF
  have T0 := ta_admit_admit
  have E : takeR o = (.admit ⟨(int (int o 4).2 1023).1, (num (int (int o 4).2 1023).2 2147483648).1, (num (num (int (int o 4).2 1023).2 2147483648).2 2147483648).1, (num (num (num (int (int o 4).2 1023).2 2147483648).2 2147483648).2 2147483648).1, (int (num (num (num (int (int o 4).2 1023).2 2147483648).2 2147483648).2 2147483648).2 15).1⟩ (flag (int (num (num (num (int (int o 4).2 1023).2 2147483648).2 2147483648).2 2147483648).2 15).2).1, (flag (int (num (num (num (int (int o 4).2 1023).2 2147483648).2 2147483648).2 2147483648).2 15).2).2) := by unfold takeR; rw [if_pos hk]
  rw [E]
  clear E
  have L1 : left (int o 4).2 ≤ 1000000 := Nat.le_trans (int_left' _ _) hl
  rw [hk] at C0
  have HZ := Lib.hid (fun w1 w2 k1 a1 b2 => tr_new (w1 := w1) (w2 := w2) (o' := (int o 4).2) k L1 k1 a1 b2 #[.int .i64 0, .int .i64 0, .int .i64 0, .int .i64 0, .int .i64 0, .bool false] 119)
  clear L1 hk hl
  have LB := k.lt
  clear k
  generalize (int o 4).2 = o1 at *
  have C1 := Lib.hid (fun q => int_t (b := b) (p := w.heap.size) (PT := 73) (q := q) (T := 119) (ps := #[self b]) (o := o1) (w := w) 1023 (by decide))
  generalize hx1 : int o1 1023 = x1 at *
  clear hx1
  obtain ⟨n1, o2⟩ := x1
  simp only at *
  have C2 := Lib.hid (fun q => clo_t (b := b) (p := w.heap.size) (q := q) (T := 119) (o := o2) (w := w))
  generalize hx2 : num o2 2147483648 = x2 at *
  clear hx2
  obtain ⟨n2, o3⟩ := x2
  simp only at *
  have C3 := Lib.hid (fun q => clo_t (b := b) (p := w.heap.size) (q := q) (T := 119) (o := o3) (w := w))
  generalize hx3 : num o3 2147483648 = x3 at *
  clear hx3
  obtain ⟨n3, o4⟩ := x3
  simp only at *
  have C4 := Lib.hid (fun q => clo_t (b := b) (p := w.heap.size) (q := q) (T := 119) (o := o4) (w := w))
  generalize hx4 : num o4 2147483648 = x4 at *
  clear hx4
  obtain ⟨n4, o5⟩ := x4
  simp only at *
  have C5 := Lib.hid (fun q => int_t (b := b) (p := w.heap.size) (PT := 73) (q := q) (T := 119) (ps := #[self b]) (o := o5) (w := w) 15 (by decide))
  generalize hx5 : int o5 15 = x5 at *
  clear hx5
  obtain ⟨n5, o6⟩ := x5
  simp only at *
  have C6 := Lib.hid (fun q => flag_t (b := b) (p := w.heap.size) (PT := 73) (q := q) (T := 119) (ps := #[self b]) (o := o6) (w := w))
  generalize hx6 : flag o6 = x6 at *
  clear hx6
  obtain ⟨n6, o7⟩ := x6
  simp only at *
  simp only [Fd.v]
  have c0 := (show (w.alloc (.cells #[self b] 73)).cell? ⟨w.heap.size, 0, none⟩ = some (self b) by rw [Lib.cell_of_heap (heap_alloc_new _ _)]; rfl)
  go_enter Try.func73, Try.ntmps73
  go_wp2_with fail
  (with_reducible refine C0.out.mono ?_)
  rintro e w1 ⟨rfl, k1, a1⟩
  have B1 := Lib.hid (And.intro k1 a1)
  clear k1 a1 c0 C0
  go_wp2_with fail
  (with_reducible refine (OF.out _).mono ?_)
  rintro e w2 ⟨rfl, b2⟩
  have H0 := Lib.hid (HZ.out w1 w2 B1.out.1 B1.out.2 b2)
  clear b2 B1 HZ OF
  have pq : w.heap.size ≠ w2.heap.size := H0.out.pq
  have pq' : w2.heap.size ≠ w.heap.size := H0.out.pq.symm
  have cp := H0.out.cp 0
  go_wp2_with fail
  (with_reducible refine ((C1.out _) _ _ H0.out).mono ?_)
  rintro e v1 ⟨rfl, h1⟩
  have H1 : Hid (Tr RC b w.heap.size 73 w2.heap.size 119 #[self b] #[.int .i64 0, .int .i64 0, .int .i64 0, .int .i64 0, .int .i64 0, .bool false] o2 w v1) := Lib.hid h1
  clear h1 cp H0
  have cp := H1.out.cp 0
  have y0 := H1.out.cq 0
  have y1 := H1.out.cq 1
  have y2 := H1.out.cq 2
  have y3 := H1.out.cq 3
  have y4 := H1.out.cq 4
  have y5 := H1.out.cq 5
  have fq := H1.out.fq
  go_wp2_with fail
  clear fq y0 y1 y2 y3 y4 y5
  (with_reducible refine ((C2.out _) _ _ (H1.out.set 0 _)).mono ?_)
  rintro e v2 ⟨rfl, h2⟩
  have H2 : Hid (Tr RC b w.heap.size 73 w2.heap.size 119 #[self b] #[.int .i64 (n1 : Int), .int .i64 0, .int .i64 0, .int .i64 0, .int .i64 0, .bool false] o3 w v2) := Lib.hid h2
  clear h2 cp H1
  have cp := H2.out.cp 0
  go_wp2_with fail
  (with_reducible refine ((C3.out _) _ _ H2.out).mono ?_)
  rintro e v3 ⟨rfl, h3⟩
  have H3 : Hid (Tr RC b w.heap.size 73 w2.heap.size 119 #[self b] #[.int .i64 (n1 : Int), .int .i64 0, .int .i64 0, .int .i64 0, .int .i64 0, .bool false] o4 w v3) := Lib.hid h3
  clear h3 cp H2
  have cp := H3.out.cp 0
  go_wp2_with fail
  (with_reducible refine ((C4.out _) _ _ H3.out).mono ?_)
  rintro e v4 ⟨rfl, h4⟩
  have H4 : Hid (Tr RC b w.heap.size 73 w2.heap.size 119 #[self b] #[.int .i64 (n1 : Int), .int .i64 0, .int .i64 0, .int .i64 0, .int .i64 0, .bool false] o5 w v4) := Lib.hid h4
  clear h4 cp H3
  have cp := H4.out.cp 0
  have y0 := H4.out.cq 0
  have y1 := H4.out.cq 1
  have y2 := H4.out.cq 2
  have y3 := H4.out.cq 3
  have y4 := H4.out.cq 4
  have y5 := H4.out.cq 5
  have fq := H4.out.fq
  go_wp2_with fail
  clear fq y0 y1 y2 y3 y4 y5
  (with_reducible refine ((C5.out _) _ _ (((H4.out.set 1 _).set 2 _).set 3 _)).mono ?_)
  rintro e v5 ⟨rfl, h5⟩
  have H5 : Hid (Tr RC b w.heap.size 73 w2.heap.size 119 #[self b] #[.int .i64 (n1 : Int), .int .i64 (n2 : Int), .int .i64 (n3 : Int), .int .i64 (n4 : Int), .int .i64 0, .bool false] o6 w v5) := Lib.hid h5
  clear h5 cp H4
  have cp := H5.out.cp 0
  have y0 := H5.out.cq 0
  have y1 := H5.out.cq 1
  have y2 := H5.out.cq 2
  have y3 := H5.out.cq 3
  have y4 := H5.out.cq 4
  have y5 := H5.out.cq 5
  have fq := H5.out.fq
  go_wp2_with fail
  clear fq y0 y1 y2 y3 y4 y5
  (with_reducible refine ((C6.out _) _ _ (H5.out.set 4 _)).mono ?_)
  rintro e v6 ⟨rfl, h6⟩
  have H6 : Hid (Tr RC b w.heap.size 73 w2.heap.size 119 #[self b] #[.int .i64 (n1 : Int), .int .i64 (n2 : Int), .int .i64 (n3 : Int), .int .i64 (n4 : Int), .int .i64 (n5 : Int), .bool false] o7 w v6) := Lib.hid h6
  clear h6 cp H5
  have cp := H6.out.cp 0
  have y0 := H6.out.cq 0
  have y1 := H6.out.cq 1
  have y2 := H6.out.cq 2
  have y3 := H6.out.cq 3
  have y4 := H6.out.cq 4
  have y5 := H6.out.cq 5
  have fq := H6.out.fq
  have FIN := Lib.hid (H6.out.set 5 (.bool n6))
  go_wp2
  go_ret
  exact ⟨rfl, FIN.out.rd, FIN.out.ap⟩
set_option maxHeartbeats 1000000 in
theorem take_unknown {b : Nat} {o : St} (w : World) (k : Rd RC b o w) (hl : left o ≤ 1000000) (hk : ¬ (int o 4).1 = 1 ∧ ¬ (int o 4).1 = 2 ∧ ¬ (int o 4).1 = 3 ∧ ¬ (int o 4).1 = 4) :
    Calls Try.prog 73 #[self b] w fun e w' => e = .returned (takeR o).1.v ∧ Rd RC b (takeR o).2 w' ∧ Apart b w w' := by
  have hmf : ∀ (fn : Fn) (first cap : Array Value) (w : World), (Instr.makeFunc fn first cap).run Try.prog w = .ok (.func fn first cap) w := fun _ _ _ _ => rfl
  have C0 := Lib.hid (int_rd b o 4 (w.alloc (.cells #[self b] 73)) (k.call ((Below.refl _ _).alloc (Nat.le_refl _) _)) (by decide) hl)
  have OF := Lib.hid (of_any ⟨((int o 4).1 : Int), tk0, false, 0, 0, 0⟩)
  have EF : ofR ⟨((int o 4).1 : Int), tk0, false, 0, 0, 0⟩ = .unknown (int o 4).1 := by unfold ofR; simp only; rw [if_neg (by omega), if_neg (by omega), if_neg (by omega), if_neg (by omega)]
  rw [EF] at OF
  simp only [Od.v, Od.cs, Fd.v, tk0] at OF
  clear EF
  have T0 := ta_unknown_admit
  have T1 := ta_unknown_remove
  have T2 := ta_unknown_resize
  have T3 := ta_unknown_mode
  have E : takeR o = (.unknown (int o 4).1, (int o 4).2) := by unfold takeR; rw [if_neg hk.1, if_neg hk.2.1, if_neg hk.2.2.1, if_neg hk.2.2.2]
  rw [E]
  clear E hk hl k
  generalize int o 4 = x at *
  obtain ⟨n, o1⟩ := x
  simp only [Fd.v] at *
  have c0 := (show (w.alloc (.cells #[self b] 73)).cell? ⟨w.heap.size, 0, none⟩ = some (self b) by rw [Lib.cell_of_heap (heap_alloc_new _ _)]; rfl)
  have AP : Hid (∀ w1, Apart b (w.alloc (.cells #[self b] 73)) w1 → Apart b w w1) := Lib.hid (fun w1 h => ((Apart.refl b w).alloc _).trans h)
  go_enter Try.func73, Try.ntmps73
  go_wp2_with fail
  (with_reducible refine C0.out.mono ?_)
  rintro e w1 ⟨rfl, k1, a1⟩
  have B1 := Lib.hid (And.intro k1 (AP.out w1 a1))
  clear k1 a1 c0 C0
  go_wp2_with fail
  (with_reducible refine (OF.out _).mono ?_)
  rintro e w2 ⟨rfl, b2⟩
  have B2 := Lib.hid (And.intro (B1.out.1.call b2) (B1.out.2.trans (Apart.of_below b2)))
  clear b2 B1 OF
  go_wp2
  go_ret
  exact ⟨rfl, B2.out⟩
theorem take_any {b : Nat} {o : St} (w : World) (k : Rd RC b o w) (hl : left o ≤ 1000000) :
    Calls Try.prog 73 #[self b] w fun e w' => e = .returned (takeR o).1.v ∧ Rd RC b (takeR o).2 w' ∧ Apart b w w' := by
  by_cases h1 : (int o 4).1 = 1
  · exact take_admit w k hl h1
  by_cases h2 : (int o 4).1 = 2
  · exact take_remove w k hl h2
  by_cases h3 : (int o 4).1 = 3
  · exact take_resize w k hl h3
  by_cases h4 : (int o 4).1 = 4
  · exact take_mode w k hl h4
  exact take_unknown w k hl ⟨h1, h2, h3, h4⟩
end Go.Proofs.Ytnaanahgflbihaa.Ox
