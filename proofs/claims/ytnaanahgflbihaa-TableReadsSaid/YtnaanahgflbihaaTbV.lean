/- Boxes beside a reader; package table's read. -/
import Derived.Test.YtnaanahgflbihaaTbH
import Derived.Test.YtnaanahgflbihaaTbN
import Derived.Test.YtnaanahgflbihaaOpI
namespace Go.Proofs.Ytnaanahgflbihaa.Tb
open Go.ChangeShapes Go.WideShapes Go.ChangeAt Go.RowKit Go.Joins
open Ge (El Seen Row)
open Oc (mkB self Rd RC Apart left lt_of_heap int_rd flag_rd good_any)
open Ox (num_left int_left' flag_left clo_any)
set_option maxRecDepth 100000
set_option maxRecDepth 100000
set_option linter.unusedVariables false
set_option linter.unusedSimpArgs false
/-- boxes of a call's own, beside a reader in block b -/
structure Ros (l : List (Nat × Array Value × Nat)) (b : Nat) (o : Oc.St) (w W : World) : Prop where
  at_ : ∀ x ∈ l, W.heap[x.1]? = some (.cells x.2.1 x.2.2 (0, 0)) ∧ x.1 ≠ b
  nd : (l.map (·.1)).Nodup
  rd : Rd RC b o W
  ap : Apart b w W
  le : left o ≤ 1000000
theorem Ros.step {l : List (Nat × Array Value × Nat)} {b : Nat} {o o' : Oc.St} {w W W' : World} (h : Ros l b o w W) (k : Rd RC b o' W') (hl : left o' ≤ left o) (m : Apart b W W') : Ros l b o' w W' :=
  ⟨fun x hx => ⟨(m.block x.1 (lt_of_heap (h.at_ x hx).1) (h.at_ x hx).2).trans (h.at_ x hx).1, (h.at_ x hx).2⟩, h.nd, k, h.ap.trans m, Nat.le_trans hl h.le⟩
theorem Ros.call {l : List (Nat × Array Value × Nat)} {b : Nat} {o : Oc.St} {w W W' : World} (h : Ros l b o w W) (hb : Below W.heap.size W W') : Ros l b o w W' := h.step (h.rd.call hb) (Nat.le_refl _) (Apart.of_below hb)
theorem ros_start {b : Nat} {o : Oc.St} {w : World} (k : Rd RC b o w) (hl : left o ≤ 1000000) : Ros [] b o w w := ⟨by simp, by simp, k, Apart.refl _ _, hl⟩
theorem Ros.new {l : List (Nat × Array Value × Nat)} {b : Nat} {o : Oc.St} {w W : World} (h : Ros l b o w W) (cs : Array Value) (T : Nat) : Ros ((W.heap.size, cs, T) :: l) b o w (W.alloc (.cells cs T)) := by
  have h' := h.call ((Below.refl W.heap.size W).alloc (Nat.le_refl _) (.cells cs T))
  refine ⟨fun x hx => ?_, ?_, h'.rd, h'.ap, h'.le⟩
  · rcases List.mem_cons.1 hx with rfl | hx
    · exact ⟨heap_alloc_new _ _, by have := h.rd.lt; simp only; omega⟩
    · exact h'.at_ x hx
  · rw [List.map_cons, List.nodup_cons]
    refine ⟨fun hm => ?_, h.nd⟩
    obtain ⟨x, hx, hxe⟩ := List.mem_map.1 hm
    have := lt_of_heap (h.at_ x hx).1
    simp only at hxe; omega
theorem Ros.cell {l : List (Nat × Array Value × Nat)} {b : Nat} {o' : Oc.St} {w W : World} (h : Ros l b o' w W) {p : Nat} {cs : Array Value} {T : Nat} (i : Nat) (hi : l[i]? = some (p, cs, T)) (o : Nat) : W.cell? ⟨p, o, none⟩ = cs[o]? := by
  rw [Lib.cell_of_heap (h.at_ _ (List.mem_of_getElem? hi)).1]
theorem Ros.fz {l : List (Nat × Array Value × Nat)} {b : Nat} {o' : Oc.St} {w W : World} (h : Ros l b o' w W) {p : Nat} {cs : Array Value} {T : Nat} (i : Nat) (hi : l[i]? = some (p, cs, T)) (o : Nat) : W.frozen? ⟨p, o, none⟩ = false := Lib.frozen_of_heap (h.at_ _ (List.mem_of_getElem? hi)).1 o
/-- the first box is written: it is not one of w -/
theorem Ros.set {l : List (Nat × Array Value × Nat)} {b : Nat} {o' : Oc.St} {w W : World} {p : Nat} {cs : Array Value} {T : Nat} (h : Ros ((p, cs, T) :: l) b o' w W) (hp : w.heap.size ≤ p) (o : Nat) (v : Value) : Ros ((p, cs.setIfInBounds o v, T) :: l) b o' w (W.setCell ⟨p, o, none⟩ v) := by
  have h0 := h.at_ _ (List.mem_cons_self)
  simp only at h0
  have hne : ∀ k, k ≠ p → (W.setCell ⟨p, o, none⟩ v).heap[k]? = W.heap[k]? := fun k hk => Below.heap_setCell _ _ _ _ hk
  have hnd := h.nd
  rw [List.map_cons, List.nodup_cons] at hnd
  refine ⟨fun x hx => ?_, by rw [List.map_cons, List.nodup_cons]; exact hnd, h.rd.of_block (hne b (Ne.symm h0.2)), ⟨h.ap.os, h.ap.tape, h.ap.output, by have := h.ap.size; simpa using this, fun k hk hkb => ?_⟩, h.le⟩
  · rcases List.mem_cons.1 hx with rfl | hx
    · exact ⟨by simp [World.setCell, Array.getElem?_modify, h0.1], h0.2⟩
    · have hx' := h.at_ x (List.mem_cons_of_mem _ hx)
      refine ⟨(hne x.1 (fun e => hnd.1 (List.mem_map.2 ⟨x, hx, e⟩))).trans hx'.1, hx'.2⟩
  · rw [hne k (by omega)]
    exact h.ap.block k hk hkb
theorem int_o {l : List (Nat × Array Value × Nat)} {b : Nat} {o : Oc.St} {w : World} (most : Int) (hm : (Lit.int .i64 most).wf = true) :
    ∀ W, Ros l b o w W → Calls Try.prog 44 #[self b, .int .i64 most] W fun e w' => e = .returned (.int .i64 ((Oc.int o most).1 : Int)) ∧ Ros l b (Oc.int o most).2 w w' := fun W h =>
  (int_rd b o most W h.rd hm h.le).mono fun e w' ⟨he, hr, ha⟩ => ⟨he, h.step hr (int_left' _ _) ha⟩
theorem flag_o {l : List (Nat × Array Value × Nat)} {b : Nat} {o : Oc.St} {w : World} :
    ∀ W, Ros l b o w W → Calls Try.prog 71 #[self b] W fun e w' => e = .returned (.bool (Oc.flag o).1) ∧ Ros l b (Oc.flag o).2 w w' := fun W h =>
  (flag_rd b o W h.rd h.le).mono fun e w' ⟨he, hr, ha⟩ => ⟨he, h.step hr (flag_left _) ha⟩
theorem Ros.tail {x : Nat × Array Value × Nat} {l : List (Nat × Array Value × Nat)} {b : Nat} {o : Oc.St} {w W : World} (h : Ros (x :: l) b o w W) : Ros l b o w W :=
  ⟨fun y hy => h.at_ y (List.mem_cons_of_mem _ hy), by have := h.nd; rw [List.map_cons, List.nodup_cons] at this; exact this.2, h.rd, h.ap, h.le⟩
theorem ros6 {L : List (Nat × Array Value × Nat)} {b : Nat} {o : Oc.St} {w W : World} {p : Nat} {T : Nat} {a0 a1 a2 a3 a4 a5 : Value} (h : Ros ((p, #[a0, a1, a2, a3, a4, a5], T) :: L) b o w W) (hp : w.heap.size ≤ p) (b0 b1 b2 b3 b4 b5 : Value) : Ros ((p, #[b0, b1, b2, b3, b4, b5], T) :: L) b o w ((((((W.setCell ⟨p, 0, none⟩ b0).setCell ⟨p, 1, none⟩ b1).setCell ⟨p, 2, none⟩ b2).setCell ⟨p, 3, none⟩ b3).setCell ⟨p, 4, none⟩ b4).setCell ⟨p, 5, none⟩ b5) :=
  (((((h.set hp 0 b0).set hp 1 b1).set hp 2 b2).set hp 3 b3).set hp 4 b4).set hp 5 b5
theorem clo70_any {b p : Nat} {o : Oc.St} (w : World) (k : Rd RC b o w) (hl : left o ≤ 1000000) (hp : w.heap[p]? = some (.cells #[self b] 73 (0, 0))) :
    Calls Try.prog 70 #[.pointer (some ⟨p, 0, none⟩)] w fun e w' => e = .returned (.int .i64 ((Oc.num o 2147483648).1 : Int)) ∧ Rd RC b (Oc.num o 2147483648).2 w' ∧ Apart b w w' := by
  have c0 : w.cell? ⟨p, 0, none⟩ = some (self b) := by rw [Lib.cell_of_heap hp]; rfl
  have NR : Hid (Calls Try.prog 69 #[self b, .int .u64 2147483648] w fun e w' => e = .returned (.int .u64 ((Oc.num o 2147483648).1 : Int)) ∧ Rd RC b (Oc.num o 2147483648).2 w' ∧ Apart b w w') := Lib.hid (Oc.num_rd b o 2147483648 w k (by omega) hl)
  have hn := Oc.num_most o 2147483648
  generalize Oc.num o 2147483648 = x at *
  obtain ⟨n, o'⟩ := x
  simp only at hn NR ⊢
  have z1 : (n : Int) ≤ 2147483648 := by omega
  have z0 : 0 ≤ (n : Int) := by omega
  have u1 : IntKind.i64.wrap (n : Int) = (n : Int) := IntWalk.i64_in _ (by omega)
  clear k hp hl hn
  go_enter Try.func70, Try.ntmps70
  go_wp2_with fail
  (with_reducible refine NR.out.mono ?_)
  rintro e w1 ⟨rfl, hf⟩
  have H := Lib.hid hf
  clear hf NR
  go_wp2
  go_ret
  exact ⟨rfl, H.out⟩
theorem clo_o {b p q r : Nat} {o : Oc.St} {w : World} {cs ds : Array Value} {T U : Nat} :
    ∀ W, Ros [(q, cs, T), (r, ds, U), (p, #[self b], 73)] b o w W → Calls Try.prog 70 #[.pointer (some ⟨p, 0, none⟩)] W fun e w' => e = .returned (.int .i64 ((Oc.num o 2147483648).1 : Int)) ∧ Ros [(q, cs, T), (r, ds, U), (p, #[self b], 73)] b (Oc.num o 2147483648).2 w w' := fun W h =>
  (clo70_any W h.rd h.le (h.at_ (p, #[self b], 73) (by simp)).1).mono fun e w' ⟨he, hr, ha⟩ => ⟨he, h.step hr (num_left _ _) ha⟩
theorem ret_read (tmps : Array Value) (p : Nat) (W : World) (a0 a1 a2 a3 a4 a5 : Value) (h2 : tmps.getD 2 undef = .pointer (some ⟨p, 0, none⟩)) (q : ∀ o, W.cell? ⟨p, o, none⟩ = (#[a0, a1, a2, a3, a4, a5] : Array Value)[o]?) :
    (results Try.f45 tmps).run Try.prog W = .ok (.agg #[a0, a1, a2, a3, a4, a5]) W := by
  rw [Array.getD_eq_getD_getElem?] at h2
  obtain ⟨q0, q1, q2, q3, q4, q5⟩ := cell6 q
  simp [results, Try.results45, go_sem, h2, q0, q1, q2, q3, q4, q5]
set_option maxHeartbeats 8000000 in
theorem read_any {b : Nat} {o : Oc.St} (w : World) (k : Rd RC b o w) (hl : left o ≤ 1000000) :
    Calls Try.prog 45 #[self b] w fun e w' => e = .returned (readW o).1.v ∧ Rd RC b (readW o).2 w' ∧ Apart b w w' := by
  have hmf : ∀ (fn : Fn) (first cap : Array Value) (w : World), (Instr.makeFunc fn first cap).run Try.prog w = .ok (.func fn first cap) w := fun _ _ _ _ => rfl
  have H0 : Hid (Ros [(w.heap.size + 2, #[.int .i64 0, .int .i64 0, .int .i64 0, .int .i64 0, .int .i64 0, .bool false], 57), (w.heap.size + 1, #[.int .i64 0, .int .i64 0, .int .i64 0, .int .i64 0, .int .i64 0, .bool false], 57), (w.heap.size, #[self b], 73)] b o w (((w.alloc (.cells #[self b] 73)).alloc (.cells #[.int .i64 0, .int .i64 0, .int .i64 0, .int .i64 0, .int .i64 0, .bool false] 57)).alloc (.cells #[.int .i64 0, .int .i64 0, .int .i64 0, .int .i64 0, .int .i64 0, .bool false] 57))) := Lib.hid (by
    have := (((ros_start k hl).new #[self b] 73).new #[.int .i64 0, .int .i64 0, .int .i64 0, .int .i64 0, .int .i64 0, .bool false] 57).new #[.int .i64 0, .int .i64 0, .int .i64 0, .int .i64 0, .int .i64 0, .bool false] 57
    simp only [World.size_alloc] at this
    exact this)
  have E : readW o = (⟨⟨(Oc.int o 1023).1, (Oc.num (Oc.int o 1023).2 2147483648).1, (Oc.num (Oc.num (Oc.int o 1023).2 2147483648).2 2147483648).1, (Oc.num (Oc.num (Oc.num (Oc.int o 1023).2 2147483648).2 2147483648).2 2147483648).1, (Oc.int (Oc.num (Oc.num (Oc.num (Oc.int o 1023).2 2147483648).2 2147483648).2 2147483648).2 15).1⟩, (Oc.flag (Oc.int (Oc.num (Oc.num (Oc.num (Oc.int o 1023).2 2147483648).2 2147483648).2 2147483648).2 15).2).1⟩, (Oc.flag (Oc.int (Oc.num (Oc.num (Oc.num (Oc.int o 1023).2 2147483648).2 2147483648).2 2147483648).2 15).2).2) := rfl
  rw [E]
  clear E k hl
  have C1 := Lib.hid (fun cs => int_o (l := [(w.heap.size + 2, cs, 57), (w.heap.size + 1, #[.int .i64 0, .int .i64 0, .int .i64 0, .int .i64 0, .int .i64 0, .bool false], 57), (w.heap.size, #[self b], 73)]) (b := b) (o := o) (w := w) 1023 (by decide))
  generalize Oc.int o 1023 = x1 at *
  obtain ⟨n1, o1⟩ := x1
  simp only at *
  have C2 := Lib.hid (fun cs => clo_o (b := b) (p := w.heap.size) (q := w.heap.size + 2) (r := w.heap.size + 1) (o := o1) (w := w) (cs := cs) (ds := #[.int .i64 0, .int .i64 0, .int .i64 0, .int .i64 0, .int .i64 0, .bool false]) (T := 57) (U := 57))
  generalize Oc.num o1 2147483648 = x2 at *
  obtain ⟨n2, o2⟩ := x2
  simp only at *
  have C3 := Lib.hid (fun cs => clo_o (b := b) (p := w.heap.size) (q := w.heap.size + 2) (r := w.heap.size + 1) (o := o2) (w := w) (cs := cs) (ds := #[.int .i64 0, .int .i64 0, .int .i64 0, .int .i64 0, .int .i64 0, .bool false]) (T := 57) (U := 57))
  generalize Oc.num o2 2147483648 = x3 at *
  obtain ⟨n3, o3⟩ := x3
  simp only at *
  have C4 := Lib.hid (fun cs => clo_o (b := b) (p := w.heap.size) (q := w.heap.size + 2) (r := w.heap.size + 1) (o := o3) (w := w) (cs := cs) (ds := #[.int .i64 0, .int .i64 0, .int .i64 0, .int .i64 0, .int .i64 0, .bool false]) (T := 57) (U := 57))
  generalize Oc.num o3 2147483648 = x4 at *
  obtain ⟨n4, o4⟩ := x4
  simp only at *
  have C5 := Lib.hid (fun cs => int_o (l := [(w.heap.size + 2, cs, 57), (w.heap.size + 1, #[.int .i64 0, .int .i64 0, .int .i64 0, .int .i64 0, .int .i64 0, .bool false], 57), (w.heap.size, #[self b], 73)]) (b := b) (o := o4) (w := w) 15 (by decide))
  generalize Oc.int o4 15 = x5 at *
  obtain ⟨n5, o5⟩ := x5
  simp only at *
  have C6 := Lib.hid (fun cs => flag_o (l := [(w.heap.size + 2, cs, 57), (w.heap.size + 1, #[.int .i64 0, .int .i64 0, .int .i64 0, .int .i64 0, .int .i64 0, .bool false], 57), (w.heap.size, #[self b], 73)]) (b := b) (o := o5) (w := w))
  generalize Oc.flag o5 = x6 at *
  obtain ⟨n6, o6⟩ := x6
  simp only at *
  simp only [Rw.v]
  have c0 := (H0.out.cell 2 rfl 0)
  go_enter Try.func45, Try.ntmps45
  go_wp2_with fail
  (with_reducible refine ((C1.out _) _ H0.out).mono ?_)
  rintro e v1 ⟨rfl, h1⟩
  have H1 := Lib.hid h1
  clear h1
  have cp1 : v1.cell? ⟨w.heap.size, 0, none⟩ = some (self b) := (H1.out.cell 2 rfl 0).trans rfl
  obtain ⟨y0, y1, y2, y3, y4, y5⟩ := cell6 (H1.out.cell 0 rfl)
  have fq := H1.out.fz 0 rfl
  have G1 := Lib.hid (H1.out.set (by omega) 0 (.int .i64 (n1 : Int)))
  have cg1 : (v1.setCell ⟨w.heap.size + 2, 0, none⟩ (.int .i64 (n1 : Int))).cell? ⟨w.heap.size, 0, none⟩ = some (self b) := (G1.out.cell 2 rfl 0).trans rfl
  go_wp2_with fail
  (with_reducible refine ((C2.out _) _ G1.out).mono ?_)
  rintro e v2 ⟨rfl, h2⟩
  have H2 := Lib.hid h2
  clear h2
  clear fq y0 y1 y2 y3 y4 y5
  have cp2 : v2.cell? ⟨w.heap.size, 0, none⟩ = some (self b) := (H2.out.cell 2 rfl 0).trans rfl
  go_wp2_with fail
  (with_reducible refine ((C3.out _) _ H2.out).mono ?_)
  rintro e v3 ⟨rfl, h3⟩
  have H3 := Lib.hid h3
  clear h3
  have cp3 : v3.cell? ⟨w.heap.size, 0, none⟩ = some (self b) := (H3.out.cell 2 rfl 0).trans rfl
  go_wp2_with fail
  (with_reducible refine ((C4.out _) _ H3.out).mono ?_)
  rintro e v4 ⟨rfl, h4⟩
  have H4 := Lib.hid h4
  clear h4
  have cp4 : v4.cell? ⟨w.heap.size, 0, none⟩ = some (self b) := (H4.out.cell 2 rfl 0).trans rfl
  obtain ⟨y0, y1, y2, y3, y4, y5⟩ := cell6 (H4.out.cell 0 rfl)
  have fq := H4.out.fz 0 rfl
  have G4 := Lib.hid (((H4.out.set (by omega) 1 (.int .i64 (n2 : Int))).set (by omega) 2 (.int .i64 (n3 : Int))).set (by omega) 3 (.int .i64 (n4 : Int)))
  have cg4 := (G4.out.cell 2 rfl 0)
  go_wp2_with fail
  (with_reducible refine ((C5.out _) _ G4.out).mono ?_)
  rintro e v5 ⟨rfl, h5⟩
  have H5 := Lib.hid h5
  clear h5
  clear fq y0 y1 y2 y3 y4 y5
  have cp5 : v5.cell? ⟨w.heap.size, 0, none⟩ = some (self b) := (H5.out.cell 2 rfl 0).trans rfl
  obtain ⟨y0, y1, y2, y3, y4, y5⟩ := cell6 (H5.out.cell 0 rfl)
  have fq := H5.out.fz 0 rfl
  have G5 := Lib.hid (H5.out.set (by omega) 4 (.int .i64 (n5 : Int)))
  have cg5 := (G5.out.cell 2 rfl 0)
  go_wp2_with fail
  (with_reducible refine ((C6.out _) _ G5.out).mono ?_)
  rintro e v6 ⟨rfl, h6⟩
  have H6 := Lib.hid h6
  clear h6
  clear fq y0 y1 y2 y3 y4 y5
  have cp6 : v6.cell? ⟨w.heap.size, 0, none⟩ = some (self b) := (H6.out.cell 2 rfl 0).trans rfl
  obtain ⟨y0, y1, y2, y3, y4, y5⟩ := cell6 (H6.out.cell 0 rfl)
  have fq := H6.out.fz 0 rfl
  have G6 := Lib.hid (H6.out.set (by omega) 5 (.bool n6))
  obtain ⟨z0, z1, z2, z3, z4, z5⟩ := cell6 (G6.out.cell 0 rfl)
  obtain ⟨r0, r1, r2, r3, r4, r5⟩ := cell6 (G6.out.cell 1 rfl)
  have rf := G6.out.fz 1 rfl
  have HF := Lib.hid (ros6 G6.out.tail (by omega) (.int .i64 (n1 : Int)) (.int .i64 (n2 : Int)) (.int .i64 (n3 : Int)) (.int .i64 (n4 : Int)) (.int .i64 (n5 : Int)) (.bool n6))
  have QF := Lib.hid (HF.out.cell 0 rfl)
  go_wp2
  refine bodyPost_ret (ret_read _ (w.heap.size + 1) _ (.int .i64 (n1 : Int)) (.int .i64 (n2 : Int)) (.int .i64 (n3 : Int)) (.int .i64 (n4 : Int)) (.int .i64 (n5 : Int)) (.bool n6) rfl QF.out) rfl ⟨rfl, HF.out.rd, HF.out.ap⟩
end Go.Proofs.Ytnaanahgflbihaa.Tb
