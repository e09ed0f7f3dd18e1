/- Boxes beside the document's reader; the document's Read of a table. -/
import Derived.Test.YtnaanahgflbihaaTbW
import Derived.Test.YtnaanahgflbihaaTbDb
import Derived.Test.YtnaanahgflbihaaOpK
namespace Go.Proofs.Ytnaanahgflbihaa.Tb
open Go.ChangeShapes Go.WideShapes Go.ChangeAt Go.RowKit Go.Joins
open Ge (El Seen Row)
open Oc (mkB self Rd RD Apart left lt_of_heap int_dc flag_dc num_dc end_dc ended)
open Ox (num_left int_left' flag_left)
set_option maxRecDepth 100000
set_option maxRecDepth 100000
set_option linter.unusedVariables false
set_option linter.unusedSimpArgs false
/-- boxes of a call's own, beside a reader in block b -/
structure Rod (l : List (Nat × Array Value × Nat)) (b : Nat) (o : Oc.St) (w W : World) : Prop where
  at_ : ∀ x ∈ l, W.heap[x.1]? = some (.cells x.2.1 x.2.2 (0, 0)) ∧ x.1 ≠ b
  nd : (l.map (·.1)).Nodup
  rd : Rd RD b o W
  ap : Apart b w W
  le : left o ≤ 1000000
theorem Rod.step {l : List (Nat × Array Value × Nat)} {b : Nat} {o o' : Oc.St} {w W W' : World} (h : Rod l b o w W) (k : Rd RD b o' W') (hl : left o' ≤ left o) (m : Apart b W W') : Rod l b o' w W' :=
  ⟨fun x hx => ⟨(m.block x.1 (lt_of_heap (h.at_ x hx).1) (h.at_ x hx).2).trans (h.at_ x hx).1, (h.at_ x hx).2⟩, h.nd, k, h.ap.trans m, Nat.le_trans hl h.le⟩
theorem Rod.call {l : List (Nat × Array Value × Nat)} {b : Nat} {o : Oc.St} {w W W' : World} (h : Rod l b o w W) (hb : Below W.heap.size W W') : Rod l b o w W' := h.step (h.rd.call hb) (Nat.le_refl _) (Apart.of_below hb)
theorem rod_start {b : Nat} {o : Oc.St} {w : World} (k : Rd RD b o w) (hl : left o ≤ 1000000) : Rod [] b o w w := ⟨by simp, by simp, k, Apart.refl _ _, hl⟩
theorem Rod.new {l : List (Nat × Array Value × Nat)} {b : Nat} {o : Oc.St} {w W : World} (h : Rod l b o w W) (cs : Array Value) (T : Nat) : Rod ((W.heap.size, cs, T) :: l) b o w (W.alloc (.cells cs T)) := by
  have h' := h.call ((Below.refl W.heap.size W).alloc (Nat.le_refl _) (.cells cs T))
  refine ⟨fun x hx => ?_, ?_, h'.rd, h'.ap, h'.le⟩
  · rcases List.mem_cons.1 hx with rfl | hx
    · exact ⟨heap_alloc_new _ _, by have := h.rd.lt; simp only; omega⟩
    · exact h'.at_ x hx
  · rw [List.map_cons, List.nodup_cons]
    refine ⟨fun hm => ?_, h.nd⟩
    obtain ⟨x, hx, hxe⟩ := List.mem_map.1 hm
    have := lt_of_heap (h.at_ x hx).1
    simp only at hxe; omega
theorem Rod.cell {l : List (Nat × Array Value × Nat)} {b : Nat} {o' : Oc.St} {w W : World} (h : Rod l b o' w W) {p : Nat} {cs : Array Value} {T : Nat} (i : Nat) (hi : l[i]? = some (p, cs, T)) (o : Nat) : W.cell? ⟨p, o, none⟩ = cs[o]? := by
  rw [Lib.cell_of_heap (h.at_ _ (List.mem_of_getElem? hi)).1]
theorem Rod.fz {l : List (Nat × Array Value × Nat)} {b : Nat} {o' : Oc.St} {w W : World} (h : Rod l b o' w W) {p : Nat} {cs : Array Value} {T : Nat} (i : Nat) (hi : l[i]? = some (p, cs, T)) (o : Nat) : W.frozen? ⟨p, o, none⟩ = false := Lib.frozen_of_heap (h.at_ _ (List.mem_of_getElem? hi)).1 o
/-- the first box is written: it is not one of w -/
theorem Rod.set {l : List (Nat × Array Value × Nat)} {b : Nat} {o' : Oc.St} {w W : World} {p : Nat} {cs : Array Value} {T : Nat} (h : Rod ((p, cs, T) :: l) b o' w W) (hp : w.heap.size ≤ p) (o : Nat) (v : Value) : Rod ((p, cs.setIfInBounds o v, T) :: l) b o' w (W.setCell ⟨p, o, none⟩ v) := by
  have h0 := h.at_ _ (List.mem_cons_self)
  simp only at h0
  have hne : ∀ k, k ≠ p → (W.setCell ⟨p, o, none⟩ v).heap[k]? = W.heap[k]? := fun k hk => Below.heap_setCell _ _ _ _ hk
  have hnd := h.nd
  rw [List.map_cons, List.nodup_cons] at hnd
  refine ⟨fun x hx => ?_, by rw [List.map_cons, List.nodup_cons]; exact hnd, h.rd.of_block (hne b (Ne.symm h0.2)), ⟨h.ap.os, h.ap.tape, h.ap.output, by have := h.ap.size; simpa using this, fun k hk hkb => ?_⟩, h.le⟩
  · rcases List.mem_cons.1 hx with rfl | hx
    · exact ⟨by simp [World.setCell, Array.getElem?_modify, h0.1], h0.2⟩
    · have hx' := h.at_ x (List.mem_cons_of_mem _ hx)
      refine ⟨(hne x.1 (fun e => hnd.1 (List.mem_map.2 ⟨x, hx, e⟩))).trans hx'.1, hx'.2⟩
  · rw [hne k (by omega)]
    exact h.ap.block k hk hkb
theorem int_q {l : List (Nat × Array Value × Nat)} {b : Nat} {o : Oc.St} {w : World} (most : Int) (hm : (Lit.int .i64 most).wf = true) :
    ∀ W, Rod l b o w W → Calls Try.prog 48 #[self b, .int .i64 most] W fun e w' => e = .returned (.int .i64 ((Oc.int o most).1 : Int)) ∧ Rod l b (Oc.int o most).2 w w' := fun W h =>
  (int_dc b o most W h.rd hm h.le).mono fun e w' ⟨he, hr, ha⟩ => ⟨he, h.step hr (int_left' _ _) ha⟩
theorem flag_q {l : List (Nat × Array Value × Nat)} {b : Nat} {o : Oc.St} {w : World} :
    ∀ W, Rod l b o w W → Calls Try.prog 50 #[self b] W fun e w' => e = .returned (.bool (Oc.flag o).1) ∧ Rod l b (Oc.flag o).2 w w' := fun W h =>
  (flag_dc b o W h.rd h.le).mono fun e w' ⟨he, hr, ha⟩ => ⟨he, h.step hr (flag_left _) ha⟩
theorem Rod.tail {x : Nat × Array Value × Nat} {l : List (Nat × Array Value × Nat)} {b : Nat} {o : Oc.St} {w W : World} (h : Rod (x :: l) b o w W) : Rod l b o w W :=
  ⟨fun y hy => h.at_ y (List.mem_cons_of_mem _ hy), by have := h.nd; rw [List.map_cons, List.nodup_cons] at this; exact this.2, h.rd, h.ap, h.le⟩
theorem rod6 {L : List (Nat × Array Value × Nat)} {b : Nat} {o : Oc.St} {w W : World} {p : Nat} {T : Nat} {a0 a1 a2 a3 a4 a5 : Value} (h : Rod ((p, #[a0, a1, a2, a3, a4, a5], T) :: L) b o w W) (hp : w.heap.size ≤ p) (b0 b1 b2 b3 b4 b5 : Value) : Rod ((p, #[b0, b1, b2, b3, b4, b5], T) :: L) b o w ((((((W.setCell ⟨p, 0, none⟩ b0).setCell ⟨p, 1, none⟩ b1).setCell ⟨p, 2, none⟩ b2).setCell ⟨p, 3, none⟩ b3).setCell ⟨p, 4, none⟩ b4).setCell ⟨p, 5, none⟩ b5) :=
  (((((h.set hp 0 b0).set hp 1 b1).set hp 2 b2).set hp 3 b3).set hp 4 b4).set hp 5 b5
theorem num_q {l : List (Nat × Array Value × Nat)} {b : Nat} {o : Oc.St} {w : World} :
    ∀ W, Rod l b o w W → Calls Try.prog 49 #[self b, .int .u64 2147483648] W fun e w' => e = .returned (.int .u64 ((Oc.num o 2147483648).1 : Int)) ∧ Rod l b (Oc.num o 2147483648).2 w w' := fun W h =>
  (num_dc b o 2147483648 W h.rd (by omega) h.le).mono fun e w' ⟨he, hr, ha⟩ => ⟨he, h.step hr (num_left _ _) ha⟩
theorem row_apart_d {B : Nat} {W W' : World} {v : Value} {l : List Rw} {b : Nat} {o : Oc.St} (hr : Row Rw.cs 6 57 B W v l) (k : Rd RD b o W) (m : Apart b W W') : Row Rw.cs 6 57 B W' v l := by
  obtain ⟨s, hs⟩ := k.cells
  exact hr.of_blocks fun q hq => m.block q (hr.lt q hq).2 (fun e => row_ne hr hs (by decide) (by rw [hq, e]))
/-- a row that grows, beside boxes and a reader -/
theorem app_rdd {L : List (Nat × Array Value × Nat)} {w W : World} {v : Value} {l : List Rw} {b : Nat} {o : Oc.St} (x : Rw) (h : Bos L w W) (hn : NoRow L) (hr : Row Rw.cs 6 57 w.heap.size W v l) (k : Rd RD b o W) (hb : w.heap.size ≤ b) (hnb : ∀ y ∈ L, y.1 ≠ b) (hl : l.length ≤ 90000) :
    ∃ v' W', (Builtin.append_ #[22, 22] 22 #[v, .slice (some ⟨W.heap.size, 0, none⟩) 1 1]).run Try.prog (W.alloc (.cells #[.int .i64 x.t.id, .int .i64 x.t.c, .int .i64 x.t.d, .int .i64 x.t.t, .int .i64 x.t.m, .bool x.s] 57)) = .ok v' W' ∧ Row Rw.cs 6 57 w.heap.size W' v' (l ++ [x]) ∧ Bos L w W' ∧ Rd RD b o W' := by
  obtain ⟨s, hs⟩ := k.cells
  have h2 : Bos ((b, #[.string s, .bool (!o.isSome)], RD) :: L) w W := by
    refine ⟨fun y hy => ?_, ?_, h.bl⟩
    · rcases List.mem_cons.1 hy with rfl | hy
      · exact ⟨hs, hb⟩
      · exact h.at_ y hy
    · rw [List.map_cons, List.nodup_cons]
      refine ⟨fun hm => ?_, h.nd⟩
      obtain ⟨y, hy, e⟩ := List.mem_map.1 hm
      exact hnb y hy e
  have hn2 : NoRow ((b, #[.string s, .bool (!o.isSome)], RD) :: L) := fun y hy => by
    rcases List.mem_cons.1 hy with rfl | hy
    · exact (by decide : (RD : Nat) ≠ 57)
    · exact hn y hy
  obtain ⟨v', W', h1, h3, h4⟩ := app_new x h2 hn2 hr hl
  exact ⟨v', W', h1, h3, h4.sub (List.sublist_cons_self _ _), k.of_block (((h4.at_ _ List.mem_cons_self).1).trans hs.symm)⟩
theorem readWs_off (k : Nat) : readWs k none = ([], none) := by cases k <;> rfl
theorem readT_end {l : List UInt8} {rows : List Rw} {o : Oc.St} (h : readWs (Oc.int (Oc.int (some l) 3).2 16).1 (Oc.int (Oc.int (some l) 3).2 16).2 = (rows, o)) :
    (ended o = false ∧ readT l = (tb0, 10)) ∨ (ended o = true ∧ bytesT ⟨rows, ((Oc.int (some l) 3).1 : Int)⟩ = (⟨#[]⟩, 1) ∧ readT l = (tb0, 10)) ∨ (ended o = true ∧ bytesT ⟨rows, ((Oc.int (some l) 3).1 : Int)⟩ = (mkB l, 0) ∧ readT l = (⟨rows, ((Oc.int (some l) 3).1 : Int)⟩, 0)) := by
  have f := readT_fin h
  have e : readM (some l) = (⟨rows, ((Oc.int (some l) 3).1 : Int)⟩, o) := by unfold readM; simp only; rw [h]
  have he : ended o = true ↔ o = some [] := by unfold ended; simp
  cases h1 : ended o with
  | false => exact .inl ⟨rfl, by rw [f, if_neg (by rw [h1]; simp)]⟩
  | true =>
    cases h2 : chkT ⟨rows, ((Oc.int (some l) 3).1 : Int)⟩ with
    | false => exact .inr (.inl ⟨rfl, by unfold bytesT; rw [if_neg (by rw [h2]; simp)], by rw [f, if_neg (by rw [h2]; simp)]⟩)
    | true =>
      have h3 : (readM (some l)).2 = some [] := by rw [e]; exact he.1 h1
      have h4 := readM_took h3
      rw [e, List.append_nil] at h4
      exact .inr (.inr ⟨rfl, by unfold bytesT; rw [if_pos h2]; rw [← h4], by rw [f, if_pos ⟨h1, h2⟩]⟩)
def RrdRel (n b p : Nat) (m : Int) (o1 : Oc.St) (w : World) (g : Nat) (s : Value) (wx : World) : Prop :=
  ∃ (i : Nat) (o : Oc.St) (rows : List Rw) (v : Value), i + g = n ∧ s = .int .i64 (i : Int) ∧ Bos [(p, #[v, .int .i64 m], 24), (w.heap.size, #[.slice none 0 0, .int .i64 0], 24)] w wx ∧ Rd RD b o wx ∧ Row Rw.cs 6 57 w.heap.size wx v rows ∧ left o ≤ 1000000 ∧ rows.length = i ∧ readWs n o1 = (rows ++ (readWs (n - i) o).1, (readWs (n - i) o).2)
set_option maxHeartbeats 8000000 in
theorem rreadt_any (l : List UInt8) (w : World) (hl : l.length ≤ 1000000) :
    Calls Try.prog 22 #[.string (mkB l)] w fun e w' => ∃ v, e = .returned (.tuple #[v, .int .i64 (readT l).2]) ∧ Told v (readT l).1 w' ∧ Below w.heap.size w w' := by
  have R0 := Lib.hid ((bos_nil w).new #[.slice none 0 0, .int .i64 0] 24)
  have K0 : Rd RD (w.heap.size + 1) (some l) ((w.alloc (.cells #[.slice none 0 0, .int .i64 0] 24)).alloc (.cells #[.string (mkB l), .bool false] RD)) := by
    have := heap_alloc_new (w.alloc (.cells #[.slice none 0 0, .int .i64 0] 24)) (.cells #[.string (mkB l), .bool false] RD)
    rw [World.size_alloc] at this
    exact this
  have I1 := Lib.hid (fun W (k : Rd RD (w.heap.size + 1) (some l) W) => int_dc (w.heap.size + 1) (some l) 3 W k (by decide) hl)
  have FIN := Lib.hid (fun rows o => readT_end (l := l) (rows := rows) (o := o))
  have M3 : (Oc.int (some l) 3).1 ≤ 3 := Oc.num_most (some l) 3
  have L1 := Nat.le_trans (int_left' (some l) 3) hl
  have M16 : (Oc.int (Oc.int (some l) 3).2 16).1 ≤ 16 := Oc.num_most (Oc.int (some l) 3).2 16
  have L2 := Nat.le_trans (int_left' (Oc.int (some l) 3).2 16) L1
  have I2 := Lib.hid (fun W (k : Rd RD (w.heap.size + 1) (Oc.int (some l) 3).2 W) => int_dc (w.heap.size + 1) (Oc.int (some l) 3).2 16 W k (by decide) L1)
  generalize readT l = R at *
  generalize Oc.int (some l) 3 = y1 at *
  obtain ⟨m, o0⟩ := y1
  simp only at *
  generalize Oc.int o0 16 = y2 at *
  obtain ⟨n, o1⟩ := y2
  simp only at *
  have K0 := Lib.hid K0
  have HL := Lib.hid L2
  have R1 := Lib.hid (R0.out.call ((Below.refl _ _).alloc (Nat.le_refl _) (.cells #[.string (mkB l), .bool false] RD)))
  have NB : Hid (∀ x ∈ ([(w.heap.size, #[.slice none 0 0, .int .i64 0], 24)] : List (Nat × Array Value × Nat)), x.1 ≠ w.heap.size + 1) := Lib.hid (by
    intro x hx
    rw [List.mem_singleton.1 hx]
    show w.heap.size ≠ w.heap.size + 1
    omega)
  clear L1 L2 hl R0
  generalize mkB l = X at *
  go_enter Try.func22, Try.ntmps22
  go_wp2_with fail
  (with_reducible refine (I1.out _ K0.out).mono ?_)
  rintro e w2 ⟨rfl, k2, a2⟩
  have K2 := Lib.hid k2
  have R2 := Lib.hid (R1.out.apart a2 (by omega) NB.out)
  clear k2 a2 I1 K0 R1
  have K3 := Lib.hid (K2.out.call ((Below.refl _ _).alloc (Nat.le_refl _) (.cells #[.slice none 0 0, .int .i64 (m : Int)] 24)))
  have NRO : Hid (∀ (a c : Array Value) (q g : Nat), NoRow [(q, a, 24), (g, c, 24)]) := Lib.hid (by
    intro a c q g x hx
    rcases List.mem_cons.1 hx with rfl | hx
    · exact (by decide : (24 : Nat) ≠ 57)
    · rw [List.mem_singleton.1 hx]
      exact (by decide : (24 : Nat) ≠ 57))
  have R3 := Lib.hid (R2.out.new #[.slice none 0 0, .int .i64 (m : Int)] 24)
  have PN : w.heap.size + 1 < w2.heap.size := K2.out.lt
  have NC : Hid (∀ v : Value, ∀ x ∈ ([(w2.heap.size, #[v, .int .i64 (m : Int)], 24), (w.heap.size, #[.slice none 0 0, .int .i64 0], 24)] : List (Nat × Array Value × Nat)), x.1 ≠ w.heap.size + 1) := Lib.hid (by
    intro v x hx
    rcases List.mem_cons.1 hx with rfl | hx
    · show w2.heap.size ≠ w.heap.size + 1
      omega
    · rw [List.mem_singleton.1 hx]
      show w.heap.size ≠ w.heap.size + 1
      omega)
  clear K2 R2 NB
  go_wp2_with fail
  generalize (w2.alloc (.cells #[.slice none 0 0, .int .i64 (m : Int)] 24)) = w3 at *
  generalize w2.heap.size = p at *
  (with_reducible refine (I2.out _ K3.out).mono ?_)
  rintro e w4 ⟨rfl, k4, a4⟩
  have K4 := Lib.hid k4
  have R4 := Lib.hid (R3.out.apart a4 (by omega) (NC.out _))
  clear k4 a4 I2 K3 R3
  have G0 : Hid (RrdRel n (w.heap.size + 1) p m o1 w n (.int .i64 0) w4) := Lib.hid ⟨0, o1, [], .slice none 0 0, Nat.zero_add _, rfl, R4.out, K4.out, Ge.row_nil _ _, HL.out, rfl, rfl⟩
  go_wp2_with fail
  go_loopg [7] n (RrdRel n (w.heap.size + 1) p m o1 w)
  case atStart => exact G0.out
  case round =>
    obtain ⟨i, o, rows, v, hi, rfl, hB, hR, hrow, hle, hlen, hE⟩ := hrel
    clear G0 R4 K4
    obtain ⟨s, hcs⟩ := hR.cells
    have bad : wr.cell? ⟨w.heap.size + 1, 1, none⟩ = some (.bool (!o.isSome)) := by rw [Lib.cell_of_heap hcs]; rfl
    clear hcs
    by_cases hlt : i < n ∧ o.isSome = true
    · obtain ⟨hlt, hso⟩ := hlt
      obtain ⟨x, rfl⟩ := Option.isSome_iff_exists.1 hso
      have i1 : (i : Int) < (n : Int) := by omega
      obtain ⟨k, hk⟩ : ∃ k, n - i = k + 1 := ⟨n - i - 1, by omega⟩
      have hE : readWs n o1 = (rows ++ ((readW (some x)).1 :: (readWs k (readW (some x)).2).1), (readWs k (readW (some x)).2).2) := by rw [hE, hk]; rfl
      have LW : left (readW (some x)).2 ≤ 1000000 := Nat.le_trans (readW_left _) hle
      have E : readW (some x) = (⟨⟨(Oc.int (some x) 1023).1, (Oc.num (Oc.int (some x) 1023).2 2147483648).1, (Oc.num (Oc.num (Oc.int (some x) 1023).2 2147483648).2 2147483648).1, (Oc.num (Oc.num (Oc.num (Oc.int (some x) 1023).2 2147483648).2 2147483648).2 2147483648).1, (Oc.int (Oc.num (Oc.num (Oc.num (Oc.int (some x) 1023).2 2147483648).2 2147483648).2 2147483648).2 15).1⟩, (Oc.flag (Oc.int (Oc.num (Oc.num (Oc.num (Oc.int (some x) 1023).2 2147483648).2 2147483648).2 2147483648).2 15).2).1⟩, (Oc.flag (Oc.int (Oc.num (Oc.num (Oc.num (Oc.int (some x) 1023).2 2147483648).2 2147483648).2 2147483648).2 15).2).2) := rfl
      rw [E] at hE LW
      clear E
      have Q0 : Hid (Rod [(wr.heap.size, #[.int .i64 0, .int .i64 0, .int .i64 0, .int .i64 0, .int .i64 0, .bool false], 57)] (w.heap.size + 1) (some x) wr (wr.alloc (.cells #[.int .i64 0, .int .i64 0, .int .i64 0, .int .i64 0, .int .i64 0, .bool false] 57))) := Lib.hid ((rod_start hR hle).new #[.int .i64 0, .int .i64 0, .int .i64 0, .int .i64 0, .int .i64 0, .bool false] 57)
      have C1 := Lib.hid (fun cs => int_q (l := [(wr.heap.size, cs, 57)]) (b := w.heap.size + 1) (o := some x) (w := wr) 1023 (by decide))
      generalize Oc.int (some x) 1023 = x1 at *
      obtain ⟨n1, q1⟩ := x1
      simp only at *
      have z2 := Oc.num_most q1 2147483648
      have C2 := Lib.hid (fun cs => num_q (l := [(wr.heap.size, cs, 57)]) (b := w.heap.size + 1) (o := q1) (w := wr))
      generalize Oc.num q1 2147483648 = x2 at *
      obtain ⟨n2, q2⟩ := x2
      simp only at *
      have z3 := Oc.num_most q2 2147483648
      have C3 := Lib.hid (fun cs => num_q (l := [(wr.heap.size, cs, 57)]) (b := w.heap.size + 1) (o := q2) (w := wr))
      generalize Oc.num q2 2147483648 = x3 at *
      obtain ⟨n3, q3⟩ := x3
      simp only at *
      have z4 := Oc.num_most q3 2147483648
      have C4 := Lib.hid (fun cs => num_q (l := [(wr.heap.size, cs, 57)]) (b := w.heap.size + 1) (o := q3) (w := wr))
      generalize Oc.num q3 2147483648 = x4 at *
      obtain ⟨n4, q4⟩ := x4
      simp only at *
      have C5 := Lib.hid (fun cs => int_q (l := [(wr.heap.size, cs, 57)]) (b := w.heap.size + 1) (o := q4) (w := wr) 15 (by decide))
      generalize Oc.int q4 15 = x5 at *
      obtain ⟨n5, q5⟩ := x5
      simp only at *
      have C6 := Lib.hid (fun cs => flag_q (l := [(wr.heap.size, cs, 57)]) (b := w.heap.size + 1) (o := q5) (w := wr))
      generalize Oc.flag q5 = x6 at *
      obtain ⟨n6, q6⟩ := x6
      simp only at *
      have u2 : IntKind.i64.wrap (n2 : Int) = (n2 : Int) := IntWalk.i64_in _ (by omega)
      have u3 : IntKind.i64.wrap (n3 : Int) = (n3 : Int) := IntWalk.i64_in _ (by omega)
      have u4 : IntKind.i64.wrap (n4 : Int) = (n4 : Int) := IntWalk.i64_in _ (by omega)
      have HE := Lib.hid hE
      have HB := Lib.hid hB
      have HR := Lib.hid hR
      have HW := Lib.hid hrow
      have HLW := Lib.hid LW
      have HLN := Lib.hid hlen
      have HI := Lib.hid hi
      have HK := Lib.hid hk
      have HLT := Lib.hid hlt
      have WP : Hid (w.heap.size ≤ wr.heap.size) := Lib.hid hB.bl.size
      clear hE hB hR hrow LW hlen hi hk hlt hle hso z2 z3 z4
      simp only [Option.isSome_some, Bool.not_true] at bad
      go_wp2_with fail
      (with_reducible refine ((C1.out _) _ Q0.out).mono ?_)
      rintro e v1 ⟨rfl, h1⟩
      have H1 := Lib.hid h1
      clear h1 C1 Q0 bad
      obtain ⟨y0, y1, y2, y3, y4, y5⟩ := cell6 (H1.out.cell 0 rfl)
      have fq := H1.out.fz 0 rfl
      have G1 := Lib.hid (H1.out.set (by omega) 0 (.int .i64 (n1 : Int)))
      go_wp2_with fail
      (with_reducible refine ((C2.out _) _ G1.out).mono ?_)
      rintro e v2 ⟨rfl, h2⟩
      have H2 := Lib.hid h2
      clear h2 fq y0 y1 y2 y3 y4 y5 C2 G1 H1
      obtain ⟨y0, y1, y2, y3, y4, y5⟩ := cell6 (H2.out.cell 0 rfl)
      have fq := H2.out.fz 0 rfl
      have G2 := Lib.hid (H2.out.set (by omega) 1 (.int .i64 (n2 : Int)))
      go_wp2_with fail
      (with_reducible refine ((C3.out _) _ G2.out).mono ?_)
      rintro e v3 ⟨rfl, h3⟩
      have H3 := Lib.hid h3
      clear h3 fq y0 y1 y2 y3 y4 y5 C3 G2 H2
      obtain ⟨y0, y1, y2, y3, y4, y5⟩ := cell6 (H3.out.cell 0 rfl)
      have fq := H3.out.fz 0 rfl
      have G3 := Lib.hid (H3.out.set (by omega) 2 (.int .i64 (n3 : Int)))
      go_wp2_with fail
      (with_reducible refine ((C4.out _) _ G3.out).mono ?_)
      rintro e v4 ⟨rfl, h4⟩
      have H4 := Lib.hid h4
      clear h4 fq y0 y1 y2 y3 y4 y5 C4 G3 H3
      obtain ⟨y0, y1, y2, y3, y4, y5⟩ := cell6 (H4.out.cell 0 rfl)
      have fq := H4.out.fz 0 rfl
      have G4 := Lib.hid (H4.out.set (by omega) 3 (.int .i64 (n4 : Int)))
      go_wp2_with fail
      (with_reducible refine ((C5.out _) _ G4.out).mono ?_)
      rintro e v5 ⟨rfl, h5⟩
      have H5 := Lib.hid h5
      clear h5 fq y0 y1 y2 y3 y4 y5 C5 G4 H4
      obtain ⟨y0, y1, y2, y3, y4, y5⟩ := cell6 (H5.out.cell 0 rfl)
      have fq := H5.out.fz 0 rfl
      have G5 := Lib.hid (H5.out.set (by omega) 4 (.int .i64 (n5 : Int)))
      go_wp2_with fail
      (with_reducible refine ((C6.out _) _ G5.out).mono ?_)
      rintro e v6 ⟨rfl, h6⟩
      have H6 := Lib.hid h6
      clear h6 fq y0 y1 y2 y3 y4 y5 C6 G5 H5
      obtain ⟨y0, y1, y2, y3, y4, y5⟩ := cell6 (H6.out.cell 0 rfl)
      have fq := H6.out.fz 0 rfl
      have G6 := Lib.hid (H6.out.set (by omega) 5 (.bool n6))
      have AP := Lib.hid G6.out.ap
      have HB := Lib.hid (HB.out.apart AP.out (by omega) (NC.out _))
      have HW := Lib.hid (row_apart_d HW.out HR.out AP.out)
      have HR := Lib.hid G6.out.rd
      obtain ⟨o0, o1', o2, o3, o4, o5⟩ := cell6 (G6.out.cell 0 rfl)
      obtain ⟨p0, p1⟩ := cell2 (HB.out.cell 0 rfl)
      obtain ⟨va, vk, vc, rfl⟩ : ∃ va vk vc, v = .slice va vk vc := by obtain ⟨ao, cap, e, -⟩ := Row.form cs_len HW.out; exact ⟨_, _, _, e⟩
      go_upto_region 14 with (fail)
      clear H6 AP fq y0 y1 y2 y3 y4 y5
      generalize v6.setCell ⟨wr.heap.size, 5, none⟩ (.bool n6) = wk at *
      obtain ⟨v7, w8, ap7, r7, h7, k7⟩ := app_rdd ⟨⟨(n1 : Int), (n2 : Int), (n3 : Int), (n4 : Int), (n5 : Int)⟩, n6⟩ HB.out (NRO.out _ _ _ _) HW.out HR.out (by omega) (NC.out _) (by have := HLN.out; omega)
      simp only at ap7
      have R7 := Lib.hid r7
      have H7 := Lib.hid h7
      have K7 := Lib.hid k7
      obtain ⟨va4, vk4, vc4, rfl⟩ : ∃ va vk vc, v7 = .slice va vk vc := by obtain ⟨ao, cap, e, -⟩ := Row.form cs_len R7.out; exact ⟨_, _, _, e⟩
      obtain ⟨s0, s1⟩ := cell2 (H7.out.cell 0 rfl)
      have sf := H7.out.fz 0 rfl
      have H9 := Lib.hid (H7.out.set 0 rfl 0 (.slice va4 vk4 vc4))
      have R9 := Lib.hid (row_set R7.out H7.out 0 rfl (by decide) 0 (.slice va4 vk4 vc4))
      have K9 : Hid (Rd RD (w.heap.size + 1) q6 (w8.setCell ⟨p, 0, none⟩ (.slice va4 vk4 vc4))) := Lib.hid (K7.out.of_block (Below.heap_setCell _ _ _ _ (by show w.heap.size + 1 ≠ p; omega)))
      clear HR HB HW G6 r7 h7 k7
      go_wp2_with (at_builtin; refine Lib.wpList_append_run _ rfl _ _ _ _ rfl _ _ rfl rfl _ _ ap7 ?_)
      go_roundg (gk - 1)
      case measure => have := HI.out; have := HLT.out; omega
      case rel => exact ⟨i + 1, q6, rows ++ [⟨⟨(n1 : Int), (n2 : Int), (n3 : Int), (n4 : Int), (n5 : Int)⟩, n6⟩], .slice va4 vk4 vc4, by have := HI.out; have := HLT.out; omega, by go_num, H9.out, K9.out, R9.out, HLW.out, by rw [List.length_append, HLN.out]; rfl, by rw [HE.out, show n - (i + 1) = k by have := HK.out; omega, List.append_assoc]; rfl⟩
    · have hE2 : readWs n o1 = (rows, o) := by
        rw [hE]
        cases o with
        | none => rw [readWs_off, List.append_nil]
        | some x =>
          have hi0 : n - i = 0 := by
            rcases Nat.lt_or_ge i n with h | h
            · exact absurd ⟨h, rfl⟩ hlt
            · omega
          rw [hi0]
          show (rows ++ [], some x) = _
          rw [List.append_nil]
      have EQ := FIN.out rows o hE2
      have two : ((n : Int) ≤ (i : Int)) ∨ ((i : Int) < (n : Int) ∧ wr.cell? ⟨w.heap.size + 1, 1, none⟩ = some (.bool true)) := by
        rcases Nat.lt_or_ge i n with h | h
        · refine .inr ⟨by omega, ?_⟩
          cases o with
          | none => exact bad
          | some x => exact absurd ⟨h, rfl⟩ hlt
        · exact .inl (by omega)
      have i16 : rows.length ≤ 16 := by omega
      have ED := Lib.hid (fun W (k : Rd RD (w.heap.size + 1) o W) => end_dc (w.heap.size + 1) o W k)
      obtain ⟨ao, cap, hs⟩ := row_sl hrow
      obtain rfl := hs.eq
      have BY := Lib.hid (rbytest_any ⟨rows, (m : Int)⟩ ao cap wr hs.seen (by show rows.length ≤ 1000; omega))
      unfold tv at BY
      simp only at BY
      have HB := Lib.hid hB
      have HS := Lib.hid hs
      have HR := Lib.hid hR
      clear FIN hE hE2 hB hs hR hrow hle NC NRO bad hlt hi hlen i16
      obtain ⟨p0, p1⟩ := cell2 (HB.out.cell 0 rfl)
      generalize bytesT ⟨rows, (m : Int)⟩ = bt at *
      obtain ⟨b1, b2⟩ := bt
      simp only at BY EQ
      generalize ended o = en at *
      rcases EQ with ⟨rfl, rfl⟩ | ⟨rfl, hb, rfl⟩ | ⟨rfl, hb, rfl⟩
      · rcases two with h2 | ⟨h2, h3⟩ <;>
        · go_wp2_with fail
          (with_reducible refine BY.out.mono ?_)
          rintro e w8 ⟨rfl, b8⟩
          have HB := Lib.hid (HB.out.call b8)
          have HS := Lib.hid (HS.out.call b8)
          have HR := Lib.hid (HR.out.call b8)
          clear b8 BY p0 p1
          go_wp2_with fail
          (with_reducible refine (ED.out _ HR.out).mono ?_)
          rintro e w9 ⟨rfl, rfl⟩
          obtain ⟨z0, z1⟩ := cell2 (HB.out.cell 1 rfl)
          have zf := HB.out.fz 1 rfl
          have HF := Lib.hid ((HB.out.set 1 rfl 0 (.slice none 0 0)).set 1 rfl 1 (.int .i64 0))
          obtain ⟨q0, q1⟩ := cell2 (HF.out.cell 1 rfl)
          go_wp2
          refine bodyPost_ret (v := .tuple #[.agg #[.slice none 0 0, .int .i64 0], .int .i64 10]) (by simp [results, Try.results22, go_sem, q0, q1]) rfl ⟨_, rfl, told_zero _, HF.out.bl⟩
      · simp only [Prod.mk.injEq] at hb
        obtain ⟨rfl, rfl⟩ := hb
        rcases two with h2 | ⟨h2, h3⟩ <;>
        · go_wp2_with fail
          (with_reducible refine BY.out.mono ?_)
          rintro e w8 ⟨rfl, b8⟩
          have HB := Lib.hid (HB.out.call b8)
          have HS := Lib.hid (HS.out.call b8)
          have HR := Lib.hid (HR.out.call b8)
          clear b8 BY p0 p1
          go_wp2_with fail
          (with_reducible refine (ED.out _ HR.out).mono ?_)
          rintro e w9 ⟨rfl, rfl⟩
          obtain ⟨z0, z1⟩ := cell2 (HB.out.cell 1 rfl)
          have zf := HB.out.fz 1 rfl
          have HF := Lib.hid ((HB.out.set 1 rfl 0 (.slice none 0 0)).set 1 rfl 1 (.int .i64 0))
          obtain ⟨q0, q1⟩ := cell2 (HF.out.cell 1 rfl)
          go_wp2
          refine bodyPost_ret (v := .tuple #[.agg #[.slice none 0 0, .int .i64 0], .int .i64 10]) (by simp [results, Try.results22, go_sem, q0, q1]) rfl ⟨_, rfl, told_zero _, HF.out.bl⟩
      · simp only [Prod.mk.injEq] at hb
        obtain ⟨rfl, rfl⟩ := hb
        rcases two with h2 | ⟨h2, h3⟩ <;>
        · go_wp2_with fail
          (with_reducible refine BY.out.mono ?_)
          rintro e w8 ⟨rfl, b8⟩
          have HB := Lib.hid (HB.out.call b8)
          have HS := Lib.hid (HS.out.call b8)
          have HR := Lib.hid (HR.out.call b8)
          clear b8 BY p0 p1
          go_wp2_with fail
          (with_reducible refine (ED.out _ HR.out).mono ?_)
          rintro e w9 ⟨rfl, rfl⟩
          obtain ⟨p0, p1⟩ := cell2 (HB.out.cell 0 rfl)
          obtain ⟨z0, z1⟩ := cell2 (HB.out.cell 1 rfl)
          have zf := HB.out.fz 1 rfl
          have HF := Lib.hid ((HB.out.set 1 rfl 0 (.slice ao rows.length cap)).set 1 rfl 1 (.int .i64 (m : Int)))
          have SF := Lib.hid ((HS.out.set HB.out 1 rfl (by simp) 0 (.slice ao rows.length cap)).set (HB.out.set 1 rfl 0 (.slice ao rows.length cap)) 1 rfl (by simp) 1 (.int .i64 (m : Int)))
          obtain ⟨q0, q1⟩ := cell2 (HF.out.cell 1 rfl)
          go_wp2
          refine bodyPost_ret (v := .tuple #[.agg #[.slice ao rows.length cap, .int .i64 (m : Int)], .int .i64 0]) (by simp [results, Try.results22, go_sem, q0, q1]) rfl ⟨_, rfl, ⟨ao, cap, rfl, SF.out⟩, HF.out.bl⟩
end Go.Proofs.Ytnaanahgflbihaa.Tb
