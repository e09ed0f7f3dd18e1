/- The document's Bytes. -/
import Derived.Test.YtnaanahgflbihaaOpG
namespace Go.Proofs.Ytnaanahgflbihaa.Ox
open Go.ChangeShapes Go.WideShapes Go.ChangeAt Go.RowKit Go.Joins
open Oc
open Pm (Tk chk chk_iff)
set_option maxRecDepth 100000
set_option maxRecDepth 100000
set_option linter.unusedVariables false
set_option linter.unusedSimpArgs false
theorem rbytes_no (o : Od) (w : World) (h : chkR o = false) :
    Calls Try.prog 23 #[o.v] w fun e w' => e = .returned (.tuple #[.string ⟨#[]⟩, .int .i64 1]) ∧ Below w.heap.size w w' := by
  have CK := Lib.hid (rcheck_any o)
  rw [h] at CK
  have HZ := Lib.hid (box_call w o)
  have K0 := Lib.hid (box_cells w o)
  clear h
  obtain ⟨k, ⟨i, c, d, t, m⟩, s, id, cc, mo⟩ := o
  unfold Od.v Od.cs at *
  simp only at *
  obtain ⟨a0, a1, a2, a3, a4, a5, a6, a7, a8, a9⟩ := K0.out
  go_enter Try.func23, Try.ntmps23
  go_wp2_with fail
  (with_reducible refine (CK.out _).mono ?_)
  rintro e w1 ⟨rfl, b1⟩
  have B1 := Lib.hid (HZ.out w1 b1).2
  clear b1 HZ CK a0 a1 a2 a3 a4 a5 a6 a7 a8 a9
  go_wp2
  exact bodyPost_ret (v := .tuple #[.string ⟨#[]⟩, .int .i64 1]) (by simp [results, Try.results23, go_sem]) rfl ⟨rfl, B1.out⟩
/-- an op in its box, behind calls -/
structure Bx (p : Nat) (cs : Array Value) (w W : World) : Prop where
  at_ : W.heap[p]? = some (.cells cs 29 (0, 0))
  bl : Below w.heap.size w W
theorem Bx.call {p : Nat} {cs : Array Value} {w W W' : World} (h : Bx p cs w W) (hb : Below W.heap.size W W') : Bx p cs w W' := ⟨(hb.block p (lt_of_heap h.at_)).trans h.at_, h.bl.trans (hb.mono h.bl.size)⟩
theorem Bx.cell {p : Nat} {cs : Array Value} {w W : World} (h : Bx p cs w W) (o : Nat) : W.cell? ⟨p, o, none⟩ = cs[o]? := by rw [Lib.cell_of_heap h.at_]
theorem bx_new (w : World) (cs : Array Value) : Bx w.heap.size cs w (w.alloc (.cells cs 29)) := ⟨heap_alloc_new _ _, (Below.refl w.heap.size w).alloc (Nat.le_refl _) _⟩
theorem mkB_app (a b : List UInt8) : mkB a ++ mkB b = mkB (a ++ b) := by rw [app_mkB, mkB_data]
theorem add_run (a b c : ByteArray) (ha : a.size ≤ 100) (hb : b.size ≤ 100) (h : a ++ b = c) (w : World) : (Op.stringOp .add a b).run Try.prog w = .ok (.string c) w := by
  rw [run_string_add_sum w a b (by omega), h]
theorem sz9 {n : Nat} (h : n < 18446744073709551616) : (mkB (enc n)).size ≤ 9 := by rw [mkB_size]; exact enc_len9 h
theorem szF (f : Bool) : (mkB (encFlag f)).size ≤ 9 := by rw [mkB_size]; unfold encFlag; exact enc_len9 (by split <;> decide)
theorem rint_c (n : Int) (h : 0 ≤ n ∧ n ≤ 1000000) (w : World) : Calls Try.prog 40 #[.int .i64 n] w fun e w' => e = .returned (.string (mkB (encInt n))) ∧ Below w.heap.size w w' := int_rf n w (int_wf h.1 h.2)
theorem rnum_c (n : Int) (h : 0 ≤ n ∧ n ≤ 2147483648) (w : World) : Calls Try.prog 41 #[.int .u64 n] w fun e w' => e = .returned (.string (mkB (enc n.toNat))) ∧ Below w.heap.size w w' := by
  have := num_rf n.toNat w (by omega)
  rw [show (n.toNat : Int) = n by omega] at this
  exact this
set_option maxHeartbeats 1000000 in
theorem rbytes_remove (i : Int) (w : World) (h : chkR ⟨2, tk0, false, i, 0, 0⟩ = true) (hi : 0 ≤ i ∧ i ≤ 1023) :
    Calls Try.prog 23 #[Od.v ⟨2, tk0, false, i, 0, 0⟩] w fun e w' => e = .returned (.tuple #[.string (mkB (encO ⟨2, tk0, false, i, 0, 0⟩)), .int .i64 0]) ∧ Below w.heap.size w w' := by
  have CK := Lib.hid (rcheck_any ⟨2, tk0, false, i, 0, 0⟩)
  rw [h] at CK
  have H0 := Lib.hid (bx_new w (Od.cs ⟨2, tk0, false, i, 0, 0⟩))
  have C0 := Lib.hid (rint_c 2 (by decide))
  have z0 : (mkB (encInt 2)).size ≤ 9 := sz9 (by decide)
  have C1 := Lib.hid (rint_c i ⟨by omega, by omega⟩)
  have z1 : (mkB (encInt i)).size ≤ 9 := sz9 (by omega)
  have ap : mkB (encInt 2) ++ mkB (encInt i) = mkB (encO ⟨2, tk0, false, i, 0, 0⟩) := by rw [mkB_app]; rfl
  clear h hi
  generalize mkB (encO ⟨2, tk0, false, i, 0, 0⟩) = E at *
  generalize mkB (encInt 2) = s0 at *
  generalize mkB (encInt i) = s1 at *
  simp only [Od.v, Od.cs, tk0] at *
  obtain ⟨a0, a1, a2, a3, a4, a5, a6, a7, a8, a9⟩ := cons10 H0.out.cell
  go_enter Try.func23, Try.ntmps23
  go_wp2_with fail
  (with_reducible refine (CK.out _).mono ?_)
  rintro e w1 ⟨rfl, b1⟩
  have H1 := Lib.hid (H0.out.call b1)
  clear b1 CK H0 a0 a1 a2 a3 a4 a5 a6 a7 a8 a9
  obtain ⟨a0, a1, a2, a3, a4, a5, a6, a7, a8, a9⟩ := cons10 H1.out.cell
  go_wp2_with fail
  (with_reducible refine (C0.out _).mono ?_)
  rintro e w2 ⟨rfl, b2⟩
  have H2 := Lib.hid (H1.out.call b2)
  clear b2 C0 H1 a0 a1 a2 a3 a4 a5 a6 a7 a8 a9
  obtain ⟨a0, a1, a2, a3, a4, a5, a6, a7, a8, a9⟩ := cons10 H2.out.cell
  go_wp2_with fail
  (with_reducible refine (C1.out _).mono ?_)
  rintro e w3 ⟨rfl, b3⟩
  have FIN := Lib.hid (H2.out.call b3).bl
  clear b3 C1 H2 a0 a1 a2 a3 a4 a5 a6 a7 a8 a9
  go_wp2
  exact bodyPost_ret (v := .tuple #[.string E, .int .i64 0]) (by simp [results, Try.results23, go_sem]) rfl ⟨rfl, FIN.out⟩
set_option maxHeartbeats 1000000 in
theorem rbytes_mode (m : Int) (w : World) (h : chkR ⟨4, tk0, false, 0, 0, m⟩ = true) (hi : 0 ≤ m ∧ m ≤ 1023) :
    Calls Try.prog 23 #[Od.v ⟨4, tk0, false, 0, 0, m⟩] w fun e w' => e = .returned (.tuple #[.string (mkB (encO ⟨4, tk0, false, 0, 0, m⟩)), .int .i64 0]) ∧ Below w.heap.size w w' := by
  have CK := Lib.hid (rcheck_any ⟨4, tk0, false, 0, 0, m⟩)
  rw [h] at CK
  have H0 := Lib.hid (bx_new w (Od.cs ⟨4, tk0, false, 0, 0, m⟩))
  have C0 := Lib.hid (rint_c 4 (by decide))
  have z0 : (mkB (encInt 4)).size ≤ 9 := sz9 (by decide)
  have C1 := Lib.hid (rint_c m ⟨by omega, by omega⟩)
  have z1 : (mkB (encInt m)).size ≤ 9 := sz9 (by omega)
  have ap : mkB (encInt 4) ++ mkB (encInt m) = mkB (encO ⟨4, tk0, false, 0, 0, m⟩) := by rw [mkB_app]; rfl
  clear h hi
  generalize mkB (encO ⟨4, tk0, false, 0, 0, m⟩) = E at *
  generalize mkB (encInt 4) = s0 at *
  generalize mkB (encInt m) = s1 at *
  simp only [Od.v, Od.cs, tk0] at *
  obtain ⟨a0, a1, a2, a3, a4, a5, a6, a7, a8, a9⟩ := cons10 H0.out.cell
  go_enter Try.func23, Try.ntmps23
  go_wp2_with fail
  (with_reducible refine (CK.out _).mono ?_)
  rintro e w1 ⟨rfl, b1⟩
  have H1 := Lib.hid (H0.out.call b1)
  clear b1 CK H0 a0 a1 a2 a3 a4 a5 a6 a7 a8 a9
  obtain ⟨a0, a1, a2, a3, a4, a5, a6, a7, a8, a9⟩ := cons10 H1.out.cell
  go_wp2_with fail
  (with_reducible refine (C0.out _).mono ?_)
  rintro e w2 ⟨rfl, b2⟩
  have H2 := Lib.hid (H1.out.call b2)
  clear b2 C0 H1 a0 a1 a2 a3 a4 a5 a6 a7 a8 a9
  obtain ⟨a0, a1, a2, a3, a4, a5, a6, a7, a8, a9⟩ := cons10 H2.out.cell
  go_wp2_with fail
  (with_reducible refine (C1.out _).mono ?_)
  rintro e w3 ⟨rfl, b3⟩
  have FIN := Lib.hid (H2.out.call b3).bl
  clear b3 C1 H2 a0 a1 a2 a3 a4 a5 a6 a7 a8 a9
  go_wp2
  exact bodyPost_ret (v := .tuple #[.string E, .int .i64 0]) (by simp [results, Try.results23, go_sem]) rfl ⟨rfl, FIN.out⟩
set_option maxHeartbeats 1000000 in
theorem rbytes_resize (i c : Int) (w : World) (h : chkR ⟨3, tk0, false, i, c, 0⟩ = true) (hi : 0 ≤ i ∧ i ≤ 1023 ∧ 1 ≤ c ∧ c ≤ 2147483648) :
    Calls Try.prog 23 #[Od.v ⟨3, tk0, false, i, c, 0⟩] w fun e w' => e = .returned (.tuple #[.string (mkB (encO ⟨3, tk0, false, i, c, 0⟩)), .int .i64 0]) ∧ Below w.heap.size w w' := by
  have CK := Lib.hid (rcheck_any ⟨3, tk0, false, i, c, 0⟩)
  rw [h] at CK
  have H0 := Lib.hid (bx_new w (Od.cs ⟨3, tk0, false, i, c, 0⟩))
  have C0 := Lib.hid (rint_c 3 (by decide))
  have z0 : (mkB (encInt 3)).size ≤ 9 := sz9 (by decide)
  have C1 := Lib.hid (rint_c i ⟨by omega, by omega⟩)
  have C2 := Lib.hid (rnum_c c ⟨by omega, by omega⟩)
  have z1 : (mkB (encInt i)).size ≤ 9 := sz9 (by omega)
  have z2 : (mkB (enc c.toNat)).size ≤ 9 := sz9 (by omega)
  have ap1 : mkB (encInt 3) ++ mkB (encInt i) = mkB (encInt 3 ++ encInt i) := mkB_app _ _
  have ap2 : mkB (encInt 3 ++ encInt i) ++ mkB (enc c.toNat) = mkB (encO ⟨3, tk0, false, i, c, 0⟩) := by rw [mkB_app]; rfl
  have y1 : (mkB (encInt 3 ++ encInt i)).size ≤ 18 := by rw [mkB_size] at *; rw [List.length_append]; omega
  have u1 : IntKind.u64.wrap c = c := IntWalk.u64_in _ (by omega)
  have v1 : c % 18446744073709551616 = c := by omega
  clear h hi
  generalize mkB (encO ⟨3, tk0, false, i, c, 0⟩) = E at *
  generalize mkB (encInt 3 ++ encInt i) = t1 at *
  generalize mkB (encInt 3) = s0 at *
  generalize mkB (encInt i) = s1 at *
  generalize mkB (enc c.toNat) = s2 at *
  have AD1 := fun w => add_run s0 s1 t1 (by omega) (by omega) ap1 w
  have AD2 := fun w => add_run t1 s2 E (by omega) (by omega) ap2 w
  clear ap1 ap2 y1
  simp only [Od.v, Od.cs, tk0] at *
  obtain ⟨a0, a1, a2, a3, a4, a5, a6, a7, a8, a9⟩ := cons10 H0.out.cell
  go_enter Try.func23, Try.ntmps23
  go_wp2_with fail
  (with_reducible refine (CK.out _).mono ?_)
  rintro e w1 ⟨rfl, b1⟩
  have H1 := Lib.hid (H0.out.call b1)
  clear b1 CK H0 a0 a1 a2 a3 a4 a5 a6 a7 a8 a9
  obtain ⟨a0, a1, a2, a3, a4, a5, a6, a7, a8, a9⟩ := cons10 H1.out.cell
  go_wp2_with fail
  (with_reducible refine (C0.out _).mono ?_)
  rintro e w2 ⟨rfl, b2⟩
  have H2 := Lib.hid (H1.out.call b2)
  clear b2 C0 H1 a0 a1 a2 a3 a4 a5 a6 a7 a8 a9
  obtain ⟨a0, a1, a2, a3, a4, a5, a6, a7, a8, a9⟩ := cons10 H2.out.cell
  have K2 := Lib.hid (cons10 H2.out.cell)
  have D2 := Lib.hid (H2.out.call (Below.refl _ _).drew)
  have K2d := Lib.hid (cons10 D2.out.cell)
  go_wp2_with fail
  go_region_held3 (fun w' => w'.cell? ⟨w.heap.size, 0, none⟩ = some (.int .i64 3) ∧ w'.cell? ⟨w.heap.size, 1, none⟩ = some (.int .i64 0) ∧ w'.cell? ⟨w.heap.size, 2, none⟩ = some (.int .i64 0) ∧ w'.cell? ⟨w.heap.size, 3, none⟩ = some (.int .i64 0) ∧ w'.cell? ⟨w.heap.size, 4, none⟩ = some (.int .i64 0) ∧ w'.cell? ⟨w.heap.size, 5, none⟩ = some (.int .i64 0) ∧ w'.cell? ⟨w.heap.size, 6, none⟩ = some (.bool false) ∧ w'.cell? ⟨w.heap.size, 7, none⟩ = some (.int .i64 i) ∧ w'.cell? ⟨w.heap.size, 8, none⟩ = some (.int .i64 c) ∧ w'.cell? ⟨w.heap.size, 9, none⟩ = some (.int .i64 0)) (first | exact K2d.out | exact K2.out | assumption | fail) (first
    | (go_at_call 40; (with_reducible refine (C1.out _).mono ?_); rintro e w3 ⟨rfl, b3⟩; (have H3 := Lib.hid (D2.out.call b3)); (have k3 := cons10 H3.out.cell); clear b3)
    | (go_at_call 41; (with_reducible refine (C2.out _).mono ?_); rintro e w4 ⟨rfl, b4⟩; (have H4 := Lib.hid (H3.out.call b4)); (have k4 := cons10 H4.out.cell); clear b4)
    | fail)
  all_goals go_wp2
  all_goals exact bodyPost_ret (v := .tuple #[.string E, .int .i64 0]) (by simp [results, Try.results23, go_sem]) rfl ⟨rfl, H4.out.bl⟩
/-- an op in its box and its task in another, behind calls -/
structure Bt (p q : Nat) (cs ts : Array Value) (w W : World) : Prop where
  bx : Bx p cs w W
  at_ : W.heap[q]? = some (.cells ts 27 (0, 0))
theorem Bt.call {p q : Nat} {cs ts : Array Value} {w W W' : World} (h : Bt p q cs ts w W) (hb : Below W.heap.size W W') : Bt p q cs ts w W' := ⟨h.bx.call hb, (hb.block q (lt_of_heap h.at_)).trans h.at_⟩
theorem bt_new {p : Nat} {cs : Array Value} {w W : World} (h : Bx p cs w W) (ts : Array Value) : Bt p W.heap.size cs ts w (W.alloc (.cells ts 27)) := ⟨h.call ((Below.refl _ _).alloc (Nat.le_refl _) _), heap_alloc_new _ _⟩
theorem Bt.cells {p q : Nat} {a0 a1 a2 a3 a4 a5 a6 a7 a8 a9 b0 b1 b2 b3 b4 : Value} {w W : World} (h : Bt p q #[a0, a1, a2, a3, a4, a5, a6, a7, a8, a9] #[b0, b1, b2, b3, b4] w W) : W.cell? ⟨q, 0, none⟩ = some b0 ∧ W.cell? ⟨q, 1, none⟩ = some b1 ∧ W.cell? ⟨q, 2, none⟩ = some b2 ∧ W.cell? ⟨q, 3, none⟩ = some b3 ∧ W.cell? ⟨q, 4, none⟩ = some b4 ∧ W.cell? ⟨p, 6, none⟩ = some a6 := by
  refine ⟨?_, ?_, ?_, ?_, ?_, h.bx.cell 6⟩ <;> (rw [Lib.cell_of_heap h.at_]; rfl)
set_option maxHeartbeats 4000000 in
theorem rbytes_admit (t : Tk) (s : Bool) (w : World) (h : chkR ⟨1, t, s, 0, 0, 0⟩ = true) (hc : chk t = true) :
    Calls Try.prog 23 #[Od.v ⟨1, t, s, 0, 0, 0⟩] w fun e w' => e = .returned (.tuple #[.string (mkB (encO ⟨1, t, s, 0, 0, 0⟩)), .int .i64 0]) ∧ Below w.heap.size w w' := by
  have ⟨q1, q2, q3, q4, q5, q6, q7, q8⟩ := chk_iff.1 hc
  obtain ⟨i, c, d, t, m⟩ := t
  simp only at q1 q2 q3 q4 q5 q6 q7 q8
  have CK := Lib.hid (rcheck_any ⟨1, ⟨i, c, d, t, m⟩, s, 0, 0, 0⟩)
  rw [h] at CK
  have H0 := Lib.hid (bx_new w (Od.cs ⟨1, ⟨i, c, d, t, m⟩, s, 0, 0, 0⟩))
  have C0 := Lib.hid (rint_c 1 (by decide))
  have z0 : (mkB (encInt 1)).size ≤ 9 := sz9 (by decide)
  have C1 := Lib.hid (rint_c i ⟨by omega, by omega⟩)
  have C2 := Lib.hid (rnum_c c ⟨by omega, by omega⟩)
  have C3 := Lib.hid (rnum_c d ⟨by omega, by omega⟩)
  have C4 := Lib.hid (rnum_c t ⟨by omega, by omega⟩)
  have C5 := Lib.hid (rint_c m ⟨by omega, by omega⟩)
  have C6 := Lib.hid (flag_rf s)
  have z1 : (mkB (encInt i)).size ≤ 9 := sz9 (by omega)
  have z2 : (mkB (enc c.toNat)).size ≤ 9 := sz9 (by omega)
  have z3 : (mkB (enc d.toNat)).size ≤ 9 := sz9 (by omega)
  have z4 : (mkB (enc t.toNat)).size ≤ 9 := sz9 (by omega)
  have z5 : (mkB (encInt m)).size ≤ 9 := sz9 (by omega)
  have z6 : (mkB (encFlag s)).size ≤ 9 := szF s
  have ap1 : mkB (encInt 1) ++ mkB (encInt i) = mkB (encInt 1 ++ encInt i) := mkB_app _ _
  have y1 : (mkB (encInt 1 ++ encInt i)).size ≤ 18 := by rw [mkB_size] at *; simp only [List.length_append] at *; omega
  have ap2 : mkB (encInt 1 ++ encInt i) ++ mkB (enc c.toNat) = mkB (encInt 1 ++ encInt i ++ enc c.toNat) := mkB_app _ _
  have y2 : (mkB (encInt 1 ++ encInt i ++ enc c.toNat)).size ≤ 27 := by rw [mkB_size] at *; simp only [List.length_append] at *; omega
  have ap3 : mkB (encInt 1 ++ encInt i ++ enc c.toNat) ++ mkB (enc d.toNat) = mkB (encInt 1 ++ encInt i ++ enc c.toNat ++ enc d.toNat) := mkB_app _ _
  have y3 : (mkB (encInt 1 ++ encInt i ++ enc c.toNat ++ enc d.toNat)).size ≤ 36 := by rw [mkB_size] at *; simp only [List.length_append] at *; omega
  have ap4 : mkB (encInt 1 ++ encInt i ++ enc c.toNat ++ enc d.toNat) ++ mkB (enc t.toNat) = mkB (encInt 1 ++ encInt i ++ enc c.toNat ++ enc d.toNat ++ enc t.toNat) := mkB_app _ _
  have y4 : (mkB (encInt 1 ++ encInt i ++ enc c.toNat ++ enc d.toNat ++ enc t.toNat)).size ≤ 45 := by rw [mkB_size] at *; simp only [List.length_append] at *; omega
  have ap5 : mkB (encInt 1 ++ encInt i ++ enc c.toNat ++ enc d.toNat ++ enc t.toNat) ++ mkB (encInt m) = mkB (encInt 1 ++ encInt i ++ enc c.toNat ++ enc d.toNat ++ enc t.toNat ++ encInt m) := mkB_app _ _
  have y5 : (mkB (encInt 1 ++ encInt i ++ enc c.toNat ++ enc d.toNat ++ enc t.toNat ++ encInt m)).size ≤ 54 := by rw [mkB_size] at *; simp only [List.length_append] at *; omega
  have ap6 : mkB (encInt 1 ++ encInt i ++ enc c.toNat ++ enc d.toNat ++ enc t.toNat ++ encInt m) ++ mkB (encFlag s) = mkB (encO ⟨1, ⟨i, c, d, t, m⟩, s, 0, 0, 0⟩) := by rw [mkB_app]; rfl
  have u1 : IntKind.u64.wrap c = c := IntWalk.u64_in _ (by omega)
  have u2 : IntKind.u64.wrap d = d := IntWalk.u64_in _ (by omega)
  have u3 : IntKind.u64.wrap t = t := IntWalk.u64_in _ (by omega)
  have v1 : c % 18446744073709551616 = c := by omega
  have v2 : d % 18446744073709551616 = d := by omega
  have v3 : t % 18446744073709551616 = t := by omega
  clear h hc q1 q2 q3 q4 q5 q6 q7 q8
  generalize mkB (encO ⟨1, ⟨i, c, d, t, m⟩, s, 0, 0, 0⟩) = E at *
  generalize mkB (encInt 1 ++ encInt i ++ enc c.toNat ++ enc d.toNat ++ enc t.toNat ++ encInt m) = t5 at *
  generalize mkB (encInt 1 ++ encInt i ++ enc c.toNat ++ enc d.toNat ++ enc t.toNat) = t4 at *
  generalize mkB (encInt 1 ++ encInt i ++ enc c.toNat ++ enc d.toNat) = t3 at *
  generalize mkB (encInt 1 ++ encInt i ++ enc c.toNat) = t2 at *
  generalize mkB (encInt 1 ++ encInt i) = t1 at *
  generalize mkB (encInt 1) = s0 at *
  generalize mkB (encInt i) = s1 at *
  generalize mkB (enc c.toNat) = s2 at *
  generalize mkB (enc d.toNat) = s3 at *
  generalize mkB (enc t.toNat) = s4 at *
  generalize mkB (encInt m) = s5 at *
  generalize mkB (encFlag s) = s6 at *
  have AD1 := fun w => add_run s0 s1 t1 (by omega) (by omega) ap1 w
  have AD2 := fun w => add_run t1 s2 t2 (by omega) (by omega) ap2 w
  have AD3 := fun w => add_run t2 s3 t3 (by omega) (by omega) ap3 w
  have AD4 := fun w => add_run t3 s4 t4 (by omega) (by omega) ap4 w
  have AD5 := fun w => add_run t4 s5 t5 (by omega) (by omega) ap5 w
  have AD6 := fun w => add_run t5 s6 E (by omega) (by omega) ap6 w
  clear ap1 ap2 ap3 ap4 ap5 ap6 y1 y2 y3 y4 y5
  simp only [Od.v, Od.cs, tk0] at *
  obtain ⟨a0, a1, a2, a3, a4, a5, a6, a7, a8, a9⟩ := cons10 H0.out.cell
  go_enter Try.func23, Try.ntmps23
  go_wp2_with fail
  (with_reducible refine (CK.out _).mono ?_)
  rintro e w1 ⟨rfl, b1⟩
  have H1 := Lib.hid (H0.out.call b1)
  clear b1 CK H0 a0 a1 a2 a3 a4 a5 a6 a7 a8 a9
  obtain ⟨a0, a1, a2, a3, a4, a5, a6, a7, a8, a9⟩ := cons10 H1.out.cell
  go_wp2_with fail
  (with_reducible refine (C0.out _).mono ?_)
  rintro e w2 ⟨rfl, b2⟩
  have H2 := Lib.hid (H1.out.call b2)
  clear b2 C0 H1 a0 a1 a2 a3 a4 a5 a6 a7 a8 a9
  obtain ⟨a0, a1, a2, a3, a4, a5, a6, a7, a8, a9⟩ := cons10 H2.out.cell
  have HT := Lib.hid (bt_new H2.out #[.int .i64 i, .int .i64 c, .int .i64 d, .int .i64 t, .int .i64 m])
  have X0 := Lib.hid (HT.out.call (Below.refl _ _).drew)
  have KT := Lib.hid HT.out.cells
  have KX := Lib.hid X0.out.cells
  go_wp2_with fail
  clear a0 a1 a2 a3 a4 a5 a6 a7 a8 a9
  go_region_held3 (fun w' => w'.cell? ⟨w2.heap.size, 0, none⟩ = some (.int .i64 i) ∧ w'.cell? ⟨w2.heap.size, 1, none⟩ = some (.int .i64 c) ∧ w'.cell? ⟨w2.heap.size, 2, none⟩ = some (.int .i64 d) ∧ w'.cell? ⟨w2.heap.size, 3, none⟩ = some (.int .i64 t) ∧ w'.cell? ⟨w2.heap.size, 4, none⟩ = some (.int .i64 m) ∧ w'.cell? ⟨w.heap.size, 6, none⟩ = some (.bool s)) (first | exact KX.out | exact KT.out | assumption | fail) (first | (go_at_call 40; (with_reducible refine (C1.out _).mono ?_); rintro e x1 ⟨rfl, b1⟩; (have X1 := Lib.hid (X0.out.call b1)); (have k1 := X1.out.cells); clear b1) | (go_at_call 41; (with_reducible refine (C2.out _).mono ?_); rintro e x2 ⟨rfl, b2⟩; (have X2 := Lib.hid (X1.out.call b2)); (have k2 := X2.out.cells); clear b2) | (go_at_call 41; (with_reducible refine (C3.out _).mono ?_); rintro e x3 ⟨rfl, b3⟩; (have X3 := Lib.hid (X2.out.call b3)); (have k3 := X3.out.cells); clear b3) | (go_at_call 41; (with_reducible refine (C4.out _).mono ?_); rintro e x4 ⟨rfl, b4⟩; (have X4 := Lib.hid (X3.out.call b4)); (have k4 := X4.out.cells); clear b4) | (go_at_call 40; (with_reducible refine (C5.out _).mono ?_); rintro e x5 ⟨rfl, b5⟩; (have X5 := Lib.hid (X4.out.call b5)); (have k5 := X5.out.cells); clear b5) | (go_at_call 42; (with_reducible refine (C6.out _).mono ?_); rintro e x6 ⟨rfl, b6⟩; (have X6 := Lib.hid (X5.out.call b6)); (have k6 := X6.out.cells); clear b6) | fail)
  all_goals go_wp2
  all_goals exact bodyPost_ret (v := .tuple #[.string E, .int .i64 0]) (by simp [results, Try.results23, go_sem]) rfl ⟨rfl, X6.out.bx.bl⟩
theorem rbytes_any (o : Od) (w : World) :
    Calls Try.prog 23 #[o.v] w fun e w' => e = .returned (.tuple #[.string (bytesR o).1, .int .i64 (bytesR o).2]) ∧ Below w.heap.size w w' := by
  unfold bytesR
  cases h : chkR o with
  | false => exact rbytes_no o w h
  | true =>
    rcases chkR_iff.1 h with ⟨t, s, rfl, hc, hs⟩ | ⟨i, rfl, h1, h2⟩ | ⟨i, c, rfl, h1, h2, h3, h4⟩ | ⟨m, rfl, h1, h2⟩
    · exact rbytes_admit t s w h hc
    · exact rbytes_remove i w h ⟨h1, h2⟩
    · exact rbytes_resize i c w h ⟨h1, h2, h3, h4⟩
    · exact rbytes_mode m w h ⟨h1, by omega⟩
end Go.Proofs.Ytnaanahgflbihaa.Ox
