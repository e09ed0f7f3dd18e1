/- Package ops' put: what ops of one kind say, as a writer puts it. -/
import Derived.Test.YticehebgkehipaaOpC
import Derived.Test.YticehebgkehipaaOcG
import Derived.Deep.RegionHeld3
namespace Go.Proofs.Yticehebgkehipaa.Ox
open Go.ChangeShapes Go.WideShapes Go.ChangeAt Go.RowKit Go.Joins
open Oc
open Pm (Tk chk chk_iff)
set_option maxRecDepth 100000
set_option maxRecDepth 100000
set_option linter.unusedVariables false
set_option linter.unusedSimpArgs false
/-- the bytes of what ops of one kind say -/
def bodyR : Fd → List UInt8
  | .admit t s => encInt t.id ++ enc t.c.toNat ++ enc t.d.toNat ++ enc t.t.toNat ++ encInt t.m ++ encFlag s
  | .remove i => encInt i
  | .resize i c => encInt i ++ enc c.toNat
  | .mode m => encInt m
  | .unknown _ => []
/-- what ops of one kind say, in a block of its own beside a writer -/
structure Bd (B b p T : Nat) (cs : Array Value) (l : List UInt8) (w W : World) : Prop where
  wr : Wr B b l W
  at_ : W.heap[p]? = some (.cells cs T (0, 0))
  ty : T ≠ 5
  ne : p ≠ b
  mv : Moved b w W
  sz : B ≤ W.heap.size
theorem Bd.moved {B b p T : Nat} {cs : Array Value} {l l' : List UInt8} {w W W' : World} (h : Bd B b p T cs l w W) (k : Wr B b l' W') (m : Moved b W W') : Bd B b p T cs l' w W' :=
  ⟨k, (m.block p (lt_of_heap h.at_) h.ne (h.wr.buf_ne h.at_ h.ty)).trans h.at_, h.ty, h.ne, h.mv.trans m, Nat.le_trans h.sz m.size⟩
theorem Bd.drew {B b p T : Nat} {cs : Array Value} {l : List UInt8} {w W : World} (h : Bd B b p T cs l w W) : Bd B b p T cs l w W.drew :=
  ⟨h.wr, h.at_, h.ty, h.ne, h.mv.drew, h.sz⟩
theorem Bd.cell {B b p T : Nat} {cs : Array Value} {l : List UInt8} {w W : World} (h : Bd B b p T cs l w W) (o : Nat) : W.cell? ⟨p, o, none⟩ = cs[o]? := by
  rw [Lib.cell_of_heap h.at_]
theorem bd_new {B b : Nat} {l : List UInt8} {w : World} (k : Wr B b l w) (hB : B ≤ w.heap.size) (cs : Array Value) (T : Nat) (hT : T ≠ 5) : Bd B b w.heap.size T cs l w (w.alloc (.cells cs T)) :=
  ⟨k.call ((Below.refl _ _).alloc (Nat.le_refl _) _), heap_alloc_new _ _, hT, (by have := k.lt; omega), Moved.alloc k.lt _, by simp; omega⟩
theorem int_wf {n : Int} (h0 : 0 ≤ n) (h1 : n ≤ 1000000) : (Lit.int .i64 n).wf = true := by simp [Lit.wf, IntKind.min, IntKind.max, IntKind.bits, IntKind.signed]; omega
theorem int_c {B b p T : Nat} {cs : Array Value} {w : World} (l : List UInt8) (n : Int) (hn : 0 ≤ n ∧ n ≤ 1000000) (hl : l.length ≤ 900000) :
    ∀ W, Bd B b p T cs l w W → Calls Try.prog 36 #[self b, .int .i64 n] W fun e w' => e = .returned (self b) ∧ Bd B b p T cs (l ++ encInt n) w w' := fun W h =>
  (int_any B b n l W h.wr (int_wf hn.1 hn.2) hl h.sz).mono fun e w' ⟨he, hw, hm⟩ => ⟨he, h.moved hw hm⟩
theorem num_c {B b p T : Nat} {cs : Array Value} {w : World} (l : List UInt8) (n : Int) (hn : 0 ≤ n ∧ n ≤ 2147483648) (hl : l.length ≤ 900000) :
    ∀ W, Bd B b p T cs l w W → Calls Try.prog 45 #[self b, .int .u64 n] W fun e w' => e = .returned (self b) ∧ Bd B b p T cs (l ++ enc n.toNat) w w' := fun W h => by
  have := num_any B b n.toNat l W h.wr (by omega) hl h.sz
  rw [show (n.toNat : Int) = n by omega] at this
  exact this.mono fun e w' ⟨he, hw, hm⟩ => ⟨he, h.moved hw hm⟩
theorem flag_c {B b p T : Nat} {cs : Array Value} {w : World} (l : List UInt8) (f : Bool) (hl : l.length ≤ 900000) :
    ∀ W, Bd B b p T cs l w W → Calls Try.prog 46 #[self b, .bool f] W fun e w' => e = .returned (self b) ∧ Bd B b p T cs (l ++ encFlag f) w w' := fun W h =>
  (flag_any B b f l W h.wr hl h.sz).mono fun e w' ⟨he, hw, hm⟩ => ⟨he, h.moved hw hm⟩
theorem len9 {n : Nat} (h : n < 18446744073709551616) : (enc n).length ≤ 9 := enc_len9 h
theorem cons6 {W : World} {p : Nat} {a b c d e f : Value} (h : ∀ o, W.cell? ⟨p, o, none⟩ = (#[a, b, c, d, e, f] : Array Value)[o]?) : W.cell? ⟨p, 0, none⟩ = some a ∧ W.cell? ⟨p, 1, none⟩ = some b ∧ W.cell? ⟨p, 2, none⟩ = some c ∧ W.cell? ⟨p, 3, none⟩ = some d ∧ W.cell? ⟨p, 4, none⟩ = some e ∧ W.cell? ⟨p, 5, none⟩ = some f := ⟨h 0, h 1, h 2, h 3, h 4, h 5⟩
theorem cons2 {W : World} {p : Nat} {a b : Value} (h : ∀ o, W.cell? ⟨p, o, none⟩ = (#[a, b] : Array Value)[o]?) : W.cell? ⟨p, 0, none⟩ = some a ∧ W.cell? ⟨p, 1, none⟩ = some b := ⟨h 0, h 1⟩
set_option maxHeartbeats 4000000 in
theorem put_admit {B b : Nat} {l : List UInt8} (t : Tk) (s : Bool) (w : World) (k : Wr B b l w) (hB : B ≤ w.heap.size) (hl : l.length ≤ 800000) (hm : mayF (.admit t s) = true) :
    Calls Try.prog 35 #[self b, (Fd.admit t s).v] w fun e w' => e = .returned (.tuple #[]) ∧ Wr B b (l ++ bodyR (.admit t s)) w' ∧ Moved b w w' := by
  have hc : chk t = true := by simp [mayF] at hm; exact hm.1
  have ⟨q1, q2, q3, q4, q5, q6, q7, q8⟩ := chk_iff.1 hc
  clear hm hc
  obtain ⟨i, c, d, t, m⟩ := t
  simp only at q1 q2 q3 q4 q5 q6 q7 q8
  have T1 := ta_admit_admit
  have H0 := Lib.hid (bd_new k hB #[.int .i64 i, .int .i64 c, .int .i64 d, .int .i64 t, .int .i64 m, .bool s] 47 (by decide))
  have D0 := Lib.hid H0.out.drew
  have K0 := Lib.hid (cons6 H0.out.cell)
  have K0d := Lib.hid (cons6 D0.out.cell)
  have z1 : (encInt i).length ≤ 9 := len9 (by omega)
  have z2 : (enc c.toNat).length ≤ 9 := len9 (by omega)
  have z3 : (enc d.toNat).length ≤ 9 := len9 (by omega)
  have z4 : (enc t.toNat).length ≤ 9 := len9 (by omega)
  have z5 : (encInt m).length ≤ 9 := len9 (by omega)
  have C1 := Lib.hid (int_c (B := B) (b := b) (p := w.heap.size) (T := 47) (cs := #[.int .i64 i, .int .i64 c, .int .i64 d, .int .i64 t, .int .i64 m, .bool s]) (w := w) l i ⟨by omega, by omega⟩ (by omega))
  have C2 := Lib.hid (num_c (B := B) (b := b) (p := w.heap.size) (T := 47) (cs := #[.int .i64 i, .int .i64 c, .int .i64 d, .int .i64 t, .int .i64 m, .bool s]) (w := w) (l ++ encInt i) c ⟨by omega, by omega⟩ (by simp only [List.length_append]; omega))
  have C3 := Lib.hid (num_c (B := B) (b := b) (p := w.heap.size) (T := 47) (cs := #[.int .i64 i, .int .i64 c, .int .i64 d, .int .i64 t, .int .i64 m, .bool s]) (w := w) (l ++ encInt i ++ enc c.toNat) d ⟨by omega, by omega⟩ (by simp only [List.length_append]; omega))
  have C4 := Lib.hid (num_c (B := B) (b := b) (p := w.heap.size) (T := 47) (cs := #[.int .i64 i, .int .i64 c, .int .i64 d, .int .i64 t, .int .i64 m, .bool s]) (w := w) (l ++ encInt i ++ enc c.toNat ++ enc d.toNat) t ⟨by omega, by omega⟩ (by simp only [List.length_append]; omega))
  have C5 := Lib.hid (int_c (B := B) (b := b) (p := w.heap.size) (T := 47) (cs := #[.int .i64 i, .int .i64 c, .int .i64 d, .int .i64 t, .int .i64 m, .bool s]) (w := w) (l ++ encInt i ++ enc c.toNat ++ enc d.toNat ++ enc t.toNat) m ⟨by omega, by omega⟩ (by simp only [List.length_append]; omega))
  have C6 := Lib.hid (flag_c (B := B) (b := b) (p := w.heap.size) (T := 47) (cs := #[.int .i64 i, .int .i64 c, .int .i64 d, .int .i64 t, .int .i64 m, .bool s]) (w := w) (l ++ encInt i ++ enc c.toNat ++ enc d.toNat ++ enc t.toNat ++ encInt m) s (by simp only [List.length_append]; omega))
  have E : l ++ bodyR (.admit ⟨i, c, d, t, m⟩ s) = l ++ encInt i ++ enc c.toNat ++ enc d.toNat ++ enc t.toNat ++ encInt m ++ encFlag s := by simp [bodyR]
  rw [E]
  clear E z1 z2 z3 z4 z5
  generalize l ++ encInt i ++ enc c.toNat ++ enc d.toNat ++ enc t.toNat ++ encInt m ++ encFlag s = l6 at *
  generalize l ++ encInt i ++ enc c.toNat ++ enc d.toNat ++ enc t.toNat ++ encInt m = l5 at *
  generalize l ++ encInt i ++ enc c.toNat ++ enc d.toNat ++ enc t.toNat = l4 at *
  generalize l ++ encInt i ++ enc c.toNat ++ enc d.toNat = l3 at *
  generalize l ++ encInt i ++ enc c.toNat = l2 at *
  generalize l ++ encInt i = l1 at *
  have u1 : IntKind.u64.wrap c = c := IntWalk.u64_in _ (by omega)
  have u2 : IntKind.u64.wrap d = d := IntWalk.u64_in _ (by omega)
  have u3 : IntKind.u64.wrap t = t := IntWalk.u64_in _ (by omega)
  have v1 : c % 18446744073709551616 = c := by omega
  have v2 : d % 18446744073709551616 = d := by omega
  have v3 : t % 18446744073709551616 = t := by omega
  simp only [Fd.v]
  clear k q1 q2 q3 q4 q5 q6 q7 q8 hl hB
  go_enter Try.func35, Try.ntmps35
  go_wp2_with fail
  go_region_held3 (fun w' => w'.cell? ⟨w.heap.size, 0, none⟩ = some (.int .i64 i) ∧ w'.cell? ⟨w.heap.size, 1, none⟩ = some (.int .i64 c) ∧ w'.cell? ⟨w.heap.size, 2, none⟩ = some (.int .i64 d) ∧ w'.cell? ⟨w.heap.size, 3, none⟩ = some (.int .i64 t) ∧ w'.cell? ⟨w.heap.size, 4, none⟩ = some (.int .i64 m) ∧ w'.cell? ⟨w.heap.size, 5, none⟩ = some (.bool s)) (first | exact K0d.out | exact K0.out | assumption | fail) (first | (go_at_call 36; (with_reducible refine (C1.out _ D0.out).mono ?_); rintro e w1 ⟨rfl, h1⟩; (have k1 := cons6 h1.cell); (have H1 := Lib.hid h1); clear h1) | (go_at_call 45; (with_reducible refine (C2.out _ H1.out).mono ?_); rintro e w2 ⟨rfl, h2⟩; (have k2 := cons6 h2.cell); (have H2 := Lib.hid h2); clear h2) | (go_at_call 45; (with_reducible refine (C3.out _ H2.out).mono ?_); rintro e w3 ⟨rfl, h3⟩; (have k3 := cons6 h3.cell); (have H3 := Lib.hid h3); clear h3) | (go_at_call 45; (with_reducible refine (C4.out _ H3.out).mono ?_); rintro e w4 ⟨rfl, h4⟩; (have k4 := cons6 h4.cell); (have H4 := Lib.hid h4); clear h4) | (go_at_call 36; (with_reducible refine (C5.out _ H4.out).mono ?_); rintro e w5 ⟨rfl, h5⟩; (have k5 := cons6 h5.cell); (have H5 := Lib.hid h5); clear h5) | (go_at_call 46; (with_reducible refine (C6.out _ H5.out).mono ?_); rintro e w6 ⟨rfl, h6⟩; (have k6 := cons6 h6.cell); (have H6 := Lib.hid h6); clear h6) | fail)
  have HF := Lib.hid (And.intro H6.out.wr H6.out.mv)
  go_wp2
  go_end0
  exact ⟨rfl, HF.out⟩
theorem put_remove {B b : Nat} {l : List UInt8} (i : Int) (w : World) (k : Wr B b l w) (hB : B ≤ w.heap.size) (hl : l.length ≤ 800000) (hm : mayF (.remove i) = true) :
    Calls Try.prog 35 #[self b, (Fd.remove i).v] w fun e w' => e = .returned (.tuple #[]) ∧ Wr B b (l ++ bodyR (.remove i)) w' ∧ Moved b w w' := by
  have hc : 0 ≤ i ∧ i ≤ 1000000 := by simp [mayF] at hm; omega
  have T0 := ta_remove_admit
  have T1 := ta_remove_remove
  have H0 := Lib.hid (bd_new k hB #[.int .i64 i] 49 (by decide))
  have C1 := Lib.hid (int_c (B := B) (b := b) (p := w.heap.size) (T := 49) (cs := #[.int .i64 i]) (w := w) l i hc (by omega))
  have E : l ++ bodyR (.remove i) = l ++ encInt i := rfl
  rw [E]
  simp only [Fd.v]
  clear k hB hl hm hc E
  go_enter Try.func35, Try.ntmps35
  go_wp2_with fail
  (with_reducible refine (C1.out _ H0.out).mono ?_)
  rintro e w1 ⟨rfl, h1⟩
  have HF := Lib.hid (And.intro h1.wr h1.mv)
  clear h1 H0 C1
  go_wp2
  go_end0
  exact ⟨rfl, HF.out⟩
theorem put_mode {B b : Nat} {l : List UInt8} (m : Int) (w : World) (k : Wr B b l w) (hB : B ≤ w.heap.size) (hl : l.length ≤ 800000) (hm : mayF (.mode m) = true) :
    Calls Try.prog 35 #[self b, (Fd.mode m).v] w fun e w' => e = .returned (.tuple #[]) ∧ Wr B b (l ++ bodyR (.mode m)) w' ∧ Moved b w w' := by
  have hc : 0 ≤ m ∧ m ≤ 1000000 := by simp [mayF] at hm; omega
  have T0 := ta_mode_admit
  have T1 := ta_mode_remove
  have T2 := ta_mode_resize
  have T3 := ta_mode_mode
  have H0 := Lib.hid (bd_new k hB #[.int .i64 m] 53 (by decide))
  have C1 := Lib.hid (int_c (B := B) (b := b) (p := w.heap.size) (T := 53) (cs := #[.int .i64 m]) (w := w) l m hc (by omega))
  have E : l ++ bodyR (.mode m) = l ++ encInt m := rfl
  rw [E]
  simp only [Fd.v]
  clear k hB hl hm hc E
  go_enter Try.func35, Try.ntmps35
  go_wp2_with fail
  (with_reducible refine (C1.out _ H0.out).mono ?_)
  rintro e w1 ⟨rfl, h1⟩
  have HF := Lib.hid (And.intro h1.wr h1.mv)
  clear h1 H0 C1
  go_wp2
  go_end0
  exact ⟨rfl, HF.out⟩
set_option maxHeartbeats 1000000 in
theorem put_resize {B b : Nat} {l : List UInt8} (i c : Int) (w : World) (k : Wr B b l w) (hB : B ≤ w.heap.size) (hl : l.length ≤ 800000) (hm : mayF (.resize i c) = true) :
    Calls Try.prog 35 #[self b, (Fd.resize i c).v] w fun e w' => e = .returned (.tuple #[]) ∧ Wr B b (l ++ bodyR (.resize i c)) w' ∧ Moved b w w' := by
  have ⟨q1, q2, q3, q4⟩ : 0 ≤ i ∧ i ≤ 1023 ∧ 1 ≤ c ∧ c ≤ 2147483648 := of_decide_eq_true hm
  have T1 := ta_resize_admit
  have T2 := ta_resize_remove
  have T3 := ta_resize_resize
  have H0 := Lib.hid (bd_new k hB #[.int .i64 i, .int .i64 c] 51 (by decide))
  have D0 := Lib.hid H0.out.drew
  have K0 := Lib.hid (cons2 H0.out.cell)
  have K0d := Lib.hid (cons2 D0.out.cell)
  have z1 : (encInt i).length ≤ 9 := len9 (by omega)
  have C1 := Lib.hid (int_c (B := B) (b := b) (p := w.heap.size) (T := 51) (cs := #[.int .i64 i, .int .i64 c]) (w := w) l i ⟨by omega, by omega⟩ (by omega))
  have C2 := Lib.hid (num_c (B := B) (b := b) (p := w.heap.size) (T := 51) (cs := #[.int .i64 i, .int .i64 c]) (w := w) (l ++ encInt i) c ⟨by omega, by omega⟩ (by simp only [List.length_append]; omega))
  have E : l ++ bodyR (.resize i c) = l ++ encInt i ++ enc c.toNat := by simp [bodyR]
  rw [E]
  clear E z1
  generalize l ++ encInt i ++ enc c.toNat = l2 at *
  generalize l ++ encInt i = l1 at *
  have u1 : IntKind.u64.wrap c = c := IntWalk.u64_in _ (by omega)
  have v1 : c % 18446744073709551616 = c := by omega
  simp only [Fd.v]
  clear k q1 q2 q3 q4 hl hB hm
  go_enter Try.func35, Try.ntmps35
  go_wp2_with fail
  go_region_held3 (fun w' => w'.cell? ⟨w.heap.size, 0, none⟩ = some (.int .i64 i) ∧ w'.cell? ⟨w.heap.size, 1, none⟩ = some (.int .i64 c)) (first | exact K0d.out | exact K0.out | assumption | fail) (first | (go_at_call 36; (with_reducible refine (C1.out _ D0.out).mono ?_); rintro e w1 ⟨rfl, h1⟩; (have k1 := cons2 h1.cell); (have H1 := Lib.hid h1); clear h1) | (go_at_call 45; (with_reducible refine (C2.out _ H1.out).mono ?_); rintro e w2 ⟨rfl, h2⟩; (have k2 := cons2 h2.cell); (have H2 := Lib.hid h2); clear h2) | fail)
  have HF := Lib.hid (And.intro H2.out.wr H2.out.mv)
  go_wp2
  go_end0
  exact ⟨rfl, HF.out⟩
theorem put_any {B b : Nat} {l : List UInt8} (f : Fd) (w : World) (k : Wr B b l w) (hB : B ≤ w.heap.size) (hl : l.length ≤ 800000) (hm : mayF f = true) :
    Calls Try.prog 35 #[self b, f.v] w fun e w' => e = .returned (.tuple #[]) ∧ Wr B b (l ++ bodyR (f)) w' ∧ Moved b w w' := by
  cases f with
  | admit t s => exact put_admit t s w k hB hl hm
  | remove i => exact put_remove i w k hB hl hm
  | resize i c => exact put_resize i c w k hB hl hm
  | mode m => exact put_mode m w k hB hl hm
  | unknown k => cases hm
end Go.Proofs.Yticehebgkehipaa.Ox
