/- Package table's write and Bytes; awake. -/
import Derived.Test.YtnaanahgflbihaaTbH
import Derived.Test.YtnaanahgflbihaaOpF
namespace Go.Proofs.Ytnaanahgflbihaa.Tb
open Go.ChangeShapes Go.WideShapes Go.ChangeAt Go.RowKit Go.Joins
open Pm (Tk chk chk_iff below_drewN)
open Ge (El Seen Row)
open Oc (Wr Moved self enc encInt encFlag mkB lt_of_heap fresh_wr bytesOf bytesOf_zero bytesOf_pos)
open Ox (Bd bd_new int_wf len9)
set_option maxRecDepth 100000
set_option maxRecDepth 100000
set_option linter.unusedVariables false
set_option linter.unusedSimpArgs false
/-- two boxes beside a writer -/
structure Bd2 (B b p T q U : Nat) (cs ds : Array Value) (l : List UInt8) (w W : World) : Prop where
  bd : Bd B b p T cs l w W
  at2 : W.heap[q]? = some (.cells ds U (0, 0))
  ty2 : U ≠ 5
  ne2 : q ≠ b
theorem Bd2.moved {B b p T q U : Nat} {cs ds : Array Value} {l l' : List UInt8} {w W W' : World} (h : Bd2 B b p T q U cs ds l w W) (k : Wr B b l' W') (m : Moved b W W') : Bd2 B b p T q U cs ds l' w W' :=
  ⟨h.bd.moved k m, (m.block q (lt_of_heap h.at2) h.ne2 (h.bd.wr.buf_ne h.at2 h.ty2)).trans h.at2, h.ty2, h.ne2⟩
theorem Bd2.drew {B b p T q U : Nat} {cs ds : Array Value} {l : List UInt8} {w W : World} (h : Bd2 B b p T q U cs ds l w W) : Bd2 B b p T q U cs ds l w W.drew := ⟨h.bd.drew, h.at2, h.ty2, h.ne2⟩
theorem Bd2.cell {B b p T q U : Nat} {cs ds : Array Value} {l : List UInt8} {w W : World} (h : Bd2 B b p T q U cs ds l w W) (o : Nat) : W.cell? ⟨q, o, none⟩ = ds[o]? := by rw [Lib.cell_of_heap h.at2]
theorem bd2_new {B b p T : Nat} {cs : Array Value} {l : List UInt8} {w W : World} (h : Bd B b p T cs l w W) (ds : Array Value) (U : Nat) (hU : U ≠ 5) : Bd2 B b p T W.heap.size U cs ds l w (W.alloc (.cells ds U)) :=
  ⟨h.moved (h.wr.call ((Below.refl _ _).alloc (Nat.le_refl _) _)) (Moved.alloc h.wr.lt _), heap_alloc_new _ _, hU, by have := h.wr.lt; omega⟩
section
variable {B b p T q U : Nat} {cs ds : Array Value} {w : World}
theorem int_2 (l : List UInt8) (n : Int) (hn : 0 ≤ n ∧ n ≤ 1000000) (hl : l.length ≤ 900000) :
    ∀ W, Bd2 B b p T q U cs ds l w W → Calls Try.prog 56 #[self b, .int .i64 n] W fun e w' => e = .returned (self b) ∧ Bd2 B b p T q U cs ds (l ++ encInt n) w w' := fun W h =>
  (Oc.int_any B b n l W h.bd.wr (int_wf hn.1 hn.2) hl h.bd.sz).mono fun e w' ⟨he, hw, hm⟩ => ⟨he, h.moved hw hm⟩
theorem num_2 (l : List UInt8) (n : Int) (hn : 0 ≤ n ∧ n ≤ 2147483648) (hl : l.length ≤ 900000) :
    ∀ W, Bd2 B b p T q U cs ds l w W → Calls Try.prog 74 #[self b, .int .u64 n] W fun e w' => e = .returned (self b) ∧ Bd2 B b p T q U cs ds (l ++ enc n.toNat) w w' := fun W h => by
  have := Oc.num_any B b n.toNat l W h.bd.wr (by omega) hl h.bd.sz
  rw [show (n.toNat : Int) = n by omega] at this
  exact this.mono fun e w' ⟨he, hw, hm⟩ => ⟨he, h.moved hw hm⟩
theorem flag_2 (l : List UInt8) (f : Bool) (hl : l.length ≤ 900000) :
    ∀ W, Bd2 B b p T q U cs ds l w W → Calls Try.prog 75 #[self b, .bool f] W fun e w' => e = .returned (self b) ∧ Bd2 B b p T q U cs ds (l ++ encFlag f) w w' := fun W h =>
  (Oc.flag_any B b f l W h.bd.wr hl h.bd.sz).mono fun e w' ⟨he, hw, hm⟩ => ⟨he, h.moved hw hm⟩
end
theorem cell5 {W : World} {p : Nat} {a b c d e : Value} (h : ∀ o, W.cell? ⟨p, o, none⟩ = (#[a, b, c, d, e] : Array Value)[o]?) : W.cell? ⟨p, 0, none⟩ = some a ∧ W.cell? ⟨p, 1, none⟩ = some b ∧ W.cell? ⟨p, 2, none⟩ = some c ∧ W.cell? ⟨p, 3, none⟩ = some d ∧ W.cell? ⟨p, 4, none⟩ = some e := ⟨h 0, h 1, h 2, h 3, h 4⟩
set_option maxHeartbeats 4000000 in
theorem write_any {B b : Nat} {l : List UInt8} (r : Rw) (w : World) (k : Wr B b l w) (hB : B ≤ w.heap.size) (hl : l.length ≤ 800000) (hc : chk r.t = true) :
    Calls Try.prog 57 #[self b, r.v] w fun e w' => e = .returned (.tuple #[]) ∧ Wr B b (l ++ encW r) w' ∧ Moved b w w' := by
  have ⟨q1, q2, q3, q4, q5, q6, q7, q8⟩ := chk_iff.1 hc
  have EW : encW r = encInt r.t.id ++ enc r.t.c.toNat ++ enc r.t.d.toNat ++ enc r.t.t.toNat ++ encInt r.t.m ++ encFlag r.s := rfl
  obtain ⟨⟨i, c, d, t, m⟩, s⟩ := r
  simp only at q1 q2 q3 q4 q5 q6 q7 q8 EW
  have H0 := Lib.hid (bd_new k hB #[.int .i64 i, .int .i64 c, .int .i64 d, .int .i64 t, .int .i64 m, .bool s] 57 (by decide))
  have H0' := Lib.hid (bd2_new H0.out #[.int .i64 i, .int .i64 c, .int .i64 d, .int .i64 t, .int .i64 m] 27 (by decide))
  rw [World.size_alloc] at H0'
  have D0 := Lib.hid H0'.out.drew
  obtain ⟨r0, r1, r2, r3, r4, r5⟩ := cell6 H0.out.cell
  have K0 := Lib.hid (And.intro (cell5 H0'.out.cell) ((H0'.out.bd.cell 5).trans rfl))
  have K0d := Lib.hid (And.intro (cell5 D0.out.cell) ((D0.out.bd.cell 5).trans rfl))
  have z1 : (encInt i).length ≤ 9 := len9 (by omega)
  have z2 : (enc c.toNat).length ≤ 9 := len9 (by omega)
  have z3 : (enc d.toNat).length ≤ 9 := len9 (by omega)
  have z4 : (enc t.toNat).length ≤ 9 := len9 (by omega)
  have z5 : (encInt m).length ≤ 9 := len9 (by omega)
  have C1 := Lib.hid (int_2 (B := B) (b := b) (p := w.heap.size) (T := 57) (q := w.heap.size + 1) (U := 27) (cs := #[.int .i64 i, .int .i64 c, .int .i64 d, .int .i64 t, .int .i64 m, .bool s]) (ds := #[.int .i64 i, .int .i64 c, .int .i64 d, .int .i64 t, .int .i64 m]) (w := w) (l) i ⟨by omega, by omega⟩ (by omega))
  have C2 := Lib.hid (num_2 (B := B) (b := b) (p := w.heap.size) (T := 57) (q := w.heap.size + 1) (U := 27) (cs := #[.int .i64 i, .int .i64 c, .int .i64 d, .int .i64 t, .int .i64 m, .bool s]) (ds := #[.int .i64 i, .int .i64 c, .int .i64 d, .int .i64 t, .int .i64 m]) (w := w) (l ++ encInt i) c ⟨by omega, by omega⟩ (by simp only [List.length_append]; omega))
  have C3 := Lib.hid (num_2 (B := B) (b := b) (p := w.heap.size) (T := 57) (q := w.heap.size + 1) (U := 27) (cs := #[.int .i64 i, .int .i64 c, .int .i64 d, .int .i64 t, .int .i64 m, .bool s]) (ds := #[.int .i64 i, .int .i64 c, .int .i64 d, .int .i64 t, .int .i64 m]) (w := w) (l ++ encInt i ++ enc c.toNat) d ⟨by omega, by omega⟩ (by simp only [List.length_append]; omega))
  have C4 := Lib.hid (num_2 (B := B) (b := b) (p := w.heap.size) (T := 57) (q := w.heap.size + 1) (U := 27) (cs := #[.int .i64 i, .int .i64 c, .int .i64 d, .int .i64 t, .int .i64 m, .bool s]) (ds := #[.int .i64 i, .int .i64 c, .int .i64 d, .int .i64 t, .int .i64 m]) (w := w) (l ++ encInt i ++ enc c.toNat ++ enc d.toNat) t ⟨by omega, by omega⟩ (by simp only [List.length_append]; omega))
  have C5 := Lib.hid (int_2 (B := B) (b := b) (p := w.heap.size) (T := 57) (q := w.heap.size + 1) (U := 27) (cs := #[.int .i64 i, .int .i64 c, .int .i64 d, .int .i64 t, .int .i64 m, .bool s]) (ds := #[.int .i64 i, .int .i64 c, .int .i64 d, .int .i64 t, .int .i64 m]) (w := w) (l ++ encInt i ++ enc c.toNat ++ enc d.toNat ++ enc t.toNat) m ⟨by omega, by omega⟩ (by simp only [List.length_append]; omega))
  have C6 := Lib.hid (flag_2 (B := B) (b := b) (p := w.heap.size) (T := 57) (q := w.heap.size + 1) (U := 27) (cs := #[.int .i64 i, .int .i64 c, .int .i64 d, .int .i64 t, .int .i64 m, .bool s]) (ds := #[.int .i64 i, .int .i64 c, .int .i64 d, .int .i64 t, .int .i64 m]) (w := w) (l ++ encInt i ++ enc c.toNat ++ enc d.toNat ++ enc t.toNat ++ encInt m) s (by simp only [List.length_append]; omega))
  have E : l ++ encW ⟨⟨i, c, d, t, m⟩, s⟩ = l ++ encInt i ++ enc c.toNat ++ enc d.toNat ++ enc t.toNat ++ encInt m ++ encFlag s := by rw [EW]; simp
  rw [E]
  clear E EW z1 z2 z3 z4 z5 H0
  generalize l ++ encInt i ++ enc c.toNat ++ enc d.toNat ++ enc t.toNat ++ encInt m ++ encFlag s = l6 at *
  generalize l ++ encInt i ++ enc c.toNat ++ enc d.toNat ++ enc t.toNat ++ encInt m = l5 at *
  generalize l ++ encInt i ++ enc c.toNat ++ enc d.toNat ++ enc t.toNat = l4 at *
  generalize l ++ encInt i ++ enc c.toNat ++ enc d.toNat = l3 at *
  generalize l ++ encInt i ++ enc c.toNat = l2 at *
  generalize l ++ encInt i = l1 at *
  have u1 : IntKind.u64.wrap c = c := IntWalk.u64_in _ (by omega)
  have u2 : IntKind.u64.wrap d = d := IntWalk.u64_in _ (by omega)
  have u3 : IntKind.u64.wrap t = t := IntWalk.u64_in _ (by omega)
  have v1 : c % 18446744073709551616 = c := by omega
  have v2 : d % 18446744073709551616 = d := by omega
  have v3 : t % 18446744073709551616 = t := by omega
  simp only [Rw.v]
  clear k q1 q2 q3 q4 q5 q6 q7 q8 hl hB hc
  go_enter Try.func57, Try.ntmps57
  go_wp2_with fail
  go_region_held3 (fun w' => (w'.cell? ⟨w.heap.size + 1, 0, none⟩ = some (.int .i64 i) ∧ w'.cell? ⟨w.heap.size + 1, 1, none⟩ = some (.int .i64 c) ∧ w'.cell? ⟨w.heap.size + 1, 2, none⟩ = some (.int .i64 d) ∧ w'.cell? ⟨w.heap.size + 1, 3, none⟩ = some (.int .i64 t) ∧ w'.cell? ⟨w.heap.size + 1, 4, none⟩ = some (.int .i64 m)) ∧ w'.cell? ⟨w.heap.size, 5, none⟩ = some (.bool s)) (first | exact K0d.out | exact K0.out | assumption | fail) (first | (go_at_call 56; (with_reducible refine (C1.out _ D0.out).mono ?_); rintro e w1 ⟨rfl, h1⟩; (have k1 := And.intro (cell5 h1.cell) ((h1.bd.cell 5).trans rfl)); (have H1 := Lib.hid h1); clear h1) | (go_at_call 74; (with_reducible refine (C2.out _ H1.out).mono ?_); rintro e w2 ⟨rfl, h2⟩; (have k2 := And.intro (cell5 h2.cell) ((h2.bd.cell 5).trans rfl)); (have H2 := Lib.hid h2); clear h2) | (go_at_call 74; (with_reducible refine (C3.out _ H2.out).mono ?_); rintro e w3 ⟨rfl, h3⟩; (have k3 := And.intro (cell5 h3.cell) ((h3.bd.cell 5).trans rfl)); (have H3 := Lib.hid h3); clear h3) | (go_at_call 74; (with_reducible refine (C4.out _ H3.out).mono ?_); rintro e w4 ⟨rfl, h4⟩; (have k4 := And.intro (cell5 h4.cell) ((h4.bd.cell 5).trans rfl)); (have H4 := Lib.hid h4); clear h4) | (go_at_call 56; (with_reducible refine (C5.out _ H4.out).mono ?_); rintro e w5 ⟨rfl, h5⟩; (have k5 := And.intro (cell5 h5.cell) ((h5.bd.cell 5).trans rfl)); (have H5 := Lib.hid h5); clear h5) | (go_at_call 75; (with_reducible refine (C6.out _ H5.out).mono ?_); rintro e w6 ⟨rfl, h6⟩; (have k6 := And.intro (cell5 h6.cell) ((h6.bd.cell 5).trans rfl)); (have H6 := Lib.hid h6); clear h6) | fail)
  have HF := Lib.hid (And.intro H6.out.bd.wr H6.out.bd.mv)
  go_wp2
  go_end0
  exact ⟨rfl, HF.out⟩
/-- boxes beside a writer that was made behind them, or ahead -/
theorem Bos.wr {L : List (Nat × Array Value × Nat)} {w W W' : World} {B b : Nat} {l : List UInt8} (h : Bos L w W) (k : Wr B b l W) (m : Moved b W W') (hB : w.heap.size ≤ B) (hs : B ≤ W.heap.size) (hn : ∀ x ∈ L, x.1 ≠ b ∧ x.2.2 ≠ 5) : Bos L w W' :=
  ⟨fun x hx => ⟨(m.block x.1 (lt_of_heap (h.at_ x hx).1) (hn x hx).1 (k.buf_ne (h.at_ x hx).1 (hn x hx).2)).trans (h.at_ x hx).1, (h.at_ x hx).2⟩, h.nd, h.bl.trans ((k.below m hs).mono hB)⟩
def bytesT (t : Tb) : ByteArray × Int := if chkT t = true then (mkB (encT t), 0) else (⟨#[]⟩, 1)
/-- i rows were written -/
def WrRel (t : Tb) (B b : Nat) (L : List (Nat × Array Value × Nat)) (w : World) (g : Nat) (s : Value) (wx : World) : Prop :=
  ∃ i : Nat, i + g = t.rows.length ∧ s = .int .i64 (i : Int) ∧ Wr B b (encInt t.mode ++ encInt (t.rows.length : Int) ++ encWs (t.rows.take i)) wx ∧ B ≤ wx.heap.size ∧ Bos L w wx
theorem encWs_take {l : List Rw} {i : Nat} (h : i < l.length) : encWs (l.take (i + 1)) = encWs (l.take i) ++ encW l[i] := by
  rw [List.take_succ_eq_append_getElem h, encWs_append]
  simp [encWs]
set_option maxHeartbeats 4000000 in
theorem bytes_any (t : Tb) (ao : Option Addr) (cap : Nat) (w : World) (hS : Seen Rw.cs 6 ao t.rows w) (hl : t.rows.length ≤ 1000) :
    Calls Try.prog 26 #[tv ao t.rows.length cap t.mode] w fun e w' => e = .returned (.tuple #[.string (bytesT t).1, .int .i64 (bytesT t).2]) ∧ Below w.heap.size w w' := by
  have S := Lib.hid hS
  have CT : Hid (∀ W, Below w.heap.size w W → Calls Try.prog 29 #[tv ao t.rows.length cap t.mode] W fun e w' => e = .returned (.bool (chkT t)) ∧ Below W.heap.size W w') := Lib.hid (fun W hb => check_any t ao cap W (hS.below hb (Nat.le_refl _)) hl)
  have H0 := Lib.hid ((bos_nil w).new #[.slice ao t.rows.length cap, .int .i64 t.mode] 24)
  clear hS
  cases hct : chkT t
  case false =>
    have E : bytesT t = (⟨#[]⟩, 1) := by unfold bytesT; rw [if_neg (by rw [hct]; decide)]
    rw [E]
    rw [hct] at CT
    clear E hct S
    obtain ⟨l, m⟩ := t
    unfold tv at *
    simp only at *
    obtain ⟨t0, t1⟩ := cell2 (H0.out.cell 0 rfl)
    go_enter Try.func26, Try.ntmps26
    go_wp2_with fail
    (with_reducible refine (CT.out _ H0.out.bl).mono ?_)
    rintro e w1 ⟨rfl, b1⟩
    have H1 := Lib.hid (H0.out.call b1)
    clear b1
    go_wp2
    go_ret2
    exact ⟨rfl, H1.out.bl⟩
  case true =>
    have E : bytesT t = (mkB (encT t), 0) := by unfold bytesT; rw [if_pos hct]
    rw [E]
    rw [hct] at CT
    obtain ⟨c1, c2, c3, c4, c5⟩ := chkT_iff.1 hct
    clear E hct
    have ET : encT t = encInt t.mode ++ encInt (t.rows.length : Int) ++ encWs t.rows := rfl
    have ETH := Lib.hid ET
    have OK : Hid (∀ r ∈ t.rows, chk r.t = true) := Lib.hid (fun r hr => (okW_iff.1 (c1 r hr)).1)
    have LN : Hid (∀ i, (encInt t.mode ++ encInt (t.rows.length : Int) ++ encWs (t.rows.take i)).length ≤ 800000) := Lib.hid (fun i => by
      have z1 : (encInt t.mode).length ≤ 9 := len9 (by omega)
      have z2 : (encInt (t.rows.length : Int)).length ≤ 9 := len9 (by omega)
      have z3 := encWs_len (l := t.rows.take i) (fun r hr => (okW_iff.1 (c1 r (List.mem_of_mem_take hr))).1)
      rw [List.length_take] at z3
      simp only [List.length_append]; omega)
    clear c1 c2 ET
    obtain ⟨l, m⟩ := t
    unfold tv at *
    simp only at *
    obtain ⟨t0, t1⟩ := cell2 (H0.out.cell 0 rfl)
    have hl16 : (l.length : Int) ≤ 16 := by omega
    go_enter Try.func26, Try.ntmps26
    go_wp2_with fail
    (with_reducible refine (CT.out _ H0.out.bl).mono ?_)
    rintro e w1 ⟨rfl, b1⟩
    have H1 := Lib.hid (H0.out.call b1)
    clear b1 CT H0 t0 t1
    have HD := Lib.hid H1.out.drew
    have HA := Lib.hid (H1.out.call ((Below.refl _ _).alloc (Nat.le_refl _) (.cells #[.pointer none, .slice none 0 0, .pointer none] 89)).drew)
    have FW : Hid (Wr w1.heap.size w1.heap.size [] (w1.alloc (.cells #[.pointer none, .slice none 0 0, .pointer none] 89)).drew) := Lib.hid ((fresh_wr w1).call (Below.refl _ _).drew)
    have NB : Hid (∀ x ∈ ([(w.heap.size, #[.slice ao l.length cap, .int .i64 m], 24)] : List (Nat × Array Value × Nat)), x.1 ≠ w1.heap.size ∧ x.2.2 ≠ 5) := Lib.hid (by
      intro x hx
      have := (H1.out.lt 0 rfl).1
      rw [List.mem_singleton.1 hx]
      exact ⟨by show w.heap.size ≠ w1.heap.size; omega, (by decide : (24 : Nat) ≠ 5)⟩)
    have hsz : Hid (w.heap.size ≤ w1.heap.size) := Lib.hid H1.out.bl.size
    have IC : Hid (∀ (x : List UInt8) (n : Int) W, 0 ≤ n ∧ n ≤ 1000000 → x.length ≤ 900000 → Wr w1.heap.size w1.heap.size x W → w1.heap.size ≤ W.heap.size → Bos [(w.heap.size, #[.slice ao l.length cap, .int .i64 m], 24)] w W → Calls Try.prog 56 #[self w1.heap.size, .int .i64 n] W fun e w' => e = .returned (self w1.heap.size) ∧ Wr w1.heap.size w1.heap.size (x ++ encInt n) w' ∧ w1.heap.size ≤ w'.heap.size ∧ Bos [(w.heap.size, #[.slice ao l.length cap, .int .i64 m], 24)] w w') := Lib.hid (fun x n W hn hx k hs h =>
      (Oc.int_any w1.heap.size w1.heap.size n x W k (int_wf hn.1 hn.2) hx hs).mono fun e w' ⟨he, hw, hm⟩ => ⟨he, hw, Nat.le_trans hs hm.size, h.wr k hm hsz.out hs NB.out⟩)
    have WC : Hid (∀ (x : List UInt8) (r : Rw) W, chk r.t = true → x.length ≤ 800000 → Wr w1.heap.size w1.heap.size x W → w1.heap.size ≤ W.heap.size → Bos [(w.heap.size, #[.slice ao l.length cap, .int .i64 m], 24)] w W → Calls Try.prog 57 #[self w1.heap.size, r.v] W fun e w' => e = .returned (.tuple #[]) ∧ Wr w1.heap.size w1.heap.size (x ++ encW r) w' ∧ w1.heap.size ≤ w'.heap.size ∧ Bos [(w.heap.size, #[.slice ao l.length cap, .int .i64 m], 24)] w w') := Lib.hid (fun x r W hr hx k hs h =>
      (write_any r W k hs hx hr).mono fun e w' ⟨he, hw, hm⟩ => ⟨he, hw, Nat.le_trans hs hm.size, h.wr k hm hsz.out hs NB.out⟩)
    have hm1 : 0 ≤ m ∧ m ≤ 1000000 := ⟨c4, by omega⟩
    have KEEP : Hid (∀ W, Bos [(w.heap.size, #[.slice ao l.length cap, .int .i64 m], 24)] w W → (W.cell? ⟨w.heap.size, 0, none⟩ = some (.slice ao l.length cap) ∧ W.cell? ⟨w.heap.size, 1, none⟩ = some (.int .i64 m))) := Lib.hid (fun W h => cell2 (h.cell 0 rfl))
    go_wp2_with fail
    refine wp_region_held_drew (S := (fun W' => W'.cell? ⟨w.heap.size, 0, none⟩ = some (.slice ao l.length cap) ∧ W'.cell? ⟨w.heap.size, 1, none⟩ = some (.int .i64 m))) (by kernel_rfl) (KEEP.out _ HD.out) (fun hHeld => ?_)
    refine wpAnyH_take (i := 1) (v := ?_) rfl (by kernel_rfl) (by kernel_rfl) (by kernel_rfl) (fun _ _ _ h => h) (Or.inl ⟨by rfl, ?_⟩) (by assumption) ?_
    rotate_left
    · (intro wS hSw; (try dsimp only at hSw); go_simp; try with_reducible rfl)
    (try simp only [Act.put, List.getElem_toArray, List.getElem_cons_succ, List.getElem_cons_zero, List.setIfInBounds_toArray, List.set_cons_zero, List.set_cons_succ])
    refine wpAnyH_take (i := 2) (v := ?_) rfl (by kernel_rfl) (by kernel_rfl) (by kernel_rfl) (fun _ _ _ h => h) (Or.inl ⟨by rfl, ?_⟩) (by assumption) ?_
    rotate_left
    · (intro wS hSw; (try dsimp only at hSw); go_simp; try with_reducible rfl)
    (try simp only [Act.put, List.getElem_toArray, List.getElem_cons_succ, List.getElem_cons_zero, List.setIfInBounds_toArray, List.set_cons_zero, List.set_cons_succ])
    refine wpAnyH_take (i := 4) (v := ?_) rfl (by kernel_rfl) (by kernel_rfl) (by kernel_rfl) (fun _ _ _ h => h) (Or.inl ⟨by rfl, ?_⟩) (by assumption) ?_
    rotate_left
    · (intro wS hSw; (try dsimp only at hSw); go_simp; try with_reducible rfl)
    (try simp only [Act.put, List.getElem_toArray, List.getElem_cons_succ, List.getElem_cons_zero, List.setIfInBounds_toArray, List.set_cons_zero, List.set_cons_succ])
    refine wpAnyH_take (i := 5) (v := ?_) rfl (by kernel_rfl) (by kernel_rfl) (by kernel_rfl) (fun _ _ _ h => h) (Or.inl ⟨by rfl, ?_⟩) (by assumption) ?_
    rotate_left
    · (intro wS hSw; (try dsimp only at hSw); go_simp; try with_reducible rfl)
    (try simp only [Act.put, List.getElem_toArray, List.getElem_cons_succ, List.getElem_cons_zero, List.setIfInBounds_toArray, List.set_cons_zero, List.set_cons_succ])
    refine wpAnyH_take (i := 6) (v := ?_) rfl (by kernel_rfl) (by kernel_rfl) (by kernel_rfl) (fun _ _ _ h => h) (Or.inl ⟨by rfl, ?_⟩) (by assumption) ?_
    rotate_left
    · (intro wS hSw; (try dsimp only at hSw); go_simp; try with_reducible rfl)
    (try simp only [Act.put, List.getElem_toArray, List.getElem_cons_succ, List.getElem_cons_zero, List.setIfInBounds_toArray, List.set_cons_zero, List.set_cons_succ])
    refine wpAnyH_ready (rs := [0]) (by kernel_rfl) (by simp) ?_
    refine AllReadyH.cons rfl (fun K hK => ?_) ?_
    · go_simp
      refine hK.out _ _ (KEEP.out _ HA.out) (fun hHeld => ?_)
      clear hK K
      (try simp only [Act.put, List.getElem_toArray, List.getElem_cons_succ, List.getElem_cons_zero, List.setIfInBounds_toArray, List.set_cons_zero, List.set_cons_succ])
      refine wpAnyH_ready (rs := [3]) (by kernel_rfl) (by simp) ?_
      refine AllReadyH.cons rfl (fun K hK => ?_) ?_
      · go_simp
        (with_reducible refine (IC.out [] m _ hm1 (by simp) FW.out (by simp) HA.out).mono ?_)
        rintro e w2 ⟨rfl, k2, s2, h2⟩
        have K2 := Lib.hid k2
        have S2 := Lib.hid s2
        have H2 := Lib.hid h2
        clear k2 s2 h2
        go_simp
        refine hK.out _ _ (KEEP.out _ H2.out) (fun hHeld => ?_)
        clear hK K
        (try simp only [Act.put, List.getElem_toArray, List.getElem_cons_succ, List.getElem_cons_zero, List.setIfInBounds_toArray, List.set_cons_zero, List.set_cons_succ])
        refine wpAnyH_ready (rs := [7]) (by kernel_rfl) (by simp) ?_
        refine AllReadyH.cons rfl (fun K hK => ?_) ?_
        · go_simp
          (with_reducible refine (IC.out _ (l.length : Int) _ ⟨by omega, by omega⟩ (by have := LN.out 0; simp only [List.length_append, List.nil_append] at this ⊢; omega) K2.out S2.out H2.out).mono ?_)
          rintro e w3 ⟨rfl, k3, s3, h3⟩
          have K3 := Lib.hid k3
          have S3 := Lib.hid s3
          have H3 := Lib.hid h3
          clear k3 s3 h3
          go_simp
          refine hK.out _ _ (KEEP.out _ H3.out) (fun hHeld => ?_)
          clear hK K
          (try simp only [Act.put, List.getElem_toArray, List.getElem_cons_succ, List.getElem_cons_zero, List.setIfInBounds_toArray, List.set_cons_zero, List.set_cons_succ])
          refine wpAnyH_take (i := 8) (v := ?_) rfl (by kernel_rfl) (by kernel_rfl) (by kernel_rfl) (fun _ _ _ h => h) (Or.inl ⟨by rfl, ?_⟩) (by assumption) ?_
          rotate_left
          · (intro wS hSw; (try dsimp only at hSw); go_simp; try with_reducible rfl)
          (try simp only [Act.put, List.getElem_toArray, List.getElem_cons_succ, List.getElem_cons_zero, List.setIfInBounds_toArray, List.set_cons_zero, List.set_cons_succ])
          refine wpAnyH_done (by kernel_rfl) ?_ _
          clear HA HD FW H1 K2 S2 H2
          rw [List.nil_append] at K3
          obtain ⟨t0, t1⟩ := cell2 (H3.out.cell 0 rfl)
          have G : Hid (WrRel ⟨l, m⟩ w1.heap.size w1.heap.size [(w.heap.size, #[.slice ao l.length cap, .int .i64 m], 24)] w l.length (.int .i64 0) w3) := Lib.hid ⟨0, by simp, rfl, by rw [List.take_zero]; simpa [encWs] using K3.out, S3.out, H3.out⟩
          clear K3 S3 H3
          go_wp2_with fail
          go_loopg [21] l.length (WrRel ⟨l, m⟩ w1.heap.size w1.heap.size [(w.heap.size, #[.slice ao l.length cap, .int .i64 m], 24)] w)
          case atStart => exact G.out
          case round =>
            obtain ⟨i, hi, rfl, hk, hs, hB⟩ := hrel
            simp only at hi hk
            have HB := Lib.hid hB
            have HK := Lib.hid hk
            have HS := Lib.hid hs
            have HI := Lib.hid hi
            clear G hB hk hs t0 t1
            by_cases hlt : i < l.length
            · obtain ⟨b, off, rfl, hb, hat⟩ := (S.out.below HB.out.bl (Nat.le_refl _)) (by omega)
              have hxi := List.getElem?_eq_getElem hlt
              obtain ⟨r0, r1, r2, r3, r4, r5⟩ := row_cells hat hxi
              have hlt' : (i : Int) < (l.length : Int) := by omega
              have hg0 : 0 < gk := by omega
              have CK := OK.out _ (List.getElem_mem hlt)
              have NX := Lib.hid (encWs_take hlt)
              generalize l[i] = x at *
              obtain ⟨⟨xi, xc, xd, xt, xm⟩, xs⟩ := x
              have ba : Below wr.heap.size wr (wr.alloc (.cells #[.int .i64 xi, .int .i64 xc, .int .i64 xd, .int .i64 xt, .int .i64 xm, .bool xs] 57)) := (Below.refl _ _).alloc (Nat.le_refl _) _
              have CW := Lib.hid (WC.out _ ⟨⟨xi, xc, xd, xt, xm⟩, xs⟩ _ CK (LN.out i) (HK.out.call ba) (Nat.le_trans HS.out ba.size) (HB.out.call ba))
              simp only [Rw.v] at *
              obtain ⟨a0, a1, a2, a3, a4, a5⟩ := cell6 ((HB.out.new #[.int .i64 xi, .int .i64 xc, .int .i64 xd, .int .i64 xt, .int .i64 xm, .bool xs] 57).cell 0 rfl)
              clear hat hxi hb ba CK hi hlt
              go_wp2_with fail
              (with_reducible refine CW.out.mono ?_)
              rintro e w4 ⟨rfl, k4, s4, h4⟩
              have K4 := Lib.hid k4
              have S4 := Lib.hid s4
              have H4 := Lib.hid h4
              clear k4 s4 h4 CW a0 a1 a2 a3 a4 a5 r0 r1 r2 r3 r4 r5
              go_wp2
              go_roundg (gk - 1)
              case measure => omega
              case rel => exact ⟨i + 1, by have := HI.out; simp only; omega, by go_num, by simp only; rw [NX.out, ← List.append_assoc]; exact K4.out, S4.out, H4.out⟩
            · have hge : (l.length : Int) ≤ (i : Int) := by omega
              obtain rfl : i = l.length := by omega
              have SC := Lib.hid (Oc.wstring_any _ _ _ wr HK.out (Nat.le_trans (LN.out l.length) (by omega)))
              have BW : Hid (∀ w', Wr w1.heap.size w1.heap.size (encInt m ++ encInt (l.length : Int) ++ encWs (l.take l.length)) w' → Moved w1.heap.size wr w' → Below w.heap.size w w') := Lib.hid (fun w' k mv => HB.out.bl.trans ((HK.out.below mv HS.out).mono hsz.out))
              rw [List.take_length, ← ETH.out] at SC
              clear hlt hi
              go_wp2_with fail
              (with_reducible refine SC.out.mono ?_)
              rintro e w4 ⟨rfl, k4, m4⟩
              have Z := Lib.hid (HB.out.bl.trans ((HK.out.below m4 HS.out).mono hsz.out))
              clear k4 m4 SC BW
              go_wp2
              go_ret2
              exact ⟨rfl, Z.out⟩
        exact AllReadyH.nil
      exact AllReadyH.nil
    exact AllReadyH.nil
end Go.Proofs.Ytnaanahgflbihaa.Tb
