/- Contracts of package journal's renew and find. -/
import Derived.Test.YtmccoejliaakoaaJnA
import Derived.Test.YtmccoejliaakoaaMSh
import Derived.Test.YtmccoejliaakoaaMSg
import Derived.Test.YtmccoejliaakoaaMWb
import Derived.Deep.RegionHeld3
namespace Go.Proofs.Ytmccoejliaakoaa.Jn
open Go.ChangeShapes Go.WideShapes Go.ChangeAt Go.RowKit Go.Joins
open Dk (Dk DS Own Moved ptr)
open Sl (Mv SS below_drewN SnAt)
open Wl (WS)
set_option maxRecDepth 100000
set_option linter.unusedVariables false
set_option linter.unusedSimpArgs false
/-- what is found, in its block -/
def FdAt (w : World) (p : Nat) (t : ByteArray) (v : Value) : Prop := w.heap[p]? = some (.cells #[.string t, v] 32 (0, 0))
section
variable {w w' : World} {p : Nat} {t : ByteArray} {v : Value}
theorem FdAt.lt (h : FdAt w p t v) : p < w.heap.size := Dk.lt_of_heap h
theorem FdAt.of_block (h : FdAt w p t v) (k : w'.heap[p]? = w.heap[p]?) : FdAt w' p t v := by unfold FdAt at *; rw [k]; exact h
theorem FdAt.c0 (h : FdAt w p t v) : w.cell? ⟨p, 0, none⟩ = some (.string t) := by rw [Lib.cell_of_heap h]; rfl
theorem FdAt.c1 (h : FdAt w p t v) : w.cell? ⟨p, 1, none⟩ = some v := by rw [Lib.cell_of_heap h]; rfl
theorem FdAt.fz (h : FdAt w p t v) (o : Nat) : w.frozen? ⟨p, o, none⟩ = false := Lib.frozen_of_heap h o
theorem FdAt.kp (h : FdAt w p t v) (k : Kp w w') : FdAt w' p t v := k p _ _ _ h (by decide)
theorem FdAt.set0 (h : FdAt w p t v) (x : ByteArray) : FdAt (w.setCell ⟨p, 0, none⟩ (.string x)) p x v := by
  unfold FdAt at *; simp [World.setCell, Array.getElem?_modify, h]
theorem FdAt.set1 (h : FdAt w p t v) (x : Value) : FdAt (w.setCell ⟨p, 1, none⟩ x) p t x := by
  unfold FdAt at *; simp [World.setCell, Array.getElem?_modify, h]
theorem fdAt_new (w : World) (t : ByteArray) (v : Value) : FdAt (w.alloc (.cells #[.string t, v] 32)) w.heap.size t v := heap_alloc_new _ _
theorem snAt_kp {e : Nat} {d : List UInt8} (h : SnAt w p e d) (k : Kp w w') : SnAt w' p e d := k p _ _ _ h (by decide)
end
/-- a store into a block of another kind that is new -/
theorem Kp.setNew {u w : World} (h : Kp u w) {p : Nat} (hp : u.heap.size ≤ p) (o : Nat) (x : Value) : Kp u (w.setCell ⟨p, o, none⟩ x) := fun k cs T fz hk hT => by
  have := Dk.lt_of_heap hk
  rw [Below.heap_setCell w ⟨p, o, none⟩ x k (by show k ≠ p; omega)]
  exact h k cs T fz hk hT
theorem Jn.setNew {B b j l q e : Nat} {tl : WS} {ts : SS} {g : Bool} {s : DS} {w0 w : World} (h : Jn B b j l q tl ts e g s w0 w) {p : Nat} {cs : Array Value} {T : TypeId} {fz : Nat × Nat} (hp : w.heap[p]? = some (.cells cs T fz)) (hT : Jt T) (hB : B ≤ p) (o : Nat) (x : Value) : Jn B b j l q tl ts e g s w0 (w.setCell ⟨p, o, none⟩ x) := by
  have e1 : l ≠ p := fun k => by have h1 := h.wl; unfold Wl.Wl at h1; rw [k, hp] at h1; simp only [Option.some.injEq, Obj.cells.injEq] at h1; exact hT.2.2.2.1 h1.2.1
  have e2 : q ≠ p := fun k => by have h1 := h.sl; unfold Sl.Sl at h1; rw [k, hp] at h1; simp only [Option.some.injEq, Obj.cells.injEq] at h1; exact hT.2.2.2.2.1 h1.2.1
  have e3 : j ≠ p := fun k => by have h1 := h.jn; unfold JAt at h1; rw [k, hp] at h1; simp only [Option.some.injEq, Obj.cells.injEq] at h1; exact hT.2.2.2.2.2 h1.2.1
  have nO : ¬ Dk.Own w b p := by
    obtain ⟨g', v, d⟩ := h.dk
    exact d.keepT hp hT.1 hT.2.1 hT.2.2.1
  refine ⟨Sl.Dk_setOther h.dk nO, h.wl.of_block (Below.heap_setCell w ⟨p, o, none⟩ x l e1), h.sl.of_block (Below.heap_setCell w ⟨p, o, none⟩ x q e2), h.jn.of_block (Below.heap_setCell w ⟨p, o, none⟩ x j e3), ?_, h.hj, h.hl, h.hq⟩
  refine h.bel.trans ⟨rfl, rfl, rfl, by simp [World.setCell], fun i hi => Below.heap_setCell w ⟨p, o, none⟩ x i (fun ei => ?_)⟩
  have e' : i = p := ei
  omega
/-- an answer of two cells is laid -/
theorem ret_two {B b j l q e : Nat} {tl : WS} {ts : SS} {g : Bool} {s : DS} {w0 w W : World} {p : Nat} {t : ByteArray} {v : Value} (h : Jn B b j l q tl ts e g s w0 W) (f : FdAt W p t v) (k : Kp w W) (hp : w.heap.size ≤ p) (hB : B ≤ w.heap.size) (x : ByteArray) (y : Value) :
    Jn B b j l q tl ts e g s w0 ((W.setCell ⟨p, 0, none⟩ (.string x)).setCell ⟨p, 1, none⟩ y) ∧ FdAt ((W.setCell ⟨p, 0, none⟩ (.string x)).setCell ⟨p, 1, none⟩ y) p x y ∧ Kp w ((W.setCell ⟨p, 0, none⟩ (.string x)).setCell ⟨p, 1, none⟩ y) :=
  ⟨(h.setNew f (by decide) (by omega) 0 _).setNew (f.set0 x) (by decide) (by omega) 1 _, (f.set0 x).set1 y, (k.setNew hp 0 _).setNew hp 1 _⟩
theorem strs_two {A : Nat} {W : World} {p : Nat} {t : ByteArray} {u : Value} {v : Value} {ds : List (List UInt8)} (st : Strs A W v ds) (f : FdAt W p t u) (x : ByteArray) (y : Value) : Strs A ((W.setCell ⟨p, 0, none⟩ (.string x)).setCell ⟨p, 1, none⟩ y) v ds :=
  Sl.strs_of st fun g hg => by
    obtain ⟨cur, hc⟩ := Sl.strs_block st hg
    have ne : g ≠ p := fun e => by
      have f' := f
      unfold FdAt at f'
      rw [← e, hc] at f'
      simp only [Option.some.injEq, Obj.cells.injEq] at f'
      exact absurd f'.2.1 (by decide)
    rw [Below.heap_setCell _ _ _ _ ne, Below.heap_setCell _ _ _ _ ne]
theorem renew_ok (B b j l q : Nat) (tl : WS) (ts : SS) (e : Nat) (g : Bool) (s s' : DS) (data : List UInt8) (w0 w : World) (h : Jn B b j l q tl ts e g s w0 w) (k1 : 1 ≤ ts.k) (k2 : ts.k ≤ 64) (hx : ts.nx ≤ 1) (ha : ts.at_ + ts.nx * ts.k + ts.k ≤ s.sec.length) (hr : ts.rd = true) (hnw : ts.nw < 18446744073709551615) (hd : data.length ≤ 1000) (hd2 : data.length ≤ 43 * ts.k) (hn : s.opn.length ≤ 800000) (hf : s.fail < 9223372036854775808) (n1 : 1 ≤ tl.n)
    (hP : Sl.putR s (ts.at_ + ts.nx * ts.k) ts.k data (ts.nw + 1) = (s', true)) :
    Calls Try.prog 24 #[ptr j, .string (mkB data)] w fun r w' => r = .returned (.int .i64 0) ∧ Jn B b j l q ⟨tl.at_, tl.n, some (ts.nw + 1, 0)⟩ ⟨ts.at_, ts.k, true, ts.nw + 1, 1 - ts.nx⟩ (ts.nw + 1) g s' w0 w' ∧ Kp w w' := by
  have WR := Sl.write_any B b q ts s data w h.dk h.sl k1 k2 hx ha hr hnw hd hd2 hn hf
  rw [hP] at WR
  have WR' : Hid (Calls Try.prog 43 #[ptr q, .string (mkB data)] w fun e w' => e = .returned (.tuple #[.int .u64 ((ts.nw + 1 : Nat) : Int), .int .i64 0]) ∧ Dk B b s' w' ∧ Sl.Sl q b ⟨ts.at_, ts.k, true, ts.nw + 1, 1 - ts.nx⟩ w' ∧ Mv b q w w') := Lib.hid WR
  clear WR hP
  have ST := Lib.hid (fun w1 (h1 : Wl.Wl l b tl w1) (d1 : Dk B b s' w1) => Wl.start_any (ts.nw + 1) w1 h1 d1 n1 (by omega))
  have P0 := Lib.hid h
  have c1 := h.jn.c1
  have e0 : 0 ≤ ((ts.nw + 1 : Nat) : Int) := by omega
  have e1 : ((ts.nw + 1 : Nat) : Int) < 18446744073709551616 := by omega
  clear h hd hd2 ha hn hf hr hx hnw
  generalize mkB data = DT at *
  go_enter Try.func24, Try.ntmps24
  go_wp2_with fail
  (with_reducible refine WR'.out.mono ?_)
  rintro r w1 ⟨rfl, d1, s1, m1⟩
  have P1 := Lib.hid (show Jn B b j l q tl ⟨ts.at_, ts.k, true, ts.nw + 1, 1 - ts.nx⟩ e g s' w0 w1 ∧ Kp w w1 from ⟨P0.out.goS d1 s1 m1, .mvS P0.out.dk P0.out.sl m1⟩)
  have P2 := Lib.hid (show Jn B b j l q tl ⟨ts.at_, ts.k, true, ts.nw + 1, 1 - ts.nx⟩ (ts.nw + 1) g s' w0 (w1.setCell ⟨j, 2, none⟩ (.int .u64 ((ts.nw + 1 : Nat) : Int))) ∧ Kp w (w1.setCell ⟨j, 2, none⟩ (.int .u64 ((ts.nw + 1 : Nat) : Int))) from ⟨P1.out.1.setE rfl, P1.out.2.trans (.setJ P1.out.1.jn 2 _)⟩)
  have x2 := P1.out.1.jn.c2
  have f2 := P1.out.1.jn.fz 2
  have x0 := P2.out.1.jn.c0
  have SX := Lib.hid (ST.out _ P2.out.1.wl P2.out.1.dk)
  clear WR' c1 d1 s1 m1 P1 ST P0
  generalize hE : ((ts.nw + 1 : Nat) : Int) = E at *
  generalize hW : w1.setCell ⟨j, 2, none⟩ (.int .u64 E) = W2 at *
  have HW := Lib.hid hW
  go_wp2_with fail
  (try rw [hW])
  (with_reducible refine SX.out.mono ?_)
  rintro r w3 ⟨rfl, l3, d3, m3⟩
  have FIN := Lib.hid (show Jn B b j l q ⟨tl.at_, tl.n, some (ts.nw + 1, 0)⟩ ⟨ts.at_, ts.k, true, ts.nw + 1, 1 - ts.nx⟩ (ts.nw + 1) g s' w0 w3 ∧ Kp w w3 from ⟨P2.out.1.goL d3 l3 m3, P2.out.2.trans (.mvL P2.out.1.dk P2.out.1.wl m3)⟩)
  clear SX P2 l3 d3 m3 x0 x2 f2 hW HW
  go_wp2
  go_ret
  exact ⟨rfl, FIN.out⟩
theorem renew_io (B b j l q : Nat) (tl : WS) (ts : SS) (e : Nat) (g : Bool) (s s' : DS) (data : List UInt8) (w0 w : World) (h : Jn B b j l q tl ts e g s w0 w) (k1 : 1 ≤ ts.k) (k2 : ts.k ≤ 64) (hx : ts.nx ≤ 1) (ha : ts.at_ + ts.nx * ts.k + ts.k ≤ s.sec.length) (hr : ts.rd = true) (hnw : ts.nw < 18446744073709551615) (hd : data.length ≤ 1000) (hd2 : data.length ≤ 43 * ts.k) (hn : s.opn.length ≤ 800000) (hf : s.fail < 9223372036854775808)
    (hP : Sl.putR s (ts.at_ + ts.nx * ts.k) ts.k data (ts.nw + 1) = (s', false)) :
    Calls Try.prog 24 #[ptr j, .string (mkB data)] w fun r w' => r = .returned (.int .i64 18) ∧ Jn B b j l q tl ⟨ts.at_, ts.k, false, ts.nw + 1, ts.nx⟩ e g s' w0 w' ∧ Kp w w' := by
  have WR := Sl.write_any B b q ts s data w h.dk h.sl k1 k2 hx ha hr hnw hd hd2 hn hf
  rw [hP] at WR
  have WR' : Hid (Calls Try.prog 43 #[ptr q, .string (mkB data)] w fun e w' => e = .returned (.tuple #[.int .u64 0, .int .i64 18]) ∧ Dk B b s' w' ∧ Sl.Sl q b ⟨ts.at_, ts.k, false, ts.nw + 1, ts.nx⟩ w' ∧ Mv b q w w') := Lib.hid WR
  clear WR hP
  have P0 := Lib.hid h
  have c1 := h.jn.c1
  clear h hd hd2 ha hn hf hr hx hnw
  generalize mkB data = DT at *
  go_enter Try.func24, Try.ntmps24
  go_wp2_with fail
  (with_reducible refine WR'.out.mono ?_)
  rintro r w1 ⟨rfl, d1, s1, m1⟩
  have FIN := Lib.hid (show Jn B b j l q tl ⟨ts.at_, ts.k, false, ts.nw + 1, ts.nx⟩ e g s' w0 w1 ∧ Kp w w1 from ⟨P0.out.goS d1 s1 m1, .mvS P0.out.dk P0.out.sl m1⟩)
  clear WR' c1 d1 s1 m1 P0
  go_wp2
  go_ret
  exact ⟨rfl, FIN.out⟩
def noFound : Value := .agg #[.string ⟨#[]⟩, .slice none 0 0]
/-- the slots can't be read -/
theorem find_rd (B b j l q : Nat) (tl : WS) (ts : SS) (e : Nat) (g : Bool) (s : DS) (w0 w : World) (h : Jn B b j l q tl ts e g s w0 w) (k1 : 1 ≤ ts.k) (k2 : ts.k ≤ 64) (ka : ts.at_ + 2 * ts.k ≤ s.sec.length) (hr : s.reads ≤ 800000000) (hn : s.opn.length ≤ 900000) (hf1 : 1 ≤ s.fail) (hf2 : s.fail ≤ 2 * ts.k) :
    Calls Try.prog 34 #[ptr j] w fun r w' => r = .returned (.tuple #[noFound, .int .i64 18]) ∧ Jn B b j l q tl ⟨ts.at_, ts.k, false, 0, 0⟩ e g ⟨s.sec, s.opn, 0, s.reads + s.fail⟩ w0 w' ∧ Kp w w' := by
  have b0 := (Below.refl w.heap.size w).alloc (Nat.le_refl _) (.cells #[.string ⟨#[]⟩, .slice none 0 0] 32)
  have P0 := Lib.hid (And.intro (h.call b0) (And.intro (fdAt_new w ⟨#[]⟩ (.slice none 0 0)) (Kp.below b0)))
  have RD := Lib.hid (Sl.read_io B b q ts s _ P0.out.1.dk P0.out.1.sl k1 k2 ka (by omega) hn hf1 hf2)
  have c1 := P0.out.1.jn.c1
  have HB : B ≤ w.heap.size := h.dk.le
  clear h b0
  generalize hW : w.alloc (.cells #[.string ⟨#[]⟩, .slice none 0 0] 32) = W0 at *
  go_enter Try.func34, Try.ntmps34
  go_wp2_with fail
  (try rw [hW])
  (with_reducible refine RD.out.mono ?_)
  rintro r w1 ⟨rfl, d1, s1, m1⟩
  have b2 := (Below.refl w1.heap.size w1).alloc (Nat.le_refl _) (.cells #[.int .u64 0, .string ⟨#[]⟩] 55)
  have P1 := Lib.hid (show Jn B b j l q tl ⟨ts.at_, ts.k, false, 0, 0⟩ e g ⟨s.sec, s.opn, 0, s.reads + s.fail⟩ w0 (w1.alloc (.cells #[.int .u64 0, .string ⟨#[]⟩] 55)) ∧ FdAt (w1.alloc (.cells #[.int .u64 0, .string ⟨#[]⟩] 55)) w.heap.size ⟨#[]⟩ (.slice none 0 0) ∧ Kp w (w1.alloc (.cells #[.int .u64 0, .string ⟨#[]⟩] 55)) from by
    have kp := Kp.mvS P0.out.1.dk P0.out.1.sl m1
    exact ⟨(P0.out.1.goS d1 s1 m1).call b2, (P0.out.2.1.kp kp).kp (.below b2), (P0.out.2.2.trans kp).call b2⟩)
  have FIN := Lib.hid (ret_two P1.out.1 P1.out.2.1 P1.out.2.2 (Nat.le_refl _) HB ⟨#[]⟩ (.slice none 0 0))
  have y0 := P1.out.2.1.c0
  have y1 := P1.out.2.1.c1
  have z0 := P1.out.2.1.fz 0
  have z1 := P1.out.2.1.fz 1
  have x0 := FIN.out.2.1.c0
  have x1 := FIN.out.2.1.c1
  clear RD c1 d1 s1 m1 b2 P0 hW P1
  go_wp2
  refine bodyPost_ret (v := .tuple #[noFound, .int .i64 18]) (by simp [results, Try.results34, go_sem, y0, y1, x0, x1, noFound]) rfl ⟨rfl, FIN.out.1, FIN.out.2.2⟩
/-- there is no snapshot -/
theorem find_none (B b j l q : Nat) (tl : WS) (ts : SS) (e : Nat) (g : Bool) (s : DS) (x : Nat) (w0 w : World) (h : Jn B b j l q tl ts e g s w0 w) (k1 : 1 ≤ ts.k) (k2 : ts.k ≤ 64) (ka : ts.at_ + 2 * ts.k ≤ s.sec.length) (hr : s.reads ≤ 800000000) (hn : s.opn.length ≤ 900000) (hf : s.fail < 9223372036854775808) (hf2 : s.fail = 0 ∨ 2 * ts.k < s.fail) (ht : Sl.toldR ts s = ((0, []), x)) :
    Calls Try.prog 34 #[ptr j] w fun r w' => r = .returned (.tuple #[noFound, .int .i64 12]) ∧ Jn B b j l q tl ⟨ts.at_, ts.k, true, Sl.newR ts s, x⟩ e g (Sl.gotR s ts.k) w0 w' ∧ Kp w w' := by
  have b0 := (Below.refl w.heap.size w).alloc (Nat.le_refl _) (.cells #[.string ⟨#[]⟩, .slice none 0 0] 32)
  have P0 := Lib.hid (And.intro (h.call b0) (And.intro (fdAt_new w ⟨#[]⟩ (.slice none 0 0)) (Kp.below b0)))
  have RD := Sl.read_ok B b q ts s _ P0.out.1.dk P0.out.1.sl k1 k2 ka (by omega) hn hf hf2
  rw [ht] at RD
  have RD' : Hid (Calls Try.prog 23 #[ptr q] _ fun e w' => e = .returned (.tuple #[.agg #[.int .u64 0, .string ⟨#[]⟩], .bool false, .int .i64 0]) ∧ Dk B b (Sl.gotR s ts.k) w' ∧ Sl.Sl q b ⟨ts.at_, ts.k, true, Sl.newR ts s, x⟩ w' ∧ Mv b q _ w') := Lib.hid RD
  have c1 := P0.out.1.jn.c1
  have HB : B ≤ w.heap.size := h.dk.le
  clear h b0 RD ht
  generalize hW : w.alloc (.cells #[.string ⟨#[]⟩, .slice none 0 0] 32) = W0 at *
  go_enter Try.func34, Try.ntmps34
  go_wp2_with fail
  (try rw [hW])
  (with_reducible refine RD'.out.mono ?_)
  rintro r w1 ⟨rfl, d1, s1, m1⟩
  have b2 := (Below.refl w1.heap.size w1).alloc (Nat.le_refl _) (.cells #[.int .u64 0, .string ⟨#[]⟩] 55)
  have P1 := Lib.hid (show Jn B b j l q tl ⟨ts.at_, ts.k, true, Sl.newR ts s, x⟩ e g (Sl.gotR s ts.k) w0 (w1.alloc (.cells #[.int .u64 0, .string ⟨#[]⟩] 55)) ∧ FdAt (w1.alloc (.cells #[.int .u64 0, .string ⟨#[]⟩] 55)) w.heap.size ⟨#[]⟩ (.slice none 0 0) ∧ Kp w (w1.alloc (.cells #[.int .u64 0, .string ⟨#[]⟩] 55)) from by
    have kp := Kp.mvS P0.out.1.dk P0.out.1.sl m1
    exact ⟨(P0.out.1.goS d1 s1 m1).call b2, (P0.out.2.1.kp kp).kp (.below b2), (P0.out.2.2.trans kp).call b2⟩)
  have FIN := Lib.hid (ret_two P1.out.1 P1.out.2.1 P1.out.2.2 (Nat.le_refl _) HB ⟨#[]⟩ (.slice none 0 0))
  have y0 := P1.out.2.1.c0
  have y1 := P1.out.2.1.c1
  have z0 := P1.out.2.1.fz 0
  have z1 := P1.out.2.1.fz 1
  have x0 := FIN.out.2.1.c0
  have x1 := FIN.out.2.1.c1
  clear RD' c1 d1 s1 m1 b2 P0 hW P1
  go_wp2
  refine bodyPost_ret (v := .tuple #[noFound, .int .i64 12]) (by simp [results, Try.results34, go_sem, y0, y1, x0, x1, noFound]) rfl ⟨rfl, FIN.out.1, FIN.out.2.2⟩
/-- what there is, up to the log's Scan -/
structure Fnd (B b j l q p n : Nat) (tl : WS) (ts : SS) (e : Nat) (g : Bool) (s : DS) (E : Nat) (d : List UInt8) (w0 w W : World) : Prop where
  jn : Jn B b j l q tl ts e g s w0 W
  fd : FdAt W p ⟨#[]⟩ (.slice none 0 0)
  sn : SnAt W n E d
  kp : Kp w W
set_option maxHeartbeats 1000000 in
theorem find_scan (B b j l q : Nat) (tl : WS) (ts : SS) (e : Nat) (g : Bool) (s : DS) (E : Nat) (d : List UInt8) (x : Nat) (w0 w : World) (h : Jn B b j l q tl ts e g s w0 w) (k1 : 1 ≤ ts.k) (k2 : ts.k ≤ 64) (ka : ts.at_ + 2 * ts.k ≤ s.sec.length) (hr : s.reads ≤ 800000000) (hn : s.opn.length ≤ 900000) (hf : s.fail < 9223372036854775808) (hf2 : s.fail = 0 ∨ 2 * ts.k < s.fail) (ht : Sl.toldR ts s = ((E, d), x)) (hE : 1 ≤ E) (n1 : 1 ≤ tl.n) (nl : tl.at_ + tl.n ≤ s.sec.length) (err : Nat) (ops : List (List UInt8)) (s' : DS)
    (hs : Wl.scanR (Sl.gotR s ts.k) tl.at_ tl.n E = (s', ops, err)) :
    (err = 18 → Calls Try.prog 34 #[ptr j] w fun r w' => r = .returned (.tuple #[noFound, .int .i64 18]) ∧ Jn B b j l q ⟨tl.at_, tl.n, none⟩ ⟨ts.at_, ts.k, true, Sl.newR ts s, x⟩ e g s' w0 w' ∧ Kp w w') ∧
    (err = 0 → Calls Try.prog 34 #[ptr j] w fun r w' => ∃ v, r = .returned (.tuple #[.agg #[.string (mkB d), v], .int .i64 0]) ∧ Strs w.heap.size w' v ops ∧ Jn B b j l q ⟨tl.at_, tl.n, some (E, ops.length)⟩ ⟨ts.at_, ts.k, true, Sl.newR ts s, x⟩ E g s' w0 w' ∧ Kp w w') := by
  have b0 := (Below.refl w.heap.size w).alloc (Nat.le_refl _) (.cells #[.string ⟨#[]⟩, .slice none 0 0] 32)
  have P0 := Lib.hid (And.intro (h.call b0) (And.intro (fdAt_new w ⟨#[]⟩ (.slice none 0 0)) (Kp.below b0)))
  have RD := Sl.read_ok B b q ts s _ P0.out.1.dk P0.out.1.sl k1 k2 ka (by omega) hn hf hf2
  rw [ht] at RD
  have hp : decide (0 < E) = true := by simp; omega
  dsimp only at RD
  rw [hp] at RD
  have RD' : Hid _ := Lib.hid RD
  have c1 := P0.out.1.jn.c1
  have HB : B ≤ w.heap.size := h.dk.le
  have SC0 := Lib.hid (fun w1 (h1 : Wl.Wl l b tl w1) (d1 : Dk B b (Sl.gotR s ts.k) w1) => Wl.scan_any E w1 h1 d1 n1 (by show _ ≤ s.sec.length; exact nl) hE (by show s.reads + 2 * ts.k ≤ 900000000; omega) (by show s.opn.length ≤ 900000; exact hn) (by show s.fail - 2 * ts.k < _; omega))
  have E18 : err = 18 → Wl.scanS (Sl.gotR s ts.k) tl.at_ tl.n E = none := fun h => by unfold Wl.scanS; rw [hs]; simp [h]
  have E0 : err = 0 → Wl.scanS (Sl.gotR s ts.k) tl.at_ tl.n E = some (E, ops.length) := fun h => by unfold Wl.scanS; rw [hs]; simp [h]
  have EL : E < 18446744073709551616 := by
    have := Sl.readTo_lt (Sl.rowOf s ts.at_ ts.k) (Sl.rowOf s (ts.at_ + ts.k) ts.k) 2
    have e' : Sl.readTo (Sl.rowOf s ts.at_ ts.k) (Sl.rowOf s (ts.at_ + ts.k) ts.k) 2 = ((E, d), x) := ht
    rw [e'] at this; exact this
  have HS := Lib.hid hs
  clear h b0 RD ht hp hs hn hr hf hf2 nl n1 ka k1 k2
  have A1 := Lib.hid (fun w1 (d1 : Dk B b (Sl.gotR s ts.k) w1) (s1 : Sl.Sl q b ⟨ts.at_, ts.k, true, Sl.newR ts s, x⟩ w1) (m1 : Mv b q (w.alloc (.cells #[.string ⟨#[]⟩, .slice none 0 0] 32)) w1) => show Fnd B b j l q w.heap.size w1.heap.size tl ⟨ts.at_, ts.k, true, Sl.newR ts s, x⟩ e g (Sl.gotR s ts.k) E d w0 w ((w1.alloc (.cells #[.int .u64 (E : Int), .string (mkB d)] 55)).drew) from by
    have b2 := ((Below.refl w1.heap.size w1).alloc (Nat.le_refl _) (.cells #[.int .u64 (E : Int), .string (mkB d)] 55)).drew
    have kp := Kp.mvS P0.out.1.dk P0.out.1.sl m1
    exact ⟨(P0.out.1.goS d1 s1 m1).call b2, (P0.out.2.1.kp kp).kp (.below b2), heap_alloc_new _ _, (P0.out.2.2.trans kp).call b2⟩)
  generalize hW : w.alloc (.cells #[.string ⟨#[]⟩, .slice none 0 0] 32) = W0 at *
  clear P0
  refine ⟨fun herr => ?_, fun herr => ?_⟩
  · have ES := Lib.hid (E18 herr)
    subst herr
    clear E0 E18
    go_enter Try.func34, Try.ntmps34
    go_wp2_with fail
    (try rw [hW])
    (with_reducible refine RD'.out.mono ?_)
    rintro r w1 ⟨rfl, d1, s1, m1⟩
    have P2 := Lib.hid (A1.out w1 d1 s1 m1)
    have jc0 : (w1.alloc (.cells #[.int .u64 (E : Int), .string (mkB d)] 55)).cell? ⟨j, 0, none⟩ = some (ptr l) := P2.out.jn.jn.c0
    have sc0 : (w1.alloc (.cells #[.int .u64 (E : Int), .string (mkB d)] 55)).cell? ⟨w1.heap.size, 0, none⟩ = some (.int .u64 (E : Int)) := P2.out.sn.c0
    have SX := SC0.out _ P2.out.jn.wl P2.out.jn.dk
    rw [HS.out, ES.out] at SX
    have SX' := Lib.hid SX
    clear RD' c1 d1 s1 m1 A1 SC0 SX ES HS
    go_wp2_with fail
    generalize hA : w1.alloc (.cells #[.int .u64 (E : Int), .string (mkB d)] 55) = WA at *
    generalize hn : w1.heap.size = n at *
    have KS : Hid (WA.drew.cell? ⟨j, 0, none⟩ = some (ptr l) ∧ WA.drew.cell? ⟨n, 0, none⟩ = some (.int .u64 (E : Int))) := Lib.hid ⟨P2.out.jn.jn.c0, P2.out.sn.c0⟩
    have KD := Lib.hid (fun w3 (m3 : Mv b l WA.drew w3) => show w3.cell? ⟨j, 0, none⟩ = some (ptr l) ∧ w3.cell? ⟨n, 0, none⟩ = some (.int .u64 (E : Int)) from ⟨(P2.out.jn.jn.of_block (m3.block j P2.out.jn.jn.lt P2.out.jn.notOwn (Ne.symm P2.out.jn.lj))).c0, (snAt_kp P2.out.sn (Kp.mvL P2.out.jn.dk P2.out.jn.wl m3)).c0⟩)
    generalize hEI : (E : Int) = EI at *
    go_region_held3 (fun w' => w'.cell? ⟨j, 0, none⟩ = some (ptr l) ∧ w'.cell? ⟨n, 0, none⟩ = some (.int .u64 EI)) (first | exact KS.out | assumption | fail) (first | (go_at_call 50; (with_reducible refine SX'.out.mono ?_); rintro e1 w3 ⟨v, rfl, st, d3, l3, m3⟩; (have kn := KD.out w3 m3)) | fail)
    clear jc0 sc0 KS KD kn
    subst hEI
    obtain ⟨va, vc, hv⟩ := Wl.strs_form st
    subst hv
    have kp := Kp.mvL P2.out.jn.dk P2.out.jn.wl m3
    have P3 := Lib.hid (And.intro (P2.out.jn.goL d3 l3 m3) (And.intro (P2.out.fd.kp kp) (P2.out.kp.trans kp)))
    have FIN := Lib.hid (ret_two P3.out.1 P3.out.2.1 P3.out.2.2 (Nat.le_refl _) HB ⟨#[]⟩ (.slice none 0 0))
    have y0 := P3.out.2.1.c0
    have y1 := P3.out.2.1.c1
    have z0 := P3.out.2.1.fz 0
    have z1 := P3.out.2.1.fz 1
    have x0 := FIN.out.2.1.c0
    have x1 := FIN.out.2.1.c1
    clear SX' P2 P3 st d3 l3 m3 kp hW hA hn
    go_wp2
    refine bodyPost_ret (v := .tuple #[noFound, .int .i64 18]) (by simp [results, Try.results34, go_sem, y0, y1, x0, x1, noFound]) rfl ⟨rfl, FIN.out.1, FIN.out.2.2⟩
  · have ES := Lib.hid (E0 herr)
    subst herr
    clear E0 E18
    go_enter Try.func34, Try.ntmps34
    go_wp2_with fail
    (try rw [hW])
    (with_reducible refine RD'.out.mono ?_)
    rintro r w1 ⟨rfl, d1, s1, m1⟩
    have P2 := Lib.hid (A1.out w1 d1 s1 m1)
    have WS2 : w.heap.size ≤ w1.heap.size := by have := m1.size; rw [← hW] at this; simp at this; omega
    have jc0 : (w1.alloc (.cells #[.int .u64 (E : Int), .string (mkB d)] 55)).cell? ⟨j, 0, none⟩ = some (ptr l) := P2.out.jn.jn.c0
    have sc0 : (w1.alloc (.cells #[.int .u64 (E : Int), .string (mkB d)] 55)).cell? ⟨w1.heap.size, 0, none⟩ = some (.int .u64 (E : Int)) := P2.out.sn.c0
    have SX := SC0.out _ P2.out.jn.wl P2.out.jn.dk
    rw [HS.out, ES.out] at SX
    have SX' := Lib.hid SX
    have WZ : w.heap.size ≤ (w1.alloc (.cells #[.int .u64 (E : Int), .string (mkB d)] 55)).drew.heap.size := by simp; omega
    clear RD' c1 d1 s1 m1 A1 SC0 SX ES HS
    go_wp2_with fail
    generalize hA : w1.alloc (.cells #[.int .u64 (E : Int), .string (mkB d)] 55) = WA at *
    generalize hn : w1.heap.size = n at *
    have KS : Hid (WA.drew.cell? ⟨j, 0, none⟩ = some (ptr l) ∧ WA.drew.cell? ⟨n, 0, none⟩ = some (.int .u64 (E : Int))) := Lib.hid ⟨P2.out.jn.jn.c0, P2.out.sn.c0⟩
    have KD := Lib.hid (fun w3 (m3 : Mv b l WA.drew w3) => show w3.cell? ⟨j, 0, none⟩ = some (ptr l) ∧ w3.cell? ⟨n, 0, none⟩ = some (.int .u64 (E : Int)) from ⟨(P2.out.jn.jn.of_block (m3.block j P2.out.jn.jn.lt P2.out.jn.notOwn (Ne.symm P2.out.jn.lj))).c0, (snAt_kp P2.out.sn (Kp.mvL P2.out.jn.dk P2.out.jn.wl m3)).c0⟩)
    generalize hEI : (E : Int) = EI at *
    go_region_held3 (fun w' => w'.cell? ⟨j, 0, none⟩ = some (ptr l) ∧ w'.cell? ⟨n, 0, none⟩ = some (.int .u64 EI)) (first | exact KS.out | assumption | fail) (first | (go_at_call 50; (with_reducible refine SX'.out.mono ?_); rintro e1 w3 ⟨v, rfl, st, d3, l3, m3⟩; (have kn := KD.out w3 m3)) | fail)
    clear jc0 sc0 KS KD kn
    subst hEI
    obtain ⟨va, vc, hv⟩ := Wl.strs_form st
    subst hv
    have kp := Kp.mvL P2.out.jn.dk P2.out.jn.wl m3
    have P3 := Lib.hid (show Fnd B b j l q w.heap.size n _ _ e g s' E d w0 w w3 from ⟨P2.out.jn.goL d3 l3 m3, P2.out.fd.kp kp, snAt_kp P2.out.sn kp, P2.out.kp.trans kp⟩)
    have ST3 := Lib.hid (Sl.strs_mono st WZ)
    have KJ := Kp.setJ P3.out.jn.jn 2 (.int .u64 (E : Int))
    have P4 := Lib.hid (show Fnd B b j l q w.heap.size n _ _ E g s' E d w0 w (w3.setCell ⟨j, 2, none⟩ (.int .u64 (E : Int))) from ⟨P3.out.jn.setE rfl, P3.out.fd.kp KJ, snAt_kp P3.out.sn KJ, P3.out.kp.trans KJ⟩)
    have ST4 := Lib.hid (KJ.strs ST3.out)
    have FIN := Lib.hid (ret_two P4.out.jn P4.out.fd P4.out.kp (Nat.le_refl _) HB (mkB d) (.slice va ops.length vc))
    have ST5 := Lib.hid (strs_two ST4.out P4.out.fd (mkB d) (.slice va ops.length vc))
    have q2 := P3.out.jn.jn.c2
    have qf := P3.out.jn.jn.fz 2
    have r0 := P3.out.sn.c0
    have r1 := P3.out.sn.c1
    have r2 := P4.out.sn.c1
    have y0 := P4.out.fd.c0
    have y1 := P4.out.fd.c1
    have z0 := P4.out.fd.fz 0
    have z1 := P4.out.fd.fz 1
    have x0 := FIN.out.2.1.c0
    have x1 := FIN.out.2.1.c1
    clear SX' P2 P3 P4 st d3 l3 m3 kp hW hA KJ ST3 ST4 hn WZ WS2
    go_wp2
    refine bodyPost_ret (v := .tuple #[.agg #[.string (mkB d), .slice va ops.length vc], .int .i64 0]) (by simp [results, Try.results34, go_sem, y0, y1, x0, x1]) rfl ⟨_, rfl, ST5.out, FIN.out.1, FIN.out.2.2⟩
end Go.Proofs.Ytmccoejliaakoaa.Jn
