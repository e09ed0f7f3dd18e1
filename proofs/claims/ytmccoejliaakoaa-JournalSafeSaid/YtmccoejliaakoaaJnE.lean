/- Contracts of package journal's Format and Open. -/
import Derived.Test.YtmccoejliaakoaaJnB
import Derived.Test.YtmccoejliaakoaaMDb
import Derived.BigRegion
namespace Go.Proofs.Ytmccoejliaakoaa.Jn
open Go.ChangeShapes Go.WideShapes Go.ChangeAt Go.RowKit Go.Joins
open Dk (Dk DS Own Moved ptr)
open Sl (Mv SS below_drewN SnAt)
open Wl (WS)
set_option maxRecDepth 100000
set_option linter.unusedVariables false
set_option linter.unusedSimpArgs false
theorem format_nil (w : World) :
    Calls Try.prog 10 #[.pointer none, .int .i64 1, .string ⟨#[]⟩] w fun r w' => r = .returned (.tuple #[.pointer none, .int .i64 1]) ∧ w' = w := by
  have ON := Lib.hid (on_nil w)
  go_enter Try.func10, Try.ntmps10
  go_wp2_with fail
  (with_reducible refine ON.out.mono ?_)
  rintro r w1 ⟨rfl, rfl⟩
  clear ON
  go_wp2
  go_ret2
  exact ⟨rfl, rfl⟩
theorem format_no (B b : Nat) (s : DS) (k : Int) (data : ByteArray) (w : World) (h : Dk B b s w) (hk : ¬ (1 ≤ k ∧ k ≤ 64 ∧ 2 * k < s.sec.length)) :
    Calls Try.prog 10 #[ptr b, .int .i64 k, .string data] w fun r w' => r = .returned (.tuple #[.pointer none, .int .i64 1]) ∧ Below w.heap.size w w' := by
  have ON := Lib.hid (on_no B b s k w h hk)
  clear h hk
  go_enter Try.func10, Try.ntmps10
  go_wp2_with fail
  (with_reducible refine ON.out.mono ?_)
  rintro r w1 ⟨rfl, b1⟩
  clear ON
  go_wp2
  go_ret2
  exact ⟨rfl, b1⟩
set_option maxHeartbeats 1000000 in
theorem format_ok (B b k n x : Nat) (t : Nat × List UInt8) (s s' : DS) (data : List UInt8) (w0 w : World) (h : Dk B b s w) (hb : Below B w0 w) (k1 : 1 ≤ k) (k2 : k ≤ 64) (n1 : 1 ≤ n) (hl : s.sec.length = 2 * k + n) (hr : s.reads ≤ 800000000) (hn : s.opn.length ≤ 800000) (hf : s.fail < 9223372036854775808) (hf2 : s.fail = 0 ∨ 2 * k < s.fail) (ht : Sl.toldR ⟨0, k, false, 0, 0⟩ s = (t, x)) (hx : x ≤ 1) (hd : data.length ≤ 1000) (hd2 : data.length ≤ 43 * k) (hnw : Sl.newR ⟨0, k, false, 0, 0⟩ s < 18446744073709551615)
    (hP : Sl.putR (Sl.gotR s k) (x * k) k data (Sl.newR ⟨0, k, false, 0, 0⟩ s + 1) = (s', true)) :
    Calls Try.prog 10 #[ptr b, .int .i64 (k : Int), .string (mkB data)] w fun r w' => ∃ j l q, r = .returned (.tuple #[ptr j, .int .i64 0]) ∧ Jn B b j l q ⟨2 * k, n, some (Sl.newR ⟨0, k, false, 0, 0⟩ s + 1, 0)⟩ ⟨0, k, true, Sl.newR ⟨0, k, false, 0, 0⟩ s + 1, 1 - x⟩ (Sl.newR ⟨0, k, false, 0, 0⟩ s + 1) true s' w0 w' ∧ Kp w w' := by
  have ON := Lib.hid (on_yes B b s k n w0 w h hb k1 k2 n1 hl)
  have RD := Lib.hid (fun (j l q : Nat) (w1 : World) (h1 : Jn B b j l q ⟨2 * k, n, none⟩ ⟨0, k, false, 0, 0⟩ 0 false s w0 w1) => Sl.read_ok B b q ⟨0, k, false, 0, 0⟩ s w1 h1.dk h1.sl k1 k2 (by show 0 + 2 * k ≤ _; omega) (by omega) (by omega) hf hf2)
  have KR := Lib.hid (fun (x' : Nat) (hh : (Sl.toldR ⟨0, k, false, 0, 0⟩ s).2 = x') => show x' = x by rw [ht] at hh; exact hh.symm)
  have xx : x * k + k ≤ s.sec.length := by rcases (show x = 0 ∨ x = 1 by omega) with rfl | rfl <;> omega
  have RN := Lib.hid (fun (j l q : Nat) (w1 : World) (h1 : Jn B b j l q ⟨2 * k, n, none⟩ ⟨0, k, true, Sl.newR ⟨0, k, false, 0, 0⟩ s, x⟩ 0 false (Sl.gotR s k) w0 w1) => renew_ok B b j l q ⟨2 * k, n, none⟩ ⟨0, k, true, Sl.newR ⟨0, k, false, 0, 0⟩ s, x⟩ 0 false (Sl.gotR s k) s' data w0 w1 h1 k1 k2 hx (by show 0 + x * k + k ≤ s.sec.length; omega) rfl hnw hd hd2 hn (by show s.fail - 2 * k < _; omega) n1 (by show Sl.putR (Sl.gotR s k) (0 + x * k) k data _ = _; rw [Nat.zero_add]; exact hP))
  dsimp only at RD RN
  clear h hb hl hr hn hf hf2 hnw hd hd2 hP hx xx KR
  rw [ht] at RD
  dsimp only at RD
  generalize Sl.newR ⟨0, k, false, 0, 0⟩ s = M at *
  clear ht
  obtain ⟨te, td⟩ := t
  dsimp only at RD
  generalize hte : (te : Int) = TE at *
  generalize mkB td = TD at *
  generalize decide (0 < te) = TB at *
  generalize mkB data = DT at *
  clear hte k1 k2 n1
  generalize (k : Int) = KI at *
  go_enter Try.func10, Try.ntmps10
  go_wp2_with fail
  (with_reducible refine ON.out.mono ?_)
  rintro r w1 ⟨j, l, q, rfl, j1, b1⟩
  have P1 := Lib.hid (And.intro j1 (Kp.below b1))
  have RD1 := Lib.hid (RD.out j l q w1 j1)
  have c1 := j1.jn.c1
  clear ON RD j1 b1
  go_wp2_with fail
  (with_reducible refine RD1.out.mono ?_)
  rintro r w2 ⟨rfl, d2, s2, m2⟩
  have b3 := (Below.refl w2.heap.size w2).alloc (Nat.le_refl _) (.cells #[.int .u64 TE, .string TD] 55)
  have P2 := Lib.hid (And.intro ((P1.out.1.goS d2 s2 m2).call b3) ((P1.out.2.trans (.mvS P1.out.1.dk P1.out.1.sl m2)).call b3))
  have RN2 := Lib.hid (RN.out j l q _ P2.out.1)
  clear RD1 RN P1 c1 d2 s2 m2 b3
  generalize hW : w2.alloc (.cells #[.int .u64 TE, .string TD] 55) = W2 at *
  go_wp2_with fail
  (try rw [hW])
  (with_reducible refine RN2.out.mono ?_)
  rintro r w3 ⟨rfl, j3, k3⟩
  have FIN := Lib.hid (And.intro (j3.setG true) ((P2.out.2.trans k3).trans (.setJ j3.jn 3 (.bool true))))
  have c3 := j3.jn.c3
  have f3 := j3.jn.fz 3
  clear RN2 P2 j3 k3 hW
  go_wp2
  go_ret2
  exact ⟨_, _, _, rfl, FIN.out⟩
theorem open_no (B b : Nat) (s : DS) (k : Int) (w : World) (h : Dk B b s w) (hk : ¬ (1 ≤ k ∧ k ≤ 64 ∧ 2 * k < s.sec.length)) :
    Calls Try.prog 16 #[ptr b, .int .i64 k] w fun r w' => r = .returned (.tuple #[.pointer none, noFound, .int .i64 1]) ∧ Below w.heap.size w w' := by
  have b0 := (Below.refl w.heap.size w).alloc (Nat.le_refl _) (.cells #[.string ⟨#[]⟩, .slice none 0 0] 32)
  have ON := Lib.hid (on_no B b s k _ (h.call b0) hk)
  have F0 := Lib.hid (And.intro (fdAt_new w ⟨#[]⟩ (.slice none 0 0)) b0)
  clear h hk b0
  generalize hW : w.alloc (.cells #[.string ⟨#[]⟩, .slice none 0 0] 32) = W0 at *
  go_enter Try.func16, Try.ntmps16
  go_wp2_with fail
  (try rw [hW])
  (with_reducible refine ON.out.mono ?_)
  rintro r w1 ⟨rfl, b1⟩
  have F1 := Lib.hid (F0.out.1.kp (.below b1))
  have B1 := F0.out.2.trans (b1.mono F0.out.2.size)
  have x0 := F1.out.c0
  have x1 := F1.out.c1
  have z0 := F1.out.fz 0
  have z1 := F1.out.fz 1
  have F2 := Lib.hid ((F1.out.set0 ⟨#[]⟩).set1 (.slice none 0 0))
  have y0 := F2.out.c0
  have y1 := F2.out.c1
  have FIN := Lib.hid (show Below w.heap.size w ((w1.setCell ⟨w.heap.size, 0, none⟩ (.string ⟨#[]⟩)).setCell ⟨w.heap.size, 1, none⟩ (.slice none 0 0)) from
    ⟨B1.os, B1.tape, B1.output, by simpa [World.setCell] using B1.size, fun i hi => by
      rw [Below.heap_setCell _ _ _ _ (show i ≠ w.heap.size by omega), Below.heap_setCell _ _ _ _ (show i ≠ w.heap.size by omega)]
      exact B1.block i hi⟩)
  clear ON F0 F1 F2 B1 b1 hW
  go_wp2
  refine bodyPost_ret (v := .tuple #[.pointer none, noFound, .int .i64 1]) (by simp [results, Try.results16, go_sem, x0, x1, y0, y1, noFound]) rfl ⟨rfl, FIN.out⟩
set_option maxHeartbeats 1000000 in
/-- the flush fails -/
theorem open_fl (B b k n : Nat) (s : DS) (w0 w : World) (h : Dk B b s w) (hb : Below B w0 w) (k1 : 1 ≤ k) (k2 : k ≤ 64) (n1 : 1 ≤ n) (hl : s.sec.length = 2 * k + n) (hf : s.fail = 1) :
    Calls Try.prog 16 #[ptr b, .int .i64 (k : Int)] w fun r w' => r = .returned (.tuple #[.pointer none, noFound, .int .i64 18]) ∧ Dk B b ⟨s.sec, s.opn, 0, s.reads⟩ w' ∧ Below B w0 w' ∧ Kp w w' := by
  have b0 := (Below.refl w.heap.size w).alloc (Nat.le_refl _) (.cells #[.string ⟨#[]⟩, .slice none 0 0] 32)
  have ON := Lib.hid (on_yes B b s k n w0 _ (h.call b0) (hb.trans (b0.mono h.le)) k1 k2 n1 hl)
  have FL := Lib.hid (fun (w1 : World) (h1 : Dk B b s w1) => Dk.flush_io B b s w1 h1 hf)
  have F0 := Lib.hid (And.intro (fdAt_new w ⟨#[]⟩ (.slice none 0 0)) (Kp.below b0))
  have HB : B ≤ w.heap.size := h.le
  clear h hb b0 hf k1 k2 n1 hl
  generalize hW : w.alloc (.cells #[.string ⟨#[]⟩, .slice none 0 0] 32) = W0 at *
  generalize (k : Int) = KI at *
  go_enter Try.func16, Try.ntmps16
  go_wp2_with fail
  (try rw [hW])
  (with_reducible refine ON.out.mono ?_)
  rintro r w1 ⟨j, l, q, rfl, j1, b1⟩
  have P1 := Lib.hid (And.intro j1 (And.intro (F0.out.1.kp (.below b1)) (F0.out.2.call b1)))
  have FL1 := Lib.hid (FL.out w1 j1.dk)
  clear ON FL F0 j1 b1 hW
  go_wp2_with fail
  (with_reducible refine FL1.out.mono ?_)
  rintro r w2 ⟨rfl, d2, m2⟩
  have kp := Kp.moved P1.out.1.dk m2
  have P2 := Lib.hid (And.intro (P1.out.1.goD d2 m2) (And.intro (P1.out.2.1.kp kp) (P1.out.2.2.trans kp)))
  have FIN := Lib.hid (ret_two P2.out.1 P2.out.2.1 P2.out.2.2 (Nat.le_refl _) HB ⟨#[]⟩ (.slice none 0 0))
  have x0 := P2.out.2.1.c0
  have x1 := P2.out.2.1.c1
  have z0 := P2.out.2.1.fz 0
  have z1 := P2.out.2.1.fz 1
  have y0 := FIN.out.2.1.c0
  have y1 := FIN.out.2.1.c1
  clear FL1 P1 P2 d2 m2 kp
  go_wp2
  refine bodyPost_ret (v := .tuple #[.pointer none, noFound, .int .i64 18]) (by simp [results, Try.results16, go_sem, x0, x1, y0, y1, noFound]) rfl ⟨rfl, FIN.out.1.dk, FIN.out.1.bel, FIN.out.2.2⟩
set_option maxHeartbeats 1000000 in
/-- nothing is found -/
theorem open_err (B b k n : Nat) (s s1 s' : DS) (x : Int) (tl' : WS) (ts' : SS) (e' : Nat) (g' : Bool) (w0 w : World) (h : Dk B b s w) (hb : Below B w0 w) (k1 : 1 ≤ k) (k2 : k ≤ 64) (n1 : 1 ≤ n) (hl : s.sec.length = 2 * k + n) (hn : s.opn.length ≤ 1000000) (hf : s.fail < 9223372036854775808) (hs : Dk.flushR s = (s1, 0)) (hx : (x != 0) = true)
    (H : ∀ (j l q : Nat) (w1 : World), Jn B b j l q ⟨2 * k, n, none⟩ ⟨0, k, false, 0, 0⟩ 0 false s1 w0 w1 → Calls Try.prog 34 #[ptr j] w1 fun r w' => r = .returned (.tuple #[noFound, .int .i64 x]) ∧ Jn B b j l q tl' ts' e' g' s' w0 w' ∧ Kp w1 w') :
    Calls Try.prog 16 #[ptr b, .int .i64 (k : Int)] w fun r w' => r = .returned (.tuple #[.pointer none, noFound, .int .i64 x]) ∧ Dk B b s' w' ∧ Below B w0 w' ∧ Kp w w' := by
  have b0 := (Below.refl w.heap.size w).alloc (Nat.le_refl _) (.cells #[.string ⟨#[]⟩, .slice none 0 0] 32)
  have ON := Lib.hid (on_yes B b s k n w0 _ (h.call b0) (hb.trans (b0.mono h.le)) k1 k2 n1 hl)
  have FL0 := fun (w1 : World) (h1 : Dk B b s w1) => Dk.flush_any B b s w1 h1 hn hf
  rw [hs] at FL0
  have FL : Hid (∀ (w1 : World) (h1 : Dk B b s w1), Calls Try.prog 33 #[ptr b] w1 fun e w' => e = .returned (.int .i64 0) ∧ Dk B b s1 w' ∧ Moved b w1 w') := Lib.hid FL0
  have F0 := Lib.hid (And.intro (fdAt_new w ⟨#[]⟩ (.slice none 0 0)) (Kp.below b0))
  have HB : B ≤ w.heap.size := h.le
  have HH := Lib.hid H
  clear h hb b0 hf k1 k2 n1 hl hn hs FL0 H
  generalize hW : w.alloc (.cells #[.string ⟨#[]⟩, .slice none 0 0] 32) = W0 at *
  generalize (k : Int) = KI at *
  go_enter Try.func16, Try.ntmps16
  go_wp2_with fail
  (try rw [hW])
  (with_reducible refine ON.out.mono ?_)
  rintro r w1 ⟨j, l, q, rfl, j1, b1⟩
  have P1 := Lib.hid (And.intro j1 (And.intro (F0.out.1.kp (.below b1)) (F0.out.2.call b1)))
  have FL1 := Lib.hid (FL.out w1 j1.dk)
  clear ON FL F0 j1 b1 hW
  go_wp2_with fail
  (with_reducible refine FL1.out.mono ?_)
  rintro r w2 ⟨rfl, d2, m2⟩
  have kp := Kp.moved P1.out.1.dk m2
  have P2 := Lib.hid (And.intro (P1.out.1.goD d2 m2) (And.intro (P1.out.2.1.kp kp) (P1.out.2.2.trans kp)))
  have H2 := Lib.hid (HH.out j l q w2 P2.out.1)
  clear FL1 P1 d2 m2 kp HH
  go_wp2_with fail
  (with_reducible refine H2.out.mono ?_)
  rintro r w3 ⟨rfl, j3, k3⟩
  have b4 := (Below.refl w3.heap.size w3).alloc (Nat.le_refl _) (.cells #[.string ⟨#[]⟩, .slice none 0 0] 32)
  have P3 := Lib.hid (And.intro (j3.call b4) (And.intro ((P2.out.2.1.kp k3).kp (.below b4)) ((P2.out.2.2.trans k3).call b4)))
  have FIN := Lib.hid (ret_two P3.out.1 P3.out.2.1 P3.out.2.2 (Nat.le_refl _) HB ⟨#[]⟩ (.slice none 0 0))
  have x0 := P3.out.2.1.c0
  have x1 := P3.out.2.1.c1
  have z0 := P3.out.2.1.fz 0
  have z1 := P3.out.2.1.fz 1
  have y0 := FIN.out.2.1.c0
  have y1 := FIN.out.2.1.c1
  have EF : noFound = .agg #[.string ⟨#[]⟩, .slice none 0 0] := rfl
  rw [EF]
  clear H2 P2 P3 j3 k3 b4
  go_wp2
  refine bodyPost_ret (v := .tuple #[.pointer none, noFound, .int .i64 x]) (by simp [results, Try.results16, go_sem, x0, x1, y0, y1, noFound]) rfl ⟨rfl, FIN.out.1.dk, FIN.out.1.bel, FIN.out.2.2⟩
set_option maxHeartbeats 1000000 in
/-- a journal is found -/
theorem open_by (B b k n : Nat) (s s1 s' : DS) (d : List UInt8) (ops : List (List UInt8)) (tl' : WS) (ts' : SS) (e' : Nat) (g' : Bool) (w0 w : World) (h : Dk B b s w) (hb : Below B w0 w) (k1 : 1 ≤ k) (k2 : k ≤ 64) (n1 : 1 ≤ n) (hl : s.sec.length = 2 * k + n) (hn : s.opn.length ≤ 1000000) (hf : s.fail < 9223372036854775808) (hs : Dk.flushR s = (s1, 0))
    (H : ∀ (j l q : Nat) (w1 : World), Jn B b j l q ⟨2 * k, n, none⟩ ⟨0, k, false, 0, 0⟩ 0 false s1 w0 w1 → Calls Try.prog 34 #[ptr j] w1 fun r w' => ∃ v, r = .returned (.tuple #[.agg #[.string (mkB d), v], .int .i64 0]) ∧ Strs w1.heap.size w' v ops ∧ Jn B b j l q tl' ts' e' g' s' w0 w' ∧ Kp w1 w') :
    Calls Try.prog 16 #[ptr b, .int .i64 (k : Int)] w fun r w' => ∃ j l q v, r = .returned (.tuple #[ptr j, .agg #[.string (mkB d), v], .int .i64 0]) ∧ Strs w.heap.size w' v ops ∧ Jn B b j l q tl' ts' e' true s' w0 w' ∧ Kp w w' := by
  have b0 := (Below.refl w.heap.size w).alloc (Nat.le_refl _) (.cells #[.string ⟨#[]⟩, .slice none 0 0] 32)
  have ON := Lib.hid (on_yes B b s k n w0 _ (h.call b0) (hb.trans (b0.mono h.le)) k1 k2 n1 hl)
  have FL0 := fun (w1 : World) (h1 : Dk B b s w1) => Dk.flush_any B b s w1 h1 hn hf
  rw [hs] at FL0
  have FL : Hid (∀ (w1 : World) (h1 : Dk B b s w1), Calls Try.prog 33 #[ptr b] w1 fun e w' => e = .returned (.int .i64 0) ∧ Dk B b s1 w' ∧ Moved b w1 w') := Lib.hid FL0
  have F0 := Lib.hid (And.intro (fdAt_new w ⟨#[]⟩ (.slice none 0 0)) (And.intro (Kp.below b0) b0.size))
  have HB : B ≤ w.heap.size := h.le
  have HH := Lib.hid H
  clear h hb b0 hf k1 k2 n1 hl hn hs FL0 H
  generalize hW : w.alloc (.cells #[.string ⟨#[]⟩, .slice none 0 0] 32) = W0 at *
  generalize (k : Int) = KI at *
  go_enter Try.func16, Try.ntmps16
  go_wp2_with fail
  (try rw [hW])
  (with_reducible refine ON.out.mono ?_)
  rintro r w1 ⟨j, l, q, rfl, j1, b1⟩
  have P1 := Lib.hid (And.intro j1 (And.intro (F0.out.1.kp (.below b1)) (And.intro (F0.out.2.1.call b1) (Nat.le_trans F0.out.2.2 b1.size))))
  have FL1 := Lib.hid (FL.out w1 j1.dk)
  clear ON FL F0 j1 b1 hW
  go_wp2_with fail
  (with_reducible refine FL1.out.mono ?_)
  rintro r w2 ⟨rfl, d2, m2⟩
  have kp := Kp.moved P1.out.1.dk m2
  have P2 := Lib.hid (And.intro (P1.out.1.goD d2 m2) (And.intro (P1.out.2.1.kp kp) (And.intro (P1.out.2.2.1.trans kp) (Nat.le_trans P1.out.2.2.2 m2.size))))
  have H2 := Lib.hid (HH.out j l q w2 P2.out.1)
  clear FL1 P1 d2 m2 kp HH
  go_wp2_with fail
  (with_reducible refine H2.out.mono ?_)
  rintro r w3 ⟨v, rfl, st3, j3, k3⟩
  obtain ⟨va, vc, hv⟩ := Wl.strs_form st3
  subst hv
  have b4 := (Below.refl w3.heap.size w3).alloc (Nat.le_refl _) (.cells #[.string (mkB d), .slice va ops.length vc] 32)
  have P3 := Lib.hid (And.intro (j3.call b4) (And.intro ((P2.out.2.1.kp k3).kp (.below b4)) (And.intro ((P2.out.2.2.1.trans k3).call b4) (And.intro (fdAt_new w3 (mkB d) (.slice va ops.length vc)) (Sl.strs_mono (st3.call b4) P2.out.2.2.2)))))
  have kj := Kp.setJ P3.out.1.jn 3 (.bool true)
  have c3 := P3.out.1.jn.c3
  have f3 := P3.out.1.jn.fz 3
  have P4 := Lib.hid (And.intro (P3.out.1.setG true) (And.intro (P3.out.2.1.kp kj) (And.intro (P3.out.2.2.1.trans kj) (And.intro (P3.out.2.2.2.1.kp kj) (kj.strs P3.out.2.2.2.2)))))
  have FIN := Lib.hid (ret_two P4.out.1 P4.out.2.1 P4.out.2.2.1 (Nat.le_refl _) HB (mkB d) (.slice va ops.length vc))
  have ST5 := Lib.hid (strs_two P4.out.2.2.2.2 P4.out.2.1 (mkB d) (.slice va ops.length vc))
  have x0 := P4.out.2.1.c0
  have x1 := P4.out.2.1.c1
  have z0 := P4.out.2.1.fz 0
  have z1 := P4.out.2.1.fz 1
  have u0 := P4.out.2.2.2.1.c0
  have u1 := P4.out.2.2.2.1.c1
  have y0 := FIN.out.2.1.c0
  have y1 := FIN.out.2.1.c1
  have ne : ¬ w.heap.size = w3.heap.size := by
    have h1 := (P2.out.2.1.kp k3).lt; omega
  clear H2 P2 P3 P4 j3 k3 b4 kj st3
  go_wp2_with fail
  go_region
  have FIN2 := Lib.hid (And.intro (ST5.out.call (Below.refl _ _).drew) (And.intro (FIN.out.1.call (Below.refl _ _).drew) (FIN.out.2.2.trans .drew)))
  clear FIN ST5 x0 x1 z0 z1 u0 u1 ne c3 f3
  go_wp2
  refine bodyPost_ret (v := .tuple #[ptr j, .agg #[.string (mkB d), .slice va ops.length vc], .int .i64 0]) (by simp [results, Try.results16, go_sem, y0, y1]) rfl ⟨_, _, _, _, rfl, FIN2.out⟩
end Go.Proofs.Ytmccoejliaakoaa.Jn
