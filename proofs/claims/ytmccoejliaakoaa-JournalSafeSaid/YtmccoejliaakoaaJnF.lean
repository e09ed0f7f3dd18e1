/- A journal as the statements use it. -/
import Derived.Test.YtmccoejliaakoaaJnMath
import Derived.Test.YtmccoejliaakoaaJnD
import Derived.Test.YtmccoejliaakoaaJnE
namespace Go.Proofs.Ytmccoejliaakoaa.Jn
open Go.ChangeShapes Go.WideShapes Go.ChangeAt Go.RowKit Go.Joins
open Dk (Dk DS Own Moved ptr)
open Sl (Mv SS)
open Wl (WS)
set_option maxRecDepth 100000
set_option linter.unusedVariables false
set_option linter.unusedSimpArgs false
/-- a good journal on a disk without open writes, and what is so of its sectors -/
structure JL (B b j l q k n nx N E : Nat) (d : List UInt8) (ops : List (List UInt8)) (S : List (List UInt8)) (f r : Nat) (w0 w : World) : Prop where
  jn : Jn B b j l q ⟨2 * k, n, some (E, ops.length)⟩ ⟨0, k, true, N, nx⟩ E true ⟨S, [], f, r⟩ w0 w
  ji : JI S k n nx N E d ops
section
variable {B b j l q k n nx N E f r : Nat} {d : List UInt8} {ops : List (List UInt8)} {S : List (List UInt8)} {w0 w w' : World}
theorem JL.call (h : JL B b j l q k n nx N E d ops S f r w0 w) (hb : Below w.heap.size w w') : JL B b j l q k n nx N E d ops S f r w0 w' := ⟨h.jn.call hb, h.ji⟩
theorem JL.room (h : JL B b j l q k n nx N E d ops S f r w0 w) : 2 * k + n ≤ 1024 := by
  have h1 := h.jn.dk.ok.len
  have h2 := h.ji.jb.len
  have h1' : S.length ≤ 1024 := h1
  omega
theorem JL.fit (h : JL B b j l q k n nx N E d ops S f r w0 w) (hN : N < 256) : WS.Fit ⟨2 * k, n, some (E, ops.length)⟩ S.length := by
  have h2 := h.ji.jb.len
  have h3 := h.ji.e_le
  exact ⟨h.ji.jb.n1, by show 2 * k + n ≤ _; omega, fun e c hh => by cases hh; exact ⟨h3.1, by omega, h.ji.few⟩⟩
theorem JL.sz (h : JL B b j l q k n nx N E d ops S f r w0 w) : nx * k + k ≤ S.length := by
  have := nxk (k := k) h.ji.jb.sl.x1
  have h2 := h.ji.jb.len
  omega
end
theorem put_calm {S : List (List UInt8)} {r a k : Nat} {data : List UInt8} {e : Nat} : Sl.putR ⟨S, [], 0, r⟩ a k data e = (⟨Dk.flushedS ⟨S, Sl.wrs a data e k, 0, r⟩, [], 0, r⟩, true) := by
  unfold Sl.putR
  rw [if_neg (by show ¬ (1 ≤ 0 ∧ 0 ≤ k + 1); omega)]
  show (DS.mk _ [] (0 - (k + 1)) r, true) = _
  rw [Nat.zero_sub]; rfl
theorem append_t (B b j l q k n nx N E r : Nat) (d p : List UInt8) (ops S : List (List UInt8)) (w0 w : World) (h : JL B b j l q k n nx N E d ops S 0 r w0 w) (hN : N < 256) (hp : p.length ≤ 43) (hl : ops.length < n) :
    Calls Try.prog 14 #[ptr j, .string (mkB p)] w fun x w' => x = .returned (.int .i64 0) ∧ ∃ S', JL B b j l q k n nx N E d (ops ++ [p]) S' 0 r w0 w' ∧ Kp w w' := by
  obtain ⟨S', h1, h2⟩ := h.ji.app_ok hN hp hl r
  have AP := append_any B b j l q _ _ E _ p w0 w h.jn (h.fit hN) hp (by show 0 ≤ 800000; omega) (by show 0 < 9223372036854775808; omega)
  rw [h1] at AP
  refine AP.mono ?_
  rintro x w' ⟨hx, k1, k2⟩
  refine ⟨hx, S', ⟨?_, h2⟩, k2⟩
  rw [List.length_append, List.length_singleton]
  exact k1
theorem append_full (B b j l q k n nx N E r : Nat) (d p : List UInt8) (ops S : List (List UInt8)) (w0 w : World) (h : JL B b j l q k n nx N E d ops S 0 r w0 w) (hN : N < 256) (hp : p.length ≤ 43) (hl : ops.length = n) :
    Calls Try.prog 14 #[ptr j, .string (mkB p)] w fun x w' => x = .returned (.int .i64 22) ∧ JL B b j l q k n nx N E d ops S 0 r w0 w' ∧ Kp w w' := by
  have AP := append_any B b j l q _ _ E _ p w0 w h.jn (h.fit hN) hp (by show 0 ≤ 800000; omega) (by show 0 < 9223372036854775808; omega)
  rw [Wl.appR_full hp rfl hl] at AP
  refine AP.mono ?_
  rintro x w' ⟨hx, k1, k2⟩
  exact ⟨hx, ⟨k1, h.ji⟩, k2⟩
theorem snapshot_t (B b j l q k n nx N E r : Nat) (d data : List UInt8) (ops S : List (List UInt8)) (w0 w : World) (h : JL B b j l q k n nx N E d ops S 0 r w0 w) (hN : N + 1 < 256) (hd : data.length ≤ 1000) (hd2 : data.length ≤ 43 * k) :
    Calls Try.prog 13 #[ptr j, .string (mkB data)] w fun x w' => x = .returned (.int .i64 0) ∧ ∃ S', JL B b j l q k n (1 - nx) (N + 1) (N + 1) data [] S' 0 r w0 w' ∧ Kp w w' := by
  have SN := snapshot_ok B b j l q ⟨2 * k, n, some (E, ops.length)⟩ ⟨0, k, true, N, nx⟩ E ⟨S, [], 0, r⟩ _ data w0 w h.jn h.ji.jb.k1 h.ji.jb.k2 h.ji.jb.sl.x1 (by show 0 + nx * k + k ≤ S.length; have := h.sz; omega) rfl (by show N < _; omega) hd hd2 (by show 0 ≤ 800000; omega) (by show 0 < 9223372036854775808; omega) h.ji.jb.n1 put_calm
  refine SN.mono ?_
  rintro x w' ⟨hx, k1, k2⟩
  refine ⟨hx, _, ⟨k1, ?_⟩, k2⟩
  have := h.ji.jb.done hN hd2 r
  show JI (Dk.flushedS ⟨S, Sl.wrs (0 + nx * k) data (N + 1) k, 0, r⟩) k n (1 - nx) (N + 1) (N + 1) data []
  rw [Nat.zero_add]; exact this
theorem format_t (B b k n r : Nat) (data : List UInt8) (w0 w : World) (h : Dk B b ⟨List.replicate (2 * k + n) (List.replicate 64 0), [], 0, r⟩ w) (hb : Below B w0 w) (k1 : 1 ≤ k) (k2 : k ≤ 64) (n1 : 1 ≤ n) (n2 : n < 256) (hr : r ≤ 1000000) (hd : data.length ≤ 1000) (hd2 : data.length ≤ 43 * k) :
    Calls Try.prog 10 #[ptr b, .int .i64 (k : Int), .string (mkB data)] w fun x w' => ∃ j l q S, x = .returned (.tuple #[ptr j, .int .i64 0]) ∧ JL B b j l q k n 1 1 1 data [] S 0 (r + 2 * k) w0 w' ∧ Kp w w' := by
  have J0 := jb_new k n k1 k2 n1 n2
  generalize hS : List.replicate (2 * k + n) (List.replicate 64 (0 : UInt8)) = S0 at *
  have hnw : Sl.newR ⟨0, k, false, 0, 0⟩ ⟨S0, [], 0, r⟩ = 0 := by have := (J0.reads false 0 0 0 r).2; omega
  have FO := format_ok B b k n 0 (0, []) ⟨S0, [], 0, r⟩ ⟨Dk.flushedS ⟨S0, Sl.wrs (0 * k) data (0 + 1) k, 0, r + 2 * k⟩, [], 0, r + 2 * k⟩ data w0 w h hb k1 k2 n1 (by show S0.length = _; exact J0.len) (by show r ≤ _; omega) (by show 0 ≤ 800000; omega) (by show 0 < 9223372036854775808; omega) (.inl rfl) (J0.tells false 0 0 0 r) (by omega) hd hd2 (by rw [hnw]; omega) (by
    rw [hnw]
    have e : Sl.gotR ⟨S0, [], 0, r⟩ k = ⟨S0, [], 0, r + 2 * k⟩ := by unfold Sl.gotR; simp
    rw [e]
    exact put_calm)
  rw [hnw] at FO
  refine FO.mono ?_
  rintro x w' ⟨j, l, q, hx, k1', k2'⟩
  exact ⟨j, l, q, _, hx, ⟨k1', J0.done (by omega) hd2 (r + 2 * k)⟩, k2'⟩
/-- a disk on which there is a journal, and no snapshot fails to be read -/
theorem open_t (B b k n nx N E F r : Nat) (d : List UInt8) (ops S : List (List UInt8)) (s : DS) (w0 w : World) (h : Dk B b s w) (hb : Below B w0 w) (hi : JI S k n nx N E d ops) (hN : N < 256) (hn : s.opn.length ≤ 1000000) (hf : s.fail < 9223372036854775808) (hs : Dk.flushR s = (⟨S, [], F, r⟩, 0)) (hl : s.sec.length = 2 * k + n) (hr : r ≤ 1000000) (hF : F < 9223372036854775808) (hF2 : F = 0 ∨ 2 * k + Wl.readsN ops.length n < F) :
    Calls Try.prog 16 #[ptr b, .int .i64 (k : Int)] w fun x w' => ∃ j l q v N', x = .returned (.tuple #[ptr j, .agg #[.string (mkB d), v], .int .i64 0]) ∧ Strs w.heap.size w' v ops ∧ N' ≤ N ∧ JL B b j l q k n nx N' E d ops S (F - 2 * k - Wl.readsN ops.length n) (r + 2 * k + Wl.readsN ops.length n) w0 w' ∧ Kp w w' := by
  have hlS := hi.jb.len
  obtain ⟨hi2, hN2⟩ := hi.reads false 0 0 F r
  have OP := open_by B b k n s ⟨S, [], F, r⟩ ⟨S, [], F - 2 * k - Wl.readsN ops.length n, r + 2 * k + Wl.readsN ops.length n⟩ d ops ⟨2 * k, n, some (E, ops.length)⟩ ⟨0, k, true, Sl.newR ⟨0, k, false, 0, 0⟩ ⟨S, [], F, r⟩, nx⟩ E false w0 w h hb hi.jb.k1 hi.jb.k2 hi.jb.n1 hl hn hf hs (fun j l q w1 h1 =>
    (find_scan B b j l q ⟨2 * k, n, none⟩ ⟨0, k, false, 0, 0⟩ 0 false ⟨S, [], F, r⟩ E d nx w0 w1 h1 hi.jb.k1 hi.jb.k2 (by show 0 + 2 * k ≤ S.length; omega) (by show r ≤ _; omega) (by show 0 ≤ 900000; omega) hF (by show F = 0 ∨ 2 * k < F; omega) (hi.jb.tells false 0 0 F r) hi.e_le.1 hi.jb.n1 (by show 2 * k + n ≤ S.length; omega) 0 ops _ (by
      show Wl.scanR ⟨S, [], F - 2 * k, r + 2 * k⟩ (2 * k) n E = _
      rw [hi.scans hN, if_neg (by omega)])).2 rfl)
  refine OP.mono ?_
  rintro x w' ⟨j, l, q, v, hx, st, k1, k2⟩
  exact ⟨j, l, q, v, _, hx, st, hN2, ⟨k1, hi2⟩, k2⟩
/-- one whose flush, or a read, fails -/
theorem open_f (B b k n nx N E F r : Nat) (d : List UInt8) (ops S : List (List UInt8)) (w0 w : World) (h : Dk B b ⟨S, [], F, r⟩ w) (hb : Below B w0 w) (hi : JI S k n nx N E d ops) (hN : N < 256) (hr : r ≤ 1000000) (hF : 1 ≤ F) (hF2 : F ≤ 1 + 2 * k + Wl.readsN ops.length n) :
    Calls Try.prog 16 #[ptr b, .int .i64 (k : Int)] w fun x w' => x = .returned (.tuple #[.pointer none, noFound, .int .i64 18]) ∧ Below B w0 w' := by
  have hlS := hi.jb.len
  have hk2 := hi.jb.k2
  have hn2 := hi.jb.n2
  have hrn := Wl.readsN_le hi.few
  rcases (show F = 1 ∨ (1 ≤ F - 1 ∧ F - 1 ≤ 2 * k) ∨ 2 * k < F - 1 by omega) with h1 | h1 | h1
  · have := open_fl B b k n ⟨S, [], F, r⟩ w0 w h hb hi.jb.k1 hi.jb.k2 hi.jb.n1 hlS h1
    exact this.mono fun x w' ⟨hx, _, hb', _⟩ => ⟨hx, hb'⟩
  · have hs : Dk.flushR ⟨S, [], F, r⟩ = (⟨S, [], F - 1, r⟩, 0) := by unfold Dk.flushR; rw [if_neg (by show ¬ F = 1; omega)]; rfl
    have := open_err B b k n ⟨S, [], F, r⟩ ⟨S, [], F - 1, r⟩ _ 18 _ _ _ _ w0 w h hb hi.jb.k1 hi.jb.k2 hi.jb.n1 hlS (by show 0 ≤ 1000000; omega) (by show F < _; omega) hs (by decide) (fun j l q w1 h1' => find_rd B b j l q ⟨2 * k, n, none⟩ ⟨0, k, false, 0, 0⟩ 0 false ⟨S, [], F - 1, r⟩ w0 w1 h1' hi.jb.k1 hi.jb.k2 (by show 0 + 2 * k ≤ S.length; omega) (by show r ≤ _; omega) (by show 0 ≤ 900000; omega) (by show 1 ≤ F - 1; omega) (by show F - 1 ≤ 2 * k; omega))
    exact this.mono fun x w' ⟨hx, _, hb', _⟩ => ⟨hx, hb'⟩
  · have hs : Dk.flushR ⟨S, [], F, r⟩ = (⟨S, [], F - 1, r⟩, 0) := by unfold Dk.flushR; rw [if_neg (by show ¬ F = 1; omega)]; rfl
    have := open_err B b k n ⟨S, [], F, r⟩ ⟨S, [], F - 1, r⟩ _ 18 _ _ _ _ w0 w h hb hi.jb.k1 hi.jb.k2 hi.jb.n1 hlS (by show 0 ≤ 1000000; omega) (by show F < _; omega) hs (by decide) (fun j l q w1 h1' =>
      (find_scan B b j l q ⟨2 * k, n, none⟩ ⟨0, k, false, 0, 0⟩ 0 false ⟨S, [], F - 1, r⟩ E d nx w0 w1 h1' hi.jb.k1 hi.jb.k2 (by show 0 + 2 * k ≤ S.length; omega) (by show r ≤ _; omega) (by show 0 ≤ 900000; omega) (by show F - 1 < _; omega) (by show F - 1 = 0 ∨ 2 * k < F - 1; omega) (hi.jb.tells false 0 0 (F - 1) r) hi.e_le.1 hi.jb.n1 (by show 2 * k + n ≤ S.length; omega) 18 [] _ (by
        show Wl.scanR ⟨S, [], F - 1 - 2 * k, r + 2 * k⟩ (2 * k) n E = _
        rw [hi.scans hN, if_pos (by omega)])).1 rfl)
    exact this.mono fun x w' ⟨hx, _, hb', _⟩ => ⟨hx, hb'⟩
/-- a new disk has no journal -/
theorem open_new (B b k n r : Nat) (w0 w : World) (h : Dk B b ⟨List.replicate (2 * k + n) (List.replicate 64 0), [], 0, r⟩ w) (hb : Below B w0 w) (k1 : 1 ≤ k) (k2 : k ≤ 64) (n1 : 1 ≤ n) (n2 : n < 256) (hr : r ≤ 1000000) :
    Calls Try.prog 16 #[ptr b, .int .i64 (k : Int)] w fun x w' => x = .returned (.tuple #[.pointer none, noFound, .int .i64 12]) ∧ Dk B b ⟨List.replicate (2 * k + n) (List.replicate 64 0), [], 0, r + 2 * k⟩ w' ∧ Below B w0 w' := by
  have J0 := jb_new k n k1 k2 n1 n2
  generalize hS : List.replicate (2 * k + n) (List.replicate 64 (0 : UInt8)) = S0 at *
  have hlS := J0.len
  have hs : Dk.flushR ⟨S0, [], 0, r⟩ = (⟨S0, [], 0, r⟩, 0) := by unfold Dk.flushR; rw [if_neg (by show ¬ 0 = 1; omega)]; rfl
  have e : Sl.gotR ⟨S0, [], 0, r⟩ k = ⟨S0, [], 0, r + 2 * k⟩ := by unfold Sl.gotR; simp
  have := open_err B b k n ⟨S0, [], 0, r⟩ ⟨S0, [], 0, r⟩ (Sl.gotR ⟨S0, [], 0, r⟩ k) 12 _ _ _ _ w0 w h hb k1 k2 n1 hlS (by show 0 ≤ 1000000; omega) (by show 0 < 9223372036854775808; omega) hs (by decide) (fun j l q w1 h1' => find_none B b j l q ⟨2 * k, n, none⟩ ⟨0, k, false, 0, 0⟩ 0 false ⟨S0, [], 0, r⟩ 0 w0 w1 h1' k1 k2 (by show 0 + 2 * k ≤ S0.length; omega) (by show r ≤ _; omega) (by show 0 ≤ 900000; omega) (by show 0 < 9223372036854775808; omega) (.inl rfl) (J0.tells false 0 0 0 r))
  rw [e] at this
  exact this.mono fun x w' ⟨hx, hd, hb', _⟩ => ⟨hx, hd, hb'⟩
end Go.Proofs.Ytmccoejliaakoaa.Jn
