/- The chapter's example on journals comes out. -/
import Derived.Test.YtmccoejliaakoaaJnG
import Derived.BigQuiet
namespace Go.Proofs.Ytmccoejliaakoaa.Jn
open Go.ChangeShapes Go.WideShapes Go.ChangeAt Go.RowKit Go.Joins
open Dk (Dk DS Own Moved ptr)
open Sl (Mv SS below_drewN)
open Wl (WS)
set_option maxRecDepth 100000
set_option linter.unusedVariables false
set_option linter.unusedSimpArgs false
theorem flush_calm (S : List (List UInt8)) (r : Nat) : Dk.flushR ⟨S, [], 0, r⟩ = (⟨S, [], 0, r⟩, 0) := by
  unfold Dk.flushR; rw [if_neg (by show ¬ 0 = 1; omega)]; rfl
/-- Open, where nothing failed and no write is open -/
theorem open_c (B b k n nx N E r : Nat) (d : List UInt8) (ops S : List (List UInt8)) (w0 w : World) (h : Dk B b ⟨S, [], 0, r⟩ w) (hb : Below B w0 w) (hi : JI S k n nx N E d ops) (hN : N < 256) (hr : r ≤ 1000000) :
    Calls Try.prog 16 #[ptr b, .int .i64 (k : Int)] w fun x w' => ∃ j l q v N', x = .returned (.tuple #[ptr j, .agg #[.string (mkB d), v], .int .i64 0]) ∧ Strs w.heap.size w' v ops ∧ N' ≤ N ∧ JL B b j l q k n nx N' E d ops S 0 (r + 2 * k + Wl.readsN ops.length n) w0 w' ∧ Kp w w' := by
  have := open_t B b k n nx N E 0 r d ops S ⟨S, [], 0, r⟩ w0 w h hb hi hN (by show 0 ≤ 1000000; omega) (by show 0 < 9223372036854775808; omega) (flush_calm S r) hi.jb.len hr (by omega) (.inl rfl)
  simpa using this
set_option maxHeartbeats 2000000 in
theorem awake_any (w : World) :
    Calls Try.prog 8 #[] w fun e w' => e = .returned (.bool true) ∧ Below w.heap.size w w' := by
  have ND : Hid (Calls Try.prog 9 #[.int .i64 8] w fun e w' => e = .returned (ptr (w.heap.size + 1)) ∧ Dk w.heap.size (w.heap.size + 1) ⟨List.replicate (2 * 2 + 4) (List.replicate 64 0), [], 0, 0⟩ w' ∧ Below w.heap.size w w') := Lib.hid (disk_t 8 w w (Below.refl _ _) (by omega) (by omega))
  have FO : Hid (∀ (w1 : World), Dk w.heap.size (w.heap.size + 1) ⟨List.replicate (2 * 2 + 4) (List.replicate 64 0), [], 0, 0⟩ w1 → Below w.heap.size w w1 → Calls Try.prog 10 #[ptr (w.heap.size + 1), .int .i64 2, .string ⟨#[97]⟩] w1 fun x w' => ∃ j l q S, x = .returned (.tuple #[ptr j, .int .i64 0]) ∧ JL w.heap.size (w.heap.size + 1) j l q 2 4 1 1 1 [97] [] S 0 4 w w' ∧ Kp w1 w') := Lib.hid (fun w1 h1 b1 => format_t w.heap.size (w.heap.size + 1) 2 4 0 [97] w w1 h1 b1 (by omega) (by omega) (by omega) (by omega) (by omega) (by simp) (by simp))
  have AP : Hid (∀ (j l q : Nat) (S : List (List UInt8)) (w1 : World), JL w.heap.size (w.heap.size + 1) j l q 2 4 1 1 1 [97] [] S 0 4 w w1 → Calls Try.prog 14 #[ptr j, .string ⟨#[98]⟩] w1 fun x w' => x = .returned (.int .i64 0) ∧ ∃ S', JL w.heap.size (w.heap.size + 1) j l q 2 4 1 1 1 [97] [[98]] S' 0 4 w w' ∧ Kp w1 w') := Lib.hid (fun j l q S w1 h1 =>
    append_t w.heap.size (w.heap.size + 1) j l q 2 4 1 1 1 4 [97] [98] [] S w w1 h1 (by omega) (by simp) (by simp))
  have OP : Hid (∀ (j l q : Nat) (S : List (List UInt8)) (w1 : World), JL w.heap.size (w.heap.size + 1) j l q 2 4 1 1 1 [97] [[98]] S 0 4 w w1 → Calls Try.prog 16 #[ptr (w.heap.size + 1), .int .i64 2] w1 fun x w' => ∃ j' g cap, x = .returned (.tuple #[ptr j', .agg #[.string ⟨#[97]⟩, .slice (some ⟨g, 0, none⟩) 1 cap], .int .i64 0]) ∧ w'.cell? ⟨g, 0, none⟩ = some (.string ⟨#[98]⟩) ∧ Below w.heap.size w w') := Lib.hid (fun j l q S w1 h1 => by
    have := open_c w.heap.size (w.heap.size + 1) 2 4 1 1 1 4 [97] [[98]] S w w1 h1.jn.dk h1.jn.bel h1.ji (by omega) (by omega)
    refine this.mono ?_
    rintro x w' ⟨j', l', q', v, N', hx, st, -, hj, -⟩
    obtain ⟨g, cap, rfl, -, -, hc⟩ := st.cell (by simp)
    exact ⟨j', g, cap, hx, hc 0 (by simp), hj.jn.bel⟩)
  generalize w.heap.size + 1 = b at *
  go_enter Try.func8, Try.ntmps8
  go_wp2_with fail
  (with_reducible refine ND.out.mono ?_)
  rintro e w1 ⟨rfl, k1, b1⟩
  have FO1 := Lib.hid (FO.out w1 k1 b1)
  clear ND FO k1 b1
  go_wp2_with fail
  (with_reducible refine FO1.out.mono ?_)
  rintro e w2 ⟨j, l, q, S, rfl, h2, -⟩
  have AP2 := Lib.hid (AP.out j l q S w2 h2)
  clear FO1 AP h2
  go_wp2_with fail
  (with_reducible refine AP2.out.mono ?_)
  rintro e w3 ⟨rfl, S3, h3, -⟩
  have OP3 := Lib.hid (OP.out j l q S3 w3 h3)
  clear AP2 OP h3
  go_wp2_with fail
  (with_reducible refine OP3.out.mono ?_)
  rintro e w4 ⟨j4, g, cap, rfl, hc, b4⟩
  have FIN := Lib.hid (b4.alloc b4.size (.cells #[.string ⟨#[97]⟩, .slice (some ⟨g, 0, none⟩) 1 cap] 32))
  have c4 := carry ((Below.refl w4.heap.size w4).alloc (Nat.le_refl _) (.cells #[.string ⟨#[97]⟩, .slice (some ⟨g, 0, none⟩) 1 cap] 32)) hc
  clear OP3 b4 hc
  go_wp2
  go_ret
  exact ⟨rfl, FIN.out⟩
end Go.Proofs.Ytmccoejliaakoaa.Jn
