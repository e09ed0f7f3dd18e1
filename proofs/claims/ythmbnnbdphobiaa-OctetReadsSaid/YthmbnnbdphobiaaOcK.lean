/- The examples stand: awake answers true. -/
import Derived.Test.YthmbnnbdphobiaaOcI
namespace Go.Proofs.Ythmbnnbdphobiaa
open Go.ChangeShapes Go.WideShapes Go.ChangeAt Go.RowKit Go.Joins
set_option linter.unusedVariables false
set_option linter.unusedSimpArgs false
theorem BAt.of_blocks {B b : Nat} {p h : Value} {l : List UInt8} {w w' : World} (k : BAt B b p h l w) (hb : w'.heap[b]? = w.heap[b]?) (hg : ∀ g, bufOf w b = some g → w'.heap[g]? = w.heap[g]?) : BAt B b p h l w' := by
  obtain ⟨hB, v, hbk, hown, hn⟩ := k
  refine ⟨hB, v, hb.trans hbk, ⟨hown.1, ?_⟩, hn⟩
  rcases hown.2 with e | ⟨g, cap, cur, fz, rfl, hbg, hgg, rest⟩
  · exact .inl e
  · exact .inr ⟨g, cap, cur, fz, rfl, hbg, by rw [hg g (by rw [bufOf_eq hbk]; rfl)]; exact hgg, rest⟩
theorem BAt.buf_lt {B b : Nat} {p h : Value} {l : List UInt8} {w : World} (k : BAt B b p h l w) : ∀ g, bufOf w b = some g → B ≤ g ∧ g < w.heap.size := by
  obtain ⟨hB, v, hbk, hown, hn⟩ := k
  intro g hg
  rw [bufOf_eq hbk] at hg
  exact hown.lt g hg
theorem Wr.lt {B b : Nat} {l : List UInt8} {w : World} (k : Wr B b l w) : b < w.heap.size := by obtain ⟨p, h, k, _⟩ := k; exact k.lt
theorem Wr.le {B b : Nat} {l : List UInt8} {w : World} (k : Wr B b l w) : B ≤ b := by obtain ⟨p, h, k, _⟩ := k; exact k.1
theorem Wr.buf_lt {B b : Nat} {l : List UInt8} {w : World} (k : Wr B b l w) : ∀ g, bufOf w b = some g → B ≤ g ∧ g < w.heap.size := by obtain ⟨p, h, k, _⟩ := k; exact k.buf_lt
theorem Wr.of_blocks {B b : Nat} {l : List UInt8} {w w' : World} (k : Wr B b l w) (hb : w'.heap[b]? = w.heap[b]?) (hg : ∀ g, bufOf w b = some g → w'.heap[g]? = w.heap[g]?) : Wr B b l w' := by
  obtain ⟨p, h, k, e⟩ := k; exact ⟨p, h, k.of_blocks hb hg, e⟩
theorem Wr.call {B b : Nat} {l : List UInt8} {w w' : World} (k : Wr B b l w) (h : Below w.heap.size w w') : Wr B b l w' :=
  k.of_blocks (h.block b k.lt) (fun g hg => h.block g (k.buf_lt g hg).2)
theorem Wr.buf_ne {B b : Nat} {l : List UInt8} {w : World} (k : Wr B b l w) {c : Nat} {cs : Array Value} {T : TypeId} {fz : Nat × Nat} (hc : w.heap[c]? = some (.cells cs T fz)) (hT : T ≠ 5) : bufOf w b ≠ some c := by
  obtain ⟨p, h, k, e⟩ := k
  obtain ⟨hB, v, hbk, hown, hn⟩ := k
  rw [bufOf_eq hbk]
  exact neF hown hc hT
theorem Wr.apart {B b c : Nat} {l : List UInt8} {w w' : World} (k : Wr B b l w) (h : Apart c w w') (hc : b ≠ c) (hn : bufOf w b ≠ some c) : Wr B b l w' :=
  k.of_blocks (h.block b k.lt hc) (fun g hg => h.block g (k.buf_lt g hg).2 (fun e => hn (e ▸ hg)))
theorem Rd.moved {T b c B : Nat} {o : St} {l : List UInt8} {w w' : World} (k : Rd T b o w) (m : Moved c w w') (kw : Wr B c l w) (hT : T ≠ 5) (hc : b ≠ c) : Rd T b o w' := by
  obtain ⟨s, hs⟩ := k.cells
  exact k.of_block (m.block b k.lt hc (kw.buf_ne hs hT))
theorem Wr.below {B b : Nat} {l : List UInt8} {w w' : World} (k : Wr B b l w) (m : Moved b w w') (hs : B ≤ w.heap.size) : Below B w w' := by
  obtain ⟨p, h, k, e⟩ := k; exact m.below k hs
theorem bytes300 : bytesOf 300 = [1, 44] := by
  rw [bytesOf_pos (by decide), bytesOf_pos (n := 300 / 256) (by decide), show 300 / 256 / 256 = 0 from rfl, bytesOf_zero]; rfl
theorem bytes2 : bytesOf 2 = [2] := by
  rw [bytesOf_pos (by decide), show 2 / 256 = 0 from rfl, bytesOf_zero]; rfl
theorem example_bytes : mkB (enc 300 ++ encText [97, 98]) = ⟨#[2, 1, 44, 1, 2, 97, 98]⟩ := by
  unfold encText enc
  rw [show ([97, 98] : List UInt8).length = 2 from rfl, bytes300, bytes2]
  rfl
theorem num_enc {n most : Nat} (hn : n < 18446744073709551616) (hm : n ≤ most) (r : List UInt8) : num (some (enc n ++ r)) most = (n, some r) := num_le (dec_enc hn r) hm
theorem int_enc {n : Nat} {most : Int} (hn : n < 18446744073709551616) (hm : (n : Int) ≤ most) (r : List UInt8) : int (some (enc n ++ r)) most = (n, some r) := by
  unfold int; rw [if_neg (by omega)]; exact num_enc hn (by omega) r
theorem text_enc {t : List UInt8} {most : Int} (hn : t.length < 18446744073709551616) (hm : (t.length : Int) ≤ most) (r : List UInt8) : text (some (encText t ++ r)) most = (t, some r) := by
  unfold text encText
  rw [List.append_assoc, int_enc hn hm]
  simp
set_option maxRecDepth 100000 in
set_option maxHeartbeats 1600000 in
theorem awake_any (w : World) :
    Calls Try.prog 8 #[] w fun e w' => e = .returned (.bool true) ∧ Below w.heap.size w w' := by
  have N3 : Hid (∀ W B b l, Wr B b l W → l.length ≤ 900000 → B ≤ W.heap.size → Calls Try.prog 10 #[self b, .int .u64 300] W fun e w' => e = .returned (self b) ∧ Wr B b (l ++ enc 300) w' ∧ Moved b W w') := Lib.hid (fun W B b l k h1 h2 => num_any B b 300 l W k (by omega) h1 h2)
  have TX : Hid (∀ W B b l, Wr B b l W → l.length ≤ 900000 → B ≤ W.heap.size → Calls Try.prog 14 #[self b, .string ⟨#[97, 98]⟩] W fun e w' => e = .returned (self b) ∧ Wr B b (l ++ encText [97, 98]) w' ∧ Moved b W w') := Lib.hid (fun W B b l k h1 h2 => text_any B b ⟨#[97, 98]⟩ l W k (by decide) h1 h2)
  have l1 : (enc 300).length ≤ 9 := enc_len9 (by omega)
  have l2 : (encText [97, 98]).length ≤ 11 := by unfold encText; rw [List.length_append]; have := enc_len9 (n := 2) (by omega); simp at this ⊢; omega
  have RN : Hid (∀ W b, Rd RC b (some (enc 300 ++ encText [97, 98])) W → Calls Try.prog 20 #[self b, .int .u64 1000] W fun e w' => e = .returned (.int .u64 300) ∧ Rd RC b (some (encText [97, 98])) w' ∧ Apart b W w') := Lib.hid (fun W b k => by
    have := num_rd b _ 1000 W k (by omega) (by simp only [left]; rw [List.length_append]; omega)
    rw [num_enc (by omega) (by omega)] at this
    exact this)
  have RT : Hid (∀ W b, Rd RC b (some (encText [97, 98])) W → Calls Try.prog 24 #[self b, .int .i64 9] W fun e w' => e = .returned (.string ⟨#[97, 98]⟩) ∧ Rd RC b (some []) w' ∧ Apart b W w') := Lib.hid (fun W b k => by
    have := text_rd b _ 9 W k (by decide) (by simp only [left]; omega)
    have e := text_enc (t := [97, 98]) (most := 9) (by decide) (by decide) []
    rw [List.append_nil] at e
    rw [e] at this
    exact this)
  have RE : Hid (∀ W b, Rd RC b (some []) W → Calls Try.prog 29 #[self b] W fun e w' => e = .returned (.bool true) ∧ w' = W) := Lib.hid (fun W b k => end_rd b _ W k)
  have ST : Hid (∀ W B b, Wr B b (enc 300 ++ encText [97, 98]) W → Calls Try.prog 18 #[self b] W fun e w' => e = .returned (.string ⟨#[2, 1, 44, 1, 2, 97, 98]⟩) ∧ Wr B b (enc 300 ++ encText [97, 98]) w' ∧ Moved b W w') := Lib.hid (fun W B b k => by
    have := wstring_any B b _ W k (by rw [List.length_append]; omega)
    rw [example_bytes] at this
    exact this)
  have RR : Hid (∀ W : World, Calls Try.prog 19 #[.string ⟨#[2, 1, 44, 1, 2, 97, 98]⟩] W fun e w' => e = .returned (self W.heap.size) ∧ Rd RC W.heap.size (some (enc 300 ++ encText [97, 98])) w' ∧ Below W.heap.size W w') := Lib.hid (fun W => (read_any ⟨#[2, 1, 44, 1, 2, 97, 98]⟩ W).mono fun e w' ⟨he, hw⟩ => ⟨he, by
    subst hw
    rw [← example_bytes]
    exact ⟨heap_alloc_new W _, (Below.refl _ _).alloc (Nat.le_refl _) _⟩⟩)
  have k0 := fresh_wr w
  have b0 : Below w.heap.size w (w.alloc (.cells #[.pointer none, .slice none 0 0, .pointer none] 30)) := (Below.refl _ _).alloc (Nat.le_refl _) _
  clear l1 l2
  go_enter Try.func8, Try.ntmps8
  go_wp2_with fail
  (with_reducible refine (N3.out _ _ _ _ k0 (by simp) b0.size).mono ?_)
  rintro e w1 ⟨rfl, k1, m1⟩
  have b1 := b0.trans (k0.below m1 b0.size)
  rw [List.nil_append] at k1
  clear N3 k0 m1 b0
  go_wp2_with fail
  (with_reducible refine (TX.out _ _ _ _ k1 (by have := enc_len9 (n := 300) (by omega); omega) b1.size).mono ?_)
  rintro e w2 ⟨rfl, k2, m2⟩
  have b2 := b1.trans (k1.below m2 b1.size)
  clear TX k1 m2 b1
  go_wp2_with fail
  (with_reducible refine (ST.out _ _ _ k2).mono ?_)
  rintro e w3 ⟨rfl, k3, m3⟩
  have b3 := b2.trans (k2.below m3 b2.size)
  clear k2 m3 b2
  go_wp2_with fail
  (with_reducible refine (RR.out _).mono ?_)
  rintro e w4 ⟨rfl, r4, b4⟩
  have k4 := k3.call b4
  have b5 := b3.trans (b4.mono b3.size)
  have hne : w3.heap.size ≠ w.heap.size := by have := k3.lt; omega
  have hge : w.heap.size ≤ w3.heap.size := b3.size
  generalize w3.heap.size = c at *
  clear RR k3 b4 b3
  go_wp2_with fail
  (with_reducible refine (ST.out _ _ _ k4).mono ?_)
  rintro e w5 ⟨rfl, k5, m5⟩
  have r5 := r4.moved m5 k4 (by decide) hne
  have b6 := b5.trans (k4.below m5 b5.size)
  clear ST k4 r4 m5 b5 k5
  go_wp2_with fail
  (with_reducible refine (RN.out _ _ r5).mono ?_)
  rintro e w6 ⟨rfl, r6, a6⟩
  have b7 := b6.trans (a6.below hge b6.size)
  clear RN r5 a6 b6
  go_wp2_with fail
  (with_reducible refine (RT.out _ _ r6).mono ?_)
  rintro e w7 ⟨rfl, r7, a7⟩
  have b8 := b7.trans (a7.below hge b7.size)
  clear RT r6 a7 b7
  go_wp2_with fail
  (with_reducible refine (RE.out _ _ r7).mono ?_)
  rintro e w8 ⟨rfl, rfl⟩
  clear RE r7
  go_wp2
  go_ret
  exact ⟨rfl, b8⟩
end Go.Proofs.Ythmbnnbdphobiaa
