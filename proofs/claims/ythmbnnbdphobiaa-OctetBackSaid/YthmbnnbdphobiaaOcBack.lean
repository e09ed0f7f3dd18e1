/- horariumlaw03.OctetBack answers true at every row of numbers and every two texts, and leaves its arguments as they were: what was put is taken again, in order, whatever stands behind; cut short, it is not. No condition. -/
import Derived.Test.YthmbnnbdphobiaaOcL
namespace Go.Proofs.Ythmbnnbdphobiaa.octetBack
open Go.ChangeShapes Go.WideShapes Go.ChangeAt Go.RowKit Go.Joins
set_option linter.unusedVariables false
set_option linter.unusedSimpArgs false

def B1 (B : Nat) (f : Nat → Nat) (N : Nat) (w : World) (g : Nat) (s10 : Value) (wx : World) : Prop := ∃ i : Nat, i + g = N ∧ s10 = .int .i64 (i : Int) ∧ Wr B B (encs f i) wx ∧ Below w.heap.size w wx ∧ B ≤ wx.heap.size
def B2 (c d : Nat) (f : Nat → Nat) (N : Nat) (tr tq : List UInt8) (w : World) (g : Nat) (s14 : Value) (wx : World) : Prop := ∃ i : Nat, i + g = N ∧ s14 = .int .i64 (i : Int) ∧ Rd RC c (some (sufs f g i ++ tr)) wx ∧ Rd RC d (some (sufs f g i ++ tq)) wx ∧ Below w.heap.size w wx
theorem sufs_length {f : Nat → Nat} (h : ∀ i, f i < 18446744073709551616) (k : Nat) : ∀ i, (sufs f k i).length ≤ 9 * k := by
  induction k with
  | zero => intro i; simp [sufs]
  | succ k ih => intro i; have := enc_len9 (h i); have := ih (i + 1); simp only [sufs, List.length_append]; omega
theorem num_sufs {f : Nat → Nat} (h : ∀ i, f i < 18446744073709551616) (k i : Nat) (t : List UInt8) : num (some (sufs f (k + 1) i ++ t)) 18446744073709551615 = (f i, some (sufs f k (i + 1) ++ t)) := by
  simp only [sufs, List.append_assoc]
  exact num_enc (h i) (by have := h i; omega) _
theorem held2_call {w0 w w' : World} {b o : Nat} {v : Value} (h : w.cell? ⟨b, o, none⟩ = some v ∧ Below w0.heap.size w0 w) (hb : b < w0.heap.size) (ha : Below w0.heap.size w w') : w'.cell? ⟨b, o, none⟩ = some v ∧ Below w0.heap.size w0 w' := by
  refine ⟨?_, h.2.trans ha⟩
  rw [ha.cell (p := ⟨b, o, none⟩) hb]
  exact h.1
set_option maxRecDepth 100000 in
set_option maxHeartbeats 8000000 in
theorem walk_small (ao : Option Addr) (len cap : Nat) (f : Nat → Nat) (s rest : ByteArray) (w : World) (hlen : len ≤ 9223372036854775807) (hf : ∀ i, f i < 18446744073709551616) (hN : Nums ao len f w) (h8 : len ≤ 8) :
    Calls Try.prog 5 #[.slice ao len cap, .string s, .string rest] w fun e w' => e = .returned (.bool true) ∧ Below w.heap.size w w' := by
  have S1 : Hid (∀ w : World, Calls Try.prog 9 #[.string s, .int .i64 60] w fun e w' => e = .returned (.string (cut s 60)) ∧ w' = w) := Lib.hid (fun w => short_any s 60 w (by omega))
  have S2 : Hid (∀ w : World, Calls Try.prog 9 #[.string rest, .int .i64 20] w fun e w' => e = .returned (.string (cut rest 20)) ∧ w' = w) := Lib.hid (fun w => short_any rest 20 w (by omega))
  have z1 := cut_size s 60
  have z2 := cut_size rest 20
  generalize cut s 60 = t at *
  generalize cut rest 20 = u at *
  have NU := Lib.hid hN
  clear hN
  have LT : Hid ((encText t.data.toList).length ≤ 69 ∧ u.data.toList.length ≤ 20) := Lib.hid ⟨by unfold encText; rw [List.length_append, list_size]; have := enc_len9 (n := t.size) (by omega); omega, by rw [list_size]; exact z2⟩
  have T1 : Hid (∀ W c, Rd RC c (some (encText t.data.toList ++ (encFlag true ++ u.data.toList))) W → Calls Try.prog 24 #[self c, .int .i64 60] W fun e w' => e = .returned (.string t) ∧ Rd RC c (some (encFlag true ++ u.data.toList)) w' ∧ Apart c W w') := Lib.hid (fun W c k => by
    have := text_rd c _ 60 W k (by decide) (by simp only [left]; rw [List.length_append, List.length_append, encFlag_true]; have := LT.out; simp; omega)
    rw [text_enc (by rw [list_size]; omega) (by rw [list_size]; omega), mkB_of] at this
    exact this)
  have T2 : Hid (∀ W c, Rd RC c (some (encText t.data.toList ++ [1])) W → Calls Try.prog 24 #[self c, .int .i64 60] W fun e w' => e = .returned (.string t) ∧ Rd RC c (some [1]) w' ∧ Apart c W w') := Lib.hid (fun W c k => by
    have := text_rd c _ 60 W k (by decide) (by simp only [left]; rw [List.length_append]; have := LT.out; simp; omega)
    rw [text_enc (by rw [list_size]; omega) (by rw [list_size]; omega), mkB_of] at this
    exact this)
  have F1 : Hid (∀ W c, Rd RC c (some (encFlag true ++ u.data.toList)) W → Calls Try.prog 26 #[self c] W fun e w' => e = .returned (.bool true) ∧ Rd RC c (some u.data.toList) w' ∧ Apart c W w') := Lib.hid (fun W c k => by
    have := flag_rd c _ W k (by simp only [left]; rw [List.length_append, encFlag_true]; have := LT.out; simp; omega)
    rw [flag_enc] at this
    exact this)
  have F2 : Hid (∀ W c, Rd RC c (some [1]) W → Calls Try.prog 26 #[self c] W fun e w' => e = .returned (.bool false) ∧ Rd RC c none w' ∧ Apart c W w') := Lib.hid (fun W c k => by
    have := flag_rd c _ W k (by simp [left])
    rw [flag_cut] at this
    exact this)
  have LF : Hid (∀ W c, Rd RC c (some u.data.toList) W → Calls Try.prog 31 #[self c] W fun e w' => e = .returned (.int .i64 (u.size : Int)) ∧ w' = W) := Lib.hid (fun W c k => by
    have := left_rd c _ W k
    simp only [left, list_size] at this
    exact this)
  have GO : Hid (∀ W c, Rd RC c none W → Calls Try.prog 28 #[self c] W fun e w' => e = .returned (.bool false) ∧ w' = W) := Lib.hid (fun W c k => good_any c none W k)
  have hb1 : (encs f len ++ encText t.data.toList ++ encFlag true).length ≤ 1000 := by
    have := encs_length hf len; rw [List.length_append, List.length_append, encFlag_true]; have := LT.out; simp; omega
  have ST : Hid (∀ W B b, Wr B b (encs f len ++ encText t.data.toList ++ encFlag true) W → Calls Try.prog 18 #[self b] W fun e w' => e = .returned (.string (mkB (encs f len ++ encText t.data.toList ++ encFlag true))) ∧ Wr B b (encs f len ++ encText t.data.toList ++ encFlag true) w' ∧ Moved b W w') := Lib.hid (fun W B b k => wstring_any B b _ W k (by omega))
  have e1 : mkB (encs f len ++ encText t.data.toList ++ encFlag true) ++ u = mkB (sufs f len 0 ++ (encText t.data.toList ++ (encFlag true ++ u.data.toList))) := by
    rw [app_mkB, encs_sufs]; simp
  have e2 : (mkB (encs f len ++ encText t.data.toList ++ encFlag true)).extract 0 ((mkB (encs f len ++ encText t.data.toList ++ encFlag true)).size - 1) = mkB (sufs f len 0 ++ (encText t.data.toList ++ [1])) := mkB_ext (by
    rw [extract_list, mkB_data, mkB_size, encs_sufs, encFlag_true]
    simp only [List.append_assoc, List.drop_zero]
    have h : (sufs f len 0 ++ (encText t.data.toList ++ [1, 1])) = (sufs f len 0 ++ (encText t.data.toList ++ [1])) ++ [1] := by simp
    rw [h, List.take_left' (by simp)])
  have R1 : Hid (∀ W : World, Calls Try.prog 19 #[.string (mkB (encs f len ++ encText t.data.toList ++ encFlag true) ++ u)] W fun e w' => e = .returned (self W.heap.size) ∧ Rd RC W.heap.size (some (sufs f len 0 ++ (encText t.data.toList ++ (encFlag true ++ u.data.toList)))) w' ∧ Below W.heap.size W w') := Lib.hid (fun W => by
    rw [e1]
    exact (read_any _ W).mono fun e w' ⟨he, hw⟩ => ⟨he, by subst hw; exact ⟨heap_alloc_new W _, (Below.refl _ _).alloc (Nat.le_refl _) _⟩⟩)
  have R2 : Hid (∀ W : World, Calls Try.prog 19 #[.string ((mkB (encs f len ++ encText t.data.toList ++ encFlag true)).extract 0 ((mkB (encs f len ++ encText t.data.toList ++ encFlag true)).size - 1))] W fun e w' => e = .returned (self W.heap.size) ∧ Rd RC W.heap.size (some (sufs f len 0 ++ (encText t.data.toList ++ [1]))) w' ∧ Below W.heap.size W w') := Lib.hid (fun W => by
    rw [e2]
    exact (read_any _ W).mono fun e w' ⟨he, hw⟩ => ⟨he, by subst hw; exact ⟨heap_alloc_new W _, (Below.refl _ _).alloc (Nat.le_refl _) _⟩⟩)
  have hbs : 1 ≤ (mkB (encs f len ++ encText t.data.toList ++ encFlag true)).size := by rw [mkB_size, encFlag_true]; simp; omega
  have hbu : (mkB (encs f len ++ encText t.data.toList ++ encFlag true)).size ≤ 1000 := by rw [mkB_size]; exact hb1
  have hbz : ((mkB (encs f len ++ encText t.data.toList ++ encFlag true)).size == 0) = false := by rw [beq_eq_false_iff_ne]; omega
  have hbz' : (((mkB (encs f len ++ encText t.data.toList ++ encFlag true)).size : Int) == 0) = false := by rw [beq_eq_false_iff_ne]; omega
  have TX : Hid (∀ W B b l, Wr B b l W → l.length ≤ 900000 → B ≤ W.heap.size → Calls Try.prog 14 #[self b, .string t] W fun e w' => e = .returned (self b) ∧ Wr B b (l ++ encText t.data.toList) w' ∧ Moved b W w') := Lib.hid (fun W B b l k h1 h2 => text_any B b t l W k (by omega) h1 h2)
  have FL : Hid (∀ W B b l, Wr B b l W → l.length ≤ 900000 → B ≤ W.heap.size → Calls Try.prog 16 #[self b, .bool true] W fun e w' => e = .returned (self b) ∧ Wr B b (l ++ encFlag true) w' ∧ Moved b W w') := Lib.hid (fun W B b l k h1 h2 => flag_any B b true l W k h1 h2)
  clear e1 e2 hb1
  generalize hbody : encs f len ++ encText t.data.toList ++ encFlag true = body at *
  have HBD := Lib.hid hbody
  clear hbody
  go_enter Try.func5, Try.ntmps5
  go_wp2_with fail
  (with_reducible refine (awake_any _).mono ?_)
  rintro e w1 ⟨rfl, b1⟩
  go_wp2_with fail
  (with_reducible refine (S1.out _).mono ?_)
  rintro e w2 ⟨rfl, rfl⟩
  clear S1
  have k0 := fresh_wr w2
  have b2 := b1.alloc b1.size (.cells #[.pointer none, .slice none 0 0, .pointer none] 30)
  have zB : w.heap.size ≤ w2.heap.size := b1.size
  have K0 : Hid (Wr w2.heap.size w2.heap.size (encs f 0) (w2.alloc (.cells #[.pointer none, .slice none 0 0, .pointer none] 30)) ∧ Below w.heap.size w (w2.alloc (.cells #[.pointer none, .slice none 0 0, .pointer none] 30)) ∧ w2.heap.size ≤ (w2.alloc (.cells #[.pointer none, .slice none 0 0, .pointer none] 30)).heap.size) := Lib.hid ⟨k0, b2, by simp⟩
  clear k0 b1 b2
  go_wp2_with fail
  rw [show decide ((8 : Int) < (len : Int)) = false by simp; omega]
  generalize w2.alloc (.cells #[.pointer none, .slice none 0 0, .pointer none] 30) = w3 at *
  generalize w2.heap.size = B at *
  go_loopg [10] len (B1 B f len w)
  case atStart => exact ⟨0, by omega, rfl, K0.out⟩
  case round =>
    obtain ⟨i, hg, rfl, hk⟩ := hrel
    have K := Lib.hid hk
    clear hk K0
    rcases Nat.lt_or_ge i len with hlt | hge
    · obtain ⟨b, off, rfl, hbl, hcell⟩ := NU.out (by omega)
      have hc : wr.cell? ⟨b, off + i, none⟩ = some (.int .u64 (f i : Int)) := by rw [K.out.2.1.cell (p := ⟨b, off + i, none⟩) hbl]; exact hcell i (by omega)
      have hfi := hf i
      have hln := encs_length hf i
      clear hcell NU
      go_wp2_with fail
      (with_reducible refine (num_any B B (f i) (encs f i) wr K.out.1 hfi (by omega) K.out.2.2).mono ?_)
      rintro e w4 ⟨rfl, k4, m4⟩
      have K4 : Hid (Wr B B (encs f (i + 1)) w4 ∧ Below w.heap.size w w4 ∧ B ≤ w4.heap.size) := Lib.hid ⟨k4, K.out.2.1.trans ((K.out.1.below m4 K.out.2.2).mono zB), by have := K.out.2.2; have := m4.size; omega⟩
      clear k4 m4 K
      go_wp2
      go_roundg (gk - 1)
      case measure => omega
      case rel => exact ⟨i + 1, by omega, by go_num, K4.out⟩
    · have e : i = len := by omega
      have hln := encs_length hf len
      obtain ⟨k3, b3, z3⟩ := K.out
      rw [e] at k3
      clear K hg e
      go_wp2_with fail
      (with_reducible refine (TX.out _ _ _ _ k3 (by omega) z3).mono ?_)
      rintro e w4 ⟨rfl, k4, m4⟩
      have b4 := b3.trans ((k3.below m4 z3).mono zB)
      have z4 := Nat.le_trans z3 m4.size
      clear TX k3 m4 b3 z3
      go_wp2_with fail
      (with_reducible refine (FL.out _ _ _ _ k4 (by rw [List.length_append]; have := LT.out; omega) z4).mono ?_)
      rintro e w5 ⟨rfl, k5, m5⟩
      have b5 := b4.trans ((k4.below m5 z4).mono zB)
      have z5 := Nat.le_trans z4 m5.size
      rw [HBD.out] at k5
      clear FL k4 m5 b4 z4
      go_wp2_with fail
      (with_reducible refine (ST.out _ _ _ k5).mono ?_)
      rintro e w6 ⟨rfl, k6, m6⟩
      have b6 := b5.trans ((k5.below m6 z5).mono zB)
      clear ST k5 m6 b5 z5 k6
      go_wp2_with fail
      (with_reducible refine (S2.out _).mono ?_)
      rintro e w7 ⟨rfl, rfl⟩
      go_wp2_with fail
      (with_reducible refine (R1.out _).mono ?_)
      rintro e w8 ⟨rfl, r8, b8⟩
      have b9 := b6.trans (b8.mono b6.size)
      have zc : w.heap.size ≤ w7.heap.size := b6.size
      clear R1 b6 b8
      have zd : w.heap.size ≤ w8.heap.size := b9.size
      have hcd : w7.heap.size ≠ w8.heap.size := by have := r8.lt; omega
      generalize w7.heap.size = c at *
      go_wp2_with fail
      (with_reducible refine (R2.out _).mono ?_)
      rintro e w9 ⟨rfl, q9, b10⟩
      have r9 := r8.call b10
      have b11 := b9.trans (b10.mono b9.size)
      clear R2 r8 b9 b10
      generalize w8.heap.size = d at *
      have K9 : Hid (Rd RC c (some (sufs f len 0 ++ (encText t.data.toList ++ (encFlag true ++ u.data.toList)))) w9 ∧ Rd RC d (some (sufs f len 0 ++ (encText t.data.toList ++ [1]))) w9 ∧ Below w.heap.size w w9) := Lib.hid ⟨r9, q9, b11⟩
      clear r9 q9 b11
      go_wp2_with fail
      go_loopg [14] len (B2 c d f len (encText t.data.toList ++ (encFlag true ++ u.data.toList)) (encText t.data.toList ++ [1]) w)
      case atStart => exact ⟨0, by omega, rfl, K9.out⟩
      case round =>
        obtain ⟨i, hg, rfl, hk⟩ := hrel
        have K := Lib.hid hk
        clear hk K9
        rcases Nat.lt_or_ge i len with hlt | hge
        · obtain ⟨b, off, rfl, hbl, hcell⟩ := NU.out (by omega)
          have hc : wr.cell? ⟨b, off + i, none⟩ = some (.int .u64 (f i : Int)) := by rw [K.out.2.2.cell (p := ⟨b, off + i, none⟩) hbl]; exact hcell i (by omega)
          obtain ⟨g', rfl⟩ : ∃ g', gk = g' + 1 := ⟨gk - 1, by omega⟩
          have hln := sufs_length hf (g' + 1) i
          have hR : Hid (∀ W, Rd RC c (some (sufs f (g' + 1) i ++ (encText t.data.toList ++ (encFlag true ++ u.data.toList)))) W → Calls Try.prog 20 #[self c, .int .u64 18446744073709551615] W fun e w' => e = .returned (.int .u64 (f i : Int)) ∧ Rd RC c (some (sufs f g' (i + 1) ++ (encText t.data.toList ++ (encFlag true ++ u.data.toList)))) w' ∧ Apart c W w') := Lib.hid (fun W k => by
            have := num_rd c _ 18446744073709551615 W k (by omega) (by simp only [left]; rw [List.length_append, List.length_append, List.length_append, encFlag_true]; have := LT.out; simp; omega)
            rw [num_sufs hf] at this
            exact this)
          have hQ : Hid (∀ W, Rd RC d (some (sufs f (g' + 1) i ++ (encText t.data.toList ++ [1]))) W → Calls Try.prog 20 #[self d, .int .u64 18446744073709551615] W fun e w' => e = .returned (.int .u64 (f i : Int)) ∧ Rd RC d (some (sufs f g' (i + 1) ++ (encText t.data.toList ++ [1]))) w' ∧ Apart d W w') := Lib.hid (fun W k => by
            have := num_rd d _ 18446744073709551615 W k (by omega) (by simp only [left]; rw [List.length_append, List.length_append]; have := LT.out; simp; omega)
            rw [num_sufs hf] at this
            exact this)
          have hs1 : ∀ W W', Below w.heap.size w W → Apart c W W' → Below w.heap.size W W' := fun W W' h1 h2 => h2.below zc h1.size
          have hs2 : ∀ W W', Below w.heap.size w W → Apart d W W' → Below w.heap.size W W' := fun W W' h1 h2 => h2.below zd h1.size
          have HS1 := Lib.hid hs1
          have HS2 := Lib.hid hs2
          have KS : Hid (wr.cell? ⟨b, off + i, none⟩ = some (.int .u64 (f i : Int)) ∧ Below w.heap.size w wr) := Lib.hid ⟨hc, K.out.2.2⟩
          have KD : Hid (wr.drew.cell? ⟨b, off + i, none⟩ = some (.int .u64 (f i : Int)) ∧ Below w.heap.size w wr.drew) := Lib.hid ⟨hc, K.out.2.2.drew⟩
          have ne1 : ∀ x : Int, (x != x) = false := fun x => by simp
          have hlb : (i : Int) < (len : Int) := by omega
          have hlb' : i < len := by omega
          clear hs1 hs2 hcell NU hln
          go_wp2_with fail
          have hrd : Rd RC c (some (sufs f (g' + 1) i ++ (encText t.data.toList ++ (encFlag true ++ u.data.toList)))) wr.drew := K.out.1
          have hqd : Rd RC d (some (sufs f (g' + 1) i ++ (encText t.data.toList ++ [1]))) wr.drew := K.out.2.1
          go_region_held3 (fun w' => w'.cell? ⟨b, off + i, none⟩ = some (.int .u64 (f i : Int)) ∧ Below w.heap.size w w') (first | exact KS.out | exact KD.out | assumption) (first | (go_at_call 20; (with_reducible refine (hR.out _ hrd).mono ?_); rintro e wn ⟨rfl, hrn, han⟩; (have kn := held2_call (w' := wn) KD.out hbl (HS1.out _ _ KD.out.2 han)); (have hqn := hqd.apart han (Ne.symm hcd))) | (go_at_call 20; (with_reducible refine (hQ.out _ hqn).mono ?_); rintro e wm ⟨rfl, hqm, ham⟩; (have km := held2_call (w' := wm) kn hbl (HS2.out _ _ kn.2 ham)); (have hrm := hrn.apart ham hcd)) | fail)
          have KM : Hid (Rd RC c (some (sufs f g' (i + 1) ++ (encText t.data.toList ++ (encFlag true ++ u.data.toList)))) wm ∧ Rd RC d (some (sufs f g' (i + 1) ++ (encText t.data.toList ++ [1]))) wm ∧ Below w.heap.size w wm) := Lib.hid ⟨hrm, hqm, km.2⟩
          clear hrm hqm km kn hqn han ham hrn hrd hqd KS KD HS1 HS2 hR hQ hc K
          go_wp2
          go_roundg g'
          case measure => omega
          case rel => exact ⟨i + 1, by omega, by go_num, KM.out⟩
        · have e : gk = 0 := by omega
          subst e
          obtain ⟨r1, q1, b12⟩ := K.out
          simp only [sufs, List.nil_append] at r1 q1
          clear K
          go_wp2_with fail
          (with_reducible refine (T1.out _ _ r1).mono ?_)
          rintro e v1 ⟨rfl, r2, a2⟩
          have q2 := q1.apart a2 (Ne.symm hcd)
          have b13 := b12.trans (a2.below zc b12.size)
          clear T1 r1 q1 a2 b12
          go_wp2_with fail
          (with_reducible refine (F1.out _ _ r2).mono ?_)
          rintro e v2 ⟨rfl, r3, a3⟩
          have q3 := q2.apart a3 (Ne.symm hcd)
          have b14 := b13.trans (a3.below zc b13.size)
          clear F1 r2 q2 a3 b13
          go_wp2_with fail
          (with_reducible refine (T2.out _ _ q3).mono ?_)
          rintro e v3 ⟨rfl, q4, a4⟩
          have r4 := r3.apart a4 hcd
          have b15 := b14.trans (a4.below zd b14.size)
          clear T2 r3 q3 a4 b14
          go_wp2_with fail
          (with_reducible refine (F2.out _ _ q4).mono ?_)
          rintro e v4 ⟨rfl, q5, a5⟩
          have r5 := r4.apart a5 hcd
          have b16 := b15.trans (a5.below zd b15.size)
          clear F2 r4 q4 a5 b15
          go_wp2_with fail
          (with_reducible refine (LF.out _ _ r5).mono ?_)
          rintro e v5 ⟨rfl, rfl⟩
          go_wp2_with fail
          (with_reducible refine (S2.out _).mono ?_)
          rintro e v6 ⟨rfl, rfl⟩
          go_wp2_with fail
          (with_reducible refine (GO.out _ _ q5).mono ?_)
          rintro e v7 ⟨rfl, rfl⟩
          clear LF S2 GO r5 q5
          go_wp2
          go_ret
          exact ⟨rfl, b16⟩
set_option maxRecDepth 100000 in
set_option maxHeartbeats 8000000 in
theorem walk_big (ao : Option Addr) (len cap : Nat) (f : Nat → Nat) (s rest : ByteArray) (w : World) (hlen : len ≤ 9223372036854775807) (hf : ∀ i, f i < 18446744073709551616) (hN : Nums ao len f w) (h9 : 8 < len) :
    Calls Try.prog 5 #[.slice ao len cap, .string s, .string rest] w fun e w' => e = .returned (.bool true) ∧ Below w.heap.size w w' := by
  have S1 : Hid (∀ w : World, Calls Try.prog 9 #[.string s, .int .i64 60] w fun e w' => e = .returned (.string (cut s 60)) ∧ w' = w) := Lib.hid (fun w => short_any s 60 w (by omega))
  have S2 : Hid (∀ w : World, Calls Try.prog 9 #[.string rest, .int .i64 20] w fun e w' => e = .returned (.string (cut rest 20)) ∧ w' = w) := Lib.hid (fun w => short_any rest 20 w (by omega))
  have z1 := cut_size s 60
  have z2 := cut_size rest 20
  generalize cut s 60 = t at *
  generalize cut rest 20 = u at *
  have NU := Lib.hid hN
  clear hN
  have LT : Hid ((encText t.data.toList).length ≤ 69 ∧ u.data.toList.length ≤ 20) := Lib.hid ⟨by unfold encText; rw [List.length_append, list_size]; have := enc_len9 (n := t.size) (by omega); omega, by rw [list_size]; exact z2⟩
  have T1 : Hid (∀ W c, Rd RC c (some (encText t.data.toList ++ (encFlag true ++ u.data.toList))) W → Calls Try.prog 24 #[self c, .int .i64 60] W fun e w' => e = .returned (.string t) ∧ Rd RC c (some (encFlag true ++ u.data.toList)) w' ∧ Apart c W w') := Lib.hid (fun W c k => by
    have := text_rd c _ 60 W k (by decide) (by simp only [left]; rw [List.length_append, List.length_append, encFlag_true]; have := LT.out; simp; omega)
    rw [text_enc (by rw [list_size]; omega) (by rw [list_size]; omega), mkB_of] at this
    exact this)
  have T2 : Hid (∀ W c, Rd RC c (some (encText t.data.toList ++ [1])) W → Calls Try.prog 24 #[self c, .int .i64 60] W fun e w' => e = .returned (.string t) ∧ Rd RC c (some [1]) w' ∧ Apart c W w') := Lib.hid (fun W c k => by
    have := text_rd c _ 60 W k (by decide) (by simp only [left]; rw [List.length_append]; have := LT.out; simp; omega)
    rw [text_enc (by rw [list_size]; omega) (by rw [list_size]; omega), mkB_of] at this
    exact this)
  have F1 : Hid (∀ W c, Rd RC c (some (encFlag true ++ u.data.toList)) W → Calls Try.prog 26 #[self c] W fun e w' => e = .returned (.bool true) ∧ Rd RC c (some u.data.toList) w' ∧ Apart c W w') := Lib.hid (fun W c k => by
    have := flag_rd c _ W k (by simp only [left]; rw [List.length_append, encFlag_true]; have := LT.out; simp; omega)
    rw [flag_enc] at this
    exact this)
  have F2 : Hid (∀ W c, Rd RC c (some [1]) W → Calls Try.prog 26 #[self c] W fun e w' => e = .returned (.bool false) ∧ Rd RC c none w' ∧ Apart c W w') := Lib.hid (fun W c k => by
    have := flag_rd c _ W k (by simp [left])
    rw [flag_cut] at this
    exact this)
  have LF : Hid (∀ W c, Rd RC c (some u.data.toList) W → Calls Try.prog 31 #[self c] W fun e w' => e = .returned (.int .i64 (u.size : Int)) ∧ w' = W) := Lib.hid (fun W c k => by
    have := left_rd c _ W k
    simp only [left, list_size] at this
    exact this)
  have GO : Hid (∀ W c, Rd RC c none W → Calls Try.prog 28 #[self c] W fun e w' => e = .returned (.bool false) ∧ w' = W) := Lib.hid (fun W c k => good_any c none W k)
  have hb1 : (encs f 8 ++ encText t.data.toList ++ encFlag true).length ≤ 1000 := by
    have := encs_length hf 8; rw [List.length_append, List.length_append, encFlag_true]; have := LT.out; simp; omega
  have ST : Hid (∀ W B b, Wr B b (encs f 8 ++ encText t.data.toList ++ encFlag true) W → Calls Try.prog 18 #[self b] W fun e w' => e = .returned (.string (mkB (encs f 8 ++ encText t.data.toList ++ encFlag true))) ∧ Wr B b (encs f 8 ++ encText t.data.toList ++ encFlag true) w' ∧ Moved b W w') := Lib.hid (fun W B b k => wstring_any B b _ W k (by omega))
  have e1 : mkB (encs f 8 ++ encText t.data.toList ++ encFlag true) ++ u = mkB (sufs f 8 0 ++ (encText t.data.toList ++ (encFlag true ++ u.data.toList))) := by
    rw [app_mkB, encs_sufs]; simp
  have e2 : (mkB (encs f 8 ++ encText t.data.toList ++ encFlag true)).extract 0 ((mkB (encs f 8 ++ encText t.data.toList ++ encFlag true)).size - 1) = mkB (sufs f 8 0 ++ (encText t.data.toList ++ [1])) := mkB_ext (by
    rw [extract_list, mkB_data, mkB_size, encs_sufs, encFlag_true]
    simp only [List.append_assoc, List.drop_zero]
    have h : (sufs f 8 0 ++ (encText t.data.toList ++ [1, 1])) = (sufs f 8 0 ++ (encText t.data.toList ++ [1])) ++ [1] := by simp
    rw [h, List.take_left' (by simp)])
  have R1 : Hid (∀ W : World, Calls Try.prog 19 #[.string (mkB (encs f 8 ++ encText t.data.toList ++ encFlag true) ++ u)] W fun e w' => e = .returned (self W.heap.size) ∧ Rd RC W.heap.size (some (sufs f 8 0 ++ (encText t.data.toList ++ (encFlag true ++ u.data.toList)))) w' ∧ Below W.heap.size W w') := Lib.hid (fun W => by
    rw [e1]
    exact (read_any _ W).mono fun e w' ⟨he, hw⟩ => ⟨he, by subst hw; exact ⟨heap_alloc_new W _, (Below.refl _ _).alloc (Nat.le_refl _) _⟩⟩)
  have R2 : Hid (∀ W : World, Calls Try.prog 19 #[.string ((mkB (encs f 8 ++ encText t.data.toList ++ encFlag true)).extract 0 ((mkB (encs f 8 ++ encText t.data.toList ++ encFlag true)).size - 1))] W fun e w' => e = .returned (self W.heap.size) ∧ Rd RC W.heap.size (some (sufs f 8 0 ++ (encText t.data.toList ++ [1]))) w' ∧ Below W.heap.size W w') := Lib.hid (fun W => by
    rw [e2]
    exact (read_any _ W).mono fun e w' ⟨he, hw⟩ => ⟨he, by subst hw; exact ⟨heap_alloc_new W _, (Below.refl _ _).alloc (Nat.le_refl _) _⟩⟩)
  have hbs : 1 ≤ (mkB (encs f 8 ++ encText t.data.toList ++ encFlag true)).size := by rw [mkB_size, encFlag_true]; simp; omega
  have hbu : (mkB (encs f 8 ++ encText t.data.toList ++ encFlag true)).size ≤ 1000 := by rw [mkB_size]; exact hb1
  have hbz : ((mkB (encs f 8 ++ encText t.data.toList ++ encFlag true)).size == 0) = false := by rw [beq_eq_false_iff_ne]; omega
  have hbz' : (((mkB (encs f 8 ++ encText t.data.toList ++ encFlag true)).size : Int) == 0) = false := by rw [beq_eq_false_iff_ne]; omega
  have TX : Hid (∀ W B b l, Wr B b l W → l.length ≤ 900000 → B ≤ W.heap.size → Calls Try.prog 14 #[self b, .string t] W fun e w' => e = .returned (self b) ∧ Wr B b (l ++ encText t.data.toList) w' ∧ Moved b W w') := Lib.hid (fun W B b l k h1 h2 => text_any B b t l W k (by omega) h1 h2)
  have FL : Hid (∀ W B b l, Wr B b l W → l.length ≤ 900000 → B ≤ W.heap.size → Calls Try.prog 16 #[self b, .bool true] W fun e w' => e = .returned (self b) ∧ Wr B b (l ++ encFlag true) w' ∧ Moved b W w') := Lib.hid (fun W B b l k h1 h2 => flag_any B b true l W k h1 h2)
  clear e1 e2 hb1
  generalize hbody : encs f 8 ++ encText t.data.toList ++ encFlag true = body at *
  have HBD := Lib.hid hbody
  clear hbody
  go_enter Try.func5, Try.ntmps5
  go_wp2_with fail
  (with_reducible refine (awake_any _).mono ?_)
  rintro e w1 ⟨rfl, b1⟩
  go_wp2_with fail
  (with_reducible refine (S1.out _).mono ?_)
  rintro e w2 ⟨rfl, rfl⟩
  clear S1
  have k0 := fresh_wr w2
  have b2 := b1.alloc b1.size (.cells #[.pointer none, .slice none 0 0, .pointer none] 30)
  have zB : w.heap.size ≤ w2.heap.size := b1.size
  have K0 : Hid (Wr w2.heap.size w2.heap.size (encs f 0) (w2.alloc (.cells #[.pointer none, .slice none 0 0, .pointer none] 30)) ∧ Below w.heap.size w (w2.alloc (.cells #[.pointer none, .slice none 0 0, .pointer none] 30)) ∧ w2.heap.size ≤ (w2.alloc (.cells #[.pointer none, .slice none 0 0, .pointer none] 30)).heap.size) := Lib.hid ⟨k0, b2, by simp⟩
  clear k0 b1 b2
  go_wp2_with fail
  rw [show decide ((8 : Int) < (len : Int)) = true by simp; omega]
  generalize w2.alloc (.cells #[.pointer none, .slice none 0 0, .pointer none] 30) = w3 at *
  generalize w2.heap.size = B at *
  go_loopg [10] 8 (B1 B f 8 w)
  case atStart => exact ⟨0, by omega, rfl, K0.out⟩
  case round =>
    obtain ⟨i, hg, rfl, hk⟩ := hrel
    have K := Lib.hid hk
    clear hk K0
    rcases Nat.lt_or_ge i 8 with hlt | hge
    · obtain ⟨b, off, rfl, hbl, hcell⟩ := NU.out (by omega)
      have hc : wr.cell? ⟨b, off + i, none⟩ = some (.int .u64 (f i : Int)) := by rw [K.out.2.1.cell (p := ⟨b, off + i, none⟩) hbl]; exact hcell i (by omega)
      have hfi := hf i
      have hln := encs_length hf i
      clear hcell NU
      go_wp2_with fail
      (with_reducible refine (num_any B B (f i) (encs f i) wr K.out.1 hfi (by omega) K.out.2.2).mono ?_)
      rintro e w4 ⟨rfl, k4, m4⟩
      have K4 : Hid (Wr B B (encs f (i + 1)) w4 ∧ Below w.heap.size w w4 ∧ B ≤ w4.heap.size) := Lib.hid ⟨k4, K.out.2.1.trans ((K.out.1.below m4 K.out.2.2).mono zB), by have := K.out.2.2; have := m4.size; omega⟩
      clear k4 m4 K
      go_wp2
      go_roundg (gk - 1)
      case measure => omega
      case rel => exact ⟨i + 1, by omega, by go_num, K4.out⟩
    · have e : i = 8 := by omega
      have hln := encs_length hf 8
      obtain ⟨k3, b3, z3⟩ := K.out
      rw [e] at k3
      clear K hg e
      go_wp2_with fail
      (with_reducible refine (TX.out _ _ _ _ k3 (by omega) z3).mono ?_)
      rintro e w4 ⟨rfl, k4, m4⟩
      have b4 := b3.trans ((k3.below m4 z3).mono zB)
      have z4 := Nat.le_trans z3 m4.size
      clear TX k3 m4 b3 z3
      go_wp2_with fail
      (with_reducible refine (FL.out _ _ _ _ k4 (by rw [List.length_append]; have := LT.out; omega) z4).mono ?_)
      rintro e w5 ⟨rfl, k5, m5⟩
      have b5 := b4.trans ((k4.below m5 z4).mono zB)
      have z5 := Nat.le_trans z4 m5.size
      rw [HBD.out] at k5
      clear FL k4 m5 b4 z4
      go_wp2_with fail
      (with_reducible refine (ST.out _ _ _ k5).mono ?_)
      rintro e w6 ⟨rfl, k6, m6⟩
      have b6 := b5.trans ((k5.below m6 z5).mono zB)
      clear ST k5 m6 b5 z5 k6
      go_wp2_with fail
      (with_reducible refine (S2.out _).mono ?_)
      rintro e w7 ⟨rfl, rfl⟩
      go_wp2_with fail
      (with_reducible refine (R1.out _).mono ?_)
      rintro e w8 ⟨rfl, r8, b8⟩
      have b9 := b6.trans (b8.mono b6.size)
      have zc : w.heap.size ≤ w7.heap.size := b6.size
      clear R1 b6 b8
      have zd : w.heap.size ≤ w8.heap.size := b9.size
      have hcd : w7.heap.size ≠ w8.heap.size := by have := r8.lt; omega
      generalize w7.heap.size = c at *
      go_wp2_with fail
      (with_reducible refine (R2.out _).mono ?_)
      rintro e w9 ⟨rfl, q9, b10⟩
      have r9 := r8.call b10
      have b11 := b9.trans (b10.mono b9.size)
      clear R2 r8 b9 b10
      generalize w8.heap.size = d at *
      have K9 : Hid (Rd RC c (some (sufs f 8 0 ++ (encText t.data.toList ++ (encFlag true ++ u.data.toList)))) w9 ∧ Rd RC d (some (sufs f 8 0 ++ (encText t.data.toList ++ [1]))) w9 ∧ Below w.heap.size w w9) := Lib.hid ⟨r9, q9, b11⟩
      clear r9 q9 b11
      go_wp2_with fail
      go_loopg [14] 8 (B2 c d f 8 (encText t.data.toList ++ (encFlag true ++ u.data.toList)) (encText t.data.toList ++ [1]) w)
      case atStart => exact ⟨0, by omega, rfl, K9.out⟩
      case round =>
        obtain ⟨i, hg, rfl, hk⟩ := hrel
        have K := Lib.hid hk
        clear hk K9
        rcases Nat.lt_or_ge i 8 with hlt | hge
        · obtain ⟨b, off, rfl, hbl, hcell⟩ := NU.out (by omega)
          have hc : wr.cell? ⟨b, off + i, none⟩ = some (.int .u64 (f i : Int)) := by rw [K.out.2.2.cell (p := ⟨b, off + i, none⟩) hbl]; exact hcell i (by omega)
          obtain ⟨g', rfl⟩ : ∃ g', gk = g' + 1 := ⟨gk - 1, by omega⟩
          have hln := sufs_length hf (g' + 1) i
          have hR : Hid (∀ W, Rd RC c (some (sufs f (g' + 1) i ++ (encText t.data.toList ++ (encFlag true ++ u.data.toList)))) W → Calls Try.prog 20 #[self c, .int .u64 18446744073709551615] W fun e w' => e = .returned (.int .u64 (f i : Int)) ∧ Rd RC c (some (sufs f g' (i + 1) ++ (encText t.data.toList ++ (encFlag true ++ u.data.toList)))) w' ∧ Apart c W w') := Lib.hid (fun W k => by
            have := num_rd c _ 18446744073709551615 W k (by omega) (by simp only [left]; rw [List.length_append, List.length_append, List.length_append, encFlag_true]; have := LT.out; simp; omega)
            rw [num_sufs hf] at this
            exact this)
          have hQ : Hid (∀ W, Rd RC d (some (sufs f (g' + 1) i ++ (encText t.data.toList ++ [1]))) W → Calls Try.prog 20 #[self d, .int .u64 18446744073709551615] W fun e w' => e = .returned (.int .u64 (f i : Int)) ∧ Rd RC d (some (sufs f g' (i + 1) ++ (encText t.data.toList ++ [1]))) w' ∧ Apart d W w') := Lib.hid (fun W k => by
            have := num_rd d _ 18446744073709551615 W k (by omega) (by simp only [left]; rw [List.length_append, List.length_append]; have := LT.out; simp; omega)
            rw [num_sufs hf] at this
            exact this)
          have hs1 : ∀ W W', Below w.heap.size w W → Apart c W W' → Below w.heap.size W W' := fun W W' h1 h2 => h2.below zc h1.size
          have hs2 : ∀ W W', Below w.heap.size w W → Apart d W W' → Below w.heap.size W W' := fun W W' h1 h2 => h2.below zd h1.size
          have HS1 := Lib.hid hs1
          have HS2 := Lib.hid hs2
          have KS : Hid (wr.cell? ⟨b, off + i, none⟩ = some (.int .u64 (f i : Int)) ∧ Below w.heap.size w wr) := Lib.hid ⟨hc, K.out.2.2⟩
          have KD : Hid (wr.drew.cell? ⟨b, off + i, none⟩ = some (.int .u64 (f i : Int)) ∧ Below w.heap.size w wr.drew) := Lib.hid ⟨hc, K.out.2.2.drew⟩
          have ne1 : ∀ x : Int, (x != x) = false := fun x => by simp
          have hlb : (i : Int) < (len : Int) := by omega
          have hlb' : i < len := by omega
          clear hs1 hs2 hcell NU hln
          go_wp2_with fail
          have hrd : Rd RC c (some (sufs f (g' + 1) i ++ (encText t.data.toList ++ (encFlag true ++ u.data.toList)))) wr.drew := K.out.1
          have hqd : Rd RC d (some (sufs f (g' + 1) i ++ (encText t.data.toList ++ [1]))) wr.drew := K.out.2.1
          go_region_held3 (fun w' => w'.cell? ⟨b, off + i, none⟩ = some (.int .u64 (f i : Int)) ∧ Below w.heap.size w w') (first | exact KS.out | exact KD.out | assumption) (first | (go_at_call 20; (with_reducible refine (hR.out _ hrd).mono ?_); rintro e wn ⟨rfl, hrn, han⟩; (have kn := held2_call (w' := wn) KD.out hbl (HS1.out _ _ KD.out.2 han)); (have hqn := hqd.apart han (Ne.symm hcd))) | (go_at_call 20; (with_reducible refine (hQ.out _ hqn).mono ?_); rintro e wm ⟨rfl, hqm, ham⟩; (have km := held2_call (w' := wm) kn hbl (HS2.out _ _ kn.2 ham)); (have hrm := hrn.apart ham hcd)) | fail)
          have KM : Hid (Rd RC c (some (sufs f g' (i + 1) ++ (encText t.data.toList ++ (encFlag true ++ u.data.toList)))) wm ∧ Rd RC d (some (sufs f g' (i + 1) ++ (encText t.data.toList ++ [1]))) wm ∧ Below w.heap.size w wm) := Lib.hid ⟨hrm, hqm, km.2⟩
          clear hrm hqm km kn hqn han ham hrn hrd hqd KS KD HS1 HS2 hR hQ hc K
          go_wp2
          go_roundg g'
          case measure => omega
          case rel => exact ⟨i + 1, by omega, by go_num, KM.out⟩
        · have e : gk = 0 := by omega
          subst e
          obtain ⟨r1, q1, b12⟩ := K.out
          simp only [sufs, List.nil_append] at r1 q1
          clear K
          go_wp2_with fail
          (with_reducible refine (T1.out _ _ r1).mono ?_)
          rintro e v1 ⟨rfl, r2, a2⟩
          have q2 := q1.apart a2 (Ne.symm hcd)
          have b13 := b12.trans (a2.below zc b12.size)
          clear T1 r1 q1 a2 b12
          go_wp2_with fail
          (with_reducible refine (F1.out _ _ r2).mono ?_)
          rintro e v2 ⟨rfl, r3, a3⟩
          have q3 := q2.apart a3 (Ne.symm hcd)
          have b14 := b13.trans (a3.below zc b13.size)
          clear F1 r2 q2 a3 b13
          go_wp2_with fail
          (with_reducible refine (T2.out _ _ q3).mono ?_)
          rintro e v3 ⟨rfl, q4, a4⟩
          have r4 := r3.apart a4 hcd
          have b15 := b14.trans (a4.below zd b14.size)
          clear T2 r3 q3 a4 b14
          go_wp2_with fail
          (with_reducible refine (F2.out _ _ q4).mono ?_)
          rintro e v4 ⟨rfl, q5, a5⟩
          have r5 := r4.apart a5 hcd
          have b16 := b15.trans (a5.below zd b15.size)
          clear F2 r4 q4 a5 b15
          go_wp2_with fail
          (with_reducible refine (LF.out _ _ r5).mono ?_)
          rintro e v5 ⟨rfl, rfl⟩
          go_wp2_with fail
          (with_reducible refine (S2.out _).mono ?_)
          rintro e v6 ⟨rfl, rfl⟩
          go_wp2_with fail
          (with_reducible refine (GO.out _ _ q5).mono ?_)
          rintro e v7 ⟨rfl, rfl⟩
          clear LF S2 GO r5 q5
          go_wp2
          go_ret
          exact ⟨rfl, b16⟩
theorem walk (ao : Option Addr) (len cap : Nat) (f : Nat → Nat) (s rest : ByteArray) (w : World) (hlen : len ≤ 9223372036854775807) (hf : ∀ i, f i < 18446744073709551616) (hN : Nums ao len f w) :
    Calls Try.prog 5 #[.slice ao len cap, .string s, .string rest] w fun e w' => e = .returned (.bool true) ∧ Below w.heap.size w w' := by
  by_cases h8 : len ≤ 8
  · exact walk_small ao len cap f s rest w hlen hf hN h8
  · exact walk_big ao len cap f s rest w hlen hf hN (by omega)

set_option maxRecDepth 100000 in
set_option maxHeartbeats 1600000 in
theorem lifted (os : Os) (started : os.Started) (H : Type) (enc : TypeId × Value → H) :
    ReturnsInHanded {} Try.checked os 5 .any (Rows.octetBackSpec.pre6 enc Try.prog Try.f5 Rows.octetBackRow.domain false) (Rows.octetBackSpec.post enc Try.prog Try.f5 false true false false) := by
  refine returnsInHanded_of_change (C := Try.checked) own started (by kernel_rfl) Try.func5
    (ChangeSpec.witness6 (enc := enc) (C := Try.checked) false ⟨#[], #[.slice none 0 0, .string ⟨#[]⟩, .string ⟨#[]⟩], []⟩ 8 (by kernel_rfl) (by kernel_rfl) (by kernel_rfl) (by kernel_rfl)) ?_
  intro W base args ds gs before hval0 hW hcnd _
  have hval : ∀ (j : Nat) t v, Try.f5.params[j]? = some t → args[j]? = some v → Value.okWide Try.prog W .any base t v := hval0
  have hW' := hW
  obtain ⟨p, q, hA0, hV, rfl, hfz, hnd⟩ := hW
  have hA : DataW.TrodAll enc Try.prog W 0 (fun _ => true) true Try.f5.params.toList args.toList ds p := hA0
  rw [Try.params5] at hA hval
  obtain ⟨v0, vs0, d0, ds0, p0, q0, hargs, rfl, rfl, h0, r0⟩ := trodAll_cons hA
  obtain ⟨v1, vs1, d1, ds1, p1, q1, rfl, rfl, rfl, h1, r1⟩ := trodAll_cons r0
  obtain ⟨v2, vs2, d2, ds2, p2, q2, rfl, rfl, rfl, h2, r2⟩ := trodAll_cons r1
  obtain ⟨rfl, rfl, rfl⟩ := trodAll_nil r2
  obtain rfl : args = #[v0, v1, v2] := by cases args; simp_all
  obtain ⟨rfl, rfl⟩ := trodVars_none hV
  have lt0 : ∀ x ∈ p0, x.block < W.heap.size := by obtain ⟨m, hm⟩ := h0; exact DataW.trod_lt m _ _ _ hm
  obtain ⟨ao, len, cap, f, e0, hlen, hf, hN⟩ := open_nums (hval 0 54 v0 rfl rfl) h0
  subst e0
  have lt1 : ∀ x ∈ p1, x.block < W.heap.size := by obtain ⟨m, hm⟩ := h1; exact DataW.trod_lt m _ _ _ hm
  obtain ⟨s, e1, -, -, szs⟩ := Go.ChangeMaps.open_string Try.underlying9 (hval 1 9 v1 rfl rfl) h1
  subst e1
  have lt2 : ∀ x ∈ p2, x.block < W.heap.size := by obtain ⟨m, hm⟩ := h2; exact DataW.trod_lt m _ _ _ hm
  obtain ⟨r, e2, -, -, szr⟩ := Go.ChangeMaps.open_string Try.underlying9 (hval 2 9 v2 rfl rfl) h2
  subst e2
  clear hA0 hval0
  refine (walk ao len cap f s r W hlen hf hN).mono fun e W' ⟨he, bel⟩ => ?_
  subst he
  exact ⟨_, rfl, _, _, _, [], _, [], hW', trodAll_mk1 (shut_bool Try.underlying4 _), (trodAll_cons_mk (Below.trod laidOut (by kernel_rfl) (of_decide_eq_true (by kernel_rfl)) h0 bel lt0) (trodAll_cons_mk (Below.trod laidOut (by kernel_rfl) (of_decide_eq_true (by kernel_rfl)) h1 bel lt1) (trodAll_cons_mk (Below.trod laidOut (by kernel_rfl) (of_decide_eq_true (by kernel_rfl)) h2 bel lt2) trodAll_mk0))), rfl, bel.frame _, fun h => by cases h⟩

theorem proved : Rows.OctetBackSaid :=
  OpenClaim.holds_of_wide 5 Try.f5 rfl rfl rfl rfl rfl rfl rfl ⟨rfl, rfl, rfl, rfl, rfl⟩ rfl rfl rfl rfl rfl (by kernel_rfl) Try.func5 (by kernel_rfl)
    (of_decide_eq_true (by kernel_rfl)) (by unfold Func.isWrapper; first | (rw [if_pos (by decide +kernel)]; kernel_rfl) | (rw [if_neg (by decide +kernel)]; exact ⟨rfl, rfl⟩))
    (fun os started H enc _ => lifted os started H enc)
#print axioms proved
end Go.Proofs.Ythmbnnbdphobiaa.octetBack
