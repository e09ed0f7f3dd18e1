/- Package judge's together and With, the document's With. -/
import Derived.Test.YtgbnoifaknlkhaaJuB
import Derived.Test.YtgbnoifaknlkhaaTbR
namespace Go.Proofs.Ytgbnoifaknlkhaa.Ju
open Go.ChangeShapes Go.WideShapes Go.ChangeAt Go.RowKit Go.Joins
open Pm (Tk)
open Ge (El Seen Row)
open Qp (testR)
open Ox (Od chkR chkR_iff tk0)
open Tb
set_option maxRecDepth 100000
set_option maxRecDepth 100000
set_option linter.unusedVariables false
set_option linter.unusedSimpArgs false
/-- tasks seen, behind a row of tasks of one's own -/
theorem app_ts {w W : World} {v : Value} {l m : List Tk} {ao : Option Addr} {c : Nat} (hb : Below w.heap.size w W) (hr : Row tcs 5 32 w.heap.size W v l) (hs : Seen tcs 5 ao m W) (hl : l.length + m.length ≤ 100000) :
    ∃ v' W', (Builtin.append_ #[36, 36] 36 #[v, .slice ao m.length c]).run Try.prog W = .ok v' W' ∧ Row tcs 5 32 w.heap.size W' v' (l ++ m) ∧ Below w.heap.size w W' := by
  cases ao with
  | none =>
    have h0 : m = [] := by
      rcases Nat.eq_zero_or_pos m.length with e | e
      · exact List.eq_nil_of_length_eq_zero e
      · obtain ⟨b, off, e, -⟩ := hs e; cases e
    subst h0
    obtain ⟨ao, cap, rfl, hle, -, -⟩ := Row.form tcs_len hr
    exact ⟨_, W, Ge.all_none elT W _ ao none l.length cap c hle, by rw [List.append_nil]; exact hr, hb⟩
  | some ad =>
    obtain ⟨v', W', h1, h2, h3, -⟩ := Ge.row_all elT (c := c) (ty := 36) hr hs hb.size hl
    exact ⟨v', W', h1, h2, hb.trans h3⟩
def ToRel (l m : List Tk) (w : World) (g : Nat) (s8 s3 : Value) (wx : World) : Prop :=
  ∃ (i : Nat) (v : Value), i + g = 2 ∧ s8 = .int .i64 (i : Int) ∧ v = s3 ∧ Row tcs 5 32 w.heap.size wx v (if i = 0 then [] else if i = 1 then l else l ++ m) ∧ Below w.heap.size w wx
set_option maxHeartbeats 4000000 in
theorem together_any (l m : List Tk) (b : Nat) (lo mo : Option Addr) (lc mc : Nat) (w : World) (hb0 : w.cell? ⟨b, 0, none⟩ = some (.slice lo l.length lc)) (hb1 : w.cell? ⟨b, 1, none⟩ = some (.slice mo m.length mc)) (hl : Seen tcs 5 lo l w) (hm : Seen tcs 5 mo m w) (h1 : l.length ≤ 1000) (h2 : m.length ≤ 1000) :
    Calls Try.prog 44 #[.slice (some ⟨b, 0, none⟩) 2 2] w fun e w' => ∃ v, e = .returned v ∧ Row tcs 5 32 w.heap.size w' v (l ++ m) ∧ Below w.heap.size w w' := by
  have C := Lib.hid (And.intro hb0 hb1)
  have S := Lib.hid (And.intro hl hm)
  clear hb0 hb1 hl hm
  go_enter Try.func44, Try.ntmps44
  go_wp2_with fail
  go_loopg [8, 3] 2 (ToRel l m w)
  case atStart => exact ⟨0, _, rfl, rfl, rfl, Ge.row_nil _ _, Below.refl _ _⟩
  case round =>
    obtain ⟨i, v, hi, rfl, rfl, hr, hb⟩ := hrel
    have c0 := carry hb C.out.1
    have c1 := carry hb C.out.2
    have s0 := S.out.1.below hb (Nat.le_refl _)
    have s1 := S.out.2.below hb (Nat.le_refl _)
    obtain rfl | rfl | rfl : i = 0 ∨ i = 1 ∨ i = 2 := by omega
    · obtain rfl : gk = 2 := by omega
      rw [if_pos rfl] at hr
      obtain ⟨v5, w5, ap5, r5, h5⟩ := app_ts (c := lc) hb hr s0 (by simp; omega)
      rw [List.nil_append] at r5
      obtain ⟨va, vc, rfl, -, -, -⟩ := Row.form tcs_len hr
      have R5 := Lib.hid r5
      have H5 := Lib.hid h5
      clear r5 h5 hr hb s0 s1 S C hi
      go_wp2_with (at_builtin; refine Lib.wpList_append_run _ rfl _ _ _ _ rfl _ _ rfl rfl _ _ ap5 ?_)
      go_roundg 1
      case measure => omega
      case rel => exact ⟨1, _, rfl, by go_num, rfl, R5.out, H5.out⟩
    · obtain rfl : gk = 1 := by omega
      rw [if_neg (by decide), if_pos rfl] at hr
      obtain ⟨v5, w5, ap5, r5, h5⟩ := app_ts (c := mc) hb hr s1 (by omega)
      obtain ⟨va, vc, rfl, -, -, -⟩ := Row.form tcs_len hr
      have R5 := Lib.hid r5
      have H5 := Lib.hid h5
      clear r5 h5 hr hb s0 s1 S C hi
      go_wp2_with (at_builtin; refine Lib.wpList_append_run _ rfl _ _ _ _ rfl _ _ rfl rfl _ _ ap5 ?_)
      go_roundg 0
      case measure => omega
      case rel => exact ⟨2, _, rfl, by go_num, rfl, R5.out, H5.out⟩
    · rw [if_neg (by decide), if_neg (by decide)] at hr
      have RW := Lib.hid hr
      have KB := Lib.hid hb
      clear hr hb s0 s1 S c0 c1 C
      go_wp2
      go_ret
      exact ⟨_, rfl, RW.out, KB.out⟩
set_option maxHeartbeats 4000000 in
theorem with_any (t : Tb.Tb) (ex : List Tk) (ao : Option Addr) (cap : Nat) (eo : Option Addr) (ec : Nat) (w : World) (hS : Seen Rw.cs 6 ao t.rows w) (hl : t.rows.length ≤ 1000) (hE : Seen tcs 5 eo ex w) (he : ex.length ≤ 1000) :
    Calls Try.prog 29 #[tv ao t.rows.length cap t.mode, .slice eo ex.length ec] w fun e w' => e = .returned (.int .i64 (withR t ex)) ∧ Below w.heap.size w w' := by
  have FI : Hid (∀ W, Below w.heap.size w W → Calls Try.prog 17 #[tv ao t.rows.length cap t.mode] W fun e w' => e = .returned (.int .i64 (fitsR t)) ∧ Below W.heap.size W w') := Lib.hid (fun W hb => fits_any t ao cap W (hS.below hb (Nat.le_refl _)) hl)
  have IN : Hid (∀ W, Below w.heap.size w W → Calls Try.prog 43 #[tv ao t.rows.length cap t.mode, .int .i64 t.mode] W fun e w' => ∃ o c, e = .returned (.slice o (inM t.mode t.rows).length c) ∧ Seen tcs 5 o (inM t.mode t.rows) w' ∧ Below W.heap.size W w') := Lib.hid (fun W hb => in_seen t.rows ao cap t.mode t.mode W (hS.below hb (Nat.le_refl _)) hl)
  have WR : Hid (withR t ex = if fitsR t ≠ 0 then fitsR t else if 16 < (inM t.mode t.rows ++ ex).length then 15 else testR (inM t.mode t.rows ++ ex)) := Lib.hid rfl
  have IL := Nat.le_trans (inM_len t.mode t.rows) hl
  have TE : Hid (∀ W o c, Seen tcs 5 o (inM t.mode t.rows ++ ex) W → Calls Try.prog 42 #[.slice o (inM t.mode t.rows ++ ex).length c] W fun e w' => e = .returned (.int .i64 (testR (inM t.mode t.rows ++ ex))) ∧ Below W.heap.size W w') := Lib.hid (fun W o c h => test_seen _ o c W h (by rw [List.length_append]; omega))
  have SE : Hid (∀ W, Below w.heap.size w W → Seen tcs 5 eo ex W) := Lib.hid (fun W hb => hE.below hb (Nat.le_refl _))
  have TO : Hid (∀ W b o c, W.cell? ⟨b, 0, none⟩ = some (.slice o (inM t.mode t.rows).length c) → W.cell? ⟨b, 1, none⟩ = some (.slice eo ex.length ec) → Seen tcs 5 o (inM t.mode t.rows) W → Seen tcs 5 eo ex W → Calls Try.prog 44 #[.slice (some ⟨b, 0, none⟩) 2 2] W fun e w' => ∃ o' c', e = .returned (.slice o' (inM t.mode t.rows ++ ex).length c') ∧ Seen tcs 5 o' (inM t.mode t.rows ++ ex) w' ∧ Below W.heap.size W w') := Lib.hid (fun W b o c h0 h1 h2 h3 => (together_any _ _ b o eo c ec W h0 h1 h2 h3 IL he).mono fun e w' ⟨v, he, hr, hb⟩ => by
    obtain ⟨o', c', rfl, -, hs, -⟩ := Row.form tcs_len hr
    exact ⟨o', c', he, hs, hb⟩)
  have H0 := Lib.hid ((bos_nil w).new #[.slice ao t.rows.length cap, .int .i64 t.mode] 29)
  have JL : Hid ((inM t.mode t.rows ++ ex).length = (inM t.mode t.rows).length + ex.length) := Lib.hid List.length_append
  generalize withR t ex = R at *
  generalize fitsR t = q at *
  generalize inM t.mode t.rows ++ ex = J at *
  generalize inM t.mode t.rows = I at *
  generalize testR J = x at *
  obtain ⟨l, m⟩ := t
  unfold tv at *
  simp only at *
  generalize l.length = n at *
  obtain ⟨t0, t1⟩ := cell2 (H0.out.cell 0 rfl)
  clear hS hE
  go_enter Try.func29, Try.ntmps29
  go_wp2_with fail
  (with_reducible refine (FI.out _ H0.out.bl).mono ?_)
  rintro e w1 ⟨rfl, b1⟩
  have H1 := Lib.hid (H0.out.call b1)
  clear b1 FI H0 t0 t1
  obtain ⟨t0, t1⟩ := cell2 (H1.out.cell 0 rfl)
  by_cases hq : q = 0
  case neg =>
    have hq' : (q != 0) = true := by simp [hq]
    have E : Hid (R = q) := Lib.hid (WR.out.trans (if_pos hq))
    clear WR hq
    go_wp2
    go_ret
    exact ⟨by rw [E.out]; rfl, H1.out.bl⟩
  subst hq
  have E : Hid (R = if 16 < J.length then 15 else x) := Lib.hid (WR.out.trans (if_neg (by simp)))
  clear WR
  have CI := Lib.hid (IN.out _ H1.out.bl)
  clear IN
  go_wp2_with fail
  (with_reducible refine CI.out.mono ?_)
  rintro e w2 ⟨o, c, rfl, hs, b2⟩
  have H2 := Lib.hid (H1.out.call b2)
  have IS := Lib.hid hs
  clear b2 hs CI H1 t0 t1
  have hsum : IntKind.i64.wrap ((I.length : Int) + (ex.length : Int)) = ((I.length + ex.length : Nat) : Int) := by rw [IntWalk.i64_in _ (by omega)]; omega
  have hsum2 : (I.length : Int) + (ex.length : Int) = ((I.length + ex.length : Nat) : Int) := by omega
  have JK := JL.out
  rw [← JK] at hsum hsum2
  clear JK
  by_cases h16 : 16 < J.length
  · have EE := Lib.hid (E.out.trans (if_pos h16))
    have h16' : (16 : Int) < (J.length : Int) := by omega
    clear E h16 JL
    generalize J.length = k at *
    go_wp2
    go_ret
    exact ⟨by rw [EE.out]; rfl, H2.out.bl⟩
  have EE := Lib.hid (E.out.trans (if_neg h16))
  have h16' : (J.length : Int) ≤ 16 := by omega
  have ba : Below w2.heap.size w2 (w2.alloc (.cells #[.slice o I.length c, .slice eo ex.length ec] 36)) := (Below.refl _ _).alloc (Nat.le_refl _) _
  have H3 := Lib.hid (H2.out.new #[.slice o I.length c, .slice eo ex.length ec] 36)
  have u := cell2 (H3.out.cell 0 rfl)
  have CO := Lib.hid (TO.out _ _ o c u.1 u.2 (IS.out.call ba) (SE.out _ H3.out.bl))
  clear ba u E h16 JL TO IS SE H2
  generalize J.length = k at *
  go_wp2_with fail
  (with_reducible refine CO.out.mono ?_)
  rintro e w4 ⟨o', c', rfl, hs, b4⟩
  have H4 := Lib.hid (H3.out.call b4)
  have CE := Lib.hid (TE.out _ o' c' hs)
  clear hs b4 H3 CO TE
  go_wp2_with fail
  (with_reducible refine CE.out.mono ?_)
  rintro e w5 ⟨rfl, b5⟩
  have Z := Lib.hid (H4.out.call b5).bl
  clear b5 CE H4
  go_wp2
  go_ret
  exact ⟨by rw [EE.out]; rfl, Z.out⟩
set_option maxHeartbeats 4000000 in
theorem rwith_any (t : Tb.Tb) (ex : List Tk) (ao : Option Addr) (cap : Nat) (eo : Option Addr) (ec : Nat) (w : World) (hS : Seen Rw.cs 6 ao t.rows w) (hl : t.rows.length ≤ 1000) (hE : Seen tcs 5 eo ex w) (he : ex.length ≤ 1000) :
    Calls Try.prog 30 #[tv ao t.rows.length cap t.mode, .slice eo ex.length ec] w fun e w' => e = .returned (.int .i64 (withR t ex)) ∧ Below w.heap.size w w' := by
  have FI : Hid (∀ W, Below w.heap.size w W → Calls Try.prog 28 #[tv ao t.rows.length cap t.mode] W fun e w' => e = .returned (.int .i64 (fitsR t)) ∧ Below W.heap.size W w') := Lib.hid (fun W hb => rfits_any t ao cap W (hS.below hb (Nat.le_refl _)) hl)
  have IN : Hid (∀ W, Below w.heap.size w W → Calls Try.prog 15 #[tv ao t.rows.length cap t.mode, .int .i64 t.mode] W fun e w' => ∃ o c, e = .returned (.slice o (inM t.mode t.rows).length c) ∧ Seen tcs 5 o (inM t.mode t.rows) w' ∧ Below W.heap.size W w') := Lib.hid (fun W hb => rin_seen t.rows ao cap t.mode t.mode W (hS.below hb (Nat.le_refl _)) hl)
  have WR : Hid (withR t ex = if fitsR t ≠ 0 then fitsR t else if 16 < (inM t.mode t.rows ++ ex).length then 15 else testR (inM t.mode t.rows ++ ex)) := Lib.hid rfl
  have IL := Nat.le_trans (inM_len t.mode t.rows) hl
  have TE : Hid (∀ W o c, Seen tcs 5 o (inM t.mode t.rows ++ ex) W → Calls Try.prog 14 #[.slice o (inM t.mode t.rows ++ ex).length c] W fun e w' => e = .returned (.int .i64 (testR (inM t.mode t.rows ++ ex))) ∧ Below W.heap.size W w') := Lib.hid (fun W o c h => rtest_seen _ o c W h (by rw [List.length_append]; omega))
  have SE : Hid (∀ W, Below w.heap.size w W → Seen tcs 5 eo ex W) := Lib.hid (fun W hb => hE.below hb (Nat.le_refl _))
  have AP : Hid (∀ W b v ls o (m : List Tk) c, Below w.heap.size w W → Row tcs 5 32 w.heap.size W v ls → Seen tcs 5 o m W → ls.length + m.length ≤ 100000 → b = c → ∃ v' W', (Builtin.append_ #[36, 36] 36 #[v, .slice o m.length c]).run Try.prog W = .ok v' W' ∧ Row tcs 5 32 w.heap.size W' v' (ls ++ m) ∧ Below w.heap.size w W') := Lib.hid (fun W b v ls o m c h1 h2 h3 h4 _ => app_ts h1 h2 h3 h4)
  have H0 := Lib.hid ((bos_nil w).new #[.slice ao t.rows.length cap, .int .i64 t.mode] 29)
  have JL : Hid ((inM t.mode t.rows ++ ex).length = (inM t.mode t.rows).length + ex.length) := Lib.hid List.length_append
  have IX : Hid (∃ I, I = inM t.mode t.rows) := Lib.hid ⟨_, rfl⟩
  generalize withR t ex = R at *
  generalize fitsR t = q at *
  generalize hJ : inM t.mode t.rows ++ ex = J at *
  generalize inM t.mode t.rows = I at *
  have HJ := Lib.hid hJ
  generalize testR J = x at *
  obtain ⟨l, m⟩ := t
  unfold tv at *
  simp only at *
  generalize l.length = n at *
  obtain ⟨t0, t1⟩ := cell2 (H0.out.cell 0 rfl)
  clear hS hE IX hJ
  go_enter Try.func30, Try.ntmps30
  go_wp2_with fail
  (with_reducible refine (FI.out _ H0.out.bl).mono ?_)
  rintro e w1 ⟨rfl, b1⟩
  have H1 := Lib.hid (H0.out.call b1)
  clear b1 FI H0 t0 t1
  obtain ⟨t0, t1⟩ := cell2 (H1.out.cell 0 rfl)
  by_cases hq : q = 0
  case neg =>
    have hq' : (q != 0) = true := by simp [hq]
    have E : Hid (R = q) := Lib.hid (WR.out.trans (if_pos hq))
    clear WR hq
    go_wp2
    go_ret
    exact ⟨by rw [E.out]; rfl, H1.out.bl⟩
  subst hq
  have E : Hid (R = if 16 < J.length then 15 else x) := Lib.hid (WR.out.trans (if_neg (by simp)))
  have B2 := Lib.hid (H1.out.new #[] 32)
  have R2 : Hid (Row tcs 5 32 w.heap.size (w1.alloc (.cells #[] 32)) (.slice (some ⟨w1.heap.size, 0, none⟩) 0 0) []) := Lib.hid ⟨rfl, .inr ⟨w1.heap.size, 0, #[], rfl, H1.out.bl.size, heap_alloc_new _ _, Nat.le_refl _, by simp [maxLen], rfl, rfl⟩⟩
  obtain ⟨t0, t1⟩ := cell2 (B2.out.cell 1 rfl)
  have CI := Lib.hid (IN.out _ B2.out.bl)
  clear IN WR H1
  go_wp2_with fail
  (with_reducible refine CI.out.mono ?_)
  rintro e w2 ⟨o, c, rfl, hs, b2⟩
  have H2 := Lib.hid (B2.out.call b2)
  obtain ⟨v3, w3, ap3, r3, h3⟩ := AP.out _ _ _ _ o I c H2.out.bl (R2.out.call b2) hs (by simp; omega) rfl
  rw [List.nil_append] at r3
  obtain ⟨o3, c3, rfl, -, -, -⟩ := Row.form tcs_len r3
  obtain ⟨v4, w4, ap4, r4, h4⟩ := AP.out _ _ _ _ eo ex ec h3 r3 (SE.out _ h3) (by omega) rfl
  rw [HJ.out] at r4
  obtain ⟨o4, c4, rfl, -, s4, -⟩ := Row.form tcs_len r4
  have S4 := Lib.hid s4
  have Z4 := Lib.hid h4
  have JK := JL.out
  clear b2 hs CI H2 t0 t1 r3 h3 r4 h4 s4 AP B2 R2 HJ JL SE
  have hj1 : J.length ≤ 2000 := by omega
  clear JK
  have CE := Lib.hid (TE.out _ o4 c4 S4.out)
  clear TE
  by_cases h16 : 16 < J.length
  · have EE := Lib.hid (E.out.trans (if_pos h16))
    have h16' : (16 : Int) < (J.length : Int) := by omega
    clear E h16
    generalize J.length = k at *
    go_wp2_with (first | (at_builtin; refine Lib.wpList_append_run _ rfl _ _ _ _ rfl _ _ rfl rfl _ _ ap3 ?_) | (at_builtin; refine Lib.wpList_append_run _ rfl _ _ _ _ rfl _ _ rfl rfl _ _ ap4 ?_))
    go_ret
    exact ⟨by rw [EE.out]; rfl, Z4.out⟩
  have EE := Lib.hid (E.out.trans (if_neg h16))
  have h16' : (J.length : Int) ≤ 16 := by omega
  clear E h16
  generalize J.length = k at *
  go_wp2_with (first | (at_builtin; refine Lib.wpList_append_run _ rfl _ _ _ _ rfl _ _ rfl rfl _ _ ap3 ?_) | (at_builtin; refine Lib.wpList_append_run _ rfl _ _ _ _ rfl _ _ rfl rfl _ _ ap4 ?_) | fail)
  (with_reducible refine CE.out.mono ?_)
  rintro e w5 ⟨rfl, b5⟩
  have Z := Lib.hid (Z4.out.trans (b5.mono Z4.out.size))
  clear b5 CE
  go_wp2
  go_ret
  exact ⟨by rw [EE.out]; rfl, Z.out⟩
end Go.Proofs.Ytgbnoifaknlkhaa.Ju
