/- The document's Replay. -/
import Derived.Test.YtnaanahgflbihaaTbU
import Derived.Test.YtnaanahgflbihaaTbR
import Derived.Test.YtnaanahgflbihaaOpK
namespace Go.Proofs.Ytnaanahgflbihaa.Tb
open Go.ChangeShapes Go.WideShapes Go.ChangeAt Go.RowKit Go.Joins
open Ge (El Seen Row)
open Oc (mkB)
open Ox (Od chkR readO od0 rread_any)
set_option maxRecDepth 100000
set_option maxRecDepth 100000
set_option linter.unusedVariables false
set_option linter.unusedSimpArgs false
def RrRel (t0 : Tb) (xs : List (List UInt8)) (w : World) (g : Nat) (s : Value) (wx : World) : Prop :=
  ∃ (i : Nat) (t : Tb) (ao : Option Addr) (cap : Nat), i + g = xs.length ∧ s = .int .i64 (i : Int) ∧ Bos (TB w (.slice ao t.rows.length cap) (.slice none 0 0) t.mode 0) w wx ∧ Sl (.slice ao t.rows.length cap) t.rows wx ao cap ∧ t.rows.length ≤ 1000 ∧ replayR t0 xs = ((replayR t (xs.drop i)).1, (replayR t (xs.drop i)).2 + i)
/-- what one text does -/
theorem replay_step (t : Tb) (x : List UInt8) (r : List (List UInt8)) : (((readO x).2 ≠ 0 ∨ (applyR t (readO x).1).2 ≠ 0) → replayR t (x :: r) = (t, 0)) ∧ ((readO x).2 = 0 → (applyR t (readO x).1).2 = 0 → replayR t (x :: r) = ((replayR (applyR t (readO x).1).1 r).1, (replayR (applyR t (readO x).1).1 r).2 + 1)) := by
  cases hro : Ox.readR x with
  | none =>
    have e1 : readO x = (od0, 10) := by unfold readO; rw [hro]
    rw [e1]
    exact ⟨fun _ => replay_no hro, fun h => absurd h (by decide)⟩
  | some o =>
    have e1 : readO x = (o, 0) := by unfold readO; rw [hro]
    rw [e1]
    exact ⟨fun h => replay_not hro (by rcases h with h | h; exact absurd rfl h; exact h), fun _ h => replay_yes hro h⟩
set_option maxHeartbeats 8000000 in
theorem rreplay_any (t : Tb) (xs : List (List UInt8)) (ao xo : Option Addr) (cap xc : Nat) (w : World) (hS : Sl (.slice ao t.rows.length cap) t.rows w ao cap) (hc : chkT t = true) (hX : Seen xcs 1 xo xs w) (hxl : xs.length ≤ 1000) (hxs : ∀ x ∈ xs, x.length ≤ 1000000) :
    Calls Try.prog 25 #[tv ao t.rows.length cap t.mode, .slice xo xs.length xc] w fun e w' => ∃ v, e = .returned (.tuple #[v, .int .i64 ((replayR t xs).2 : Int)]) ∧ Told v (replayR t xs).1 w' ∧ Below w.heap.size w w' := by
  have hl : t.rows.length ≤ 1000 := by have := (chkT_iff.1 hc).2.2.1; omega
  have CK : Hid (∀ W, Below w.heap.size w W → Calls Try.prog 32 #[tv ao t.rows.length cap t.mode] W fun e w' => e = .returned (.bool true) ∧ Below W.heap.size W w') := Lib.hid (fun W hb => by
    have := rcheck_any t ao cap W (hS.seen.below hb (Nat.le_refl _)) hl
    rw [hc] at this
    exact this)
  have SX := Lib.hid hX
  have SS := Lib.hid hS
  have XL : Hid (∀ x ∈ xs, x.length ≤ 1000000) := Lib.hid hxs
  have HL := Lib.hid hl
  have H0 := Lib.hid (tb_new w (.slice ao t.rows.length cap) t.mode)
  clear hS hX hxs hl hc
  unfold tv at *
  obtain ⟨t0, t1⟩ := cell2 (H0.out.cell 1 rfl)
  go_enter Try.func25, Try.ntmps25
  go_wp2_with fail
  (with_reducible refine (CK.out _ H0.out.bl).mono ?_)
  rintro e w1 ⟨rfl, b1⟩
  have H1 := Lib.hid (H0.out.call b1)
  have S1 := Lib.hid (SS.out.call H1.out.bl)
  clear b1 CK H0 SS t0 t1
  go_wp2_with fail
  go_loopg [7] xs.length (RrRel t xs w)
  case atStart => exact ⟨0, t, ao, cap, by omega, rfl, H1.out, S1.out, HL.out, by simp⟩
  case round =>
    clear H1 S1
    obtain ⟨i, T1, a1, c1, hi, rfl, hB, hs, hlen, heq⟩ := hrel
    have HB := Lib.hid hB
    have SB := Lib.hid hs
    have HI := Lib.hid hi
    have HQ := Lib.hid heq
    have HN := Lib.hid hlen
    clear hB hs heq hlen
    by_cases hlt : i < xs.length
    · have hx := List.getElem?_eq_getElem hlt
      obtain ⟨xb, xoff, rfl, hc⟩ := seen_text (SX.out.below HB.out.bl (Nat.le_refl _)) hx
      have hlt' : (i : Int) < (xs.length : Int) := by omega
      have hg0 : 0 < gk := by omega
      have DR := List.drop_eq_getElem_cons hlt
      have RD := Lib.hid (fun w => rread_any xs[i] w (XL.out _ (List.getElem_mem hlt)))
      have ST := replay_step T1 xs[i] (xs.drop (i + 1))
      rw [← DR] at ST
      have NO : Hid (((readO xs[i]).2 ≠ 0 ∨ (applyR T1 (readO xs[i]).1).2 ≠ 0) → replayR t xs = (T1, i)) := Lib.hid (fun h => by rw [HQ.out, ST.1 h]; simp)
      have YES : Hid ((readO xs[i]).2 = 0 → (applyR T1 (readO xs[i]).1).2 = 0 → replayR t xs = ((replayR (applyR T1 (readO xs[i]).1).1 (xs.drop (i + 1))).1, (replayR (applyR T1 (readO xs[i]).1).1 (xs.drop (i + 1))).2 + (i + 1))) := Lib.hid (fun h1 h2 => by rw [HQ.out, ST.2 h1 h2]; simp only [Prod.mk.injEq, true_and]; omega)
      have LN : Hid ((applyR T1 (readO xs[i]).1).2 = 0 → (applyR T1 (readO xs[i]).1).1.rows.length ≤ 1000) := Lib.hid (fun h => by have := (chkT_iff.1 (apply_chk h).1).2.2.1; omega)
      have AP : Hid (∀ W, Sl (.slice a1 T1.rows.length c1) T1.rows W a1 c1 → Calls Try.prog 31 #[tv a1 T1.rows.length c1 T1.mode, (readO xs[i]).1.v] W fun e w' => ∃ v, e = .returned (.tuple #[v, .int .i64 (applyR T1 (readO xs[i]).1).2]) ∧ Told v (applyR T1 (readO xs[i]).1).1 w' ∧ Below W.heap.size W w') := Lib.hid (fun W h => rapply_any T1 _ a1 c1 W h HN.out)
      clear ST DR HQ
      generalize applyR T1 (readO xs[i]).1 = R at *
      generalize readO xs[i] = RO at *
      generalize xs[i] = x at *
      obtain ⟨R1, R2⟩ := R
      obtain ⟨⟨k, ⟨oi, oc, od, ot, om⟩, os, oid, occ, omo⟩, ec⟩ := RO
      unfold tv Od.v Od.cs at *
      simp only at RD AP NO YES LN
      clear hi hlt hx
      obtain ⟨p0, p1⟩ := cell2 (HB.out.cell 1 rfl)
      go_wp2_with fail
      (with_reducible refine (RD.out _).mono ?_)
      rintro e w2 ⟨rfl, b2⟩
      have HX := Lib.hid ((HB.out.call b2).new #[.int .i64 k, .int .i64 oi, .int .i64 oc, .int .i64 od, .int .i64 ot, .int .i64 om, .bool os, .int .i64 oid, .int .i64 occ, .int .i64 omo] 29)
      have SB := Lib.hid ((SB.out.call b2).call ((Below.refl _ _).alloc (Nat.le_refl _) (.cells #[.int .i64 k, .int .i64 oi, .int .i64 oc, .int .i64 od, .int .i64 ot, .int .i64 om, .bool os, .int .i64 oid, .int .i64 occ, .int .i64 omo] 29)))
      clear b2 RD hc p0 p1 HB
      obtain ⟨p0, p1⟩ := cell2 (HX.out.cell 2 rfl)
      obtain ⟨o0, o1, o2, o3, o4, o5, o6, o7, o8, o9⟩ := cell10 (HX.out.cell 0 rfl)
      go_wp2_with fail
      (with_reducible refine (AP.out _ SB.out).mono ?_)
      rintro e w3 ⟨v, rfl, ⟨a2, c2, rfl, s2⟩, b3⟩
      have HX := Lib.hid ((HX.out.call b3).new #[.slice a2 R1.rows.length c2, .int .i64 R1.mode] 24)
      have bz : Below w3.heap.size w3 (w3.alloc (.cells #[.slice a2 R1.rows.length c2, .int .i64 R1.mode] 24)) := (Below.refl _ _).alloc (Nat.le_refl _) _
      have SB := Lib.hid ((SB.out.call b3).call bz)
      have SN := Lib.hid (s2.call bz)
      clear b3 s2 bz AP p0 p1 o0 o1 o2 o3 o4 o5 o6 o7 o8 o9
      unfold tv
      by_cases hg : ec = 0 ∧ R2 = 0
      · obtain ⟨he, hr⟩ := hg
        have he1 : (ec != 0) = false := by simp [he]
        have hr1 : (R2 != 0) = false := by simp [hr]
        have EQ := Lib.hid (YES.out he hr)
        have LN := Lib.hid (LN.out hr)
        obtain ⟨y0, y1⟩ := cell2 (HX.out.cell 0 rfl)
        obtain ⟨p0, p1⟩ := cell2 (HX.out.cell 3 rfl)
        have pf := HX.out.fz 3 rfl
        have HF := Lib.hid ((HX.out.set 3 rfl 0 (.slice a2 R1.rows.length c2)).set 3 rfl 1 (.int .i64 R1.mode))
        have SF := Lib.hid ((SN.out.set HX.out 3 rfl (by simp) 0 (.slice a2 R1.rows.length c2)).set (HX.out.set 3 rfl 0 (.slice a2 R1.rows.length c2)) 3 rfl (by simp) 1 (.int .i64 R1.mode))
        clear he hr NO YES
        go_wp2
        go_roundg (gk - 1)
        case measure => omega
        case rel => exact ⟨i + 1, R1, a2, c2, by have := HI.out; omega, by go_num, HF.out.sub (List.Sublist.cons _ (List.sublist_cons_self _ _)), SF.out, LN.out, EQ.out⟩
      · have hor : ec ≠ 0 ∨ R2 ≠ 0 := by omega
        have EQ := Lib.hid (NO.out hor)
        have two : ((ec != 0) = true) ∨ ((ec != 0) = false ∧ (R2 != 0) = true) := by
          by_cases he : ec = 0
          · exact .inr ⟨by simp [he], by simp; omega⟩
          · exact .inl (by simp [he])
        clear hg hor NO YES LN
        obtain ⟨p0, p1⟩ := cell2 (HX.out.cell 3 rfl)
        obtain ⟨z0, z1⟩ := cell2 (HX.out.cell 2 rfl)
        have zf := HX.out.fz 2 rfl
        have HF := Lib.hid ((HX.out.set 2 rfl 0 (.slice a1 T1.rows.length c1)).set 2 rfl 1 (.int .i64 T1.mode))
        have SF := Lib.hid ((SB.out.set HX.out 2 rfl (by simp) 0 (.slice a1 T1.rows.length c1)).set (HX.out.set 2 rfl 0 (.slice a1 T1.rows.length c1)) 2 rfl (by simp) 1 (.int .i64 T1.mode))
        obtain ⟨q0, q1⟩ := cell2 (HF.out.cell 2 rfl)
        rcases two with he | ⟨he, hr⟩ <;>
        · go_wp2
          refine bodyPost_ret (v := .tuple #[.agg #[.slice a1 T1.rows.length c1, .int .i64 T1.mode], .int .i64 (i : Int)]) (by simp [results, Try.results25, go_sem, q0, q1]) rfl ⟨_, by rw [EQ.out], by rw [EQ.out]; exact ⟨a1, c1, rfl, SF.out⟩, HF.out.bl⟩
    · have hge : (xs.length : Int) ≤ (i : Int) := by omega
      obtain rfl : i = xs.length := by omega
      have EQ : Hid (replayR t xs = (T1, xs.length)) := Lib.hid (by rw [HQ.out, List.drop_length]; simp [replayR])
      clear HQ hi hlt
      obtain ⟨p0, p1⟩ := cell2 (HB.out.cell 1 rfl)
      obtain ⟨z0, z1⟩ := cell2 (HB.out.cell 0 rfl)
      have zf := HB.out.fz 0 rfl
      have HF := Lib.hid ((HB.out.set 0 rfl 0 (.slice a1 T1.rows.length c1)).set 0 rfl 1 (.int .i64 T1.mode))
      have SF := Lib.hid ((SB.out.set HB.out 0 rfl (by simp) 0 (.slice a1 T1.rows.length c1)).set (HB.out.set 0 rfl 0 (.slice a1 T1.rows.length c1)) 0 rfl (by simp) 1 (.int .i64 T1.mode))
      obtain ⟨q0, q1⟩ := cell2 (HF.out.cell 0 rfl)
      go_wp2
      refine bodyPost_ret (v := .tuple #[.agg #[.slice a1 T1.rows.length c1, .int .i64 T1.mode], .int .i64 (xs.length : Int)]) (by simp [results, Try.results25, go_sem, q0, q1]) rfl ⟨_, by rw [EQ.out], by rw [EQ.out]; exact ⟨a1, c1, rfl, SF.out⟩, HF.out.bl⟩
end Go.Proofs.Ytnaanahgflbihaa.Tb
