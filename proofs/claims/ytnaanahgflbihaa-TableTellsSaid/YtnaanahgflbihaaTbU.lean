/- Rows of texts; package table's Replay. -/
import Derived.Test.YtnaanahgflbihaaTbT
import Derived.Test.YtnaanahgflbihaaTbG
import Derived.Test.YtnaanahgflbihaaOpJ
namespace Go.Proofs.Ytnaanahgflbihaa.Tb
open Go.ChangeShapes Go.WideShapes Go.ChangeAt Go.RowKit Go.Joins
open Ge (El Seen Row)
open Oc (mkB)
open Ox (Od chkR readO od0)
set_option maxRecDepth 100000
set_option maxRecDepth 100000
set_option linter.unusedVariables false
set_option linter.unusedSimpArgs false
/-- a text in a row -/
def xcs (s : List UInt8) : List Value := [.string (mkB s)]
theorem xcs_len (s : List UInt8) : (xcs s).length = 1 := rfl
theorem elX : El Try.prog 9 50 1 16 (.string ⟨#[]⟩) xcs where
  sl := Try.underlying50
  info := by kernel_rfl
  zs := rfl
  pos := by omega
  by_ := by omega
  len := xcs_len
  one := fun x u hu => by simp [xcs] at hu; subst hu; rfl
theorem seen_text {ao : Option Addr} {l : List (List UInt8)} {w : World} (h : Seen xcs 1 ao l w) {i : Nat} {x : List UInt8} (hx : l[i]? = some x) : ∃ b off, ao = some ⟨b, off, none⟩ ∧ w.cell? ⟨b, off + i, none⟩ = some (.string (mkB x)) := by
  have h0 : 0 < l.length := by have := (List.getElem?_eq_some_iff.1 hx).1; omega
  obtain ⟨b, off, rfl, hb, hat⟩ := h h0
  refine ⟨b, off, rfl, ?_⟩
  have := hat i x hx 0 _ rfl
  simpa using this
theorem replay_no {t : Tb} {x : List UInt8} {r : List (List UInt8)} (h : Ox.readR x = none) : replayR t (x :: r) = (t, 0) := by unfold replayR; rw [h]
theorem replay_not {t : Tb} {x : List UInt8} {r : List (List UInt8)} {o : Od} (h : Ox.readR x = some o) (ha : (applyR t o).2 ≠ 0) : replayR t (x :: r) = (t, 0) := by unfold replayR; rw [h]; simp only; rw [if_neg ha]
theorem replay_yes {t : Tb} {x : List UInt8} {r : List (List UInt8)} {o : Od} (h : Ox.readR x = some o) (ha : (applyR t o).2 = 0) : replayR t (x :: r) = ((replayR (applyR t o).1 r).1, (replayR (applyR t o).1 r).2 + 1) := by
  conv => lhs; unfold replayR
  rw [h]; simp only; rw [if_pos ha]
def ReRel (t0 : Tb) (xs : List (List UInt8)) (p : Nat) (L : List (Nat × Array Value × Nat)) (w : World) (g : Nat) (s : Value) (wx : World) : Prop :=
  ∃ (i : Nat) (t : Tb) (ao : Option Addr) (cap : Nat), i + g = xs.length ∧ s = .int .i64 (i : Int) ∧ Bos ((p, #[.slice ao t.rows.length cap, .int .i64 t.mode], 24) :: L) w wx ∧ Sl (.slice ao t.rows.length cap) t.rows wx ao cap ∧ t.rows.length ≤ 1000 ∧ replayR t0 xs = ((replayR t (xs.drop i)).1, (replayR t (xs.drop i)).2 + i)
set_option maxHeartbeats 8000000 in
theorem replay_any (t : Tb) (xs : List (List UInt8)) (ao xo : Option Addr) (cap xc : Nat) (w : World) (hS : Sl (.slice ao t.rows.length cap) t.rows w ao cap) (hl : t.rows.length ≤ 1000) (hX : Seen xcs 1 xo xs w) (hxl : xs.length ≤ 1000) (hxs : ∀ x ∈ xs, x.length ≤ 1000000) :
    Calls Try.prog 24 #[tv ao t.rows.length cap t.mode, .slice xo xs.length xc] w fun e w' => ∃ v, e = .returned (.tuple #[v, .int .i64 ((replayR t xs).2 : Int)]) ∧ Told v (replayR t xs).1 w' ∧ Below w.heap.size w w' := by
  have OW : Hid (∀ W, Below w.heap.size w W → Calls Try.prog 53 #[tv ao t.rows.length cap t.mode] W fun e w' => ∃ ao' cap', e = .returned (tv ao' t.rows.length cap' t.mode) ∧ Sl (.slice ao' t.rows.length cap') t.rows w' ao' cap' ∧ Below W.heap.size W w') := Lib.hid (fun W hb => own_any t.rows ao cap t.mode W (hS.seen.below hb (Nat.le_refl _)) hl)
  have SX := Lib.hid hX
  have XL : Hid (∀ x ∈ xs, x.length ≤ 1000000) := Lib.hid hxs
  have HL := Lib.hid hl
  have H0 := Lib.hid (tb_new w (.slice ao t.rows.length cap) t.mode)
  clear hS hX hxs hl
  unfold tv at *
  obtain ⟨t0, t1⟩ := cell2 (H0.out.cell 1 rfl)
  go_enter Try.func24, Try.ntmps24
  go_wp2_with fail
  (with_reducible refine (OW.out _ H0.out.bl).mono ?_)
  rintro e w1 ⟨a1, c1, rfl, s1, b1⟩
  have H1 := Lib.hid ((H0.out.call b1).new #[.slice a1 t.rows.length c1, .int .i64 t.mode] 24)
  have S1 := Lib.hid (s1.call ((Below.refl _ _).alloc (Nat.le_refl _) (.cells #[.slice a1 t.rows.length c1, .int .i64 t.mode] 24)))
  clear b1 s1 OW H0 t0 t1
  go_wp2_with fail
  go_loopg [16] xs.length (ReRel t xs w1.heap.size [(w.heap.size + 1, #[.slice none 0 0, .int .i64 0], 24), (w.heap.size, #[.slice ao t.rows.length cap, .int .i64 t.mode], 24)] w)
  case atStart => exact ⟨0, t, a1, c1, by omega, rfl, H1.out, S1.out, HL.out, by simp⟩
  case round =>
    clear H1 S1
    obtain ⟨i, T1, a1, c1, hi, rfl, hB, hs, hlen, heq⟩ := hrel
    have HB := Lib.hid hB
    have SB := Lib.hid hs
    have HI := Lib.hid hi
    have HQ := Lib.hid heq
    have HN := Lib.hid hlen
    clear hB hs heq hlen
    obtain ⟨p0, p1⟩ := cell2 (HB.out.cell 0 rfl)
    obtain ⟨z0, z1⟩ := cell2 (HB.out.cell 1 rfl)
    have zf := HB.out.fz 1 rfl
    by_cases hlt : i < xs.length
    · have hx := List.getElem?_eq_getElem hlt
      obtain ⟨xb, xoff, rfl, hc⟩ := seen_text (SX.out.below HB.out.bl (Nat.le_refl _)) hx
      have hlt' : (i : Int) < (xs.length : Int) := by omega
      have hg0 : 0 < gk := by omega
      have DR := List.drop_eq_getElem_cons hlt
      have DRH := Lib.hid DR
      have RD := Lib.hid (fun w => Ox.read_at xs[i] w (XL.out _ (List.getElem_mem hlt)))
      generalize xs[i] = x at *
      clear DR hx hi hlt
      cases hro : Ox.readR x with
      | none =>
        have e1 : readO x = (od0, 10) := by unfold readO; rw [hro]
        have EQ : Hid (replayR t xs = (T1, i)) := Lib.hid (by rw [HQ.out, DRH.out, replay_no hro]; simp)
        rw [e1] at RD
        unfold od0 Od.v Od.cs Ox.tk0 at RD
        simp only at RD
        clear e1 HQ DRH hro
        go_wp2_with fail
        (with_reducible refine (RD.out _).mono ?_)
        rintro e w2 ⟨rfl, b2⟩
        have HX := Lib.hid ((HB.out.call b2).new #[.int .i64 0, .int .i64 0, .int .i64 0, .int .i64 0, .int .i64 0, .int .i64 0, .bool false, .int .i64 0, .int .i64 0, .int .i64 0] 29)
        have SB := Lib.hid ((SB.out.call b2).call ((Below.refl _ _).alloc (Nat.le_refl _) (.cells #[.int .i64 0, .int .i64 0, .int .i64 0, .int .i64 0, .int .i64 0, .int .i64 0, .bool false, .int .i64 0, .int .i64 0, .int .i64 0] 29)))
        clear b2 RD hc p0 p1 z0 z1 zf HB
        obtain ⟨p0, p1⟩ := cell2 (HX.out.cell 1 rfl)
        obtain ⟨z0, z1⟩ := cell2 (HX.out.cell 2 rfl)
        have zf := HX.out.fz 2 rfl
        have HF := Lib.hid ((HX.out.set 2 rfl 0 (.slice a1 T1.rows.length c1)).set 2 rfl 1 (.int .i64 T1.mode))
        have SF := Lib.hid ((SB.out.set HX.out 2 rfl (by simp) 0 (.slice a1 T1.rows.length c1)).set (HX.out.set 2 rfl 0 (.slice a1 T1.rows.length c1)) 2 rfl (by simp) 1 (.int .i64 T1.mode))
        obtain ⟨q0, q1⟩ := cell2 (HF.out.cell 2 rfl)
        go_wp2
        refine bodyPost_ret (v := .tuple #[.agg #[.slice a1 T1.rows.length c1, .int .i64 T1.mode], .int .i64 (i : Int)]) (by simp [results, Try.results24, go_sem, q0, q1]) rfl ⟨_, by rw [EQ.out], by rw [EQ.out]; exact ⟨a1, c1, rfl, SF.out⟩, HF.out.bl⟩
      | some o =>
        have e1 : readO x = (o, 0) := by unfold readO; rw [hro]
        rw [e1] at RD
        have AP : Hid (∀ W, Seen Rw.cs 6 a1 T1.rows W → Calls Try.prog 27 #[tv a1 T1.rows.length c1 T1.mode, o.v] W fun e w' => ∃ v, e = .returned (.tuple #[v, .int .i64 (applyR T1 o).2]) ∧ Told v (applyR T1 o).1 w' ∧ Below W.heap.size W w') := Lib.hid (fun W h => apply_any T1 o a1 c1 W h HN.out)
        have NO : Hid ((applyR T1 o).2 ≠ 0 → replayR t xs = (T1, i)) := Lib.hid (fun h => by rw [HQ.out, DRH.out, replay_not hro h]; simp)
        have YES : Hid ((applyR T1 o).2 = 0 → replayR t xs = ((replayR (applyR T1 o).1 (xs.drop (i + 1))).1, (replayR (applyR T1 o).1 (xs.drop (i + 1))).2 + (i + 1))) := Lib.hid (fun h => by rw [HQ.out, DRH.out, replay_yes hro h]; simp only [Prod.mk.injEq, true_and]; omega)
        have LN : Hid ((applyR T1 o).2 = 0 → (applyR T1 o).1.rows.length ≤ 1000) := Lib.hid (fun h => by have := (chkT_iff.1 (apply_chk h).1).2.2.1; omega)
        clear e1 HQ DRH hro
        generalize applyR T1 o = R at *
        obtain ⟨R1, R2⟩ := R
        obtain ⟨k, ⟨oi, oc, od, ot, om⟩, os, oid, occ, omo⟩ := o
        unfold tv Od.v Od.cs at *
        simp only at RD AP NO YES LN
        go_wp2_with fail
        (with_reducible refine (RD.out _).mono ?_)
        rintro e w2 ⟨rfl, b2⟩
        have HX := Lib.hid ((HB.out.call b2).new #[.int .i64 k, .int .i64 oi, .int .i64 oc, .int .i64 od, .int .i64 ot, .int .i64 om, .bool os, .int .i64 oid, .int .i64 occ, .int .i64 omo] 29)
        have SB := Lib.hid ((SB.out.call b2).call ((Below.refl _ _).alloc (Nat.le_refl _) (.cells #[.int .i64 k, .int .i64 oi, .int .i64 oc, .int .i64 od, .int .i64 ot, .int .i64 om, .bool os, .int .i64 oid, .int .i64 occ, .int .i64 omo] 29)))
        clear b2 RD hc p0 p1 z0 z1 zf HB
        obtain ⟨p0, p1⟩ := cell2 (HX.out.cell 1 rfl)
        obtain ⟨o0, o1, o2, o3, o4, o5, o6, o7, o8, o9⟩ := cell10 (HX.out.cell 0 rfl)
        go_wp2_with fail
        (with_reducible refine (AP.out _ SB.out.seen).mono ?_)
        rintro e w3 ⟨v, rfl, ⟨a2, c2, rfl, s2⟩, b3⟩
        have HX := Lib.hid ((HX.out.call b3).new #[.slice a2 R1.rows.length c2, .int .i64 R1.mode] 24)
        have bz : Below w3.heap.size w3 (w3.alloc (.cells #[.slice a2 R1.rows.length c2, .int .i64 R1.mode] 24)) := (Below.refl _ _).alloc (Nat.le_refl _) _
        have SB := Lib.hid ((SB.out.call b3).call bz)
        have SN := Lib.hid (s2.call bz)
        clear b3 s2 bz AP p0 p1 o0 o1 o2 o3 o4 o5 o6 o7 o8 o9
        unfold tv
        by_cases he : R2 = 0
        · have he1 : (R2 != 0) = false := by simp [he]
          have EQ := Lib.hid (YES.out he)
          have LN := Lib.hid (LN.out he)
          obtain ⟨y0, y1⟩ := cell2 (HX.out.cell 0 rfl)
          obtain ⟨p0, p1⟩ := cell2 (HX.out.cell 2 rfl)
          have pf := HX.out.fz 2 rfl
          have HF := Lib.hid ((HX.out.set 2 rfl 0 (.slice a2 R1.rows.length c2)).set 2 rfl 1 (.int .i64 R1.mode))
          have SF := Lib.hid ((SN.out.set HX.out 2 rfl (by simp) 0 (.slice a2 R1.rows.length c2)).set (HX.out.set 2 rfl 0 (.slice a2 R1.rows.length c2)) 2 rfl (by simp) 1 (.int .i64 R1.mode))
          clear he NO YES
          go_wp2
          go_roundg (gk - 1)
          case measure => omega
          case rel => exact ⟨i + 1, R1, a2, c2, by have := HI.out; omega, by go_num, HF.out.sub (List.Sublist.cons _ (List.sublist_cons_self _ _)), SF.out, LN.out, EQ.out⟩
        · have he1 : (R2 != 0) = true := by simp [he]
          have EQ := Lib.hid (NO.out he)
          clear he NO YES LN
          obtain ⟨p0, p1⟩ := cell2 (HX.out.cell 2 rfl)
          obtain ⟨z0, z1⟩ := cell2 (HX.out.cell 3 rfl)
          have zf := HX.out.fz 3 rfl
          have HF := Lib.hid ((HX.out.set 3 rfl 0 (.slice a1 T1.rows.length c1)).set 3 rfl 1 (.int .i64 T1.mode))
          have SF := Lib.hid ((SB.out.set HX.out 3 rfl (by simp) 0 (.slice a1 T1.rows.length c1)).set (HX.out.set 3 rfl 0 (.slice a1 T1.rows.length c1)) 3 rfl (by simp) 1 (.int .i64 T1.mode))
          obtain ⟨q0, q1⟩ := cell2 (HF.out.cell 3 rfl)
          go_wp2
          refine bodyPost_ret (v := .tuple #[.agg #[.slice a1 T1.rows.length c1, .int .i64 T1.mode], .int .i64 (i : Int)]) (by simp [results, Try.results24, go_sem, q0, q1]) rfl ⟨_, by rw [EQ.out], by rw [EQ.out]; exact ⟨a1, c1, rfl, SF.out⟩, HF.out.bl⟩
    · have hge : (xs.length : Int) ≤ (i : Int) := by omega
      obtain rfl : i = xs.length := by omega
      have EQ : Hid (replayR t xs = (T1, xs.length)) := Lib.hid (by rw [HQ.out, List.drop_length]; simp [replayR])
      clear HQ hi hlt p0 p1 z0 z1 zf
      obtain ⟨p0, p1⟩ := cell2 (HB.out.cell 0 rfl)
      obtain ⟨z0, z1⟩ := cell2 (HB.out.cell 1 rfl)
      have zf := HB.out.fz 1 rfl
      have HF := Lib.hid ((HB.out.set 1 rfl 0 (.slice a1 T1.rows.length c1)).set 1 rfl 1 (.int .i64 T1.mode))
      have SF := Lib.hid ((SB.out.set HB.out 1 rfl (by simp) 0 (.slice a1 T1.rows.length c1)).set (HB.out.set 1 rfl 0 (.slice a1 T1.rows.length c1)) 1 rfl (by simp) 1 (.int .i64 T1.mode))
      obtain ⟨q0, q1⟩ := cell2 (HF.out.cell 1 rfl)
      go_wp2
      refine bodyPost_ret (v := .tuple #[.agg #[.slice a1 T1.rows.length c1, .int .i64 T1.mode], .int .i64 (xs.length : Int)]) (by simp [results, Try.results24, go_sem, q0, q1]) rfl ⟨_, by rw [EQ.out], by rw [EQ.out]; exact ⟨a1, c1, rfl, SF.out⟩, HF.out.bl⟩
end Go.Proofs.Ytnaanahgflbihaa.Tb
