/- How package heap's things settle, and where they belong: contracts of settle and below. -/
import Derived.Test.YtphnabnpapdpeaaHpA
import Derived.RegionTactic
import Derived.BigQuiet
import Derived.BigRegion
import Derived.Deep.DeepCutAuto
namespace Go.Proofs.Ytphnabnpapdpeaa.Hp
open Go.ChangeShapes Go.WideShapes Go.ChangeAt Go.RowKit Go.Joins
set_option maxRecDepth 100000
set_option maxRecDepth 100000
set_option linter.unusedVariables false
set_option linter.unusedSimpArgs false
/-- x on its way up from m -/
def SeRel (B g cap : Nat) (l : List Int) (i : Nat) (x : Int) (w : World) (m : Nat) (s1 s2 : Value) (wx : World) : Prop :=
  ∃ (cur : List Int) (y : Int), s1 = .int .i64 (m : Int) ∧ s2 = .int .i64 y ∧ settleR cur m y = settleR l i x ∧ cur.length = l.length ∧ m < l.length ∧ NRow B wx (.slice (some ⟨g, 0, none⟩) l.length cap) cur ∧ Mv g none w wx
theorem settle_any (B g cap : Nat) (l : List Int) (i : Nat) (x : Int) (w : World) (h : NRow B w (.slice (some ⟨g, 0, none⟩) l.length cap) l) (hi : i < l.length) (hl : l.length ≤ 1000000) :
    Calls Try.prog 34 #[.slice (some ⟨g, 0, none⟩) l.length cap, .int .i64 (i : Int), .int .i64 x] w fun e w' => e = .returned (.tuple #[]) ∧ NRow B w' (.slice (some ⟨g, 0, none⟩) l.length cap) (settleR l i x) ∧ Mv g none w w' := by
  have H := Lib.hid h
  clear h
  go_enter Try.func34, Try.ntmps34
  go_wp2_with fail
  go_loopg [1, 2] i (SeRel B g cap l i x w)
  case atStart => exact ⟨l, x, rfl, rfl, rfl, rfl, hi, H.out, Mv.refl _ _ _⟩
  case round =>
    obtain ⟨cur, y, rfl, rfl, hs, hcl, hm, hr, hmv⟩ := hrel
    have hgl : g < wr.heap.size := by obtain ⟨cu, hc⟩ := hr.block g rfl; exact lt_of_heap hc
    rcases Nat.eq_zero_or_pos gk with h0 | h0
    · subst h0
      have h00 : 0 < cur.length := by omega
      have hx := List.getElem?_eq_getElem h00
      have c0 := hr.at hx
      have f0 := hr.free 0
      have N := Lib.hid (hr.set 0 y)
      have M := Lib.hid (hmv.set (g := g) (o := 0) (.int .i64 y) (.inl rfl))
      have E := Lib.hid ((settle_zero cur y).symm.trans hs)
      generalize cur[0] = z at *
      have hm' : (0 : Int) < (l.length : Int) := by omega
      clear hr hmv hs hx h00
      go_wp2
      go_end0
      exact ⟨rfl, by rw [← E.out]; exact N.out, M.out⟩
    · have hmc : gk < cur.length := by omega
      have hx := List.getElem?_eq_getElem hmc
      have c0 := hr.at hx
      have f0 := hr.free gk
      have N := Lib.hid (hr.set gk y)
      have M := Lib.hid (hmv.set (g := g) (o := gk) (.int .i64 y) (.inl rfl))
      have E := Lib.hid ((settle_up h0 hx).symm.trans hs)
      have CL : Hid ((cur.set gk y).length = l.length) := Lib.hid (by rw [List.length_set]; exact hcl)
      have PA := Lib.hid (fun w => parent_any gk h0 (by omega) w)
      generalize cur[gk] = z at *
      have hm' : (gk : Int) < (l.length : Int) := by omega
      have h0' : (0 : Int) < (gk : Int) := by omega
      have hw : IntKind.i64.wrap (gk : Int) = (gk : Int) := IntWalk.i64_in _ (by omega)
      have hk : (gk - 1) / 2 < gk := by omega
      clear hr hmv hs hx hmc hcl
      generalize (gk - 1) / 2 = pk at *
      go_wp2_with fail
      (with_reducible refine (PA.out _).mono ?_)
      rintro e w1 ⟨rfl, rfl⟩
      go_wp2
      go_roundg pk
      case measure => omega
      case rel => exact ⟨_, z, rfl, rfl, E.out, CL.out, by omega, N.out, M.out⟩
/-- x on its way down: where it stands, and what comes next -/
def BeRel (l : List Int) (x : Int) (w : World) (m : Nat) (s7 s8 : Value) (wx : World) : Prop :=
  ∃ i c1 : Nat, i + m = l.length ∧ Hid (c1 = 2 * i + 1) ∧ s7 = .int .i64 (i : Int) ∧ s8 = .int .i64 (c1 : Int) ∧ (Down ltI l x i ∨ (l.length = 0 ∧ i = 0)) ∧ Qt w wx
/-- what below tells -/
def BeTold (l : List Int) (x : Int) (i : Nat) : Prop := (Down ltI l x i ∧ Hp ltI (settleR l i x)) ∨ (l.length = 0 ∧ i = 0)
/-- the lesser of the two below i -/
theorem lesser (l : List Int) (i c1 c2 : Nat) (e1 : c1 = 2 * i + 1) (e2 : c2 = c1 + 1) (hc : c1 < l.length) : ∃ (bv : Bool) (c : Nat) (y : Int), (c = 2 * i + 1 ∨ c = 2 * i + 2) ∧ l[c]? = some y ∧ (∀ j d, j = 2 * i + 1 ∨ j = 2 * i + 2 → l[j]? = some d → le ltI y d) ∧ (bv = true → c = c2) ∧ (bv = false → c = c1) ∧ (∀ z1 z2, l[c1]? = some z1 → l[c2]? = some z2 → bv = ltI z2 z1) ∧ (l.length ≤ c2 → bv = false) := by
  obtain rfl : c2 = 2 * i + 2 := by omega
  subst e1
  have h1 := List.getElem?_eq_getElem hc
  by_cases h2 : 2 * i + 2 < l.length
  · have h3 := List.getElem?_eq_getElem h2
    cases hb : ltI l[2 * i + 2] l[2 * i + 1] with
    | true =>
      refine ⟨true, 2 * i + 2, _, .inr rfl, h3, fun j d hj hd => ?_, fun _ => rfl, fun h => (by cases h), fun y z hy hz => by rw [h1] at hy; rw [h3] at hz; cases hz; cases hy; exact hb.symm, fun h => by omega⟩
      rcases hj with rfl | rfl
      · rw [h1] at hd; cases hd; exact ordI.wk.le_of_lt hb
      · rw [h3] at hd; cases hd; exact ordI.wk.le_refl _
    | false =>
      refine ⟨false, 2 * i + 1, _, .inl rfl, h1, fun j d hj hd => ?_, fun h => (by cases h), fun _ => rfl, fun y z hy hz => by rw [h1] at hy; rw [h3] at hz; cases hz; cases hy; exact hb.symm, fun h => by omega⟩
      rcases hj with rfl | rfl
      · rw [h1] at hd; cases hd; exact ordI.wk.le_refl _
      · rw [h3] at hd; cases hd; exact hb
  · refine ⟨false, 2 * i + 1, _, .inl rfl, h1, fun j d hj hd => ?_, fun h => (by cases h), fun _ => rfl, fun y z hy hz => by have := (List.getElem?_eq_some_iff.1 hz).1; omega, fun _ => rfl⟩
    rcases hj with rfl | rfl
    · rw [h1] at hd; cases hd; exact ordI.wk.le_refl _
    · have := (List.getElem?_eq_some_iff.1 hd).1; omega
theorem qt_drewN {w w' : World} (h : Qt w w') (n : Nat) : Qt w (w'.drewN n) := h.trans ⟨by simp [World.drewN], by simp [World.drewN], by simp [World.drewN], by simp [World.drewN]⟩
set_option maxHeartbeats 2000000 in
theorem below_any (b : Nat) (ao : Option Addr) (cap : Nat) (l : List Int) (x : Int) (w : World) (hh : w.cell? ⟨b, 0, none⟩ = some (.func (.func 10) #[] #[])) (hn : Ns ao l w) (hp : Hp ltI l) (hl : l.length ≤ 1000000) :
    Calls Try.prog 35 #[.pointer (some ⟨b, 0, none⟩), .slice ao l.length cap, .int .i64 x] w fun e w' => ∃ i : Nat, e = .returned (.int .i64 (i : Int)) ∧ BeTold l x i ∧ Qt w w' := by
  have H := Lib.hid hn
  have HH := Lib.hid hh
  have HP := Lib.hid hp
  have LS := Lib.hid less_any
  clear hn hp hh
  go_enter Try.func35, Try.ntmps35
  go_wp2_with fail
  go_loopg [7, 8] l.length (BeRel l x w)
  case atStart =>
    refine ⟨0, 1, by omega, rfl, rfl, rfl, ?_, Qt.refl _⟩
    by_cases h0 : 0 < l.length
    · exact .inl (down_start HP.out h0)
    · exact .inr ⟨by omega, rfl⟩
  case round =>
    obtain ⟨i, c1, hi, hc1, rfl, rfl, hd, hq⟩ := hrel
    by_cases hc : c1 < l.length
    · obtain ⟨c2, hc2⟩ : ∃ c2, c2 = c1 + 1 := ⟨_, rfl⟩
      obtain ⟨bv, c, y, hcc, hy, hm, ht, hf, hbv, hbn⟩ := lesser l i c1 c2 hc1.out hc2 hc
      have HN : Hid (Ns ao l wr) := Lib.hid (H.out.call (hq.below _))
      have dn : Down ltI l x i := by rcases hd with h | h; exact h; omega
      have QW := Lib.hid hq
      have h0 : wr.cell? ⟨b, 0, none⟩ = some (.func (.func 10) #[] #[]) := (hq.cell _).trans HH.out
      obtain ⟨k, off, rfl, -, hat⟩ := HN.out (by omega)
      have hx1 := List.getElem?_eq_getElem hc
      have C1 := hat c1 _ hx1
      have HAT := Lib.hid hat
      have BT := Lib.hid (fun z => hbv _ z hx1)
      have BN := Lib.hid hbn
      have DC := Lib.hid (show ltI y x = true → Down ltI l x c from fun h => down_step ordI.wk dn hcc hy h hm)
      have DF := Lib.hid (show ltI y x = false → Hp ltI (settleR l i x) from fun h => by
        have h1 : c1 = 2 * i + 1 := hc1.out
        refine down_done dn (fun z hz => ?_) (fun z hz => ?_)
        · exact ordI.wk.le_trans h (hm _ _ (.inl rfl) hz)
        · exact ordI.wk.le_trans h (hm _ _ (.inr rfl) hz))
      have DN := Lib.hid dn
      have HY := Lib.hid hy
      have hcl : c < l.length := (List.getElem?_eq_some_iff.1 hy).1
      have HT := Lib.hid ht
      have HF := Lib.hid hf
      have hic : i < c := by omega
      have hc1i : (c1 : Int) < (l.length : Int) := by omega
      have hc1w : IntKind.i64.wrap (c1 : Int) = (c1 : Int) := IntWalk.i64_in _ (by omega)
      have hc2w : IntKind.i64.wrap ((c1 : Int) + 1) = (c2 : Int) := by rw [IntWalk.i64_in _ (by omega)]; omega
      have hc2w2 : IntKind.i64.wrap (c2 : Int) = (c2 : Int) := IntWalk.i64_in _ (by omega)
      have EC := Lib.hid hc2
      generalize l[c1] = z1 at *
      clear hd hq hc2 hbv hbn hx1 hat hm hy hcc dn ht hf
      go_upto_region 6 with (fail)
      go_cut [37] (fun s wx => s = .bool bv ∧ Qt w wx)
      case first =>
        by_cases h2 : c2 < l.length
        · have hx2 := List.getElem?_eq_getElem h2
          have C2 := HAT.out c2 _ hx2
          have hb := BT.out _ hx2
          generalize l[c2] = z2 at *
          have LC := Lib.hid (LS.out z2 z1)
          rw [← hb] at LC
          have h2i : (c2 : Int) < (l.length : Int) := by omega
          have hg : decide ((c2 : Int) < (l.length : Int)) = true := decide_eq_true h2i
          clear HAT hb BT BN HN H hx2 DC DF DN HY
          go_quiet ((first | (go_at_call 10; exact Calls.quiet_of_same (LC.out _)) | fail))
          go_wp2
          go_meet
          exact ⟨rfl, qt_drewN QW.out _⟩
        · have hb := BN.out (by omega)
          have hg : decide ((c2 : Int) < (l.length : Int)) = false := decide_eq_false (by omega)
          have hg2 : decide (c2 < l.length) = false := decide_eq_false h2
          subst hb
          clear HAT BT BN HN H h2 C1 DC DF DN HY HT HF
          go_quiet (fail)
          go_wp2
          go_meet
          exact ⟨rfl, qt_drewN QW.out _⟩
      case rest =>
        obtain ⟨rfl, hq⟩ := hcut
        have Q := Lib.hid hq
        have CY : Hid (wc.cell? ⟨k, off + c, none⟩ = some (.int .i64 y)) := Lib.hid ((hq.cell _).trans ((QW.out.cell _).symm.trans (HAT.out c _ HY.out)))
        have h0 : wc.cell? ⟨b, 0, none⟩ = some (.func (.func 10) #[] #[]) := (hq.cell _).trans HH.out
        clear hq QW HAT BT BN C1 HN
        go_upto_if 37 with (fail)
        go_cut [8] (fun s wx => s = .int .i64 (c : Int) ∧ wx = wc)
        case first =>
          cases bv with
          | true =>
            have e := HT.out rfl
            subst e
            go_wp2
            go_meet
            exact ⟨rfl, rfl⟩
          | false =>
            have e := HF.out rfl
            subst e
            go_wp2
            go_meet
            exact ⟨rfl, rfl⟩
        case rest =>
          obtain ⟨rfl, rfl⟩ := hcut
          have hci : (c : Int) < (l.length : Int) := by omega
          have hcw : IntKind.i64.wrap (c : Int) = (c : Int) := IntWalk.i64_in _ (by omega)
          have cy := CY.out
          cases hb : ltI y x with
          | true =>
            have LC := Lib.hid (LS.out y x)
            rw [hb] at LC
            have D := Lib.hid (DC.out hb)
            obtain ⟨d, hd⟩ : ∃ d, d = 2 * c := ⟨_, rfl⟩
            have hd1 : IntKind.i64.wrap (2 * (c : Int)) = (d : Int) := by rw [IntWalk.i64_in _ (by omega)]; omega
            obtain ⟨d1, hd2⟩ : ∃ d1, d1 = d + 1 := ⟨_, rfl⟩
            have hd3 : IntKind.i64.wrap ((d : Int) + 1) = (d1 : Int) := by rw [IntWalk.i64_in _ (by omega)]; omega
            have E : Hid (d1 = 2 * c + 1) := Lib.hid (by omega)
            clear hb HY DC DF DN HT HF CY EC hd hd2
            go_wp2_with fail
            go_quiet ((first | (go_at_call 10; exact Calls.quiet_of_same (LC.out _)) | fail))
            go_wp2
            go_roundg (l.length - c)
            case measure => omega
            case rel => exact ⟨c, d1, by omega, E.out, rfl, rfl, .inl D.out, qt_drewN Q.out _⟩
          | false =>
            have LC := Lib.hid (LS.out y x)
            rw [hb] at LC
            have F : Hid (BeTold l x i) := Lib.hid (.inl ⟨DN.out, DF.out hb⟩)
            clear hb HY DC DF DN HT HF CY EC
            go_wp2_with fail
            go_quiet ((first | (go_at_call 10; exact Calls.quiet_of_same (LC.out _)) | fail))
            go_wp2
            go_ret
            exact ⟨i, rfl, F.out, qt_drewN Q.out _⟩
    · have hge : (l.length : Int) ≤ (c1 : Int) := by omega
      have F : Hid (BeTold l x i) := Lib.hid (by
        have := hc1.out
        rcases hd with h | h
        · exact .inl ⟨h, down_none h (by omega)⟩
        · exact .inr h)
      have Q := Lib.hid hq
      clear H HP hd hq hc
      go_wp2
      go_ret
      exact ⟨i, rfl, F.out, Q.out⟩
end Go.Proofs.Ytphnabnpapdpeaa.Hp
