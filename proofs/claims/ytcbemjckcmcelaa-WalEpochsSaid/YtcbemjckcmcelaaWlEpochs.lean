/- horariumlaw07.WalEpochs answers true at every two rows of texts: records of one epoch are none of another one; a new epoch's records stand over them, and those behind are none of it. No condition. -/
import Derived.Test.YtcbemjckcmcelaaWlI
import Derived.Deep.CutBlock
import Derived.Test.YtcbemjckcmcelaaWlH
import Derived.Test.YtcbemjckcmcelaaDkG
import Derived.Deep.DeepCutAuto
import Derived.Deep.RegionHeld3
import Derived.BigQuiet
namespace Go.Proofs.Ytcbemjckcmcelaa.walEpochs
open Go.ChangeShapes Go.WideShapes Go.ChangeAt Go.RowKit Go.Joins
set_option maxRecDepth 100000
set_option linter.unusedVariables false
set_option linter.unusedSimpArgs false
open Dk (own laidOut in64_wf ptr DS)
open Sl (Mv)
open Wl (Lg WS Inv rw_ Ep)
theorem short43 (l : List UInt8) (w : World) :
    Calls Try.prog 24 #[.string (mkB l), .int .i64 43] w fun e w' => e = .returned (.string (mkB (l.take 43))) ∧ w' = w := Wl.short_any l 43 w (by omega)
/-- behind the first epoch's records -/
def C1 (B b q : Nat) (w : World) (s8 s9 : Value) (wx : World) : Prop :=
  ∃ xs S a cap, s8 = .slice a (xs : List (List UInt8)).length cap ∧ xs.length ≤ 8 ∧ S.length = 8 ∧ Inv (rw_ S 0 8) 5 xs ∧ Ep S 5 ∧ Lg B b q ⟨0, 8, some (5, xs.length)⟩ ⟨S, [], 0, 0⟩ w wx
def R1 (B b q : Nat) (w : World) (g : Nat) (s8 s9 : Value) (wx : World) : Prop :=
  ∃ xs S, xs.length + g = 8 ∧ s9 = .int .i64 ((xs : List (List UInt8)).length : Int) ∧ Strs w.heap.size wx s8 xs ∧ S.length = 8 ∧ Inv (rw_ S 0 8) 5 xs ∧ Ep S 5 ∧ Lg B b q ⟨0, 8, some (5, xs.length)⟩ ⟨S, [], 0, 0⟩ w wx
def C2 (B b q : Nat) (xs : List (List UInt8)) (w : World) (s12 s13 : Value) (wx : World) : Prop :=
  ∃ ys S r a cap, s12 = .slice a (ys : List (List UInt8)).length cap ∧ ys.length ≤ 8 ∧ Strs w.heap.size wx s12 ys ∧ S.length = 8 ∧ r ≤ 1000 ∧ Inv (rw_ S 0 8) 6 ys ∧ (ys = [] → Inv (rw_ S 0 8) 5 xs) ∧ Lg B b q ⟨0, 8, some (6, ys.length)⟩ ⟨S, [], 0, r⟩ w wx
def R2 (B b q : Nat) (xs : List (List UInt8)) (w : World) (g : Nat) (s12 s13 : Value) (wx : World) : Prop :=
  ∃ ys S r, ys.length + g = 8 ∧ s13 = .int .i64 ((ys : List (List UInt8)).length : Int) ∧ Strs w.heap.size wx s12 ys ∧ S.length = 8 ∧ r ≤ 1000 ∧ Inv (rw_ S 0 8) 6 ys ∧ (ys = [] → Inv (rw_ S 0 8) 5 xs) ∧ Lg B b q ⟨0, 8, some (6, ys.length)⟩ ⟨S, [], 0, r⟩ w wx
theorem push_row {S : List (List UInt8)} {e : Nat} {xs : List (List UInt8)} {p : List UInt8} (h : Inv (rw_ S 0 8) e xs) (hS : S.length = 8) (hx : xs.length < 8) (hp : p.length ≤ 43) : Inv (rw_ (S.set (0 + xs.length) (sec p e xs.length)) 0 8) e (xs ++ [p]) := by
  have := h.push (by rw [Wl.rw_length (by omega)]; exact hx) (p := p) hp
  rw [← Wl.rw_set (by omega) (by omega)] at this
  exact this
/-- none of the first epoch, where the next one has some -/
theorem old_gone {S : List (List UInt8)} {ys : List (List UInt8)} (h : Inv (rw_ S 0 8) 6 ys) (hS : S.length = 8) (hy : ys ≠ []) : Wl.recs (rw_ S 0 8) 5 = [] := by
  have h0 : 0 < ys.length := by cases ys with | nil => exact absurd rfl hy | cons x l => simp
  have hl : 0 < (rw_ S 0 8).length := by rw [Wl.rw_length (by omega)]; omega
  obtain ⟨h1, h2⟩ := h.rcd 0 h0 hl
  have : Wl.lead (rw_ S 0 8) 5 = 0 := Wl.lead_is (by omega) (fun j _ hj => by omega) (fun _ => Wl.not_whole (fun hc => by
    rw [h1, epochOf_sec h2 (by omega)] at hc; omega))
  unfold Wl.recs
  rw [this, Wl.paysL_zero]

set_option maxRecDepth 100000 in
set_option maxHeartbeats 8000000 in
theorem walk (aoa : Option Addr) (lena capa : Nat) (aoc : Option Addr) (lenc capc : Nat) (w : World) (hla : lena ≤ 9223372036854775807) (hTa : Wl.Texts aoa lena w) (hlc : lenc ≤ 9223372036854775807) (hTc : Wl.Texts aoc lenc w) :
    Calls Try.prog 5 #[.slice aoa lena capa, .slice aoc lenc capc] w fun e w' => e = .returned (.bool true) ∧ Below w.heap.size w w' := by
  have AW := Lib.hid (fun w => Wl.awake_any w)
  have HTa := Lib.hid hTa
  have HTc := Lib.hid hTc
  clear hTa hTc
  go_enter Try.func5, Try.ntmps5
  go_wp2_with fail
  (with_reducible refine (AW.out _).mono ?_)
  rintro e w1 ⟨rfl, b1⟩
  clear AW
  have ND : Hid (Calls Try.prog 10 #[.int .i64 8] w1 _) := Lib.hid (Wl.disk_t 8 w w1 b1 (by omega) (by omega))
  have J0 : Inv (rw_ (List.replicate 8 (List.replicate 64 0)) 0 8) 5 [] := by
    have : rw_ (List.replicate 8 (List.replicate 64 (0 : UInt8))) 0 8 = List.replicate 8 (List.replicate 64 0) := by simp [rw_]
    rw [this]; exact Wl.inv_zero 8 5 (by omega)
  have E0 : Ep (List.replicate 8 (List.replicate 64 0)) 5 := Wl.ep_zero 8 5
  generalize hS0 : List.replicate 8 (List.replicate 64 (0 : UInt8)) = S0 at *
  have SL : S0.length = 8 := by rw [← hS0]; simp
  clear hS0 b1
  go_wp2_with fail
  (with_reducible refine ND.out.mono ?_)
  rintro e w2 ⟨rfl, d2, b2⟩
  clear ND
  generalize w1.heap.size + 1 = b at *
  have NL : Hid (Calls Try.prog 11 #[ptr b, .int .i64 0, .int .i64 8] w2 fun e w' => e = .returned (ptr w2.heap.size) ∧ Lg w.heap.size b w2.heap.size ⟨0, 8, none⟩ ⟨S0, [], 0, 0⟩ w w' ∧ Below w2.heap.size w2 w') := Lib.hid (Wl.log_t w.heap.size b _ 0 8 w w2 d2 b2 (by omega) (by show 0 + 8 ≤ S0.length; omega))
  clear d2 b2
  go_wp2_with fail
  (with_reducible refine NL.out.mono ?_)
  rintro e w3 ⟨rfl, L3, -⟩
  clear NL
  generalize w2.heap.size = q at *
  have ST : Hid (Calls Try.prog 17 #[ptr q, .int .u64 5] w3 fun r w' => r = .returned (.int .i64 0) ∧ Lg w.heap.size b q ⟨0, 8, some (5, 0)⟩ ⟨S0, [], 0, 0⟩ w w' ∧ Mv b q w3 w') := Lib.hid (Wl.start_t w.heap.size b q _ _ 5 w w3 L3 (by show 1 ≤ 8; omega) (by omega))
  clear L3
  go_wp2_with fail
  (with_reducible refine ST.out.mono ?_)
  rintro e w6 ⟨rfl, L6, -⟩
  have I0 := Lib.hid (show R1 w.heap.size b q w 8 (.slice none 0 0) (.int .i64 0) w6 from ⟨[], S0, by simp, rfl, strs_nil _ _, SL, J0, E0, L6⟩)
  clear ST L6 J0 E0 SL
  go_upto_block 0 with (fail)
  go_cut [8, 9] (C1 w.heap.size b q w)
  case first =>
    go_wp2_with fail
    go_loopg [8, 9] 8 (R1 w.heap.size b q w)
    case atStart => exact I0.out
    case round =>
      clear I0
      obtain ⟨xs, S, hi, rfl, hst, SL, hI, hE, hL⟩ := hrel
      have LL := Lib.hid hL
      have IV := Lib.hid hI
      have SS := Lib.hid hst
      have EP := Lib.hid hE
      clear hL hI hst hE
      rcases (show (xs.length < lena ∧ xs.length < 8) ∨ ¬ (xs.length < lena ∧ xs.length < 8) by omega) with ⟨hlt, hl8⟩ | hex
      · have hg0 : 0 < gk := by omega
        obtain ⟨ba, off, rfl, hba, hca⟩ := HTa.out (by omega)
        obtain ⟨tt, htt⟩ := hca _ hlt
        obtain ⟨l, rfl⟩ : ∃ l, tt = mkB l := ⟨tt.data.toList, rfl⟩
        have hc : wr.cell? ⟨ba, off + xs.length, none⟩ = some (.string (mkB l)) := by rw [LL.out.bel.cell (p := ⟨ba, off + xs.length, none⟩) hba]; exact htt
        have SH := Lib.hid (fun w => short43 l w)
        have p43 : (l.take 43).length ≤ 43 := by simp; omega
        generalize l.take 43 = p at *
        have il : (xs.length : Int) < (lena : Int) := by omega
        have il8 : (xs.length : Int) < 8 := by omega
        have i0 : 0 ≤ (xs.length : Int) := by omega
        obtain ⟨v', w', hap, s4, b4, z4, k4, -, g4, cap4, hv4, -⟩ := Sl.strs_push w.heap.size wr _ xs p SS.out LL.out.bel.size (by omega)
        have L4 := Lib.hid (LL.out.rest k4 b4)
        have S4 := Lib.hid s4
        obtain ⟨g5, cap5, hv5, -, -, hc5⟩ := s4.cell (by simp)
        have hc6 : w'.cell? ⟨g5, xs.length, none⟩ = some (.string (mkB p)) := by
          have := hc5 xs.length (by simp)
          rw [this]; simp
        rw [List.length_append] at hv5
        subst hv5
        obtain ⟨J, hJ⟩ : ∃ J, J = xs.length + [p].length := ⟨_, rfl⟩
        rw [← hJ] at hap S4
        have hJ1 : J = xs.length + 1 := by rw [hJ]; rfl
        have jl : (xs.length : Int) < (J : Int) := by omega
        have jl2 : xs.length < J := by omega
        have HJ1 := Lib.hid hJ1
        clear hJ hJ1 hv4 s4 hc5 k4 b4 z4 hca htt LL SS
        have AP := Lib.hid (Wl.app_t w.heap.size b q 0 8 5 xs.length S 0 p w w' L4.out (by omega) (by omega) (by omega) (by omega) hl8 p43)
        have I1 := Lib.hid (push_row IV.out SL hl8 p43)
        have E1 := Lib.hid (EP.out.set (a := 0 + xs.length) (i := xs.length) p43 (Nat.le_refl 5) (by omega))
        go_wp2_with fail
        (with_reducible refine (SH.out _).mono ?_)
        rintro e w1 ⟨rfl, rfl⟩
        clear SH
        go_wp2_with (at_builtin; refine Lib.wpList_append_run _ rfl _ _ _ _ rfl _ _ rfl rfl _ _ hap ?_)
        (with_reducible refine AP.out.mono ?_)
        rintro e w7 ⟨rfl, L7, m7⟩
        have S7 := L4.out.strs m7 S4.out
        have N := Lib.hid (show R1 w.heap.size b q w (gk - 1) (.slice (some ⟨g5, 0, none⟩) J cap5) (.int .i64 ((xs.length + 1 : Nat) : Int)) w7 from ⟨xs ++ [p], _, by rw [List.length_append]; show xs.length + 1 + (gk - 1) = 8; omega, by rw [List.length_append]; rfl, S7, by rw [List.length_set]; exact SL, I1.out, E1.out, by rw [List.length_append]; exact L7⟩)
        clear AP L7 m7 S7 S4 L4 I1 IV hc hc6
        go_wp2
        go_roundg (gk - 1)
        case measure => omega
        case rel => exact N.out
      · obtain ⟨va, vc, hv⟩ := Wl.strs_form SS.out
        have MT := Lib.hid (show C1 w.heap.size b q w _ (.int .i64 (xs.length : Int)) wr from ⟨xs, S, va, vc, hv, by omega, SL, IV.out, EP.out, LL.out⟩)
        subst hv
        clear SS LL IV
        rcases (show lena ≤ xs.length ∨ (xs.length < lena ∧ 8 ≤ xs.length) by omega) with h1 | ⟨h1, h2⟩
        · have h1' : (lena : Int) ≤ (xs.length : Int) := by omega
          go_wp2_with fail
          go_meet
          exact MT.out
        · have h1' : (xs.length : Int) < (lena : Int) := by omega
          have h2' : 8 ≤ (xs.length : Int) := by omega
          go_wp2_with fail
          go_meet
          exact MT.out
  case rest =>
    obtain ⟨xs0, S, a1, c1, rfl, hx8, SL, hI, hE, hL⟩ := hcut
    clear I0
    have S1 : Hid (Calls Try.prog 14 #[ptr q, .int .u64 6] wc _) := Lib.hid (Wl.scan_t w.heap.size b q 0 8 _ S 0 6 [] w wc hL (by omega) (by omega) (by omega) (by omega) (hE.none (by omega) 0 8) (by omega))
    go_wp2_with fail
    (with_reducible refine S1.out.mono ?_)
    rintro e w7 ⟨v1, rfl, st1, L7, -⟩
    obtain ⟨a2, c2, hv1⟩ := Wl.strs_form st1
    have hv1' : v1 = .slice a2 0 c2 := hv1
    subst hv1'
    have I0 := Lib.hid (show R2 w.heap.size b q xs0 w 8 (.slice none 0 0) (.int .i64 0) w7 from ⟨[], S, 0 + Wl.readsN 0 8, by simp, rfl, strs_nil _ _, SL, by decide, hE.none (by omega) 0 8, fun _ => hI, L7⟩)
    clear S1 st1 hv1 L7 hL hI hE SL
    go_upto_block 2 with (fail)
    go_cut [12, 13] (C2 w.heap.size b q xs0 w)
    case first =>
      go_wp2_with fail
      go_loopg [12, 13] 8 (R2 w.heap.size b q xs0 w)
      case atStart => exact I0.out
      case round =>
        clear I0
        obtain ⟨xs, S, r, hi, rfl, hst, SL, hr, hI, hO, hL⟩ := hrel
        have LL := Lib.hid hL
        have IV := Lib.hid hI
        have SS := Lib.hid hst
        have OL := Lib.hid hO
        clear hL hI hst hO
        rcases (show (xs.length < lenc ∧ xs.length < 8) ∨ ¬ (xs.length < lenc ∧ xs.length < 8) by omega) with ⟨hlt, hl8⟩ | hex
        · have hg0 : 0 < gk := by omega
          obtain ⟨ba, off, rfl, hba, hca⟩ := HTc.out (by omega)
          obtain ⟨tt, htt⟩ := hca _ hlt
          obtain ⟨l, rfl⟩ : ∃ l, tt = mkB l := ⟨tt.data.toList, rfl⟩
          have hc : wr.cell? ⟨ba, off + xs.length, none⟩ = some (.string (mkB l)) := by rw [LL.out.bel.cell (p := ⟨ba, off + xs.length, none⟩) hba]; exact htt
          have SH := Lib.hid (fun w => short43 l w)
          have p43 : (l.take 43).length ≤ 43 := by simp; omega
          generalize l.take 43 = p at *
          have il : (xs.length : Int) < (lenc : Int) := by omega
          have il8 : (xs.length : Int) < 8 := by omega
          have i0 : 0 ≤ (xs.length : Int) := by omega
          obtain ⟨v', w', hap, s4, b4, z4, k4, -, g4, cap4, hv4, -⟩ := Sl.strs_push w.heap.size wr _ xs p SS.out LL.out.bel.size (by omega)
          have L4 := Lib.hid (LL.out.rest k4 b4)
          have S4 := Lib.hid s4
          obtain ⟨g5, cap5, hv5, -, -, hc5⟩ := s4.cell (by simp)
          have hc6 : w'.cell? ⟨g5, xs.length, none⟩ = some (.string (mkB p)) := by
            have := hc5 xs.length (by simp)
            rw [this]; simp
          rw [List.length_append] at hv5
          subst hv5
          obtain ⟨J, hJ⟩ : ∃ J, J = xs.length + [p].length := ⟨_, rfl⟩
          rw [← hJ] at hap S4
          have hJ1 : J = xs.length + 1 := by rw [hJ]; rfl
          have jl : (xs.length : Int) < (J : Int) := by omega
          have jl2 : xs.length < J := by omega
          have HJ1 := Lib.hid hJ1
          clear hJ hJ1 hv4 s4 hc5 k4 b4 z4 hca htt LL SS
          have AP := Lib.hid (Wl.app_t w.heap.size b q 0 8 6 xs.length S r p w w' L4.out (by omega) (by omega) (by omega) (by omega) hl8 p43)
          have I1 := Lib.hid (push_row IV.out SL hl8 p43)
          go_wp2_with fail
          (with_reducible refine (SH.out _).mono ?_)
          rintro e w1 ⟨rfl, rfl⟩
          clear SH
          go_wp2_with (at_builtin; refine Lib.wpList_append_run _ rfl _ _ _ _ rfl _ _ rfl rfl _ _ hap ?_)
          (with_reducible refine AP.out.mono ?_)
          rintro e w7 ⟨rfl, L7, m7⟩
          have S7 := L4.out.strs m7 S4.out
          have N := Lib.hid (show R2 w.heap.size b q xs0 w (gk - 1) (.slice (some ⟨g5, 0, none⟩) J cap5) (.int .i64 ((xs.length + 1 : Nat) : Int)) w7 from ⟨xs ++ [p], _, r, by rw [List.length_append]; show xs.length + 1 + (gk - 1) = 8; omega, by rw [List.length_append]; rfl, S7, by rw [List.length_set]; exact SL, hr, I1.out, fun hh => by simp at hh, by rw [List.length_append]; exact L7⟩)
          clear AP L7 m7 S7 S4 L4 I1 IV hc hc6
          go_wp2
          go_roundg (gk - 1)
          case measure => omega
          case rel => exact N.out
        · obtain ⟨va, vc, hv⟩ := Wl.strs_form SS.out
          have MT := Lib.hid (show C2 w.heap.size b q xs0 w _ (.int .i64 (xs.length : Int)) wr from ⟨xs, S, r, va, vc, hv, by omega, SS.out, SL, hr, IV.out, OL.out, LL.out⟩)
          subst hv
          clear SS LL IV
          rcases (show lenc ≤ xs.length ∨ (xs.length < lenc ∧ 8 ≤ xs.length) by omega) with h1 | ⟨h1, h2⟩
          · have h1' : (lenc : Int) ≤ (xs.length : Int) := by omega
            go_wp2_with fail
            go_meet
            exact MT.out
          · have h1' : (xs.length : Int) < (lenc : Int) := by omega
            have h2' : 8 ≤ (xs.length : Int) := by omega
            go_wp2_with fail
            go_meet
            exact MT.out
    case rest =>
      obtain ⟨ys, S, r, a3, c3, rfl, hy8, st3, SL, hr, hI, hO, hL⟩ := hcut
      clear I0 HTa HTc
      have S1 : Hid (Calls Try.prog 14 #[ptr q, .int .u64 6] wc _) := Lib.hid (Wl.scan_t w.heap.size b q 0 8 _ S r 6 ys w wc hL (by omega) (by omega) (by omega) (by omega) hI (by omega))
      go_wp2_with fail
      (with_reducible refine S1.out.mono ?_)
      rintro e w8 ⟨v4, rfl, st4, L8, m8⟩
      have st3' := hL.strs m8 st3
      have SM := Lib.hid (Wl.same_any _ _ _ _ ys w8 st4 st3' (by omega))
      have L8' := Lib.hid L8
      have rn := Wl.readsN_le hy8
      clear S1 st4 st3 st3' m8 hL L8
      go_wp2_with fail
      (with_reducible refine SM.out.mono ?_)
      rintro e w9 ⟨rfl, b9⟩
      have L9 := L8'.out.call b9
      have S2 : Hid (Calls Try.prog 14 #[ptr q, .int .u64 5] w9 _) := Lib.hid (Wl.scan_g w.heap.size b q 0 8 _ S _ 5 w w9 L9 (by omega) (by omega) (by omega) (by omega) (by omega))
      clear SM L8' b9 L9
      go_wp2_with fail
      (with_reducible refine S2.out.mono ?_)
      rintro e w10 ⟨v5, rfl, st5, L10, -⟩
      obtain ⟨a5, c5, hv5⟩ := Wl.strs_form st5
      subst hv5
      have FIN := Lib.hid L10.bel
      clear S2 st5 L10
      by_cases hy : ys = []
      · have hz : ys.length = 0 := by rw [hy]; rfl
        have hn : (Wl.recs (rw_ S 0 8) 5).length = xs0.length := by rw [(hO hy).recs (by omega) (by rw [Wl.rw_length (by omega)]; omega)]
        rw [hz, hn]
        clear hI hO hy hz hn
        go_wp2
        go_ret
        exact ⟨rfl, FIN.out⟩
      · have hz : 0 < (ys.length : Int) := by have := List.length_pos_iff.2 hy; omega
        have hn : (Wl.recs (rw_ S 0 8) 5).length = 0 := by rw [old_gone hI SL hy]; rfl
        rw [hn]
        clear hI hO hy hn
        go_wp2
        go_ret
        exact ⟨rfl, FIN.out⟩

set_option maxRecDepth 100000 in
set_option maxHeartbeats 1600000 in
theorem lifted (os : Os) (started : os.Started) (H : Type) (enc : TypeId × Value → H) :
    ReturnsInHanded {} Try.checked os 5 .any (Rows.walEpochsSpec.pre6 enc Try.prog Try.f5 Rows.walEpochsRow.domain false) (Rows.walEpochsSpec.post enc Try.prog Try.f5 false true false false) := by
  refine returnsInHanded_of_change (C := Try.checked) own started (by kernel_rfl) Try.func5
    (ChangeSpec.witness6 (enc := enc) (C := Try.checked) false ⟨#[], #[.slice none 0 0, .slice none 0 0], []⟩ 8 (by kernel_rfl) (by kernel_rfl) (by kernel_rfl) (by kernel_rfl)) ?_
  intro W base args ds gs before hval0 hW hcnd _
  have hval : ∀ (j : Nat) t v, Try.f5.params[j]? = some t → args[j]? = some v → Value.okWide Try.prog W .any base t v := hval0
  have hW' := hW
  obtain ⟨p, q, hA0, hV, rfl, hfz, hnd⟩ := hW
  have hA : DataW.TrodAll enc Try.prog W 0 (fun _ => true) true Try.f5.params.toList args.toList ds p := hA0
  rw [Try.params5] at hA hval
  obtain ⟨v0, vs0, d0, ds0, p0, q0, hargs, rfl, rfl, h0, r0⟩ := trodAll_cons hA
  obtain ⟨v1, vs1, d1, ds1, p1, q1, rfl, rfl, rfl, h1, r1⟩ := trodAll_cons r0
  obtain ⟨rfl, rfl, rfl⟩ := trodAll_nil r1
  obtain rfl : args = #[v0, v1] := by cases args; simp_all
  obtain ⟨rfl, rfl⟩ := trodVars_none hV
  have lt0 : ∀ x ∈ p0, x.block < W.heap.size := by obtain ⟨m, hm⟩ := h0; exact DataW.trod_lt m _ _ _ hm
  obtain ⟨aoa, lena, capa, rfl, lea, txa⟩ := Wl.open_texts (hval 0 36 v0 rfl rfl) h0
  have lt1 : ∀ x ∈ p1, x.block < W.heap.size := by obtain ⟨m, hm⟩ := h1; exact DataW.trod_lt m _ _ _ hm
  obtain ⟨aoc, lenc, capc, rfl, lec, txc⟩ := Wl.open_texts (hval 1 36 v1 rfl rfl) h1
  clear hA0 hval0
  refine (walk _ _ _ _ _ _ W lea txa lec txc).mono fun e W' ⟨he, bel⟩ => ?_
  subst he
  exact ⟨_, rfl, _, _, _, [], _, [], hW', trodAll_mk1 (shut_bool Try.underlying4 _), (trodAll_cons_mk (Below.trod laidOut (by kernel_rfl) (of_decide_eq_true (by kernel_rfl)) h0 bel lt0) (trodAll_cons_mk (Below.trod laidOut (by kernel_rfl) (of_decide_eq_true (by kernel_rfl)) h1 bel lt1) trodAll_mk0)), rfl, bel.frame _, fun h => by cases h⟩

theorem proved : Rows.WalEpochsSaid :=
  OpenClaim.holds_of_wide 5 Try.f5 rfl rfl rfl rfl rfl rfl rfl ⟨rfl, rfl, rfl, rfl, rfl⟩ rfl rfl rfl rfl rfl (by kernel_rfl) Try.func5 (by kernel_rfl)
    (of_decide_eq_true (by kernel_rfl)) (by unfold Func.isWrapper; first | (rw [if_pos (by decide +kernel)]; kernel_rfl) | (rw [if_neg (by decide +kernel)]; exact ⟨rfl, rfl⟩))
    (fun os started H enc _ => lifted os started H enc)
#print axioms proved
end Go.Proofs.Ytcbemjckcmcelaa.walEpochs
