/- horariumlaw07.WalCuts answers true at every number and every two texts: behind a crash that loses its write a record is not there, and the next one takes its place. No condition. -/
import Derived.Test.YtcbemjckcmcelaaDkT
import Derived.Test.YtcbemjckcmcelaaWlH
import Derived.Test.YtcbemjckcmcelaaDkG
import Derived.Deep.DeepCutAuto
import Derived.Deep.RegionHeld3
import Derived.BigQuiet
namespace Go.Proofs.Ytcbemjckcmcelaa.walCuts
open Go.ChangeShapes Go.WideShapes Go.ChangeAt Go.RowKit Go.Joins
set_option maxRecDepth 100000
set_option linter.unusedVariables false
set_option linter.unusedSimpArgs false
open Dk (own laidOut in64_wf ptr DS)
open Sl (Mv)
open Wl (Lg WS Inv rw_ Ep)
theorem short43 (l : List UInt8) (w : World) :
    Calls Try.prog 24 #[.string (mkB l), .int .i64 43] w fun e w' => e = .returned (.string (mkB (l.take 43))) ∧ w' = w := Wl.short_any l 43 w (by omega)
def CuRel (B b q k : Nat) (w : World) (g : Nat) (s11 : Value) (wx : World) : Prop :=
  ∃ i S, i + g = k ∧ s11 = .int .i64 (i : Int) ∧ S.length = 8 ∧ Inv (rw_ S 0 8) 3 (List.replicate i [114]) ∧ Lg B b q ⟨0, 8, some (3, i)⟩ ⟨S, [], 0, 0⟩ w wx
/-- an Append whose flush fails -/
theorem app_two (B b q : Nat) (n e c : Nat) (S : List (List UInt8)) (r : Nat) (p : List UInt8) (w0 w : World) (h : Lg B b q ⟨0, n, some (e, c)⟩ ⟨S, [], 2, r⟩ w0 w) (hn : 1 ≤ n) (hr : n ≤ S.length) (he : 1 ≤ e) (he2 : e < 18446744073709551616) (hc : c < n) (hp : p.length ≤ 43) :
    Calls Try.prog 23 #[ptr q, .string (mkB p)] w fun x w' => x = .returned (.int .i64 18) ∧ Lg B b q ⟨0, n, none⟩ ⟨S, [(0 + c, sec p e c)], 0, r⟩ w0 w' := by
  have := Wl.append_any p w h.wl h.dk ⟨hn, by show 0 + n ≤ S.length; omega, fun e' c' hh => by cases hh; exact ⟨he, he2, by show c ≤ n; omega⟩⟩ (by omega) (by show 0 ≤ 800000; omega) (by show 2 < 9223372036854775808; omega)
  rw [Wl.appR_put hp rfl (by show c ≠ n; omega)] at this
  have e1 : Wl.putW ⟨S, [], 2, r⟩ (0 + c) (sec p e c) = (⟨S, [(0 + c, sec p e c)], 0, r⟩, false) := Wl.putW_two (by omega) (sec_length hp e c)
  dsimp only at this
  rw [e1, if_neg (by simp)] at this
  exact this.mono fun x w' ⟨hx, k, l, m⟩ => ⟨hx, h.go k l m⟩
theorem crash_lost {S : List (List UInt8)} {a f r : Nat} {x : List UInt8} (ha : a < S.length) : (Dk.crashR ⟨S, [(a, x)], f, r⟩ []).1 = ⟨S, [], 0, 0⟩ := by
  rw [Dk.crash_none]

set_option maxRecDepth 100000 in
set_option maxHeartbeats 8000000 in
theorem walk (n : Int) (a c : ByteArray) (w : World) (hn : Dk.In64 n) :
    Calls Try.prog 8 #[.int .i64 n, .string a, .string c] w fun e w' => e = .returned (.bool true) ∧ Below w.heap.size w w' := by
  obtain ⟨la, rfl⟩ : ∃ l, a = mkB l := ⟨a.data.toList, rfl⟩
  obtain ⟨lc, rfl⟩ : ∃ l, c = mkB l := ⟨c.data.toList, rfl⟩
  have t1 := Int.lt_tmod_of_pos n (show (0 : Int) < 7 by omega)
  have t2 := Int.tmod_lt_of_pos n (show (0 : Int) < 7 by omega)
  obtain ⟨k, hk⟩ : ∃ k : Nat, n.tmod 7 % 7 = (k : Int) := ⟨(n.tmod 7 % 7).toNat, by omega⟩
  have k1 : k < 7 := by omega
  have hk2 : (n.tmod 7 + 7) % 7 = (k : Int) := by omega
  have AW := Lib.hid (fun w => Wl.awake_any w)
  have SA := Lib.hid (fun w => short43 la w)
  have SC := Lib.hid (fun w => short43 lc w)
  have la43 : (la.take 43).length ≤ 43 := by simp; omega
  have lc43 : (lc.take 43).length ≤ 43 := by simp; omega
  generalize la.take 43 = pa at *
  generalize lc.take 43 = pc at *
  go_enter Try.func8, Try.ntmps8
  go_wp2_with fail
  (with_reducible refine (AW.out _).mono ?_)
  rintro e w1 ⟨rfl, b1⟩
  clear AW
  have ND : Hid (Calls Try.prog 10 #[.int .i64 8] w1 _) := Lib.hid (Wl.disk_t 8 w w1 b1 (by omega) (by omega))
  have I0 : Inv (rw_ (List.replicate 8 (List.replicate 64 0)) 0 8) 3 (List.replicate 0 [114]) := by
    have : rw_ (List.replicate 8 (List.replicate 64 (0 : UInt8))) 0 8 = List.replicate 8 (List.replicate 64 0) := by simp [rw_]
    rw [this]; exact Wl.inv_zero 8 3 (by omega)
  generalize hS0 : List.replicate 8 (List.replicate 64 (0 : UInt8)) = S0 at *
  have SL : S0.length = 8 := by rw [← hS0]; simp
  clear hS0 b1
  go_wp2_with fail
  (with_reducible refine ND.out.mono ?_)
  rintro e w2 ⟨rfl, d2, b2⟩
  clear ND
  generalize w1.heap.size + 1 = b at *
  have NL : Hid (Calls Try.prog 11 #[ptr b, .int .i64 0, .int .i64 8] w2 fun e w' => e = .returned (ptr w2.heap.size) ∧ Lg w.heap.size b w2.heap.size ⟨0, 8, none⟩ ⟨S0, [], 0, 0⟩ w w' ∧ Below w2.heap.size w2 w') := Lib.hid (Wl.log_t w.heap.size b _ 0 8 w w2 d2 b2 (by omega) (by show 0 + 8 ≤ S0.length; omega))
  clear d2 b2
  go_wp2_with fail
  (with_reducible refine NL.out.mono ?_)
  rintro e w3 ⟨rfl, L3, -⟩
  clear NL
  generalize w2.heap.size = q at *
  have ST : Hid (Calls Try.prog 17 #[ptr q, .int .u64 3] w3 fun r w' => r = .returned (.int .i64 0) ∧ Lg w.heap.size b q ⟨0, 8, some (3, 0)⟩ ⟨S0, [], 0, 0⟩ w w' ∧ Mv b q w3 w') := Lib.hid (Wl.start_t w.heap.size b q _ _ 3 w w3 L3 (by show 1 ≤ 8; omega) (by omega))
  clear L3
  go_wp2_with fail
  (with_reducible refine ST.out.mono ?_)
  rintro e w6 ⟨rfl, L6, -⟩
  have L6' := Lib.hid L6
  clear ST L6
  go_wp2_with fail
  simp only [hk2]
  go_loopg [11] k (CuRel w.heap.size b q k w)
  case atStart => exact ⟨0, S0, by omega, rfl, SL, I0, L6'.out⟩
  case round =>
    clear L6' SL I0 S0
    obtain ⟨i, S, hi, rfl, SL, hI, hL⟩ := hrel
    have LL := Lib.hid hL
    have HI := Lib.hid hI
    clear hL hI
    rcases Nat.lt_or_ge i k with hlt | hge
    · have HA : (mkB [114] : ByteArray) = ⟨#[114]⟩ := rfl
      have AP := Lib.hid (Wl.app_t w.heap.size b q 0 8 3 i S 0 [114] w wr LL.out (by omega) (by omega) (by omega) (by omega) (by omega) (by simp))
      rw [HA] at AP
      have il : (i : Int) < (k : Int) := by omega
      have i12 : (i : Int) < 7 := by omega
      have hg0 : 0 < gk := by omega
      have I1 := Lib.hid (show Inv (rw_ (S.set (0 + i) (sec [114] 3 i)) 0 8) 3 (List.replicate (i + 1) [114]) from by
        have := HI.out.push (by rw [Wl.rw_length (by omega)]; simp; omega) (p := [114]) (by simp)
        rw [← Wl.rw_set (by omega) (by simp; omega), List.length_replicate] at this
        rw [List.replicate_succ']
        exact this)
      clear LL HI HA
      go_wp2_with fail
      (with_reducible refine AP.out.mono ?_)
      rintro e w7 ⟨rfl, L7, -⟩
      have N := Lib.hid (show CuRel w.heap.size b q k w (gk - 1) (.int .i64 ((i + 1 : Nat) : Int)) w7 from ⟨i + 1, _, by omega, rfl, by rw [List.length_set]; exact SL, I1.out, L7⟩)
      clear AP L7 I1
      go_wp2
      go_roundg (gk - 1)
      case measure => omega
      case rel => exact N.out
    · obtain rfl : i = k := by omega
      have FA := Lib.hid (Dk.fail_any w.heap.size b _ 2 wr LL.out.dk (by omega))
      go_wp2_with fail
      (with_reducible refine FA.out.mono ?_)
      rintro e w7 ⟨rfl, d7, m7⟩
      have L7 : Lg w.heap.size b q ⟨0, 8, some (3, i)⟩ ⟨S, [], 2, 0⟩ w w7 := LL.out.disk d7 m7
      clear FA d7 m7 LL
      go_wp2_with fail
      (with_reducible refine (SA.out _).mono ?_)
      rintro e w8 ⟨rfl, rfl⟩
      clear SA
      have A1 := Lib.hid (app_two w.heap.size b q 8 3 i S 0 pa w w8 L7 (by omega) (by omega) (by omega) (by omega) (by omega) la43)
      clear L7
      go_wp2_with fail
      (with_reducible refine A1.out.mono ?_)
      rintro e w9 ⟨rfl, L9⟩
      clear A1
      have CR : Hid (Calls Try.prog 21 #[ptr b, .slice none 0 0] w9 _) := Lib.hid (Dk.crash_any w.heap.size b _ none [] 0 w9 L9.dk (Dk.fats_nil w9) (fun h => by simp at h) (by show 1 ≤ 1000000; omega) (by simp))
      go_wp2_with fail
      (with_reducible refine CR.out.mono ?_)
      rintro e w10 ⟨rfl, d10, m10⟩
      rw [crash_lost (by omega)] at d10
      have L10 : Lg w.heap.size b q ⟨0, 8, none⟩ ⟨S, [], 0, 0⟩ w w10 := L9.disk d10 m10
      clear CR d10 m10 L9
      have S1 : Hid (Calls Try.prog 14 #[ptr q, .int .u64 3] w10 _) := Lib.hid (Wl.scan_t w.heap.size b q 0 8 _ S 0 3 _ w w10 L10 (by omega) (by omega) (by omega) (by omega) HI.out (by omega))
      go_wp2_with fail
      (with_reducible refine S1.out.mono ?_)
      rintro e w11 ⟨v1, rfl, st1, L11, -⟩
      obtain ⟨a1, c1, hv1⟩ := Wl.strs_form st1
      rw [List.length_replicate] at hv1 L11
      subst hv1
      clear S1 L10 st1
      go_wp2_with fail
      (with_reducible refine (SC.out _).mono ?_)
      rintro e w12 ⟨rfl, rfl⟩
      have A2 := Lib.hid (Wl.app_t w.heap.size b q 0 8 3 i S _ pc w w12 L11 (by omega) (by omega) (by omega) (by omega) (by omega) lc43)
      have I2 : Inv (rw_ (S.set (0 + i) (sec pc 3 i)) 0 8) 3 (List.replicate i [114] ++ [pc]) := by
        have := HI.out.push (by rw [Wl.rw_length (by omega)]; simp; omega) (p := pc) lc43
        rw [← Wl.rw_set (by omega) (by simp; omega), List.length_replicate] at this
        exact this
      clear L11
      go_wp2_with fail
      (with_reducible refine A2.out.mono ?_)
      rintro e w13 ⟨rfl, L13, -⟩
      clear A2
      have S2 : Hid (Calls Try.prog 14 #[ptr q, .int .u64 3] w13 _) := Lib.hid (Wl.scan_t w.heap.size b q 0 8 _ _ _ 3 _ w w13 L13 (by omega) (by simp; omega) (by omega) (by omega) I2 (by have := Wl.readsN_le (k := i) (n := 8) (by omega); omega))
      clear HI
      go_wp2_with fail
      (with_reducible refine S2.out.mono ?_)
      rintro e w14 ⟨v2, rfl, st2, L14, -⟩
      obtain ⟨g, cap, hv2, -, -, hc⟩ := st2.cell (by simp)
      have len2 : (List.replicate i [114] ++ [pc]).length = i + 1 := by simp
      have x0 : w14.cell? ⟨g, i, none⟩ = some (.string (mkB pc)) := by
        have := hc i (by simp)
        rw [this]; simp
      rw [len2] at hv2
      obtain ⟨J, hJ⟩ : ∃ J, J = i + 1 := ⟨_, rfl⟩
      rw [← hJ] at hv2
      have ij : (i : Int) < (J : Int) := by omega
      have ij2 : i < J := by omega
      have je : ((J : Int) == (i : Int) + 1) = true := by simp; omega
      clear hJ
      have i7 : (i : Int) < 7 := by omega
      have i0 : 0 ≤ (i : Int) := by omega
      subst hv2
      have FIN := Lib.hid (fun j => (L14.call (Sl.below_drewN w14 j)).bel)
      have tl : ((mkB pc).toList == (mkB pc).toList) = true := by simp
      clear S2 L13 L14 st2 hc len2 I2
      generalize mkB pc = PC at *
      have wi : IntKind.i64.wrap ((i : Int) + 1) = (i : Int) + 1 := IntWalk.i64_in _ (by omega)
      go_wp2_with fail
      go_quiet ((first | (go_at_call 24; exact Calls.quiet_of_same (SC.out _)) | fail))
      go_wp2
      go_ret
      exact ⟨rfl, FIN.out _⟩

set_option maxRecDepth 100000 in
set_option maxHeartbeats 1600000 in
theorem lifted (os : Os) (started : os.Started) (H : Type) (enc : TypeId × Value → H) :
    ReturnsInHanded {} Try.checked os 8 .any (Rows.walCutsSpec.pre6 enc Try.prog Try.f8 Rows.walCutsRow.domain false) (Rows.walCutsSpec.post enc Try.prog Try.f8 false true false false) := by
  refine returnsInHanded_of_change (C := Try.checked) own started (by kernel_rfl) Try.func8
    (ChangeSpec.witness6 (enc := enc) (C := Try.checked) false ⟨#[], #[.int .i64 0, .string ⟨#[]⟩, .string ⟨#[]⟩], []⟩ 8 (by kernel_rfl) (by kernel_rfl) (by kernel_rfl) (by kernel_rfl)) ?_
  intro W base args ds gs before hval0 hW hcnd _
  have hval : ∀ (j : Nat) t v, Try.f8.params[j]? = some t → args[j]? = some v → Value.okWide Try.prog W .any base t v := hval0
  have hW' := hW
  obtain ⟨p, q, hA0, hV, rfl, hfz, hnd⟩ := hW
  have hA : DataW.TrodAll enc Try.prog W 0 (fun _ => true) true Try.f8.params.toList args.toList ds p := hA0
  rw [Try.params8] at hA hval
  obtain ⟨v0, vs0, d0, ds0, p0, q0, hargs, rfl, rfl, h0, r0⟩ := trodAll_cons hA
  obtain ⟨v1, vs1, d1, ds1, p1, q1, rfl, rfl, rfl, h1, r1⟩ := trodAll_cons r0
  obtain ⟨v2, vs2, d2, ds2, p2, q2, rfl, rfl, rfl, h2, r2⟩ := trodAll_cons r1
  obtain ⟨rfl, rfl, rfl⟩ := trodAll_nil r2
  obtain rfl : args = #[v0, v1, v2] := by cases args; simp_all
  obtain ⟨rfl, rfl⟩ := trodVars_none hV
  have lt0 : ∀ x ∈ p0, x.block < W.heap.size := by obtain ⟨m, hm⟩ := h0; exact DataW.trod_lt m _ _ _ hm
  obtain ⟨n, e0, -, -, wfn⟩ := open_int Try.underlying3 (hval 0 3 v0 rfl rfl) h0
  subst e0
  have lt1 : ∀ x ∈ p1, x.block < W.heap.size := by obtain ⟨m, hm⟩ := h1; exact DataW.trod_lt m _ _ _ hm
  obtain ⟨a, e1, -, -, sza⟩ := Go.ChangeMaps.open_string Try.underlying9 (hval 1 9 v1 rfl rfl) h1
  subst e1
  have lt2 : ∀ x ∈ p2, x.block < W.heap.size := by obtain ⟨m, hm⟩ := h2; exact DataW.trod_lt m _ _ _ hm
  obtain ⟨c, e2, -, -, szc⟩ := Go.ChangeMaps.open_string Try.underlying9 (hval 2 9 v2 rfl rfl) h2
  subst e2
  clear hA0 hval0
  refine (walk n a c W (in64_wf wfn)).mono fun e W' ⟨he, bel⟩ => ?_
  subst he
  exact ⟨_, rfl, _, _, _, [], _, [], hW', trodAll_mk1 (shut_bool Try.underlying4 _), (trodAll_cons_mk (Below.trod laidOut (by kernel_rfl) (of_decide_eq_true (by kernel_rfl)) h0 bel lt0) (trodAll_cons_mk (Below.trod laidOut (by kernel_rfl) (of_decide_eq_true (by kernel_rfl)) h1 bel lt1) (trodAll_cons_mk (Below.trod laidOut (by kernel_rfl) (of_decide_eq_true (by kernel_rfl)) h2 bel lt2) trodAll_mk0))), rfl, bel.frame _, fun h => by cases h⟩

theorem proved : Rows.WalCutsSaid :=
  OpenClaim.holds_of_wide 8 Try.f8 rfl rfl rfl rfl rfl rfl rfl ⟨rfl, rfl, rfl, rfl, rfl⟩ rfl rfl rfl rfl rfl (by kernel_rfl) Try.func8 (by kernel_rfl)
    (of_decide_eq_true (by kernel_rfl)) (by unfold Func.isWrapper; first | (rw [if_pos (by decide +kernel)]; kernel_rfl) | (rw [if_neg (by decide +kernel)]; exact ⟨rfl, rfl⟩))
    (fun os started H enc _ => lifted os started H enc)
#print axioms proved
end Go.Proofs.Ytcbemjckcmcelaa.walCuts
