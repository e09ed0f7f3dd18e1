/- horariumlaw07.WalFull answers true at every two numbers: as many records as sectors, and no more; what is too long is none. No condition. -/
import Derived.Test.YtcbemjckcmcelaaWlH
import Derived.Test.YtcbemjckcmcelaaDkG
import Derived.Deep.DeepCutAuto
import Derived.Deep.RegionHeld3
import Derived.BigQuiet
namespace Go.Proofs.Ytcbemjckcmcelaa.walFull
open Go.ChangeShapes Go.WideShapes Go.ChangeAt Go.RowKit Go.Joins
set_option maxRecDepth 100000
set_option linter.unusedVariables false
set_option linter.unusedSimpArgs false
open Dk (own laidOut in64_wf ptr DS)
open Sl (Mv)
open Wl (Lg WS Inv rw_ Ep)
theorem make44 (w : World) :
    (Instr.makeSlice 55 (.int .i64 44) (.int .i64 44)).run Try.prog w = .ok (.slice (some ⟨w.heap.size, 0, none⟩) 44 44) (w.alloc (.cells (Lib.byteCells (List.replicate 44 0)).toArray 5)) := by
  rw [← Dk.made_bytes]
  exact run_make_row' (P := Try.prog) 55 5 (.int .u8 0) 1 Try.underlying55 Dk.infoByte rfl .i64 .i64 44 (by omega) (by omega) w
theorem text44 (w : World) : (convert 55 9 (.slice (some ⟨w.heap.size, 0, none⟩) 44 44)).run Try.prog (w.alloc (.cells (Lib.byteCells (List.replicate 44 0)).toArray 5)) = .ok (.string (mkB (List.replicate 44 0))) (w.alloc (.cells (Lib.byteCells (List.replicate 44 0)).toArray 5)) := by
  have := (Dk.rowB_new w (List.replicate 44 0) 5).text 0 44 44 (by simp)
  rwa [List.drop_zero, List.take_of_length_le (by simp)] at this
theorem min_i64 (x y : Int) (w : World) : (Builtin.min_ #[3, 3] 3 #[.int .i64 x, .int .i64 y]).run Try.prog w = .ok (.int .i64 (min x y)) w := by
  simp [Builtin.min_, Builtin.min2]
  repeat' split
  all_goals first | (simp; omega) | omega | simp_all
/-- an Append of a log that is not open -/
theorem app_shut (B b q : Nat) (t : WS) (s : DS) (p : List UInt8) (w0 w : World) (h : Lg B b q t s w0 w) (ft : t.Fit s.sec.length) (ht : t.st = none) (hp : p.length ≤ 43) (ho : s.opn.length ≤ 800000) (hf : s.fail < 9223372036854775808) :
    Calls Try.prog 23 #[ptr q, .string (mkB p)] w fun x w' => x = .returned (.int .i64 13) ∧ Lg B b q t s w0 w' := by
  have := Wl.append_any p w h.wl h.dk ft (by omega) ho hf
  rw [Wl.appR_shut hp ht] at this
  have e : (⟨t.at_, t.n, none⟩ : WS) = t := by rw [← ht]
  rw [e] at this
  exact this.mono fun x w' ⟨hx, k, l, m⟩ => ⟨hx, h.go k l m⟩
theorem app_long (B b q : Nat) (t : WS) (s : DS) (p : List UInt8) (w0 w : World) (h : Lg B b q t s w0 w) (ft : t.Fit s.sec.length) (hp : 43 < p.length) (hp2 : p.length ≤ 100000) (ho : s.opn.length ≤ 800000) (hf : s.fail < 9223372036854775808) :
    Calls Try.prog 23 #[ptr q, .string (mkB p)] w fun x w' => x = .returned (.int .i64 1) ∧ Lg B b q t s w0 w' := by
  have := Wl.append_any p w h.wl h.dk ft hp2 ho hf
  rw [Wl.appR_long hp] at this
  exact this.mono fun x w' ⟨hx, k, l, m⟩ => ⟨hx, h.go k l m⟩
theorem fit_some {n e c ns : Nat} (h1 : 1 ≤ n) (h2 : n ≤ ns) (he : 1 ≤ e) (he2 : e < 18446744073709551616) (hc : c ≤ n) : (⟨0, n, some (e, c)⟩ : WS).Fit ns := ⟨h1, by show 0 + n ≤ ns; omega, fun e' c' hh => by cases hh; exact ⟨he, he2, hc⟩⟩
theorem fit_none {n ns : Nat} (h1 : 1 ≤ n) (h2 : n ≤ ns) : (⟨0, n, none⟩ : WS).Fit ns := ⟨h1, by show 0 + n ≤ ns; omega, fun e' c' hh => by cases hh⟩
def FuRel (B b q many k : Nat) (w : World) (g : Nat) (s9 : Value) (wx : World) : Prop :=
  ∃ i S, i + g = k ∧ s9 = .int .i64 (i : Int) ∧ S.length = many ∧ Lg B b q ⟨0, many, some (9, min i many)⟩ ⟨S, [], 0, 0⟩ w wx
/-- one record more, if there is room -/
theorem app_next (B b q many i : Nat) (S : List (List UInt8)) (w0 w : World) (h : Lg B b q ⟨0, many, some (9, min i many)⟩ ⟨S, [], 0, 0⟩ w0 w) (hm : 1 ≤ many) (hm2 : many ≤ 8) (hS : S.length = many) :
    Calls Try.prog 23 #[ptr q, .string ⟨#[114]⟩] w fun x w' => x = .returned (.int .i64 (if i < many then 0 else 22)) ∧ ∃ S', S'.length = many ∧ Lg B b q ⟨0, many, some (9, min (i + 1) many)⟩ ⟨S', [], 0, 0⟩ w0 w' := by
  have HA : (mkB [114] : ByteArray) = ⟨#[114]⟩ := rfl
  rcases Nat.lt_or_ge i many with hlt | hge
  · have e1 : min i many = i := by omega
    have e2 : min (i + 1) many = i + 1 := by omega
    rw [e1] at h
    rw [e2, if_pos hlt]
    have := Wl.app_t B b q 0 many 9 i S 0 [114] w0 w h hm (by omega) (by omega) (by omega) hlt (by simp)
    rw [HA] at this
    exact this.mono fun x w' ⟨hx, l, m⟩ => ⟨hx, _, by rw [List.length_set]; exact hS, l⟩
  · have e1 : min i many = many := by omega
    have e2 : min (i + 1) many = many := by omega
    rw [e1] at h
    rw [e2, if_neg (by omega)]
    have := Wl.app_full B b q _ _ 9 many [114] w0 w h (fit_some hm (by show many ≤ S.length; omega) (by omega) (by omega) (Nat.le_refl _)) rfl rfl (by simp) (by show 0 ≤ 800000; omega) (by show 0 < 9223372036854775808; omega)
    rw [HA] at this
    exact this.mono fun x w' ⟨hx, l, m⟩ => ⟨hx, S, hS, l⟩
def lenOf9 (many i : Nat) : Nat := min i many

set_option maxRecDepth 100000 in
set_option maxHeartbeats 8000000 in
theorem walk (n p : Int) (w : World) (hn : Dk.In64 n) (hp : Dk.In64 p) :
    Calls Try.prog 6 #[.int .i64 n, .int .i64 p] w fun e w' => e = .returned (.bool true) ∧ Below w.heap.size w w' := by
  have h7 := Dk.i64_and7 n
  obtain ⟨many, hm⟩ : ∃ m : Nat, 1 + bits .and .i64 n 7 = (m : Int) := ⟨(1 + n % 8).toNat, by rw [h7]; omega⟩
  have m1 : 1 ≤ many := by omega
  have m2 : many ≤ 8 := by omega
  clear h7
  have mi : (many : Int) ≤ 8 := by omega
  have mj : 1 ≤ (many : Int) := by omega
  have t1 := Int.lt_tmod_of_pos p (show (0 : Int) < 12 by omega)
  have t2 := Int.tmod_lt_of_pos p (show (0 : Int) < 12 by omega)
  obtain ⟨k, hk⟩ : ∃ k : Nat, p.tmod 12 % 12 = (k : Int) := ⟨(p.tmod 12 % 12).toNat, by omega⟩
  have k1 : k < 12 := by omega
  have hk2 : (p.tmod 12 + 12) % 12 = (k : Int) := by omega
  have mw1 : IntKind.i64.wrap (1 + bits .and .i64 n 7) = (many : Int) := by rw [hm]; exact IntWalk.i64_in _ (by omega)
  have AW := Lib.hid (fun w => Wl.awake_any w)
  have mn := min_i64
  go_enter Try.func6, Try.ntmps6
  go_wp2_with fail
  (with_reducible refine (AW.out _).mono ?_)
  rintro e w1 ⟨rfl, b1⟩
  clear AW
  have ND := Lib.hid (Wl.disk_t many w w1 b1 m1 (by omega))
  generalize hS0 : List.replicate many (List.replicate 64 (0 : UInt8)) = S0 at *
  have SL : S0.length = many := by rw [← hS0]; simp
  clear hS0 b1
  go_wp2_with fail
  (with_reducible refine ND.out.mono ?_)
  rintro e w2 ⟨rfl, d2, b2⟩
  clear ND
  generalize w1.heap.size + 1 = b at *
  have NL : Hid (Calls Try.prog 11 #[ptr b, .int .i64 0, .int .i64 (many : Int)] w2 fun e w' => e = .returned (ptr w2.heap.size) ∧ Lg w.heap.size b w2.heap.size ⟨0, many, none⟩ ⟨S0, [], 0, 0⟩ w w' ∧ Below w2.heap.size w2 w') := Lib.hid (Wl.log_t w.heap.size b _ 0 many w w2 d2 b2 m1 (by show 0 + many ≤ S0.length; omega))
  clear d2 b2
  go_wp2_with fail
  (with_reducible refine NL.out.mono ?_)
  rintro e w3 ⟨rfl, L3, -⟩
  clear NL
  generalize w2.heap.size = q at *
  have HX : (mkB [120] : ByteArray) = ⟨#[120]⟩ := rfl
  have A1 := Lib.hid (app_shut w.heap.size b q _ _ [120] w w3 L3 (fit_none m1 (by show many ≤ S0.length; omega)) rfl (by simp) (by show 0 ≤ 800000; omega) (by show 0 < 9223372036854775808; omega))
  rw [HX] at A1
  clear L3 HX
  go_wp2_with fail
  (with_reducible refine A1.out.mono ?_)
  rintro e w4 ⟨rfl, L4⟩
  clear A1
  have ZE := Lib.hid (Wl.start_zero w4 L4.wl m1)
  go_wp2_with fail
  (with_reducible refine ZE.out.mono ?_)
  rintro e w5 ⟨rfl, rfl⟩
  clear ZE
  have ST : Hid (Calls Try.prog 17 #[ptr q, .int .u64 9] w5 fun r w' => r = .returned (.int .i64 0) ∧ Lg w.heap.size b q ⟨0, many, some (9, 0)⟩ ⟨S0, [], 0, 0⟩ w w' ∧ Mv b q w5 w') := Lib.hid (Wl.start_t w.heap.size b q _ _ 9 w w5 L4 m1 (by omega))
  clear L4
  go_wp2_with fail
  (with_reducible refine ST.out.mono ?_)
  rintro e w6 ⟨rfl, L6, -⟩
  have L6' := Lib.hid L6
  clear ST L6
  go_wp2_with fail
  simp only [hk2]
  go_loopg [9] k (FuRel w.heap.size b q many k w)
  case atStart => exact ⟨0, S0, by omega, rfl, SL, by rw [Nat.zero_min]; exact L6'.out⟩
  case round =>
    clear L6' SL S0
    obtain ⟨i, S, hi, rfl, SL, hL⟩ := hrel
    have LL := Lib.hid hL
    clear hL
    rcases Nat.lt_or_ge i k with hlt | hge
    · have AP := Lib.hid (app_next w.heap.size b q many i S w wr LL.out m1 m2 SL)
      have il : (i : Int) < (k : Int) := by omega
      have i12 : (i : Int) < 12 := by omega
      have i0 : 0 ≤ (i : Int) := by omega
      have hg0 : 0 < gk := by omega
      have mn1 : Hid (((min (i + 1) many : Nat) : Int) = min ((i : Int) + 1) (many : Int)) := Lib.hid (by omega)
      have mn2 : Hid (((many - min (i + 1) many : Nat) : Int) = (many : Int) - min ((i : Int) + 1) (many : Int)) := Lib.hid (by omega)
      have q1 : 0 ≤ min ((i : Int) + 1) (many : Int) := by omega
      have q2 : min ((i : Int) + 1) (many : Int) ≤ (many : Int) := by omega
      clear LL
      rcases Nat.lt_or_ge i many with hlm | hgm
      · have AP' := AP.out
        rw [if_pos hlm] at AP'
        have APH := Lib.hid AP'
        have c1 : (i : Int) < (many : Int) := by omega
        clear AP AP' hlm
        go_wp2_with fail
        (with_reducible refine APH.out.mono ?_)
        rintro e w7 ⟨rfl, S', SL', L7⟩
        clear APH
        have LN := Lib.hid (Wl.len_any w7 L7.wl m1)
        have EL : ((Wl.lenOf (some (9, min (i + 1) many)) : Nat) : Int) = min ((i : Int) + 1) (many : Int) := mn1.out
        dsimp only at LN
        rw [EL] at LN
        go_wp2_with fail
        (with_reducible refine LN.out.mono ?_)
        rintro e w8 ⟨rfl, b8⟩
        have L8 := L7.call b8
        have LF := Lib.hid (Wl.left_any w8 L8.wl m1 (by show many ≤ 1024; omega) (by show min (i + 1) many ≤ many; omega))
        have EF : ((Wl.leftOf many (some (9, min (i + 1) many)) : Nat) : Int) = (many : Int) - min ((i : Int) + 1) (many : Int) := mn2.out
        dsimp only at LF
        rw [EF] at LF
        clear L7 b8 LN EL EF
        go_wp2_with fail
        (with_reducible refine LF.out.mono ?_)
        rintro e w9 ⟨rfl, b9⟩
        have N := Lib.hid (show FuRel w.heap.size b q many k w (gk - 1) (.int .i64 ((i + 1 : Nat) : Int)) w9 from ⟨i + 1, S', by omega, rfl, SL', L8.call b9⟩)
        clear L8 b9 LF
        go_wp2
        go_roundg (gk - 1)
        case measure => omega
        case rel => exact N.out
      · have AP' := AP.out
        rw [if_neg (by omega)] at AP'
        have APH := Lib.hid AP'
        have c1 : (many : Int) ≤ (i : Int) := by omega
        clear AP AP' hgm
        go_wp2_with fail
        (with_reducible refine APH.out.mono ?_)
        rintro e w7 ⟨rfl, S', SL', L7⟩
        clear APH
        have LN := Lib.hid (Wl.len_any w7 L7.wl m1)
        have EL : ((Wl.lenOf (some (9, min (i + 1) many)) : Nat) : Int) = min ((i : Int) + 1) (many : Int) := mn1.out
        dsimp only at LN
        rw [EL] at LN
        go_wp2_with fail
        (with_reducible refine LN.out.mono ?_)
        rintro e w8 ⟨rfl, b8⟩
        have L8 := L7.call b8
        have LF := Lib.hid (Wl.left_any w8 L8.wl m1 (by show many ≤ 1024; omega) (by show min (i + 1) many ≤ many; omega))
        have EF : ((Wl.leftOf many (some (9, min (i + 1) many)) : Nat) : Int) = (many : Int) - min ((i : Int) + 1) (many : Int) := mn2.out
        dsimp only at LF
        rw [EF] at LF
        clear L7 b8 LN EL EF
        go_wp2_with fail
        (with_reducible refine LF.out.mono ?_)
        rintro e w9 ⟨rfl, b9⟩
        have N := Lib.hid (show FuRel w.heap.size b q many k w (gk - 1) (.int .i64 ((i + 1 : Nat) : Int)) w9 from ⟨i + 1, S', by omega, rfl, SL', L8.call b9⟩)
        clear L8 b9 LF
        go_wp2
        go_roundg (gk - 1)
        case measure => omega
        case rel => exact N.out
    · obtain rfl : i = k := by omega
      have LN := Lib.hid (fun w' (l : Lg w.heap.size b q ⟨0, many, some (9, min i many)⟩ ⟨S, [], 0, 0⟩ w w') => Wl.len_any w' l.wl m1)
      have AP := Lib.hid (fun w' (l : Lg w.heap.size b q ⟨0, many, some (9, min i many)⟩ ⟨S, [], 0, 0⟩ w w') => app_long w.heap.size b q _ _ (List.replicate 44 0) w w' l (fit_some m1 (by show many ≤ S.length; omega) (by omega) (by omega) (by omega)) (by simp) (by simp) (by show 0 ≤ 800000; omega) (by show 0 < 9223372036854775808; omega))
      have mk := make44
      have tx := text44
      have i12 : (i : Int) < 12 := by omega
      have W1 := Lib.hid (LL.out.call ((Below.refl _ _).alloc (Nat.le_refl _) (.cells (Lib.byteCells (List.replicate 44 0)).toArray 5)))
      have mn1 : Hid ((((lenOf9 many i : Nat)) : Int) = min (i : Int) (many : Int)) := Lib.hid (by unfold lenOf9; omega)
      clear LL
      generalize (List.replicate 44 (0 : UInt8)) = Z at *
      generalize (Lib.byteCells Z).toArray = ZC at *
      generalize mkB Z = ZZ at *
      go_wp2_with fail
      (with_reducible refine (AP.out _ W1.out).mono ?_)
      rintro e w7 ⟨rfl, L7⟩
      clear AP W1
      go_wp2_with fail
      (with_reducible refine (LN.out _ L7).mono ?_)
      rintro e w8 ⟨rfl, b8⟩
      have FIN := Lib.hid (L7.call b8).bel
      have EL : ((Wl.lenOf (some (9, min i many)) : Nat) : Int) = min (i : Int) (many : Int) := mn1.out
      clear LN L7 b8 mn1
      rw [EL]
      clear EL
      go_wp2
      go_ret
      exact ⟨rfl, FIN.out⟩

set_option maxRecDepth 100000 in
set_option maxHeartbeats 1600000 in
theorem lifted (os : Os) (started : os.Started) (H : Type) (enc : TypeId × Value → H) :
    ReturnsInHanded {} Try.checked os 6 .any (Rows.walFullSpec.pre6 enc Try.prog Try.f6 Rows.walFullRow.domain false) (Rows.walFullSpec.post enc Try.prog Try.f6 false true false false) := by
  refine returnsInHanded_of_change (C := Try.checked) own started (by kernel_rfl) Try.func6
    (ChangeSpec.witness6 (enc := enc) (C := Try.checked) false ⟨#[], #[.int .i64 0, .int .i64 0], []⟩ 8 (by kernel_rfl) (by kernel_rfl) (by kernel_rfl) (by kernel_rfl)) ?_
  intro W base args ds gs before hval0 hW hcnd _
  have hval : ∀ (j : Nat) t v, Try.f6.params[j]? = some t → args[j]? = some v → Value.okWide Try.prog W .any base t v := hval0
  have hW' := hW
  obtain ⟨p, q, hA0, hV, rfl, hfz, hnd⟩ := hW
  have hA : DataW.TrodAll enc Try.prog W 0 (fun _ => true) true Try.f6.params.toList args.toList ds p := hA0
  rw [Try.params6] at hA hval
  obtain ⟨v0, vs0, d0, ds0, p0, q0, hargs, rfl, rfl, h0, r0⟩ := trodAll_cons hA
  obtain ⟨v1, vs1, d1, ds1, p1, q1, rfl, rfl, rfl, h1, r1⟩ := trodAll_cons r0
  obtain ⟨rfl, rfl, rfl⟩ := trodAll_nil r1
  obtain rfl : args = #[v0, v1] := by cases args; simp_all
  obtain ⟨rfl, rfl⟩ := trodVars_none hV
  have lt0 : ∀ x ∈ p0, x.block < W.heap.size := by obtain ⟨m, hm⟩ := h0; exact DataW.trod_lt m _ _ _ hm
  obtain ⟨n, e0, -, -, wfn⟩ := open_int Try.underlying3 (hval 0 3 v0 rfl rfl) h0
  subst e0
  have lt1 : ∀ x ∈ p1, x.block < W.heap.size := by obtain ⟨m, hm⟩ := h1; exact DataW.trod_lt m _ _ _ hm
  obtain ⟨p, e1, -, -, wfp⟩ := open_int Try.underlying3 (hval 1 3 v1 rfl rfl) h1
  subst e1
  clear hA0 hval0
  refine (walk n p W (in64_wf wfn) (in64_wf wfp)).mono fun e W' ⟨he, bel⟩ => ?_
  subst he
  exact ⟨_, rfl, _, _, _, [], _, [], hW', trodAll_mk1 (shut_bool Try.underlying4 _), (trodAll_cons_mk (Below.trod laidOut (by kernel_rfl) (of_decide_eq_true (by kernel_rfl)) h0 bel lt0) (trodAll_cons_mk (Below.trod laidOut (by kernel_rfl) (of_decide_eq_true (by kernel_rfl)) h1 bel lt1) trodAll_mk0)), rfl, bel.frame _, fun h => by cases h⟩

theorem proved : Rows.WalFullSaid :=
  OpenClaim.holds_of_wide 6 Try.f6 rfl rfl rfl rfl rfl rfl rfl ⟨rfl, rfl, rfl, rfl, rfl⟩ rfl rfl rfl rfl rfl (by kernel_rfl) Try.func6 (by kernel_rfl)
    (of_decide_eq_true (by kernel_rfl)) (by unfold Func.isWrapper; first | (rw [if_pos (by decide +kernel)]; kernel_rfl) | (rw [if_neg (by decide +kernel)]; exact ⟨rfl, rfl⟩))
    (fun os started H enc _ => lifted os started H enc)
#print axioms proved
end Go.Proofs.Ytcbemjckcmcelaa.walFull
