/- horariumlaw11.BusyMore answers true at every row of three numbers, and three numbers more: with one task more the length is not shorter; a task alone works just its C. No condition. -/
import Derived.Test.YtfnagjfgnbnlbaaBsM
import Derived.Test.YtfnagjfgnbnlbaaPmQ
import Derived.Test.YtfnagjfgnbnlbaaPmR
import Derived.Deep.DeepCutAuto
import Derived.BigQuiet
namespace Go.Proofs.Ytfnagjfgnbnlbaa.busyMore
open Go.ChangeShapes Go.WideShapes Go.ChangeAt Go.RowKit Go.Joins
set_option maxRecDepth 100000
set_option linter.unusedVariables false
set_option linter.unusedSimpArgs false
open Pm Bs

theorem tris_one (w : World) (a : Tri) (T : TypeId) : Tris (some ⟨w.heap.size, 0, none⟩) [a] (w.alloc (.cells #[.int .i64 a.a, .int .i64 a.b, .int .i64 a.c] T)) := fun _ => by
  refine ⟨_, _, rfl, by simp, fun i x hi => ?_⟩
  match i, hi with
  | 0, hi => obtain rfl : _ = x := by simpa using hi
             exact ⟨by simp [go_sem], by simp [go_sem], by simp [go_sem]⟩
  | i + 1, hi => simp at hi
theorem made_one (a : Tri) : made8 [a] = [mkP 0 a] := rfl
theorem mkP_dvd (i : Nat) (x : Tri) : (mkP i x).t.toNat ∣ 120 := per_dvd _
theorem row0 (w : World) : TRow w.heap.size (w.alloc (.cells #[] 30)) (.slice (some ⟨w.heap.size, 0, none⟩) 0 0) [] :=
  ⟨rfl, .inr ⟨w.heap.size, 0, #[], rfl, Nat.le_refl _, by show (w.heap.push _)[w.heap.size]? = _; rw [Array.getElem?_push_size], Nat.le_refl _, by simp [maxLen], rfl, rfl⟩⟩
/-- what stands of the tasks behind the cut -/
def CutRel (T : List Tk) (B : Nat) (w : World) (s : Value) (wx : World) : Prop := ∃ ao cap, s = .slice ao T.length cap ∧ Ts ao T wx ∧ Below B w wx
set_option maxRecDepth 100000 in
set_option maxHeartbeats 8000000 in
theorem walk (l : List Tri) (ao : Option Addr) (cap : Nat) (x : Tri) (w : World) (hT : Tris ao l w) (hl : l.length ≤ 9223372036854775807) (hok : ∀ x ∈ l, x.Ok) (hx : x.Ok) :
    Calls Try.prog 8 #[.slice ao l.length cap, .agg #[.int .i64 x.a, .int .i64 x.b, .int .i64 x.c]] w fun e w' => e = .returned (.bool true) ∧ Below w.heap.size w w' := by
  have AW := Lib.hid awake_any
  have MA := Lib.hid (fun w h => made_any l ao cap w h hl hok)
  have hml := made8_len l
  have MM := Lib.hid (fun T (h7 : T.length ≤ 7) hT => mor (T := T) (X := mkP 0 x) h7 hT ⟨mkP_chk (by omega) x, mkP_dvd 0 x⟩)
  have MX : Hid (∀ w, Calls Try.prog 12 #[.slice (some ⟨w.heap.size, 0, none⟩) 1 1] (w.alloc (.cells #[.int .i64 x.a, .int .i64 x.b, .int .i64 x.c] 45)) fun e w' => ∃ (g cap : Nat), e = .returned (.slice (some ⟨g, 0, none⟩) 1 cap) ∧ g < w'.heap.size ∧ TkAt g 0 (mkP 0 x) w' ∧ Below w.heap.size w w') := Lib.hid (fun w => by
    refine (made_any [x] _ 1 _ (tris_one w x _) (by simp) (by simp [hx])).mono fun e w' ⟨v, he, tr, bb⟩ => ?_
    rw [made_one] at tr
    have bel : Below w.heap.size w w' := ((Below.refl _ _).alloc (Nat.le_refl _) _).trans (bb.mono (by simp))
    rcases tr.2 with ⟨-, h0⟩ | ⟨g, cap, cur, rfl, hB, hg, -⟩
    · simp at h0
    · obtain ⟨ao, cap', hv, -, hts⟩ := tr.form
      cases hv
      obtain ⟨g', off, hgo, hgl, hat⟩ := hts (by simp)
      cases hgo
      exact ⟨g, cap, he, hgl, hat 0 _ rfl, bel⟩)
  have TI : Hid (∀ o, Tris ao l (w.alloc o)) := Lib.hid (fun o => hT.below ((Below.refl _ _).alloc (Nat.le_refl _) o) (Nat.le_refl _))
  have CKA : Hid (∀ t ∈ made8 l, chk t = true ∧ t.t.toNat ∣ 120) := Lib.hid (fun t ht => ⟨(made8_mem ht).1, (made8_mem ht).2.2⟩)
  have KA := Lib.hid (fun (o : Obj) => (Below.refl w.heap.size w).alloc (Nat.le_refl _) o)
  have C3 := Lib.hid (fun w a b c => cells3 w a b c 37)
  clear hT hok hx
  generalize mkP 0 x = X at *
  obtain ⟨xa, xb0, xc0⟩ := x
  simp only at MX ⊢
  go_enter Try.func8, Try.ntmps8
  go_wp2_with fail
  (with_reducible refine (AW.out _).mono ?_)
  rintro e w1 ⟨rfl, b1⟩
  have K1 := Lib.hid ((KA.out _).trans (b1.mono (by simp)))
  have M1 := Lib.hid (MA.out _ ((TI.out _).below b1 (Nat.le_refl _)))
  have a0 := carry b1 (p := ⟨w.heap.size, 0, none⟩) (v := .int .i64 xa) (by simp [go_sem])
  have a1 := carry b1 (p := ⟨w.heap.size, 1, none⟩) (v := .int .i64 xb0) (by simp [go_sem])
  have a2 := carry b1 (p := ⟨w.heap.size, 2, none⟩) (v := .int .i64 xc0) (by simp [go_sem])
  clear b1 MA AW TI KA
  go_wp2_with fail
  (with_reducible refine (M1.out).mono ?_)
  rintro e w2 ⟨v, rfl, tr, b2⟩
  obtain ⟨am, cm, rfl, hcm, hts⟩ := tr.form
  have a0 := carry b2 a0
  have a1 := carry b2 a1
  have a2 := carry b2 a2
  have TS := Lib.hid hts
  have K2 := Lib.hid (K1.out.trans (b2.mono K1.out.size))
  have CK : Hid (∀ t ∈ (made8 l).take 7, chk t = true ∧ t.t.toNat ∣ 120) := Lib.hid (fun t ht => CKA.out t (List.mem_of_mem_take ht))
  have T6 : Hid (Ts am ((made8 l).take 7) w2) := Lib.hid (TS.out.take 7)
  have LN : Hid (((made8 l).take 7).length ≤ 7) := Lib.hid (by rw [List.length_take]; omega)
  have LE : Hid ((made8 l).length ≤ 7 → (made8 l).length = ((made8 l).take 7).length) := Lib.hid (fun h => by rw [List.length_take]; omega)
  have LF : Hid (7 < (made8 l).length → 7 = ((made8 l).take 7).length) := Lib.hid (fun h => by rw [List.length_take]; omega)
  generalize (made8 l).take 7 = T at *
  clear tr hts b2 K1 M1 TS CKA
  generalize (made8 l).length = m at *
  have hm : m ≤ 16 := by omega
  clear hml
  have KC : Hid (w2.cell? ⟨w.heap.size, 0, none⟩ = some (.int .i64 xa) ∧ w2.cell? ⟨w.heap.size, 1, none⟩ = some (.int .i64 xb0) ∧ w2.cell? ⟨w.heap.size, 2, none⟩ = some (.int .i64 xc0)) := Lib.hid ⟨a0, a1, a2⟩
  clear a0 a1 a2
  go_upto_if 20 with (fail)
  go_cut [6] (fun s wx => CutRel T w.heap.size w s wx ∧ wx.cell? ⟨w.heap.size, 0, none⟩ = some (.int .i64 xa) ∧ wx.cell? ⟨w.heap.size, 1, none⟩ = some (.int .i64 xb0) ∧ wx.cell? ⟨w.heap.size, 2, none⟩ = some (.int .i64 xc0))
  case first =>
    by_cases h6 : 7 < m
    · have h1 : (7 : Int) < (m : Int) := by omega
      have hc2 : 7 ≤ cm := by omega
      have e := LF.out h6
      have sl : (Instr.sliceAt 22 (.slice am m cm) none (some (.int .i64 7)) none).run Try.prog w2 = .ok (.slice am 7 cm) w2 := by
        rw [run_sliceAt_slice w2 _ _ _ _ _ (by kernel_rfl), run_slice_h w2 _ _ _ _ (by kernel_rfl) _ _ (by omega) (by omega)]
        have e : (sizeOf (Try.prog.elem 22)).run Try.prog w2 = .ok 5 w2 := by kernel_rfl
        rw [e]
        simp only [Result.andThen, sliced]
        have : am.map (fun x => x.add (0 * 5)) = am := by cases am <;> simp [Addr.add]
        rw [this]
        simp
      have EE := Lib.hid e
      clear h6 e
      go_wp2_with fail
      go_meet
      exact ⟨⟨am, cm, by rw [← EE.out], T6.out, K2.out⟩, KC.out⟩
    · have h1 : (m : Int) ≤ 7 := by omega
      have EE := Lib.hid (LE.out (by omega))
      clear h6
      go_wp2_with fail
      go_meet
      exact ⟨⟨am, cm, by rw [← EE.out], T6.out, K2.out⟩, KC.out⟩
  case rest =>
    obtain ⟨⟨an, cn, rfl, hts, hB⟩, a0, a1, a2⟩ := hcut
    have hlen := LN.out
    obtain ⟨own, both, le⟩ := MM.out T hlen CK.out
    have TS := Lib.hid hts
    have KB := Lib.hid hB
    have LT := Lib.hid (fun w h => length_any T an cn w h (by omega))
    have LX := Lib.hid (fun cp g w (h : Ts (some ⟨g, 0, none⟩) [X] w) => length_any [X] (some ⟨g, 0, none⟩) cp w h (by simp))
    have DX := Lib.hid (fun cp g w (h : Ts (some ⟨g, 0, none⟩) [X] w) => rload_any [X] (some ⟨g, 0, none⟩) cp w h (by simp))
    have LTX := Lib.hid (fun ao cp w h => length_any (T ++ [X]) ao cp w h (by simp; omega))
    unfold Pm.Ld.v at DX
    simp only [List.length_singleton] at LX DX
    clear T6 K2 LE LF hts hB KC MM LN CK
    generalize lengthR T = z1 at *
    generalize lengthR (T ++ [X]) = z2 at *
    generalize lengthR [X] = z3 at *
    generalize loadR [X] = ld at *
    obtain ⟨n1, e1⟩ := z1
    obtain ⟨n2, e2⟩ := z2
    obtain ⟨n3, e3⟩ := z3
    obtain ⟨N, P, E⟩ := ld
    simp only [LenR.mk.injEq] at LT LX DX LTX own both le
    subst le
    have OW := Lib.hid own
    have BO := Lib.hid both
    clear own both
    go_wp2_with fail
    (with_reducible refine (MX.out _).mono ?_)
    rintro e w3 ⟨g, cp, rfl, hg, tx, b3⟩
    have K3 := Lib.hid (KB.out.trans (b3.mono KB.out.size))
    have T3 := Lib.hid (TS.out.call b3)
    have TX := Lib.hid tx
    clear a0 a1 a2 MX b3 TS KB tx hg
    go_wp2_with fail
    (with_reducible refine (LT.out _ T3.out).mono ?_)
    rintro e w4 ⟨rfl, b4⟩
    have K4 := Lib.hid (K3.out.trans (b4.mono K3.out.size))
    have T4 := Lib.hid (T3.out.call b4)
    have X4 := Lib.hid (TX.out.call b4)
    clear K3 T3 TX b4 LT
    have R4 := row0 w4
    have T4' : Hid (Ts an T (w4.alloc (.cells #[] 30))) := Lib.hid (T4.out.call ((Below.refl _ _).alloc (Nat.le_refl _) _))
    obtain ⟨v5, w5, hap1, r5, b5, -⟩ := trow_all w4.heap.size _ _ [] T an cn R4 T4'.out (by simp) (by simp; omega)
    rw [List.nil_append] at r5
    have B5 := Lib.hid (show Below w4.heap.size w4 w5 from ((Below.refl _ _).alloc (Nat.le_refl _) _).trans b5)
    have X5 := Lib.hid (X4.out.call B5.out)
    obtain ⟨v6, w6, hap2, r6, b6, -⟩ := trow_all w4.heap.size w5 v5 T [X] (some ⟨g, 0, none⟩) cp r5 (tk_ts X5.out) B5.out.size (by simp; omega)
    have B6 := Lib.hid (B5.out.trans b6)
    have X6 := Lib.hid (X4.out.call B6.out)
    have K6 := Lib.hid (K4.out.trans (B6.out.mono K4.out.size))
    obtain ⟨a6, c6, rfl, -, t6⟩ := r6.form
    have L6 := Lib.hid (LTX.out a6 c6 w6 t6)
    try simp only [List.length_singleton] at hap2
    generalize (T ++ [X]).length = n6 at *
    try simp only [List.length_nil] at hap1
    clear t6 r6 b6 b5 r5 R4 T4' B5 B6 X5 LTX T4 K4 X4
    go_wp2_with (first
      | (at_builtin; refine Lib.wpList_append_run _ rfl _ _ _ _ rfl _ _ rfl rfl _ _ hap1 ?_)
      | (at_builtin; refine Lib.wpList_append_run _ rfl _ _ _ _ rfl _ _ rfl rfl _ _ hap2 ?_))
    (with_reducible refine L6.out.mono ?_)
    rintro e w7 ⟨rfl, b7⟩
    have K7 := Lib.hid (K6.out.trans (b7.mono K6.out.size))
    have X7 := Lib.hid (X6.out.call b7)
    clear hap1 hap2 b7 K6 X6 L6
    go_wp2_with fail
    (with_reducible refine (LX.out _ _ _ (tk_ts X7.out)).mono ?_)
    rintro e w8 ⟨rfl, b8⟩
    have K8 := Lib.hid (K7.out.trans (b8.mono K7.out.size))
    have X8 := Lib.hid (X7.out.call b8)
    clear b8 K7 X7 LX
    go_wp2_with fail
    (with_reducible refine (DX.out _ _ _ (tk_ts X8.out)).mono ?_)
    rintro e w9 ⟨rfl, b9⟩
    have K9 := Lib.hid (fun o => (K8.out.trans (b9.mono K8.out.size)).alloc (Nat.le_trans K8.out.size b9.size) o)
    have X9 := Lib.hid (fun o => (X8.out.call b9).call ((Below.refl _ _).alloc (Nat.le_refl _) o))
    have C4 := Lib.hid (C3.out w9 (.int .i64 N) (.int .i64 P) (.int .i64 0))
    obtain ⟨x0, x1, x2⟩ := C4.out
    have y1 := (X9.out (.cells #[.int .i64 N, .int .i64 P, .int .i64 0] 37)).c1
    simp only [Nat.zero_add] at y1
    clear b9 K8 X8 DX C3 C4 X9
    have q0 : (X.c != X.c) = false := by simp
    by_cases hp : N < P
    · obtain ⟨rfl, rfl⟩ := OW.out hp
      clear OW
      rcases BO.out with ⟨rfl, rfl, h⟩ | ⟨rfl, h⟩ | ⟨h1, h⟩
      · clear BO
        go_wp2
        go_ret
        exact ⟨rfl, K9.out _⟩
      · have q1 : (e2 == 0) = false := by simpa using h
        have q2 : (e2 != 0) = true := by simpa using h
        clear BO h
        go_wp2
        go_ret
        exact ⟨rfl, K9.out _⟩
      · have q1 : (e2 == 0) = false := by simpa using h
        have q2 : (e2 != 0) = true := by simpa using h
        have q3 : (e1 == 0) = false := by simpa using h1
        have q4 : (e1 != 0) = true := by simpa using h1
        clear BO h h1
        go_wp2
        go_ret
        exact ⟨rfl, K9.out _⟩
    · have hp' : P ≤ N := by omega
      clear OW hp
      rcases BO.out with ⟨rfl, rfl, h⟩ | ⟨rfl, h⟩ | ⟨h1, h⟩
      · clear BO
        go_wp2
        go_ret
        exact ⟨rfl, K9.out _⟩
      · have q1 : (e2 == 0) = false := by simpa using h
        have q2 : (e2 != 0) = true := by simpa using h
        clear BO h
        go_wp2
        go_ret
        exact ⟨rfl, K9.out _⟩
      · have q1 : (e2 == 0) = false := by simpa using h
        have q2 : (e2 != 0) = true := by simpa using h
        have q3 : (e1 == 0) = false := by simpa using h1
        have q4 : (e1 != 0) = true := by simpa using h1
        clear BO h h1
        go_wp2
        go_ret
        exact ⟨rfl, K9.out _⟩

set_option maxRecDepth 100000 in
set_option maxHeartbeats 1600000 in
theorem lifted (os : Os) (started : os.Started) (H : Type) (enc : TypeId × Value → H) :
    ReturnsInHanded {} Try.checked os 8 .any (Rows.busyMoreSpec.pre6 enc Try.prog Try.f8 Rows.busyMoreRow.domain false) (Rows.busyMoreSpec.post enc Try.prog Try.f8 false true false false) := by
  refine returnsInHanded_of_change (C := Try.checked) own started (by kernel_rfl) Try.func8
    (ChangeSpec.witness6 (enc := enc) (C := Try.checked) false ⟨#[], #[.slice none 0 0, .agg #[.int .i64 0, .int .i64 0, .int .i64 0]], []⟩ 8 (by kernel_rfl) (by kernel_rfl) (by kernel_rfl) (by kernel_rfl)) ?_
  intro W base args ds gs before hval0 hW hcnd _
  have hval : ∀ (j : Nat) t v, Try.f8.params[j]? = some t → args[j]? = some v → Value.okWide Try.prog W .any base t v := hval0
  have hW' := hW
  obtain ⟨p, q, hA0, hV, rfl, hfz, hnd⟩ := hW
  have hA : DataW.TrodAll enc Try.prog W 0 (fun _ => true) true Try.f8.params.toList args.toList ds p := hA0
  rw [Try.params8] at hA hval
  obtain ⟨v0, vs0, d0, ds0, p0, q0, hargs, rfl, rfl, h0, r0⟩ := trodAll_cons hA
  obtain ⟨v1, vs1, d1, ds1, p1, q1, rfl, rfl, rfl, h1, r1⟩ := trodAll_cons r0
  obtain ⟨rfl, rfl, rfl⟩ := trodAll_nil r1
  obtain rfl : args = #[v0, v1] := by cases args; simp_all
  obtain ⟨rfl, rfl⟩ := trodVars_none hV
  have lt0 : ∀ x ∈ p0, x.block < W.heap.size := by obtain ⟨m, hm⟩ := h0; exact DataW.trod_lt m _ _ _ hm
  obtain ⟨aol, ll, capl, rfl, lel, val, okl⟩ := open_tris (hval 0 23 v0 rfl rfl) h0
  have lt1 : ∀ x ∈ p1, x.block < W.heap.size := by obtain ⟨m, hm⟩ := h1; exact DataW.trod_lt m _ _ _ hm
  obtain ⟨xx, rfl, okx⟩ := open_tri_v (hval 1 45 v1 rfl rfl) h1
  clear hA0 hval0
  refine (walk ll aol capl xx W val lel okl okx).mono fun e W' ⟨he, bel⟩ => ?_
  subst he
  exact ⟨_, rfl, _, _, _, [], _, [], hW', trodAll_mk1 (shut_bool Try.underlying4 _), (trodAll_cons_mk (Below.trod laidOut (by kernel_rfl) (of_decide_eq_true (by kernel_rfl)) h0 bel lt0) (trodAll_cons_mk (Below.trod laidOut (by kernel_rfl) (of_decide_eq_true (by kernel_rfl)) h1 bel lt1) trodAll_mk0)), rfl, bel.frame _, fun h => by cases h⟩

theorem proved : Rows.BusyMoreSaid :=
  OpenClaim.holds_of_wide 8 Try.f8 rfl rfl rfl rfl rfl rfl rfl ⟨rfl, rfl, rfl, rfl, rfl⟩ rfl rfl rfl rfl rfl (by kernel_rfl) Try.func8 (by kernel_rfl)
    (of_decide_eq_true (by kernel_rfl)) (by unfold Func.isWrapper; first | (rw [if_pos (by decide +kernel)]; kernel_rfl) | (rw [if_neg (by decide +kernel)]; exact ⟨rfl, rfl⟩))
    (fun os started H enc _ => lifted os started H enc)
#print axioms proved
end Go.Proofs.Ytfnagjfgnbnlbaa.busyMore
