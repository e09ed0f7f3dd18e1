/- horariumlaw11.BusySums answers true at every row of three numbers and every number: work is the sum of that of each task, at least what must be done by then, and a period later C more. No condition. -/
import Derived.Test.YtfnagjfgnbnlbaaBsN
import Derived.Deep.DeepCutAuto
import Derived.Deep.RegionHeld3
import Derived.BigQuiet
namespace Go.Proofs.Ytfnagjfgnbnlbaa.busySums
open Go.ChangeShapes Go.WideShapes Go.ChangeAt Go.RowKit Go.Joins
set_option maxRecDepth 100000
set_option linter.unusedVariables false
set_option linter.unusedSimpArgs false
open Pm Bs

theorem and_pow (n m : Int) (k : Nat) (hk : k ≤ 62) (hm : (BitVec.ofInt 64 m).toNat = 2 ^ k - 1) : bits .and .i64 n m = n % ((2 ^ k : Nat) : Int) := by
  have key : (BitVec.ofInt 64 n &&& BitVec.ofInt 64 m).toNat = (n % ((2 ^ 64 : Nat) : Int)).toNat % 2 ^ k := by
    rw [BitVec.toNat_and, BitVec.toNat_ofInt, hm, Nat.and_two_pow_sub_one_eq_mod]
  show IntKind.i64.wrap ((BitVec.ofInt 64 n &&& BitVec.ofInt 64 m).toNat : Nat) = n % ((2 ^ k : Nat) : Int)
  rw [key, IntKind.wrap_i64]
  have h2 : 2 ^ k ∣ 2 ^ 64 := Nat.pow_dvd_pow 2 (by omega)
  have h3 : 2 ^ k ≤ 2 ^ 62 := Nat.pow_le_pow_right (by omega) hk
  have h4 : 0 < 2 ^ k := Nat.pow_pos (by omega)
  generalize 2 ^ k = p at *
  have e : n % (p : Int) = (((n % ((2 ^ 64 : Nat) : Int)).toNat % p : Nat) : Int) := by
    rw [Int.natCast_emod, Int.toNat_of_nonneg (Int.emod_nonneg _ (by decide))]
    rw [Int.emod_emod_of_dvd]
    exact Int.natCast_dvd_natCast.2 h2
  rw [e]
  have := Nat.mod_lt (n % ((2 ^ 64 : Nat) : Int)).toNat h4
  omega
/-- i tasks were looked at -/
def SuRel (T : List Tk) (k : Int) (w : World) (g : Nat) (s t : Value) (wx : World) : Prop :=
  ∃ i : Nat, i + g = T.length ∧ s = .int .i64 (workR (T.take i) k) ∧ t = .int .i64 (i : Int) ∧ Below w.heap.size w wx
/-- what the law asks of a task -/
structure Ask (t : Tk) (k n : Int) : Prop where
  en : workR [t] k = n
  ep : workR [t] (k + t.t) = n + t.c
  eo : Dm.oneR t k ≤ n
  o0 : 0 ≤ Dm.oneR t k
  n0 : 0 ≤ n
  n1 : n ≤ 2148532224
  c0 : 1 ≤ t.c
  c1 : t.c ≤ t.d
  d1 : t.d ≤ t.t
  t1 : t.t ≤ 12
theorem ask {t : Tk} {k : Int} (h : chk t = true) (h12 : t.t ≤ 12) (k0 : 0 ≤ k) (k1 : k ≤ 1048575) : ∃ n, Ask t k n := by
  have h' := h
  obtain ⟨-, -, h1, h2, h3, h4, -⟩ := chk_iff.1 h'
  have hr : rowB [t] = true := rowB_yes (by simp) (by simp [h])
  have i0 : Dm.isTime k = true := Dm.isTime_iff.2 (by omega)
  have i1 : Dm.isTime (k + t.t) = true := Dm.isTime_iff.2 (by omega)
  have hle := Dm.oneR_le t k
  have ht := Bs.term_le h k0
  have e1 : workR [t] k = t.c * rel t k := by rw [workR_yes hr i0]; simp [wk]
  refine ⟨workR [t] k, ⟨rfl, ?_, ?_, hle.1, by omega, by omega, h1, h2, h3, h12⟩⟩
  · rw [workR_yes hr i1, e1]
    simp only [wk]
    rw [rel_period (by omega) k0, Int.mul_add]; omega
  · rw [e1, Dm.one_yes h i0]
    exact Int.mul_le_mul_of_nonneg_left (cnt_rel (by omega) (by omega)) (by omega)
theorem add_of {T : List Tk} {k : Int} {i : Nat} (h8 : T.length ≤ 8) (hT : ∀ t ∈ T, chk t = true) (k0 : 0 ≤ k) (k1 : k ≤ 1048575) (h : i < T.length) :
    workR (T.take (i + 1)) k = workR (T.take i) k + workR [T[i]] k ∧ 0 ≤ workR (T.take i) k ∧ workR (T.take i) k ≤ 17188257792 := by
  have i0 : Dm.isTime k = true := Dm.isTime_iff.2 (by omega)
  have hr : ∀ j, rowB (T.take j) = true := fun j => rowB_yes (by rw [List.length_take]; omega) (fun t ht => hT t (List.mem_of_mem_take ht))
  have hr1 : rowB [T[i]] = true := rowB_yes (by simp) (fun t ht => by obtain rfl : t = T[i] := by simpa using ht
                                                                      exact hT _ (List.getElem_mem h))
  have hw := wk_le (l := T.take i) (fun t ht => hT t (List.mem_of_mem_take ht)) k0
  have hb : ((T.take i).length : Int) * (k + 2147483648) ≤ 8 * (1048576 + 2147483648) := Int.mul_le_mul (by rw [List.length_take]; omega) (by omega) (by omega) (by omega)
  rw [workR_yes (hr _) i0, workR_yes (hr _) i0, workR_yes hr1 i0, wk_take h]
  refine ⟨by simp [wk], hw.1, by omega⟩
theorem slice_one (b off n cm i : Nat) (hi : i < n) (hc : n ≤ cm) (w : World) : (Instr.sliceAt 22 (.slice (some ⟨b, off, none⟩) n cm) (some (.int .i64 (i : Int))) (some (.int .i64 ((i : Int) + 1))) none).run Try.prog w = .ok (.slice (some ⟨b, off + i * 5, none⟩) 1 (cm - i)) w := by
  rw [run_sliceAt_slice w _ _ _ _ _ (by kernel_rfl), run_slice_lh w _ _ _ _ (by kernel_rfl) _ _ _ _ (by omega) (by omega) (by omega)]
  have e : (sizeOf (Try.prog.elem 22)).run Try.prog w = .ok 5 w := by kernel_rfl
  rw [e]
  have e1 : ((i : Int)).toNat = i := by omega
  have e2 : ((i : Int) + 1).toNat = i + 1 := by omega
  simp only [Result.andThen, sliced, e1, e2, Option.map_some, addr_add, Nat.add_sub_cancel_left]
  rw [if_neg (by omega)]
theorem tk_ts1 {b o : Nat} {t : Tk} {w : World} (h : TkAt b o t w) : Ts (some ⟨b, o, none⟩) [t] w := fun _ => ⟨b, o, rfl, h.lt, fun j x hj => by
  cases j with
  | zero => obtain rfl : t = x := by simpa using hj
            simpa using h
  | succ j => simp at hj⟩
theorem five_tk {w' : World} {b off i : Nat} {ti tc td tt tm : Int} {P : Prop} (h : w'.cell? ⟨b, off + i * 5, none⟩ = some (.int .i64 ti) ∧ w'.cell? ⟨b, off + i * 5 + 1, none⟩ = some (.int .i64 tc) ∧ w'.cell? ⟨b, off + i * 5 + 2, none⟩ = some (.int .i64 td) ∧ w'.cell? ⟨b, off + i * 5 + 3, none⟩ = some (.int .i64 tt) ∧ w'.cell? ⟨b, off + i * 5 + 4, none⟩ = some (.int .i64 tm) ∧ P) : TkAt b (off + i * 5) ⟨ti, tc, td, tt, tm⟩ w' := ⟨h.1, h.2.1, h.2.2.1, h.2.2.2.1, h.2.2.2.2.1⟩
theorem five_call {W0 w1 w' : World} {b off i : Nat} {ti tc td tt tm : Int} (h : w1.cell? ⟨b, off + i * 5, none⟩ = some (.int .i64 ti) ∧ w1.cell? ⟨b, off + i * 5 + 1, none⟩ = some (.int .i64 tc) ∧ w1.cell? ⟨b, off + i * 5 + 2, none⟩ = some (.int .i64 td) ∧ w1.cell? ⟨b, off + i * 5 + 3, none⟩ = some (.int .i64 tt) ∧ w1.cell? ⟨b, off + i * 5 + 4, none⟩ = some (.int .i64 tm) ∧ Below W0.heap.size W0 w1) (hb : Below w1.heap.size w1 w') : w'.cell? ⟨b, off + i * 5, none⟩ = some (.int .i64 ti) ∧ w'.cell? ⟨b, off + i * 5 + 1, none⟩ = some (.int .i64 tc) ∧ w'.cell? ⟨b, off + i * 5 + 2, none⟩ = some (.int .i64 td) ∧ w'.cell? ⟨b, off + i * 5 + 3, none⟩ = some (.int .i64 tt) ∧ w'.cell? ⟨b, off + i * 5 + 4, none⟩ = some (.int .i64 tm) ∧ Below W0.heap.size W0 w' := by
  obtain ⟨a0, a1, a2, a3, a4, k⟩ := h
  exact ⟨carry hb a0, carry hb a1, carry hb a2, carry hb a3, carry hb a4, k.trans (hb.mono k.size)⟩
theorem five_drew {W0 w1 : World} {b off i : Nat} {ti tc td tt tm : Int} (h : w1.cell? ⟨b, off + i * 5, none⟩ = some (.int .i64 ti) ∧ w1.cell? ⟨b, off + i * 5 + 1, none⟩ = some (.int .i64 tc) ∧ w1.cell? ⟨b, off + i * 5 + 2, none⟩ = some (.int .i64 td) ∧ w1.cell? ⟨b, off + i * 5 + 3, none⟩ = some (.int .i64 tt) ∧ w1.cell? ⟨b, off + i * 5 + 4, none⟩ = some (.int .i64 tm) ∧ Below W0.heap.size W0 w1) : w1.drew.cell? ⟨b, off + i * 5, none⟩ = some (.int .i64 ti) ∧ w1.drew.cell? ⟨b, off + i * 5 + 1, none⟩ = some (.int .i64 tc) ∧ w1.drew.cell? ⟨b, off + i * 5 + 2, none⟩ = some (.int .i64 td) ∧ w1.drew.cell? ⟨b, off + i * 5 + 3, none⟩ = some (.int .i64 tt) ∧ w1.drew.cell? ⟨b, off + i * 5 + 4, none⟩ = some (.int .i64 tm) ∧ Below W0.heap.size W0 w1.drew := by
  obtain ⟨a0, a1, a2, a3, a4, k⟩ := h
  exact ⟨a0, a1, a2, a3, a4, k.drew⟩
set_option maxRecDepth 100000 in
set_option maxHeartbeats 8000000 in
theorem walk (l : List Tri) (ao : Option Addr) (cap : Nat) (x : Int) (w : World) (hT : Tris ao l w) (hl : l.length ≤ 9223372036854775807) (hok : ∀ x ∈ l, x.Ok) :
    Calls Try.prog 6 #[.slice ao l.length cap, .int .i64 x] w fun e w' => e = .returned (.bool true) ∧ Below w.heap.size w w' := by
  have AW := Lib.hid awake_any
  have MA := Lib.hid (fun w h => made_any l ao cap w h hl hok)
  have TI := Lib.hid hT
  have CK : Hid (∀ t ∈ made8 l, chk t = true ∧ t.t ≤ 12) := Lib.hid (fun t h => ⟨(made8_mem h).1, (made8_mem h).2.1⟩)
  obtain ⟨k, hk, k0, k1⟩ : ∃ k, bits .and .i64 x 1048575 = k ∧ 0 ≤ k ∧ k ≤ 1048575 := ⟨_, and_pow x 1048575 20 (by decide) (by decide), by omega, by omega⟩
  have hml := made8_len l
  have OF := Lib.hid (fun am cm w h => work_any (made8 l) am cm k w h (by omega))
  have OZ := Lib.hid (fun am cm w h => work_any (made8 l) am cm 0 w h (by omega))
  rw [workR_zero (x := 0) (by omega)] at OZ
  have AS := Lib.hid (fun i (h : i < (made8 l).length) => ask (k := k) (CK.out _ (List.getElem_mem h)).1 (CK.out _ (List.getElem_mem h)).2 k0 k1)
  have ST := Lib.hid (fun i (h : i < (made8 l).length) => add_of (T := made8 l) (k := k) (by omega) (fun t h => (CK.out t h).1) k0 k1 h)
  have hm8 : (made8 l).length ≤ 8 := by omega
  clear hT hok hml CK
  go_enter Try.func6, Try.ntmps6
  go_wp2_with fail
  (with_reducible refine (AW.out _).mono ?_)
  rintro e w1 ⟨rfl, b1⟩
  have M1 := Lib.hid (MA.out _ (TI.out.below b1 (Nat.le_refl _)))
  have K1 := Lib.hid b1
  clear b1 MA AW TI
  go_wp2_with fail
  (with_reducible refine (M1.out).mono ?_)
  rintro e w2 ⟨v, rfl, tr, b2⟩
  obtain ⟨am, cm, rfl, hcm, hts⟩ := tr.form
  have T2 := Lib.hid hts
  have K2 := Lib.hid (K1.out.trans (b2.mono K1.out.size))
  clear tr hts b2 K1 M1
  have OF2 := Lib.hid (OF.out am cm)
  have OZ2 := Lib.hid (OZ.out am cm)
  clear OF OZ
  generalize made8 l = T at *
  go_wp2_with fail
  go_loopg [8, 9] T.length (SuRel T k w2)
  case atStart => exact ⟨0, by omega, by simp [workR, wk], rfl, Below.refl _ _⟩
  case round =>
    obtain ⟨i, hi, rfl, rfl, hB⟩ := hrel
    have hts := T2.out.call hB
    by_cases hlt : i < T.length
    · obtain ⟨b, off, rfl, hb, hat⟩ := hts (by omega)
      have hx := hat i T[i] (List.getElem?_eq_getElem hlt)
      obtain ⟨n, en, ep, eo, o0, n0, n1, kc0, kc1, kd1, kt1⟩ := AS.out i hlt
      obtain ⟨e3, s0, s1⟩ := ST.out i hlt
      rw [en] at e3
      have W0 := Lib.hid (fun w (h : Ts (some ⟨b, off + i * 5, none⟩) [T[i]] w) => work_any [T[i]] (some ⟨b, off + i * 5, none⟩) (cm - i) k w h (by simp))
      have W1 := Lib.hid (fun w (h : Ts (some ⟨b, off + i * 5, none⟩) [T[i]] w) => work_any [T[i]] (some ⟨b, off + i * 5, none⟩) (cm - i) (k + T[i].t) w h (by simp))
      have ON := Lib.hid (fun w => Dm.rone_any T[i] k w)
      rw [en] at W0
      rw [ep] at W1
      have HI := Lib.hid hi
      have KB := Lib.hid hB
      have NX := Lib.hid e3
      have SL := slice_one b off T.length cm i hlt hcm
      have hg0 : 0 < gk := by omega
      have hlt' : (i : Int) < (T.length : Int) := by omega
      clear hi hat hB e3 ep en hts OF2 OZ2 AS ST
      generalize T[i] = t at *
      generalize workR (T.take i) k = S at *
      obtain ⟨c0, c1, c2, c3, c4⟩ := hx
      obtain ⟨ti, tc, td, tt, tm⟩ := t
      unfold Tk.v at ON
      simp only [List.length_singleton] at *
      generalize Dm.oneR ⟨ti, tc, td, tt, tm⟩ k = o at *
      generalize cm - i = cp at *
      have W2 := Lib.hid (fun W (h : W.cell? ⟨b, off + i * 5, none⟩ = some (.int .i64 ti) ∧ W.cell? ⟨b, off + i * 5 + 1, none⟩ = some (.int .i64 tc) ∧ W.cell? ⟨b, off + i * 5 + 2, none⟩ = some (.int .i64 td) ∧ W.cell? ⟨b, off + i * 5 + 3, none⟩ = some (.int .i64 tt) ∧ W.cell? ⟨b, off + i * 5 + 4, none⟩ = some (.int .i64 tm) ∧ Below w2.heap.size w2 W) => W1.out W (tk_ts1 (five_tk h)))
      go_wp2_with fail
      (with_reducible refine (W0.out _ (tk_ts1 ⟨c0, c1, c2, c3, c4⟩)).mono ?_)
      rintro e w3 ⟨rfl, b3⟩
      have F0 := Lib.hid (five_call ⟨c0, c1, c2, c3, c4, KB.out⟩ b3)
      have F1 := Lib.hid (five_drew F0.out)
      clear b3 c0 c1 c2 c3 c4 W0 W1 KB
      obtain ⟨c0, c1, c2, c3, c4, -⟩ := F0.out
      have ww0 : IntKind.i64.wrap ((i : Int) + 1) = (i : Int) + 1 := wrap_in (by omega) (by omega)
      have ww1 : IntKind.i64.wrap (k + tt) = k + tt := wrap_in (by omega) (by omega)
      have ww2 : IntKind.i64.wrap (n + tc) = n + tc := wrap_in (by omega) (by omega)
      have q1 : (n + tc != n + tc) = false := by simp
      have q2 : decide (n < o) = false := decide_eq_false (by omega)
      go_wp2_with fail
      go_region_held3 (fun w' => w'.cell? ⟨b, off + i * 5, none⟩ = some (.int .i64 ti) ∧ w'.cell? ⟨b, off + i * 5 + 1, none⟩ = some (.int .i64 tc) ∧ w'.cell? ⟨b, off + i * 5 + 2, none⟩ = some (.int .i64 td) ∧ w'.cell? ⟨b, off + i * 5 + 3, none⟩ = some (.int .i64 tt) ∧ w'.cell? ⟨b, off + i * 5 + 4, none⟩ = some (.int .i64 tm) ∧ Below w2.heap.size w2 w') (first | exact F0.out | exact F1.out | assumption) (first
        | (go_at_call 16; (with_reducible refine (W2.out _ (by first | exact F1.out | exact F0.out)).mono ?_); rintro e w4 ⟨rfl, b4⟩; (have f4 := (by first | exact five_call F1.out b4 | exact five_call F0.out b4 : w4.cell? ⟨b, off + i * 5, none⟩ = some (.int .i64 ti) ∧ w4.cell? ⟨b, off + i * 5 + 1, none⟩ = some (.int .i64 tc) ∧ w4.cell? ⟨b, off + i * 5 + 2, none⟩ = some (.int .i64 td) ∧ w4.cell? ⟨b, off + i * 5 + 3, none⟩ = some (.int .i64 tt) ∧ w4.cell? ⟨b, off + i * 5 + 4, none⟩ = some (.int .i64 tm) ∧ Below w2.heap.size w2 w4)))
        | (go_at_call 18; (with_reducible refine (ON.out _).mono ?_); rintro e w5 ⟨rfl, b5⟩; (have f5 := five_call f4 b5))
        | fail)
      all_goals
        have BK := Lib.hid f5.2.2.2.2.2
        clear f4 f5 F0 F1 c0 c1 c2 c3 c4
        go_wp2
        go_roundg (gk - 1)
        case measure => omega
        case rel => exact ⟨i + 1, by have := HI.out; omega, by rw [NX.out], by go_num, BK.out⟩
    · have hge : (T.length : Int) ≤ (i : Int) := by omega
      have et : T.take i = T := List.take_of_length_le (by omega)
      rw [et]
      have OF3 := Lib.hid (OF2.out wr hts)
      have HT := Lib.hid hts
      have KB := Lib.hid (K2.out.trans (hB.mono K2.out.size))
      have hdec : decide (i < T.length) = false := decide_eq_false hlt
      clear hts hB hi OF2 T2 K2 AS ST hlt et
      generalize workR T k = z at *
      have q1 : (z == z) = true := by simp
      go_wp2_with fail
      (with_reducible refine (OF3.out).mono ?_)
      rintro e w3 ⟨rfl, b3⟩
      have T3 := Lib.hid (HT.out.call b3)
      have K3 := Lib.hid (KB.out.trans (b3.mono KB.out.size))
      clear b3 HT KB OF3
      go_wp2_with fail
      (with_reducible refine (OZ2.out _ T3.out).mono ?_)
      rintro e w4 ⟨rfl, b4⟩
      have K4 := Lib.hid (K3.out.trans (b4.mono K3.out.size))
      go_wp2
      go_ret
      exact ⟨rfl, K4.out⟩

set_option maxRecDepth 100000 in
set_option maxHeartbeats 1600000 in
theorem lifted (os : Os) (started : os.Started) (H : Type) (enc : TypeId × Value → H) :
    ReturnsInHanded {} Try.checked os 6 .any (Rows.busySumsSpec.pre6 enc Try.prog Try.f6 Rows.busySumsRow.domain false) (Rows.busySumsSpec.post enc Try.prog Try.f6 false true false false) := by
  refine returnsInHanded_of_change (C := Try.checked) own started (by kernel_rfl) Try.func6
    (ChangeSpec.witness6 (enc := enc) (C := Try.checked) false ⟨#[], #[.slice none 0 0, .int .i64 0], []⟩ 8 (by kernel_rfl) (by kernel_rfl) (by kernel_rfl) (by kernel_rfl)) ?_
  intro W base args ds gs before hval0 hW hcnd _
  have hval : ∀ (j : Nat) t v, Try.f6.params[j]? = some t → args[j]? = some v → Value.okWide Try.prog W .any base t v := hval0
  have hW' := hW
  obtain ⟨p, q, hA0, hV, rfl, hfz, hnd⟩ := hW
  have hA : DataW.TrodAll enc Try.prog W 0 (fun _ => true) true Try.f6.params.toList args.toList ds p := hA0
  rw [Try.params6] at hA hval
  obtain ⟨v0, vs0, d0, ds0, p0, q0, hargs, rfl, rfl, h0, r0⟩ := trodAll_cons hA
  obtain ⟨v1, vs1, d1, ds1, p1, q1, rfl, rfl, rfl, h1, r1⟩ := trodAll_cons r0
  obtain ⟨rfl, rfl, rfl⟩ := trodAll_nil r1
  obtain rfl : args = #[v0, v1] := by cases args; simp_all
  obtain ⟨rfl, rfl⟩ := trodVars_none hV
  have lt0 : ∀ x ∈ p0, x.block < W.heap.size := by obtain ⟨m, hm⟩ := h0; exact DataW.trod_lt m _ _ _ hm
  obtain ⟨aol, ll, capl, rfl, lel, val, okl⟩ := open_tris (hval 0 23 v0 rfl rfl) h0
  have lt1 : ∀ x ∈ p1, x.block < W.heap.size := by obtain ⟨m, hm⟩ := h1; exact DataW.trod_lt m _ _ _ hm
  obtain ⟨x, e1, -, -, wfx⟩ := open_int Try.underlying2 (hval 1 2 v1 rfl rfl) h1
  subst e1
  clear hA0 hval0
  refine (walk ll aol capl x W val lel okl).mono fun e W' ⟨he, bel⟩ => ?_
  subst he
  exact ⟨_, rfl, _, _, _, [], _, [], hW', trodAll_mk1 (shut_bool Try.underlying4 _), (trodAll_cons_mk (Below.trod laidOut (by kernel_rfl) (of_decide_eq_true (by kernel_rfl)) h0 bel lt0) (trodAll_cons_mk (Below.trod laidOut (by kernel_rfl) (of_decide_eq_true (by kernel_rfl)) h1 bel lt1) trodAll_mk0)), rfl, bel.frame _, fun h => by cases h⟩

theorem proved : Rows.BusySumsSaid :=
  OpenClaim.holds_of_wide 6 Try.f6 rfl rfl rfl rfl rfl rfl rfl ⟨rfl, rfl, rfl, rfl, rfl⟩ rfl rfl rfl rfl rfl (by kernel_rfl) Try.func6 (by kernel_rfl)
    (of_decide_eq_true (by kernel_rfl)) (by unfold Func.isWrapper; first | (rw [if_pos (by decide +kernel)]; kernel_rfl) | (rw [if_neg (by decide +kernel)]; exact ⟨rfl, rfl⟩))
    (fun os started H enc _ => lifted os started H enc)
#print axioms proved
end Go.Proofs.Ytfnagjfgnbnlbaa.busySums
