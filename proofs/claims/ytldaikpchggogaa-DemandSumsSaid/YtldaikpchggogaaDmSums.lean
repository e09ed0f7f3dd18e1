/- horariumlaw10.DemandSums answers true at every row of three numbers and every number: the work of tasks is the sum of each one; a period later it is C more. No condition. -/
import Derived.Test.YtldaikpchggogaaDmK
import Derived.Deep.DeepCutAuto
import Derived.Deep.RegionHeld3
import Derived.BigQuiet
namespace Go.Proofs.Ytldaikpchggogaa.demandSums
open Go.ChangeShapes Go.WideShapes Go.ChangeAt Go.RowKit Go.Joins
set_option maxRecDepth 100000
set_option linter.unusedVariables false
set_option linter.unusedSimpArgs false
open Pm Dm

theorem and_pow (n m : Int) (k : Nat) (hk : k ≤ 62) (hm : (BitVec.ofInt 64 m).toNat = 2 ^ k - 1) : bits .and .i64 n m = n % ((2 ^ k : Nat) : Int) := by
  have key : (BitVec.ofInt 64 n &&& BitVec.ofInt 64 m).toNat = (n % ((2 ^ 64 : Nat) : Int)).toNat % 2 ^ k := by
    rw [BitVec.toNat_and, BitVec.toNat_ofInt, hm, Nat.and_two_pow_sub_one_eq_mod]
  show IntKind.i64.wrap ((BitVec.ofInt 64 n &&& BitVec.ofInt 64 m).toNat : Nat) = n % ((2 ^ k : Nat) : Int)
  rw [key, IntKind.wrap_i64]
  have h2 : 2 ^ k ∣ 2 ^ 64 := Nat.pow_dvd_pow 2 (by omega)
  have h3 : 2 ^ k ≤ 2 ^ 62 := Nat.pow_le_pow_right (by omega) hk
  have h4 : 0 < 2 ^ k := Nat.pow_pos (by omega)
  generalize 2 ^ k = p at *
  have e : n % (p : Int) = (((n % ((2 ^ 64 : Nat) : Int)).toNat % p : Nat) : Int) := by
    rw [Int.natCast_emod, Int.toNat_of_nonneg (Int.emod_nonneg _ (by decide))]
    rw [Int.emod_emod_of_dvd]
    exact Int.natCast_dvd_natCast.2 h2
  rw [e]
  have := Nat.mod_lt (n % ((2 ^ 64 : Nat) : Int)).toNat h4
  omega
/-- i tasks were looked at -/
def SuRel (T : List Tk) (k : Int) (w : World) (g : Nat) (s t : Value) (wx : World) : Prop :=
  ∃ i : Nat, i + g = T.length ∧ s = .int .i64 (sumR (T.take i) k) ∧ t = .int .i64 (i : Int) ∧ Below w.heap.size w wx
/-- what the law asks of a task -/
structure Ask (t : Tk) (k n : Int) : Prop where
  en : oneR t k = n
  ep : oneR t (k + t.t) = n + t.c
  ez : oneR t (t.d - 1) = 0
  ed : oneR t t.d = t.c
  n0 : 0 ≤ n
  n1 : n ≤ 1101659111424
  c0 : 1 ≤ t.c
  c1 : t.c ≤ t.d
  d1 : t.d ≤ t.t
  t1 : t.t ≤ 24
theorem ask {t : Tk} {k : Int} (h : chk t = true) (h24 : t.t ≤ 24) (k0 : 0 ≤ k) (k1 : k ≤ 1073741823) : ∃ n, Ask t k n := by
  obtain ⟨-, -, h1, h2, h3, h4, -⟩ := chk_iff.1 h
  have hle := oneR_le t k
  refine ⟨oneR t k, ⟨rfl, ?_, ?_, ?_, hle.1, hle.2, h1, h2, h3, h24⟩⟩
  · rw [one_yes h (isTime_iff.2 (by omega)), one_yes h (isTime_iff.2 (by omega)), cnt_period (by omega) h3 k0, Int.mul_add]; omega
  · rw [one_yes h (isTime_iff.2 (by omega)), cnt_lt (by omega)]; simp
  · rw [one_yes h (isTime_iff.2 (by omega)), cnt_ge (by omega), Int.sub_self, Int.zero_ediv]; simp
theorem five_call {W0 w1 w' : World} {b off i : Nat} {ti tc td tt tm : Int} (h : w1.cell? ⟨b, off + i * 5, none⟩ = some (.int .i64 ti) ∧ w1.cell? ⟨b, off + i * 5 + 1, none⟩ = some (.int .i64 tc) ∧ w1.cell? ⟨b, off + i * 5 + 2, none⟩ = some (.int .i64 td) ∧ w1.cell? ⟨b, off + i * 5 + 3, none⟩ = some (.int .i64 tt) ∧ w1.cell? ⟨b, off + i * 5 + 4, none⟩ = some (.int .i64 tm) ∧ Below W0.heap.size W0 w1) (hb : Below w1.heap.size w1 w') : w'.cell? ⟨b, off + i * 5, none⟩ = some (.int .i64 ti) ∧ w'.cell? ⟨b, off + i * 5 + 1, none⟩ = some (.int .i64 tc) ∧ w'.cell? ⟨b, off + i * 5 + 2, none⟩ = some (.int .i64 td) ∧ w'.cell? ⟨b, off + i * 5 + 3, none⟩ = some (.int .i64 tt) ∧ w'.cell? ⟨b, off + i * 5 + 4, none⟩ = some (.int .i64 tm) ∧ Below W0.heap.size W0 w' := by
  obtain ⟨a0, a1, a2, a3, a4, k⟩ := h
  exact ⟨carry hb a0, carry hb a1, carry hb a2, carry hb a3, carry hb a4, k.trans (hb.mono k.size)⟩
theorem five_drew {W0 w1 : World} {b off i : Nat} {ti tc td tt tm : Int} (h : w1.cell? ⟨b, off + i * 5, none⟩ = some (.int .i64 ti) ∧ w1.cell? ⟨b, off + i * 5 + 1, none⟩ = some (.int .i64 tc) ∧ w1.cell? ⟨b, off + i * 5 + 2, none⟩ = some (.int .i64 td) ∧ w1.cell? ⟨b, off + i * 5 + 3, none⟩ = some (.int .i64 tt) ∧ w1.cell? ⟨b, off + i * 5 + 4, none⟩ = some (.int .i64 tm) ∧ Below W0.heap.size W0 w1) : w1.drew.cell? ⟨b, off + i * 5, none⟩ = some (.int .i64 ti) ∧ w1.drew.cell? ⟨b, off + i * 5 + 1, none⟩ = some (.int .i64 tc) ∧ w1.drew.cell? ⟨b, off + i * 5 + 2, none⟩ = some (.int .i64 td) ∧ w1.drew.cell? ⟨b, off + i * 5 + 3, none⟩ = some (.int .i64 tt) ∧ w1.drew.cell? ⟨b, off + i * 5 + 4, none⟩ = some (.int .i64 tm) ∧ Below W0.heap.size W0 w1.drew := by
  obtain ⟨a0, a1, a2, a3, a4, k⟩ := h
  exact ⟨a0, a1, a2, a3, a4, k.drew⟩
set_option maxRecDepth 100000 in
set_option maxHeartbeats 8000000 in
theorem walk (l : List Tri) (ao : Option Addr) (cap : Nat) (x : Int) (w : World) (hT : Tris ao l w) (hl : l.length ≤ 9223372036854775807) (hok : ∀ x ∈ l, x.Ok) :
    Calls Try.prog 6 #[.slice ao l.length cap, .int .i64 x] w fun e w' => e = .returned (.bool true) ∧ Below w.heap.size w w' := by
  have AW := Lib.hid awake_any
  have MA := Lib.hid (fun w h => made_any l ao cap w h hl hok)
  have TI := Lib.hid hT
  have ROW := Lib.hid (made8_row l)
  have CK : Hid (∀ t ∈ made8 l, chk t = true ∧ t.t ≤ 24) := Lib.hid (fun t h => made8_mem h)
  obtain ⟨k, hk, k0, k1⟩ : ∃ k, bits .and .i64 x 1073741823 = k ∧ 0 ≤ k ∧ k ≤ 1073741823 := ⟨_, and_pow x 1073741823 30 (by decide) (by decide), by omega, by omega⟩
  have hml := made8_len l
  have OF := Lib.hid (fun am cm w h => of_any (made8 l) am cm k w h (by omega))
  rw [ofR_yes ROW.out] at OF
  have AS := Lib.hid (fun i (h : i < (made8 l).length) => ask (k := k) (CK.out _ (List.getElem_mem h)).1 (CK.out _ (List.getElem_mem h)).2 k0 k1)
  have ST := Lib.hid (fun i (h : i < (made8 l).length) => add_of k (l := made8 l) (by omega) h)
  have hm8 : (made8 l).length ≤ 8 := by omega
  clear hT hok hml ROW CK
  go_enter Try.func6, Try.ntmps6
  go_wp2_with fail
  (with_reducible refine (AW.out _).mono ?_)
  rintro e w1 ⟨rfl, b1⟩
  have M1 := Lib.hid (MA.out _ (TI.out.below b1 (Nat.le_refl _)))
  have K1 := Lib.hid b1
  clear b1 MA AW TI
  go_wp2_with fail
  (with_reducible refine (M1.out).mono ?_)
  rintro e w2 ⟨v, rfl, tr, b2⟩
  obtain ⟨am, cm, rfl, -, hts⟩ := tr.form
  have T2 := Lib.hid hts
  have K2 := Lib.hid (K1.out.trans (b2.mono K1.out.size))
  have OF2 := Lib.hid (OF.out am cm)
  clear tr hts b2 K1 M1 OF
  generalize made8 l = T at *
  go_wp2_with fail
  go_loopg [8, 9] T.length (SuRel T k w2)
  case atStart => exact ⟨0, by omega, rfl, rfl, Below.refl _ _⟩
  case round =>
    obtain ⟨i, hi, rfl, rfl, hB⟩ := hrel
    have hts := T2.out.call hB
    by_cases hlt : i < T.length
    · obtain ⟨b, off, rfl, hb, hat⟩ := hts (by omega)
      have hx := hat i T[i] (List.getElem?_eq_getElem hlt)
      obtain ⟨n, en, ep, ez, ed, n0, n1, kc0, kc1, kd1, kt1⟩ := AS.out i hlt
      obtain ⟨S, M, e1, e2, e3, s0, s1, m0, m1⟩ := ST.out i hlt
      rw [e2] at en
      subst en
      have ON := Lib.hid (one_any T[i] k)
      have OP := Lib.hid (one_any T[i] (k + T[i].t))
      have OZ := Lib.hid (one_any T[i] (T[i].d - 1))
      have OD := Lib.hid (one_any T[i] T[i].d)
      rw [e2] at ON
      rw [ep] at OP
      rw [ez] at OZ
      rw [ed] at OD
      rw [e1]
      have HI := Lib.hid hi
      have KB := Lib.hid hB
      have NX := Lib.hid e3
      have hg0 : 0 < gk := by omega
      have hlt' : (i : Int) < (T.length : Int) := by omega
      clear hi hat hB e1 e2 e3 ep ez ed hts OF2 AS ST
      generalize T[i] = t at *
      obtain ⟨c0, c1, c2, c3, c4⟩ := hx
      obtain ⟨ti, tc, td, tt, tm⟩ := t
      unfold Tk.v at ON OP OZ OD
      simp only at *
      go_wp2_with fail
      (with_reducible refine (ON.out _).mono ?_)
      rintro e w3 ⟨rfl, b3⟩
      have F0 := Lib.hid (five_call ⟨c0, c1, c2, c3, c4, KB.out⟩ b3)
      have F1 := Lib.hid (five_drew F0.out)
      clear b3 c0 c1 c2 c3 c4 ON KB
      obtain ⟨c0, c1, c2, c3, c4, -⟩ := F0.out
      have ww1 : IntKind.i64.wrap (k + tt) = k + tt := wrap_in (by omega) (by omega)
      have ww2 : IntKind.i64.wrap (M + tc) = M + tc := wrap_in (by omega) (by omega)
      have ww3 : IntKind.i64.wrap (td - 1) = td - 1 := wrap_in (by omega) (by omega)
      have q1 : (M + tc != M + tc) = false := by simp
      have q2 : (tc != tc) = false := by simp
      go_wp2_with fail
      go_region_held3 (fun w' => w'.cell? ⟨b, off + i * 5, none⟩ = some (.int .i64 ti) ∧ w'.cell? ⟨b, off + i * 5 + 1, none⟩ = some (.int .i64 tc) ∧ w'.cell? ⟨b, off + i * 5 + 2, none⟩ = some (.int .i64 td) ∧ w'.cell? ⟨b, off + i * 5 + 3, none⟩ = some (.int .i64 tt) ∧ w'.cell? ⟨b, off + i * 5 + 4, none⟩ = some (.int .i64 tm) ∧ Below w2.heap.size w2 w') (first | exact F0.out | exact F1.out | assumption) (first
        | (go_at_call 17; (with_reducible refine (OP.out _).mono ?_); rintro e w4 ⟨rfl, b4⟩; (have f4 := (by first | exact five_call F1.out b4 | exact five_call F0.out b4 : w4.cell? ⟨b, off + i * 5, none⟩ = some (.int .i64 ti) ∧ w4.cell? ⟨b, off + i * 5 + 1, none⟩ = some (.int .i64 tc) ∧ w4.cell? ⟨b, off + i * 5 + 2, none⟩ = some (.int .i64 td) ∧ w4.cell? ⟨b, off + i * 5 + 3, none⟩ = some (.int .i64 tt) ∧ w4.cell? ⟨b, off + i * 5 + 4, none⟩ = some (.int .i64 tm) ∧ Below w2.heap.size w2 w4)))
        | (go_at_call 17; (with_reducible refine (OZ.out _).mono ?_); rintro e w5 ⟨rfl, b5⟩; (have f5 := five_call f4 b5))
        | (go_at_call 17; (with_reducible refine (OD.out _).mono ?_); rintro e w6 ⟨rfl, b6⟩; (have f6 := five_call f5 b6))
        | fail)
      all_goals
        have BK := Lib.hid f6.2.2.2.2.2
        clear f4 f5 f6 F0 F1 c0 c1 c2 c3 c4
        go_wp2
        go_roundg (gk - 1)
        case measure => omega
        case rel => exact ⟨i + 1, by have := HI.out; omega, by rw [NX.out], by go_num, BK.out⟩
    · have hge : (T.length : Int) ≤ (i : Int) := by omega
      rw [List.take_of_length_le (by omega)]
      have OF3 := Lib.hid (OF2.out wr hts)
      have KB := Lib.hid (K2.out.trans (hB.mono K2.out.size))
      clear hts hB hi OF2 T2 K2 AS ST hlt
      go_wp2_with fail
      (with_reducible refine (OF3.out).mono ?_)
      rintro e w3 ⟨rfl, b3⟩
      have K3 := Lib.hid (KB.out.trans (b3.mono KB.out.size))
      go_wp2
      go_ret
      exact ⟨rfl, K3.out⟩

set_option maxRecDepth 100000 in
set_option maxHeartbeats 1600000 in
theorem lifted (os : Os) (started : os.Started) (H : Type) (enc : TypeId × Value → H) :
    ReturnsInHanded {} Try.checked os 6 .any (Rows.demandSumsSpec.pre6 enc Try.prog Try.f6 Rows.demandSumsRow.domain false) (Rows.demandSumsSpec.post enc Try.prog Try.f6 false true false false) := by
  refine returnsInHanded_of_change (C := Try.checked) own started (by kernel_rfl) Try.func6
    (ChangeSpec.witness6 (enc := enc) (C := Try.checked) false ⟨#[], #[.slice none 0 0, .int .i64 0], []⟩ 8 (by kernel_rfl) (by kernel_rfl) (by kernel_rfl) (by kernel_rfl)) ?_
  intro W base args ds gs before hval0 hW hcnd _
  have hval : ∀ (j : Nat) t v, Try.f6.params[j]? = some t → args[j]? = some v → Value.okWide Try.prog W .any base t v := hval0
  have hW' := hW
  obtain ⟨p, q, hA0, hV, rfl, hfz, hnd⟩ := hW
  have hA : DataW.TrodAll enc Try.prog W 0 (fun _ => true) true Try.f6.params.toList args.toList ds p := hA0
  rw [Try.params6] at hA hval
  obtain ⟨v0, vs0, d0, ds0, p0, q0, hargs, rfl, rfl, h0, r0⟩ := trodAll_cons hA
  obtain ⟨v1, vs1, d1, ds1, p1, q1, rfl, rfl, rfl, h1, r1⟩ := trodAll_cons r0
  obtain ⟨rfl, rfl, rfl⟩ := trodAll_nil r1
  obtain rfl : args = #[v0, v1] := by cases args; simp_all
  obtain ⟨rfl, rfl⟩ := trodVars_none hV
  have lt0 : ∀ x ∈ p0, x.block < W.heap.size := by obtain ⟨m, hm⟩ := h0; exact DataW.trod_lt m _ _ _ hm
  obtain ⟨aol, ll, capl, rfl, lel, val, okl⟩ := open_tris (hval 0 23 v0 rfl rfl) h0
  have lt1 : ∀ x ∈ p1, x.block < W.heap.size := by obtain ⟨m, hm⟩ := h1; exact DataW.trod_lt m _ _ _ hm
  obtain ⟨x, e1, -, -, wfx⟩ := open_int Try.underlying2 (hval 1 2 v1 rfl rfl) h1
  subst e1
  clear hA0 hval0
  refine (walk ll aol capl x W val lel okl).mono fun e W' ⟨he, bel⟩ => ?_
  subst he
  exact ⟨_, rfl, _, _, _, [], _, [], hW', trodAll_mk1 (shut_bool Try.underlying4 _), (trodAll_cons_mk (Below.trod laidOut (by kernel_rfl) (of_decide_eq_true (by kernel_rfl)) h0 bel lt0) (trodAll_cons_mk (Below.trod laidOut (by kernel_rfl) (of_decide_eq_true (by kernel_rfl)) h1 bel lt1) trodAll_mk0)), rfl, bel.frame _, fun h => by cases h⟩

theorem proved : Rows.DemandSumsSaid :=
  OpenClaim.holds_of_wide 6 Try.f6 rfl rfl rfl rfl rfl rfl rfl ⟨rfl, rfl, rfl, rfl, rfl⟩ rfl rfl rfl rfl rfl (by kernel_rfl) Try.func6 (by kernel_rfl)
    (of_decide_eq_true (by kernel_rfl)) (by unfold Func.isWrapper; first | (rw [if_pos (by decide +kernel)]; kernel_rfl) | (rw [if_neg (by decide +kernel)]; exact ⟨rfl, rfl⟩))
    (fun os started H enc _ => lifted os started H enc)
#print axioms proved
end Go.Proofs.Ytldaikpchggogaa.demandSums
