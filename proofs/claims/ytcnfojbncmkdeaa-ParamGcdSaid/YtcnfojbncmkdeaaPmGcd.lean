/- horariumlaw09.ParamGcd answers true at every two numbers: the greatest common part divides both, and what is left has none in common. No condition. -/
import Derived.Test.YtcnfojbncmkdeaaPmN
import Derived.Deep.DeepCutAuto
import Derived.Deep.RegionHeld3
import Derived.BigQuiet
namespace Go.Proofs.Ytcnfojbncmkdeaa.paramGcd
open Go.ChangeShapes Go.WideShapes Go.ChangeAt Go.RowKit Go.Joins
set_option maxRecDepth 100000
set_option linter.unusedVariables false
set_option linter.unusedSimpArgs false
open Pm

/-- what the law asks of x and y, of their greatest common part g -/
theorem gcd_dvd {x y : Int} : x.tmod (Int.gcd x y : Int) = 0 ∧ y.tmod (Int.gcd x y : Int) = 0 :=
  ⟨Int.tmod_eq_zero_of_dvd (Int.gcd_dvd_left ..), Int.tmod_eq_zero_of_dvd (Int.gcd_dvd_right ..)⟩
theorem gcd_one {x y : Int} (h : 0 < Int.gcd x y) : Int.gcd (x.tdiv (Int.gcd x y : Int)) (y.tdiv (Int.gcd x y : Int)) = 1 := by
  unfold Int.gcd at *
  rw [Int.natAbs_tdiv, Int.natAbs_tdiv, Int.natAbs_natCast]
  show Nat.gcd (x.natAbs / Nat.gcd x.natAbs y.natAbs) (y.natAbs / Nat.gcd x.natAbs y.natAbs) = 1
  rw [Nat.gcd_div (Nat.gcd_dvd_left ..) (Nat.gcd_dvd_right ..)]
  exact Nat.div_self h
theorem gcd_pos {x y : Int} (h : ¬ (x = 0 ∧ y = 0)) : 0 < Int.gcd x y := by
  rw [Int.gcd_pos_iff]; omega
set_option maxRecDepth 100000 in
set_option maxHeartbeats 8000000 in
theorem walk (a b : Int) (w : World) (ha : I64 a) (hb : I64 b) :
    Calls Try.prog 4 #[.int .i64 a, .int .i64 b] w fun e w' => e = .returned (.bool true) ∧ Below w.heap.size w w' := by
  have AW := Lib.hid awake_any
  unfold I64 at ha hb
  go_enter Try.func4, Try.ntmps4
  go_wp2_with fail
  (with_reducible refine (AW.out _).mono ?_)
  rintro e w1 ⟨rfl, b1⟩
  obtain ⟨x, hx⟩ : ∃ x, x = a / 2 := ⟨_, rfl⟩
  obtain ⟨y, hy⟩ : ∃ y, y = b / 2 := ⟨_, rfl⟩
  have hx1 : -4611686018427387904 ≤ x ∧ x ≤ 4611686018427387903 := by omega
  have hy1 : -4611686018427387904 ≤ y ∧ y ≤ 4611686018427387903 := by omega
  obtain ⟨x0, x1⟩ := hx1
  obtain ⟨y0, y1⟩ := hy1
  have G0 := Lib.hid (fun w => gcd_any x y w (by omega) (by omega))
  have hx' := hx.symm
  have hy' := hy.symm
  clear hx hy ha hb
  by_cases hz : x = 0 ∧ y = 0
  · obtain ⟨rfl, rfl⟩ := hz
    have e0 : ((Int.gcd 0 0 : Nat) : Int) = 0 := rfl
    rw [e0] at G0
    go_wp2_with fail
    (with_reducible refine (G0.out _).mono ?_)
    rintro e w2 ⟨rfl, b2⟩
    have K := Lib.hid (b1.trans (b2.mono b1.size))
    clear b1 b2 e0
    go_wp2
    go_ret
    exact ⟨rfl, K.out⟩
  have hg := gcd_pos hz
  have hd := gcd_dvd (x := x) (y := y)
  have G1 : Hid (∀ w, Calls Try.prog 13 #[.int .i64 (x.tdiv (Int.gcd x y : Int)), .int .i64 (y.tdiv (Int.gcd x y : Int))] w fun e w' => e = .returned (.int .i64 1) ∧ Below w.heap.size w w') := Lib.hid (fun w => by
    have h1 : (x.tdiv (Int.gcd x y : Int)).natAbs ≤ x.natAbs := by rw [Int.natAbs_tdiv]; exact Nat.div_le_self _ _
    have h2 : (y.tdiv (Int.gcd x y : Int)).natAbs ≤ y.natAbs := by rw [Int.natAbs_tdiv]; exact Nat.div_le_self _ _
    have := gcd_any (x.tdiv (Int.gcd x y : Int)) (y.tdiv (Int.gcd x y : Int)) w (by omega) (by omega)
    rw [gcd_one hg] at this
    exact this)
  have G2 : Hid (∀ w, Calls Try.prog 13 #[.int .i64 y, .int .i64 x] w fun e w' => e = .returned (.int .i64 (Int.gcd x y : Int)) ∧ Below w.heap.size w w') := Lib.hid (fun w => by
    have := gcd_any y x w (by omega) (by omega)
    rw [Int.gcd_comm] at this
    exact this)
  have G3 : Hid (∀ w, Calls Try.prog 13 #[.int .i64 (-x), .int .i64 y] w fun e w' => e = .returned (.int .i64 (Int.gcd x y : Int)) ∧ Below w.heap.size w w') := Lib.hid (fun w => by
    have := gcd_any (-x) y w (by omega) (by omega)
    rw [Int.neg_gcd] at this
    exact this)
  have hgb : Int.gcd x y ≤ 4611686018427387904 := by
    by_cases h0 : x = 0
    · have : Int.gcd x y = y.natAbs := by rw [h0]; simp
      omega
    · have := Int.gcd_le_natAbs_left y h0
      omega
  have t1 : (x.tdiv (Int.gcd x y : Int)).natAbs ≤ x.natAbs := by rw [Int.natAbs_tdiv]; exact Nat.div_le_self _ _
  have t2 : (y.tdiv (Int.gcd x y : Int)).natAbs ≤ y.natAbs := by rw [Int.natAbs_tdiv]; exact Nat.div_le_self _ _
  generalize Int.gcd x y = g at *
  obtain ⟨d1, d2⟩ := hd
  have g1 : (1 : Int) ≤ (g : Int) := by omega
  have gb : ((g : Int) == 0) = false := by simp; omega
  have gz : ¬ (g : Int) = 0 := by omega
  have q1 : IntKind.i64.wrap (x.tdiv (g : Int)) = x.tdiv (g : Int) := wrap_in (by omega) (by omega)
  have q2 : IntKind.i64.wrap (y.tdiv (g : Int)) = y.tdiv (g : Int) := wrap_in (by omega) (by omega)
  have q3 : IntKind.i64.wrap (-x) = -x := wrap_in (by omega) (by omega)
  go_wp2_with fail
  (with_reducible refine (G0.out _).mono ?_)
  rintro e w2 ⟨rfl, b2⟩
  have K := Lib.hid (b1.trans (b2.mono b1.size))
  have KD := Lib.hid (K.out.drew)
  clear b1 b2 G0 hg hgb t1 t2
  have hz2 : (x == 0) = false ∨ ((x == 0) = true ∧ (y == 0) = false) := by
    by_cases h0 : x = 0
    · right; exact ⟨by simp [h0], by simp; omega⟩
    · left; simp [h0]
  have PB : Hid (∀ u v : World, Below w.heap.size w u → Below u.heap.size u v → Below w.heap.size w v) := Lib.hid (fun u v h k => h.trans (k.mono h.size))
  clear hz
  rcases hz2 with hz2 | ⟨hz2, hz3⟩
  all_goals
    go_wp2_with fail
    go_region_held3 (fun w' => Below w.heap.size w w') (first | exact KD.out | exact K.out | assumption) (first
      | (go_at_call 13; (with_reducible refine (G1.out _).mono ?_); rintro e w3 ⟨rfl, b3⟩; (have k3 := PB.out _ _ (by first | exact KD.out | exact K.out) b3))
      | (go_at_call 13; (with_reducible refine (G2.out _).mono ?_); rintro e w4 ⟨rfl, b4⟩; (have k4 := PB.out _ _ k3 b4))
      | (go_at_call 13; (with_reducible refine (G3.out _).mono ?_); rintro e w5 ⟨rfl, b5⟩; (have k5 := PB.out _ _ k4 b5))
      | fail)
    all_goals
      go_wp2
      go_ret
      exact ⟨rfl, k5⟩

set_option maxRecDepth 100000 in
set_option maxHeartbeats 1600000 in
theorem lifted (os : Os) (started : os.Started) (H : Type) (enc : TypeId × Value → H) :
    ReturnsInHanded {} Try.checked os 4 .any (Rows.paramGcdSpec.pre6 enc Try.prog Try.f4 Rows.paramGcdRow.domain false) (Rows.paramGcdSpec.post enc Try.prog Try.f4 false true false false) := by
  refine returnsInHanded_of_change (C := Try.checked) own started (by kernel_rfl) Try.func4
    (ChangeSpec.witness6 (enc := enc) (C := Try.checked) false ⟨#[], #[.int .i64 0, .int .i64 0], []⟩ 8 (by kernel_rfl) (by kernel_rfl) (by kernel_rfl) (by kernel_rfl)) ?_
  intro W base args ds gs before hval0 hW hcnd _
  have hval : ∀ (j : Nat) t v, Try.f4.params[j]? = some t → args[j]? = some v → Value.okWide Try.prog W .any base t v := hval0
  have hW' := hW
  obtain ⟨p, q, hA0, hV, rfl, hfz, hnd⟩ := hW
  have hA : DataW.TrodAll enc Try.prog W 0 (fun _ => true) true Try.f4.params.toList args.toList ds p := hA0
  rw [Try.params4] at hA hval
  obtain ⟨v0, vs0, d0, ds0, p0, q0, hargs, rfl, rfl, h0, r0⟩ := trodAll_cons hA
  obtain ⟨v1, vs1, d1, ds1, p1, q1, rfl, rfl, rfl, h1, r1⟩ := trodAll_cons r0
  obtain ⟨rfl, rfl, rfl⟩ := trodAll_nil r1
  obtain rfl : args = #[v0, v1] := by cases args; simp_all
  obtain ⟨rfl, rfl⟩ := trodVars_none hV
  have lt0 : ∀ x ∈ p0, x.block < W.heap.size := by obtain ⟨m, hm⟩ := h0; exact DataW.trod_lt m _ _ _ hm
  obtain ⟨a, e0, -, -, wfa⟩ := open_int Try.underlying2 (hval 0 2 v0 rfl rfl) h0
  subst e0
  have lt1 : ∀ x ∈ p1, x.block < W.heap.size := by obtain ⟨m, hm⟩ := h1; exact DataW.trod_lt m _ _ _ hm
  obtain ⟨b, e1, -, -, wfb⟩ := open_int Try.underlying2 (hval 1 2 v1 rfl rfl) h1
  subst e1
  clear hA0 hval0
  refine (walk a b W (i64_wf wfa) (i64_wf wfb)).mono fun e W' ⟨he, bel⟩ => ?_
  subst he
  exact ⟨_, rfl, _, _, _, [], _, [], hW', trodAll_mk1 (shut_bool Try.underlying4 _), (trodAll_cons_mk (Below.trod laidOut (by kernel_rfl) (of_decide_eq_true (by kernel_rfl)) h0 bel lt0) (trodAll_cons_mk (Below.trod laidOut (by kernel_rfl) (of_decide_eq_true (by kernel_rfl)) h1 bel lt1) trodAll_mk0)), rfl, bel.frame _, fun h => by cases h⟩

theorem proved : Rows.ParamGcdSaid :=
  OpenClaim.holds_of_wide 4 Try.f4 rfl rfl rfl rfl rfl rfl rfl ⟨rfl, rfl, rfl, rfl, rfl⟩ rfl rfl rfl rfl rfl (by kernel_rfl) Try.func4 (by kernel_rfl)
    (of_decide_eq_true (by kernel_rfl)) (by unfold Func.isWrapper; first | (rw [if_pos (by decide +kernel)]; kernel_rfl) | (rw [if_neg (by decide +kernel)]; exact ⟨rfl, rfl⟩))
    (fun os started H enc _ => lifted os started H enc)
#print axioms proved
end Go.Proofs.Ytcnfojbncmkdeaa.paramGcd
