/- Of two parts at most one is less; a part is less than the same with one more above, or one less below. For every three numbers of 64 bits, without a condition. -/
import Derived.Test.YtdddafhalcbhaaaHwG
namespace Go.Proofs.Ytdddafhalcbhaaa.wideFair
open Go.ChangeShapes Go.WideShapes Go.ChangeAt Go.RowKit Go.Joins
set_option linter.unusedVariables false
set_option linter.unusedSimpArgs false

theorem dec_congr {p q : Prop} [Decidable p] [Decidable q] (h : p ↔ q) : decide p = decide q := by simp [h]
theorem dec_true {p : Prop} [Decidable p] (h : p) : decide p = true := by simp [h]
theorem dec_false {p : Prop} [Decidable p] (h : ¬ p) : decide p = false := by simp [h]
theorem mul_lt_iff {x y z : Int} (h : 0 < y) : x * y < z * y ↔ x < z := ⟨fun k => Int.lt_of_mul_lt_mul_right k (Int.le_of_lt h), fun k => Int.mul_lt_mul_of_pos_right k h⟩
theorem less_is {a b c d : Int} (ha : Is64 a) (hb : Is64 b) (hc : Is64 c) (hd : Is64 d) (h1 : 0 < b) (h2 : 0 < d) {r : Bool} (hr : lessB a b c d = r) (w : World) :
    Calls Try.prog 24 #[.int .u64 a, .int .u64 b, .int .u64 c, .int .u64 d] w fun e w' => e = .returned (.bool r) ∧ Below w.heap.size w w' :=
  (less_any a b c d w ha hb hc hd (by simp; omega) (by simp; omega)).mono fun e w' ⟨he, hw⟩ => ⟨by rw [he, hr], hw⟩
set_option maxRecDepth 100000 in
set_option maxHeartbeats 1000000 in
theorem walk (a b c : Int) (w : World) (ha : Is64 a) (hb : Is64 b) (hc : Is64 c) :
    Calls Try.prog 7 #[.int .u64 a, .int .u64 b, .int .u64 c] w fun e w' => e = .returned (.bool true) ∧ Below w.heap.size w w' := by
  unfold Is64 at ha hb hc
  have e1 : IntKind.u64.wrap (2 + b / 4) = 2 + b / 4 := by rw [IntKind.wrap_u64]; omega
  have e2 : IntKind.u64.wrap (2 + c / 4) = 2 + c / 4 := by rw [IntKind.wrap_u64]; omega
  have e3 : IntKind.u64.wrap (a / 2 + 1) = a / 2 + 1 := by rw [IntKind.wrap_u64]; omega
  have e4 : IntKind.u64.wrap (2 + b / 4 - 1) = 2 + b / 4 - 1 := by rw [IntKind.wrap_u64]; omega
  have x64 : Is64 (a / 2) := by unfold Is64; omega
  have x64' : Is64 (a / 2 + 1) := by unfold Is64; omega
  have y64 : Is64 (2 + b / 4) := by unfold Is64; omega
  have y64' : Is64 (2 + b / 4 - 1) := by unfold Is64; omega
  have z64 : Is64 (2 + c / 4) := by unfold Is64; omega
  have y0 : 0 < 2 + b / 4 := by omega
  have y0' : 0 < 2 + b / 4 - 1 := by omega
  have x0 : 0 ≤ a / 2 := by omega
  have L1 := Lib.hid (less_is x64 y64 z64 y64 y0 y0 (r := decide (a / 2 < 2 + c / 4)) (dec_congr (mul_lt_iff y0)))
  have L2 := Lib.hid (less_is z64 y64 x64 y64 y0 y0 (r := decide (2 + c / 4 < a / 2)) (dec_congr (mul_lt_iff y0)))
  have L3 := Lib.hid (less_is x64 y64 x64' y64 y0 y0 (r := true) (dec_true ((mul_lt_iff y0).2 (by omega))))
  have L4 := Lib.hid (less_is x64' y64 x64' y64' y0 y0' (r := true) (dec_true (Int.mul_lt_mul_of_pos_left (by omega) (by omega))))
  have L5 := Lib.hid (less_is x64 y64 x64 y64 y0 y0 (r := false) (dec_false (by omega)))
  clear x64 x64' y64 y64' z64 y0 y0'
  go_enter Try.func7, Try.ntmps7
  go_wp2_with fail
  (with_reducible refine (awake_any _).mono ?_)
  rintro e w1 ⟨rfl, hb1⟩
  have bl : Below w.heap.size w w1 := by repeat (first | exact Below.refl _ _ | refine Below.trans ?_ (hb1.mono (by first | omega | (simp; done) | (simp; omega))) | refine Below.setCell ?_ (by first | omega | (simp; done) | (simp; omega)) _ | refine Below.alloc ?_ (by first | omega | (simp; done) | (simp; omega)) _ | refine Below.drew ?_)
  have zz := hb1.size
  try simp at zz
  have bn : w.heap.size ≤ w1.heap.size := by omega
  clear hb1 zz
  go_wp2_with fail
  (with_reducible refine (L1.out _).mono ?_)
  rintro e w2 ⟨rfl, hb2⟩
  replace bl : Below w.heap.size w w2 := by repeat (first | exact bl | refine Below.trans ?_ (hb2.mono (by first | omega | (simp; done) | (simp; omega))) | refine Below.setCell ?_ (by first | omega | (simp; done) | (simp; omega)) _ | refine Below.alloc ?_ (by first | omega | (simp; done) | (simp; omega)) _ | refine Below.drew ?_)
  have zz := hb2.size
  try simp at zz
  replace bn : w.heap.size ≤ w2.heap.size := by omega
  clear hb2 zz
  go_wp2_with fail
  (with_reducible refine (L2.out _).mono ?_)
  rintro e w3 ⟨rfl, hb3⟩
  replace bl : Below w.heap.size w w3 := by repeat (first | exact bl | refine Below.trans ?_ (hb3.mono (by first | omega | (simp; done) | (simp; omega))) | refine Below.setCell ?_ (by first | omega | (simp; done) | (simp; omega)) _ | refine Below.alloc ?_ (by first | omega | (simp; done) | (simp; omega)) _ | refine Below.drew ?_)
  have zz := hb3.size
  try simp at zz
  replace bn : w.heap.size ≤ w3.heap.size := by omega
  clear hb3 zz
  go_wp2_with fail
  (with_reducible refine (L3.out _).mono ?_)
  rintro e w4 ⟨rfl, hb4⟩
  replace bl : Below w.heap.size w w4 := by repeat (first | exact bl | refine Below.trans ?_ (hb4.mono (by first | omega | (simp; done) | (simp; omega))) | refine Below.setCell ?_ (by first | omega | (simp; done) | (simp; omega)) _ | refine Below.alloc ?_ (by first | omega | (simp; done) | (simp; omega)) _ | refine Below.drew ?_)
  have zz := hb4.size
  try simp at zz
  replace bn : w.heap.size ≤ w4.heap.size := by omega
  clear hb4 zz
  go_wp2_with fail
  (with_reducible refine (L4.out _).mono ?_)
  rintro e w5 ⟨rfl, hb5⟩
  replace bl : Below w.heap.size w w5 := by repeat (first | exact bl | refine Below.trans ?_ (hb5.mono (by first | omega | (simp; done) | (simp; omega))) | refine Below.setCell ?_ (by first | omega | (simp; done) | (simp; omega)) _ | refine Below.alloc ?_ (by first | omega | (simp; done) | (simp; omega)) _ | refine Below.drew ?_)
  have zz := hb5.size
  try simp at zz
  replace bn : w.heap.size ≤ w5.heap.size := by omega
  clear hb5 zz
  go_wp2_with fail
  (with_reducible refine (L5.out _).mono ?_)
  rintro e w6 ⟨rfl, hb6⟩
  replace bl : Below w.heap.size w w6 := by repeat (first | exact bl | refine Below.trans ?_ (hb6.mono (by first | omega | (simp; done) | (simp; omega))) | refine Below.setCell ?_ (by first | omega | (simp; done) | (simp; omega)) _ | refine Below.alloc ?_ (by first | omega | (simp; done) | (simp; omega)) _ | refine Below.drew ?_)
  have zz := hb6.size
  try simp at zz
  replace bn : w.heap.size ≤ w6.heap.size := by omega
  clear hb6 zz
  go_wp2_with fail
  (with_reducible refine (less_zero _ _ _ _ _ (.inl rfl)).mono ?_)
  rintro e w7 ⟨rfl, hb7⟩
  replace bl : Below w.heap.size w w7 := by repeat (first | exact bl | refine Below.trans ?_ (hb7.mono (by first | omega | (simp; done) | (simp; omega))) | refine Below.setCell ?_ (by first | omega | (simp; done) | (simp; omega)) _ | refine Below.alloc ?_ (by first | omega | (simp; done) | (simp; omega)) _ | refine Below.drew ?_)
  have zz := hb7.size
  try simp at zz
  replace bn : w.heap.size ≤ w7.heap.size := by omega
  clear hb7 zz
  go_wp2_with fail
  (with_reducible refine (less_zero _ _ _ _ _ (.inr rfl)).mono ?_)
  rintro e w8 ⟨rfl, hb8⟩
  replace bl : Below w.heap.size w w8 := by repeat (first | exact bl | refine Below.trans ?_ (hb8.mono (by first | omega | (simp; done) | (simp; omega))) | refine Below.setCell ?_ (by first | omega | (simp; done) | (simp; omega)) _ | refine Below.alloc ?_ (by first | omega | (simp; done) | (simp; omega)) _ | refine Below.drew ?_)
  have zz := hb8.size
  try simp at zz
  replace bn : w.heap.size ≤ w8.heap.size := by omega
  clear hb8 zz
  go_wp2
  all_goals (go_ret; exact ⟨rfl, by repeat (first | exact bl | refine Below.setCell ?_ (by first | omega | (simp; done) | (simp; omega)) _ | refine Below.alloc ?_ (by first | omega | (simp; done) | (simp; omega)) _ | refine Below.drew ?_)⟩)

set_option maxRecDepth 100000 in
theorem lifted (os : Os) (started : os.Started) (H : Type) (enc : TypeId × Value → H) :
    ReturnsInHanded {} Try.checked os 7 .any (Rows.wideFairSpec.pre6 enc Try.prog Try.f7 Rows.wideFairRow.domain false) (Rows.wideFairSpec.post enc Try.prog Try.f7 false true false false) := by
  refine returnsInHanded_of_change (C := Try.checked) own started (by kernel_rfl) Try.func7
    (ChangeSpec.witness6 (enc := enc) (C := Try.checked) false ⟨#[], #[.int .u64 0, .int .u64 0, .int .u64 0], []⟩ 8 (by kernel_rfl) (by kernel_rfl) (by kernel_rfl) (by kernel_rfl)) ?_
  intro W base args ds gs before hval0 hW hcnd _
  have hval : ∀ (j : Nat) t v, Try.f7.params[j]? = some t → args[j]? = some v → Value.okWide Try.prog W .any base t v := hval0
  have hW' := hW
  obtain ⟨p, q, hA0, hV, rfl, hfz, hnd⟩ := hW
  have hA : DataW.TrodAll enc Try.prog W 0 (fun _ => true) true Try.f7.params.toList args.toList ds p := hA0
  rw [Try.params7] at hA hval
  obtain ⟨v0, vs0, d0, ds0, p0, q0, hargs, rfl, rfl, h0, r0⟩ := trodAll_cons hA
  obtain ⟨v1, vs1, d1, ds1, p1, q1, rfl, rfl, rfl, h1, r1⟩ := trodAll_cons r0
  obtain ⟨v2, vs2, d2, ds2, p2, q2, rfl, rfl, rfl, h2, r2⟩ := trodAll_cons r1
  obtain ⟨rfl, rfl, rfl⟩ := trodAll_nil r2
  obtain rfl : args = #[v0, v1, v2] := by cases args; simp_all
  obtain ⟨rfl, rfl⟩ := trodVars_none hV
  have lt0 : ∀ x ∈ p0, x.block < W.heap.size := by obtain ⟨m, hm⟩ := h0; exact DataW.trod_lt m _ _ _ hm
  obtain ⟨a, e0, -, -, wfa⟩ := open_int Try.underlying22 (hval 0 22 v0 rfl rfl) h0
  subst e0
  have wa := is64_wf wfa
  have lt1 : ∀ x ∈ p1, x.block < W.heap.size := by obtain ⟨m, hm⟩ := h1; exact DataW.trod_lt m _ _ _ hm
  obtain ⟨b, e1, -, -, wfb⟩ := open_int Try.underlying22 (hval 1 22 v1 rfl rfl) h1
  subst e1
  have wb := is64_wf wfb
  have lt2 : ∀ x ∈ p2, x.block < W.heap.size := by obtain ⟨m, hm⟩ := h2; exact DataW.trod_lt m _ _ _ hm
  obtain ⟨c, e2, -, -, wfc⟩ := open_int Try.underlying22 (hval 2 22 v2 rfl rfl) h2
  subst e2
  have wc := is64_wf wfc
  clear hA0 hval0
  refine (walk a b c W wa wb wc).mono fun e W' ⟨he, bel⟩ => ?_
  subst he
  exact ⟨_, rfl, _, _, _, [], _, [], hW', trodAll_mk1 (shut_bool Try.underlying4 _), (trodAll_cons_mk (Below.trod laidOut (by kernel_rfl) (of_decide_eq_true (by kernel_rfl)) h0 bel lt0) (trodAll_cons_mk (Below.trod laidOut (by kernel_rfl) (of_decide_eq_true (by kernel_rfl)) h1 bel lt1) (trodAll_cons_mk (Below.trod laidOut (by kernel_rfl) (of_decide_eq_true (by kernel_rfl)) h2 bel lt2) trodAll_mk0))), rfl, bel.frame _, fun h => by cases h⟩

theorem proved : Rows.WideFairSaid :=
  OpenClaim.holds_of_wide 7 Try.f7 rfl rfl rfl rfl rfl rfl rfl ⟨rfl, rfl, rfl, rfl, rfl⟩ rfl rfl rfl rfl rfl (by kernel_rfl) Try.func7 (by kernel_rfl)
    (of_decide_eq_true (by kernel_rfl)) (by unfold Func.isWrapper; first | (rw [if_pos (by decide +kernel)]; kernel_rfl) | (rw [if_neg (by decide +kernel)]; exact ⟨rfl, rfl⟩))
    (fun os started H enc _ => lifted os started H enc)
#print axioms proved
end Go.Proofs.Ytdddafhalcbhaaa.wideFair
