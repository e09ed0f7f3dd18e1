/- horariumlaw02.CrcParts answers true at every text and every number, and leaves its arguments as they were: the sum of a text is that of its first part and the rest behind it, of one table as of another. No condition. -/
import Derived.Test.YtjogdkljimbpcaaCcG
import Derived.Deep.RegionHeld3
import Derived.Deep.DeepCutAuto
namespace Go.Proofs.Ytjogdkljimbpcaa.crcParts
open Go.ChangeShapes Go.WideShapes Go.ChangeAt Go.RowKit Go.Joins
set_option linter.unusedVariables false
set_option linter.unusedSimpArgs false

/-- both tables are there; of what was there before nothing has turned -/
structure Two (w : World) (b u : Nat) (wx : World) : Prop where
  t : Tbl wx b
  v : Tbl wx u
  bel : Below w.heap.size w wx
theorem Two.drew {w wx : World} {b u : Nat} (h : Two w b u wx) : Two w b u wx.drew := by
  have e : Below wx.heap.size wx wx.drew := (Below.refl _ _).drew
  exact ⟨h.t.call e, h.v.call e, h.bel.drew⟩
theorem Two.first {w wx wy : World} {b u : Nat} (h : Two w b u wx) (hb : w.heap.size ≤ b) (hn : u ≠ b) (t : Full wy b) (a : Apart b wx wy) : Two w b u wy :=
  ⟨t.tbl, h.v.apart a hn, h.bel.trans (a.far hb h.bel.size)⟩
theorem Two.second {w wx wy : World} {b u : Nat} (h : Two w b u wx) (hu : w.heap.size ≤ u) (hn : b ≠ u) (t : Full wy u) (a : Apart u wx wy) : Two w b u wy :=
  ⟨h.t.apart a hn, t.tbl, h.bel.trans (a.far hu h.bel.size)⟩
theorem extract_toList (s : ByteArray) (a c : Nat) : (s.extract a c).data.toList = (s.data.toList.drop a).take (c - a) := by
  rw [ByteArray.data_extract]; simp [List.take_drop]
theorem more_parts {s : ByteArray} {k : Nat} (h : k ≤ s.size) : more (more 0 (s.extract 0 k)) (s.extract k s.size) = more 0 s := by
  unfold more
  rw [xor_ones_ones, ← fold_append]
  congr 2
  rw [extract_toList, extract_toList]
  rw [Nat.sub_zero, List.drop_zero, List.take_of_length_le (l := List.drop k s.data.toList) (by simp)]
  exact List.take_append_drop _ _
theorem extract_size {s : ByteArray} {a c : Nat} (h : s.size ≤ 1000) : (s.extract a c).size ≤ 1000 := by rw [ByteArray.size_extract]; omega
theorem two_sum {w : World} {b u : Nat} (t : ByteArray) (ht : t.size ≤ 1000) (hb : w.heap.size ≤ b) (hn : u ≠ b) (wx : World) (h : Two w b u wx) :
    Calls Try.prog 14 #[.pointer (some ⟨b, 0, none⟩), .string t] wx fun e w' => e = .returned (.int .u32 (more 0 t : Int)) ∧ Two w b u w' :=
  (sum_any b t wx h.t ht).mono fun e w' ⟨he, t, a⟩ => ⟨he, h.first hb hn t a⟩
theorem two_sum2 {w : World} {b u : Nat} (t : ByteArray) (ht : t.size ≤ 1000) (hu : w.heap.size ≤ u) (hn : b ≠ u) (wx : World) (h : Two w b u wx) :
    Calls Try.prog 14 #[.pointer (some ⟨u, 0, none⟩), .string t] wx fun e w' => e = .returned (.int .u32 (more 0 t : Int)) ∧ Two w b u w' :=
  (sum_any u t wx h.v ht).mono fun e w' ⟨he, t, a⟩ => ⟨he, h.second hu hn t a⟩
theorem two_more {w : World} {b u x y : Nat} (t : ByteArray) (hx : Is32 x) (ht : t.size ≤ 1000) (hb : w.heap.size ≤ b) (hn : u ≠ b) (e : more x t = y) (wx : World) (h : Two w b u wx) :
    Calls Try.prog 16 #[.pointer (some ⟨b, 0, none⟩), .int .u32 (x : Int), .string t] wx fun e w' => e = .returned (.int .u32 (y : Int)) ∧ Two w b u w' :=
  (more_any b x t wx h.t hx ht).mono fun _ w' ⟨he, t, a⟩ => ⟨by rw [he, e], h.first hb hn t a⟩
theorem two_right {w : World} {b u : Nat} (t : ByteArray) (ht : t.size ≤ 1000) (hb : w.heap.size ≤ b) (hn : u ≠ b) (wx : World) (h : Two w b u wx) :
    Calls Try.prog 18 #[.pointer (some ⟨b, 0, none⟩), .string t, .int .u32 (more 0 t : Int)] wx fun e w' => e = .returned (.bool true) ∧ Two w b u w' :=
  (right_any b t (more 0 t) wx h.t ht).mono fun _ w' ⟨he, t, a⟩ => ⟨by rw [he, decide_eq_true rfl], h.first hb hn t a⟩
set_option maxRecDepth 100000 in
set_option maxHeartbeats 8000000 in
theorem walk (s : ByteArray) (a : Int) (w : World) :
    Calls Try.prog 4 #[.string s, .int .i64 a] w fun e w' => e = .returned (.bool true) ∧ Below w.heap.size w w' := by
  have S1 : Hid (∀ w : World, Calls Try.prog 10 #[.string s, .int .i64 300] w fun e w' => e = .returned (.string (cut s 300)) ∧ w' = w) := Lib.hid (fun w => short_any s 300 w (by omega))
  have z1 := cut_size s 300
  generalize cut s 300 = s1 at *
  obtain ⟨q, hq⟩ : ∃ q : Int, a.tmod ((s1.size : Int) + 1) = q := ⟨_, rfl⟩
  have q1 : -((s1.size : Int)) ≤ q ∧ q ≤ s1.size := by
    have := Int.tmod_lt_of_pos a (b := (s1.size : Int) + 1) (by omega)
    have := Int.lt_tmod_of_pos a (b := (s1.size : Int) + 1) (by omega)
    omega
  obtain ⟨q2, q3⟩ := q1
  have k0 : 0 ≤ (q + (s1.size : Int) + 1) % ((s1.size : Int) + 1) := Int.emod_nonneg _ (by omega)
  have k1 : (q + (s1.size : Int) + 1) % ((s1.size : Int) + 1) < (s1.size : Int) + 1 := Int.emod_lt_of_pos _ (by omega)
  obtain ⟨k, hk⟩ := Int.eq_ofNat_of_zero_le k0
  have hk' : (q + (s1.size : Int) + 1).tmod ((s1.size : Int) + 1) = (k : Int) := by rw [Int.tmod_eq_emod_of_nonneg (by omega)]; exact hk
  rw [hk] at k1
  have zq : k ≤ s1.size := by omega
  have zi : (k : Int) ≤ (s1.size : Int) := by omega
  have Z := Lib.hid (And.intro z1 zq)
  have nz : ¬ ((s1.size : Int) + 1) = 0 := by omega
  have zt := zeroT.1
  clear k0 k1
  go_enter Try.func4, Try.ntmps4
  go_wp2_with fail
  (with_reducible refine (awake_any _).mono ?_)
  rintro e w1 ⟨rfl, b1⟩
  go_wp2_with fail
  (with_reducible refine (S1.out _).mono ?_)
  rintro e w2 ⟨rfl, rfl⟩
  clear S1
  go_wp2_with fail
  (with_reducible refine (new_any _).mono ?_)
  rintro e w3 ⟨rfl, hw⟩
  have t3 : Tbl w3 w2.heap.size := by rw [hw]; exact (fresh_new _ _).tbl
  have b3 : Below w.heap.size w w3 := by rw [hw]; exact b1.alloc b1.size _
  have zb : w.heap.size ≤ w2.heap.size := b1.size
  generalize w2.heap.size = b at *
  clear hw b1
  have hbl := t3.lt
  have hne : b ≠ w3.heap.size := by omega
  have zu : w.heap.size ≤ w3.heap.size := b3.size
  have T0 : Two w b w3.heap.size (w3.alloc (.cells zeroCells 47)) := ⟨t3.call ((Below.refl _ _).alloc (Nat.le_refl _) _), (fresh_new _ _).tbl, b3.alloc zu _⟩
  have i32 : Is32 (more 0 (s1.extract 0 k)) := more_is32 (by unfold Is32; omega)
  have j32 : Is32 (more 0 s1) := more_is32 (by unfold Is32; omega)
  have C1 := Lib.hid (two_sum (w := w) (b := b) (u := w3.heap.size) (s1.extract 0 k) (extract_size (by omega)) zb hne.symm)
  have C2 := Lib.hid (two_more (w := w) (b := b) (u := w3.heap.size) (s1.extract k s1.size) i32 (extract_size (by omega)) zb hne.symm (more_parts zq))
  have C3 := Lib.hid (two_sum2 (w := w) (b := b) (u := w3.heap.size) s1 (by omega) zu hne)
  have C4 := Lib.hid (two_sum (w := w) (b := b) (u := w3.heap.size) s1 (by omega) zb hne.symm)
  have C5 := Lib.hid (two_right (w := w) (b := b) (u := w3.heap.size) s1 (by omega) zb hne.symm)
  have C6 := Lib.hid (two_more (w := w) (b := b) (u := w3.heap.size) ⟨#[]⟩ j32 (by decide) zb hne.symm (more_empty _))
  clear hne hq hk hk' q2 q3 hbl zu b3 t3 zb i32 j32 Z
  go_wp2_with fail
  (with_reducible refine (C4.out _ T0).mono ?_)
  rintro e w4 ⟨rfl, T4⟩
  clear T0
  generalize w3.heap.size = u at *
  have HK := Lib.hid T4.drew
  clear T4
  go_upto_region 9 with (fail)
  go_region_held3 (fun w' => Two w b u w') (first | exact HK.out | assumption | exact kA | exact kB | exact kC | exact kD | exact kE | exact kF)
    (first
      | (go_at_call 14; (with_reducible refine (C1.out _ (by first | assumption | exact HK.out)).mono ?_); rintro e wA ⟨rfl, kA⟩)
      | (go_at_call 16; (with_reducible refine (C2.out _ (by first | assumption | exact HK.out)).mono ?_); rintro e wB ⟨rfl, kB⟩)
      | (go_at_call 14; (with_reducible refine (C3.out _ (by first | assumption | exact HK.out)).mono ?_); rintro e wC ⟨rfl, kC⟩)
      | (go_at_call 14; (with_reducible refine (C4.out _ (by first | assumption | exact HK.out)).mono ?_); rintro e wD ⟨rfl, kD⟩)
      | (go_at_call 18; (with_reducible refine (C5.out _ (by first | assumption | exact HK.out)).mono ?_); rintro e wE ⟨rfl, kE⟩)
      | (go_at_call 16; (with_reducible refine (C6.out _ (by first | assumption | exact HK.out)).mono ?_); rintro e wF ⟨rfl, kF⟩))
  all_goals
    go_wp2
    all_goals (go_ret; exact ⟨rfl, by first | exact kF.bel | (refine Two.bel (b := b) (u := u) ?_; assumption)⟩)

set_option maxRecDepth 100000 in
theorem lifted (os : Os) (started : os.Started) (H : Type) (enc : TypeId × Value → H) :
    ReturnsInHanded {} Try.checked os 4 .any (Rows.crcPartsSpec.pre6 enc Try.prog Try.f4 Rows.crcPartsRow.domain false) (Rows.crcPartsSpec.post enc Try.prog Try.f4 false true false false) := by
  refine returnsInHanded_of_change (C := Try.checked) own started (by kernel_rfl) Try.func4
    (ChangeSpec.witness6 (enc := enc) (C := Try.checked) false ⟨#[], #[.string ⟨#[]⟩, .int .i64 0], []⟩ 8 (by kernel_rfl) (by kernel_rfl) (by kernel_rfl) (by kernel_rfl)) ?_
  intro W base args ds gs before hval0 hW hcnd _
  have hval : ∀ (j : Nat) t v, Try.f4.params[j]? = some t → args[j]? = some v → Value.okWide Try.prog W .any base t v := hval0
  have hW' := hW
  obtain ⟨p, q, hA0, hV, rfl, hfz, hnd⟩ := hW
  have hA : DataW.TrodAll enc Try.prog W 0 (fun _ => true) true Try.f4.params.toList args.toList ds p := hA0
  rw [Try.params4] at hA hval
  obtain ⟨v0, vs0, d0, ds0, p0, q0, hargs, rfl, rfl, h0, r0⟩ := trodAll_cons hA
  obtain ⟨v1, vs1, d1, ds1, p1, q1, rfl, rfl, rfl, h1, r1⟩ := trodAll_cons r0
  obtain ⟨rfl, rfl, rfl⟩ := trodAll_nil r1
  obtain rfl : args = #[v0, v1] := by cases args; simp_all
  obtain ⟨rfl, rfl⟩ := trodVars_none hV
  have lt0 : ∀ x ∈ p0, x.block < W.heap.size := by obtain ⟨m, hm⟩ := h0; exact DataW.trod_lt m _ _ _ hm
  obtain ⟨s, e0, -, -, szs⟩ := Go.ChangeMaps.open_string Try.underlying9 (hval 0 9 v0 rfl rfl) h0
  subst e0
  have lt1 : ∀ x ∈ p1, x.block < W.heap.size := by obtain ⟨m, hm⟩ := h1; exact DataW.trod_lt m _ _ _ hm
  obtain ⟨a, e1, -, -, wfa⟩ := open_int Try.underlying3 (hval 1 3 v1 rfl rfl) h1
  subst e1
  clear hA0 hval0
  refine (walk s a W).mono fun e W' ⟨he, bel⟩ => ?_
  subst he
  exact ⟨_, rfl, _, _, _, [], _, [], hW', trodAll_mk1 (shut_bool Try.underlying4 _), (trodAll_cons_mk (Below.trod laidOut (by kernel_rfl) (of_decide_eq_true (by kernel_rfl)) h0 bel lt0) (trodAll_cons_mk (Below.trod laidOut (by kernel_rfl) (of_decide_eq_true (by kernel_rfl)) h1 bel lt1) trodAll_mk0)), rfl, bel.frame _, fun h => by cases h⟩

theorem proved : Rows.CrcPartsSaid :=
  OpenClaim.holds_of_wide 4 Try.f4 rfl rfl rfl rfl rfl rfl rfl ⟨rfl, rfl, rfl, rfl, rfl⟩ rfl rfl rfl rfl rfl (by kernel_rfl) Try.func4 (by kernel_rfl)
    (of_decide_eq_true (by kernel_rfl)) (by unfold Func.isWrapper; first | (rw [if_pos (by decide +kernel)]; kernel_rfl) | (rw [if_neg (by decide +kernel)]; exact ⟨rfl, rfl⟩))
    (fun os started H enc _ => lifted os started H enc)
#print axioms proved
end Go.Proofs.Ytjogdkljimbpcaa.crcParts
