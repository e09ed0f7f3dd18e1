/- horariumlaw04.FrameTorn answers true at every cell, every text and every number, and leaves its arguments as they were: a sector that was half written over another one, whose tag is another one, is no sector of that epoch and number, unless it is just that cell's. No condition. -/
import Derived.Test.YtdlfnmkdidiafaaFrG
import Derived.Test.YtdlfnmkdidiafaaGnZ
import Derived.Deep.RegionHeld3
import Derived.Deep.DeepCutAuto
import Derived.BigQuiet
namespace Go.Proofs.Ytdlfnmkdidiafaa.frameTorn
open Go.ChangeShapes Go.WideShapes Go.ChangeAt Go.RowKit Go.Joins
set_option linter.unusedVariables false
set_option linter.unusedSimpArgs false

theorem rem_pos (a : Int) (m : Int) (hm : 0 < m) : ∃ k : Nat, (a.tmod m + m).tmod m = (k : Int) ∧ (a.tmod m + m) % m = (k : Int) ∧ (k : Int) < m ∧ -m < a.tmod m ∧ a.tmod m < m := by
  have h1 := Int.tmod_lt_of_pos a hm
  have h2 := Int.lt_tmod_of_pos a hm
  have k0 : 0 ≤ (a.tmod m + m) % m := Int.emod_nonneg _ (by omega)
  have k1 : (a.tmod m + m) % m < m := Int.emod_lt_of_pos _ hm
  obtain ⟨k, hk⟩ := Int.eq_ofNat_of_zero_le k0
  exact ⟨k, by rw [Int.tmod_eq_emod_of_nonneg (by omega)]; exact hk, hk, by rw [← hk]; exact k1, h2, h1⟩
/-- the old sector: as much of a text as fits, filled up -/
def oldOf (s : ByteArray) : List UInt8 := s.data.toList.take (Nat.min s.size 64) ++ (List.replicate 64 (0 : UInt8)).drop (Nat.min s.size 64)
theorem oldOf_length (s : ByteArray) : (oldOf s).length = 64 := by
  have h1 : Nat.min s.size 64 ≤ s.size := Nat.min_le_left _ _
  have h2 : Nat.min s.size 64 ≤ 64 := Nat.min_le_right _ _
  unfold oldOf
  generalize Nat.min s.size 64 = m at *
  rw [List.length_append, List.length_take, List.length_drop, List.length_replicate, ← size_list]
  omega
theorem copy_old (g : Nat) (W : World) (s : ByteArray) (h : RowB W g 5 (List.replicate 64 0)) :
    (Builtin.copy_ #[35, 9] 3 #[.slice (some ⟨g, 0, none⟩) 64 64, .string s]).run Try.prog W = .ok (goInt (Nat.min s.size 64)) (W.setRow g (Lib.byteCells (oldOf s)).toArray) := by
  rw [h.copy_some s 0 64 64 (Nat.min s.size 64) rfl (by have : Nat.min s.size 64 ≤ 64 := Nat.min_le_right _ _; simp; omega), List.take_zero, List.nil_append, Nat.zero_add]
  rfl
set_option maxRecDepth 100000 in
set_option maxHeartbeats 8000000 in
theorem walk (p : ByteArray) (e n : Nat) (s : ByteArray) (a : Int) (w : World) (we : e < 18446744073709551616) (wn : n < 18446744073709551616) :
    Calls Try.prog 6 #[.agg #[.string p, .int .u64 (e : Int), .int .u64 (n : Int)], .string s, .int .i64 a] w fun r w' => r = .returned (.bool true) ∧ Below w.heap.size w w' := by
  have S1 : Hid (∀ w : World, Calls Try.prog 9 #[.string p, .int .i64 43] w fun e w' => e = .returned (.string (cut p 43)) ∧ w' = w) := Lib.hid (fun w => short_any p 43 w (by omega))
  have z1 := cut_size p 43
  generalize cut p 43 = p1 at *
  obtain ⟨k, hk, hk', hk3, hq1, hq2⟩ := rem_pos a 65 (by omega)
  obtain ⟨q, hq⟩ : ∃ q : Int, a.tmod 65 = q := ⟨_, rfl⟩
  rw [hq] at hk hk' hq1 hq2
  have k64 : k ≤ 64 := by omega
  have MA := Lib.hid (fun w => make_yes p1 e n w z1 we wn)
  have hl : p1.data.toList.length ≤ 43 := by rw [← size_list]; exact z1
  have lo := oldOf_length s
  have mk := make_bytes 64 (by omega)
  have mk' : ∀ w : World, (Instr.makeSlice 35 (.int .i64 64) (.int .i64 64)).run Try.prog w = .ok (.slice (some ⟨w.heap.size, 0, none⟩) 64 64) (w.alloc (.cells (Lib.byteCells (List.replicate 64 0)).toArray 5)) := mk
  have CO := Lib.hid (fun g W h => copy_old g W s h)
  have TG : Hid (∀ w : World, Calls Try.prog 17 #[.string (mkB (oldOf s))] w fun r w' => r = .returned (.tuple #[.int .u64 (epochOf (oldOf s) : Int), .int .u64 (numberOf (oldOf s) : Int), .bool true]) ∧ Below w.heap.size w w') := Lib.hid (fun w => by
    have := tag_yes (mkB (oldOf s)) w (by rw [mkB_size, lo])
    rw [mkB_data] at this
    exact this)
  have hTo := fun h => torn (k := k) hl we wn lo h
  have WA : Hid (∀ w : World, Calls Try.prog 19 #[.string (mkB ((sec p1.data.toList e n).take k ++ (oldOf s).drop k)), .int .u64 (e : Int), .int .u64 (n : Int)] w fun r w' => r = .returned (.bool (whole ((sec p1.data.toList e n).take k ++ (oldOf s).drop k) e n)) ∧ Below w.heap.size w w') := Lib.hid (fun w => by
    have := whole_any (mkB ((sec p1.data.toList e n).take k ++ (oldOf s).drop k)) e n w
    rw [mkB_data] at this
    exact this)
  have zX : (mkB (sec p1.data.toList e n)).size = 64 := by rw [mkB_size, sec_length hl]
  have zi : ((mkB (sec p1.data.toList e n)).size : Int) = 64 := by omega
  have xt : (mkB (sec p1.data.toList e n)).extract 0 k = mkB ((sec p1.data.toList e n).take k) := by rw [ext_head, mkB_data]
  have ad := add_mk ((sec p1.data.toList e n).take k) ((oldOf s).drop k) (by rw [List.length_take, List.length_drop, sec_length hl, lo]; omega)
  have TS : Hid ((epochOf (oldOf s) = e ∧ numberOf (oldOf s) = n → False) → ((mkB ((sec p1.data.toList e n).take k ++ (oldOf s).drop k)).toList == (mkB (sec p1.data.toList e n)).toList) = whole ((sec p1.data.toList e n).take k ++ (oldOf s).drop k) e n) := Lib.hid (fun h => by
    rw [hTo h, toList_mkB, toList_mkB]
    by_cases hc : (sec p1.data.toList e n).take k ++ (oldOf s).drop k = sec p1.data.toList e n
    · rw [decide_eq_true hc]; simp [hc]
    · rw [decide_eq_false hc]; simpa using hc)
  generalize oldOf s = OL at *
  generalize mkB (sec p1.data.toList e n) = X at *
  generalize whole ((sec p1.data.toList e n).take k ++ OL.drop k) e n = b at *
  generalize mkB ((sec p1.data.toList e n).take k ++ OL.drop k) = Z at *
  generalize mkB ((sec p1.data.toList e n).take k) = Z1 at *
  generalize epochOf OL = E at *
  generalize numberOf OL = M at *
  clear hTo hl mk
  go_enter Try.func6, Try.ntmps6
  go_wp2_with fail
  (with_reducible refine (awake_any _).mono ?_)
  rintro r w1 ⟨rfl, b1⟩
  have c0 := carry b1 (p := ⟨w.heap.size, 0, none⟩) (v := .string p) (by simp [go_sem])
  have c1 := carry b1 (p := ⟨w.heap.size, 1, none⟩) (v := .int .u64 (e : Int)) (by simp [go_sem])
  have c2 := carry b1 (p := ⟨w.heap.size, 2, none⟩) (v := .int .u64 (n : Int)) (by simp [go_sem])
  have f0 : w1.frozen? ⟨w.heap.size, 0, none⟩ = false := by rw [b1.frozen (p := ⟨w.heap.size, 0, none⟩) (by simp)]; simp [go_sem]
  have bl1 : Below w.heap.size w w1 := ((Below.refl _ _).alloc (Nat.le_refl _) _).trans (b1.mono (by simp))
  have lt1 : w.heap.size < w1.heap.size := lt_of_cell c0
  clear b1
  go_wp2_with fail
  (with_reducible refine (S1.out _).mono ?_)
  rintro r w2 ⟨rfl, rfl⟩
  have K1 : Hid ((w2.setCell ⟨w.heap.size, 0, none⟩ (.string p1)).cell? ⟨w.heap.size, 0, none⟩ = some (.string p1) ∧ (w2.setCell ⟨w.heap.size, 0, none⟩ (.string p1)).cell? ⟨w.heap.size, 1, none⟩ = some (.int .u64 (e : Int)) ∧ (w2.setCell ⟨w.heap.size, 0, none⟩ (.string p1)).cell? ⟨w.heap.size, 2, none⟩ = some (.int .u64 (n : Int)) ∧ Below w.heap.size w (w2.setCell ⟨w.heap.size, 0, none⟩ (.string p1))) :=
    Lib.hid ⟨World.cell?_setCell_same _ _ _ c0, by rw [World.cell?_setCell_other _ _ _ _ (by simp)]; exact c1, by rw [World.cell?_setCell_other _ _ _ _ (by simp)]; exact c2, bl1.setCell (Nat.le_refl _) _⟩
  clear S1
  have k1 := K1.out.1
  have k2 := K1.out.2.1
  have k3 := K1.out.2.2.1
  go_wp2_with fail
  (with_reducible refine (MA.out _).mono ?_)
  rintro r w3 ⟨rfl, b3⟩
  have K3 := Lib.hid (h3_call K1.out b3)
  have lt3 : w.heap.size < w3.heap.size := lt_of_cell K3.out.1
  clear K1 b3 MA k1 k2 k3 f0 c0 c1 c2 bl1
  have R3 := rowB_new w3 (List.replicate 64 0) 5
  have K4 := Lib.hid (h3_call K3.out ((Below.refl _ _).alloc (Nat.le_refl _) (.cells (Lib.byteCells (List.replicate 64 0)).toArray 5)))
  have cp := CO.out _ _ R3
  have R4 := Lib.hid (R3.put OL)
  have K5 := Lib.hid (h3_apart K4.out (R3.apart_put OL) (by omega) (by omega))
  obtain ⟨v, sl, tl⟩ := row_tail w3.heap.size k 64 OL lo k64
  generalize (Lib.byteCells (List.replicate 64 0)).toArray = MZ at *
  generalize (Lib.byteCells OL).toArray = MO at *
  clear K3 K4 R3 CO
  go_upto_region 8 with (fail)
  generalize ((w3.alloc (Obj.cells MZ 5)).setRow w3.heap.size MO) = w4 at *
  have ct := R4.out.drew.text 0 64 64 (by omega)
  rw [List.drop_zero, List.take_of_length_le (by omega)] at ct
  have cvk := tl _ _ R4.out.drew
  have K6 := Lib.hid (h3_drew K5.out)
  have ki : (k : Int) ≤ 64 := by omega
  generalize mkB (OL.drop k) = Z2 at *
  generalize mkB OL = ZO at *
  clear K5 tl R4 cp mk'
  go_wp2_with fail
  go_region
  generalize w4.drew = w5 at *
  have x1 := K6.out.2.1
  have x2 := K6.out.2.2.1
  clear cvk sl ad xt
  go_wp2_with fail
  (with_reducible refine (TG.out _).mono ?_)
  rintro r w6 ⟨rfl, b6⟩
  have K7 := Lib.hid (h3_call K6.out b6)
  clear K6 b6 TG x1 x2 ct
  have x1 := K7.out.2.1
  have x2 := K7.out.2.2.1
  by_cases hE : E = e
  · by_cases hM : M = n
    · have t1 : ((E : Int) == (e : Int)) = true := by simp [hE]
      have t2 : ((M : Int) == (n : Int)) = true := by simp [hM]
      have B := Lib.hid K7.out.2.2.2
      clear K7 hE hM TS WA
      go_wp2
      go_ret
      exact ⟨rfl, B.out⟩
    · have t1 : ((E : Int) == (e : Int)) = true := by simp [hE]
      have t2 : ((M : Int) == (n : Int)) = false := by simp; omega
      have ts := TS.out (fun c => hM c.2)
      clear hE hM TS
      go_wp2_with fail
      (with_reducible refine (WA.out _).mono ?_)
      rintro r w7 ⟨rfl, b7⟩
      have B := Lib.hid (h3_call K7.out b7).2.2.2
      clear K7 b7 WA x1 x2
      go_wp2
      go_ret
      exact ⟨rfl, B.out⟩
  · have t1 : ((E : Int) == (e : Int)) = false := by simp; omega
    have ts := TS.out (fun c => hE c.1)
    clear hE TS
    go_wp2_with fail
    (with_reducible refine (WA.out _).mono ?_)
    rintro r w7 ⟨rfl, b7⟩
    have B := Lib.hid (h3_call K7.out b7).2.2.2
    clear K7 b7 WA x1 x2
    go_wp2
    go_ret
    exact ⟨rfl, B.out⟩

set_option maxRecDepth 100000 in
set_option maxHeartbeats 1600000 in
theorem lifted (os : Os) (started : os.Started) (H : Type) (enc : TypeId × Value → H) :
    ReturnsInHanded {} Try.checked os 6 .any (Rows.frameTornSpec.pre6 enc Try.prog Try.f6 Rows.frameTornRow.domain false) (Rows.frameTornSpec.post enc Try.prog Try.f6 false true false false) := by
  refine returnsInHanded_of_change (C := Try.checked) own started (by kernel_rfl) Try.func6
    (ChangeSpec.witness6 (enc := enc) (C := Try.checked) false ⟨#[], #[.agg #[.string ⟨#[]⟩, .int .u64 0, .int .u64 0], .string ⟨#[]⟩, .int .i64 0], []⟩ 8 (by kernel_rfl) (by kernel_rfl) (by kernel_rfl) (by kernel_rfl)) ?_
  intro W base args ds gs before hval0 hW hcnd _
  have hval : ∀ (j : Nat) t v, Try.f6.params[j]? = some t → args[j]? = some v → Value.okWide Try.prog W .any base t v := hval0
  have hW' := hW
  obtain ⟨p, q, hA0, hV, rfl, hfz, hnd⟩ := hW
  have hA : DataW.TrodAll enc Try.prog W 0 (fun _ => true) true Try.f6.params.toList args.toList ds p := hA0
  rw [Try.params6] at hA hval
  obtain ⟨v0, vs0, d0, ds0, p0, q0, hargs, rfl, rfl, h0, r0⟩ := trodAll_cons hA
  obtain ⟨v1, vs1, d1, ds1, p1, q1, rfl, rfl, rfl, h1, r1⟩ := trodAll_cons r0
  obtain ⟨v2, vs2, d2, ds2, p2, q2, rfl, rfl, rfl, h2, r2⟩ := trodAll_cons r1
  obtain ⟨rfl, rfl, rfl⟩ := trodAll_nil r2
  obtain rfl : args = #[v0, v1, v2] := by cases args; simp_all
  obtain ⟨rfl, rfl⟩ := trodVars_none hV
  have lt0 : ∀ x ∈ p0, x.block < W.heap.size := by obtain ⟨m, hm⟩ := h0; exact DataW.trod_lt m _ _ _ hm
  obtain ⟨p, e, n, rfl, we, wn⟩ := open_cell (hval 0 24 v0 rfl rfl) h0
  have lt1 : ∀ x ∈ p1, x.block < W.heap.size := by obtain ⟨m, hm⟩ := h1; exact DataW.trod_lt m _ _ _ hm
  obtain ⟨s, e1, -, -, szs⟩ := Go.ChangeMaps.open_string Try.underlying9 (hval 1 9 v1 rfl rfl) h1
  subst e1
  have lt2 : ∀ x ∈ p2, x.block < W.heap.size := by obtain ⟨m, hm⟩ := h2; exact DataW.trod_lt m _ _ _ hm
  obtain ⟨a, e2, -, -, wfa⟩ := open_int Try.underlying3 (hval 2 3 v2 rfl rfl) h2
  subst e2
  clear hA0 hval0
  refine (walk p e n s a W we wn).mono fun e W' ⟨he, bel⟩ => ?_
  subst he
  exact ⟨_, rfl, _, _, _, [], _, [], hW', trodAll_mk1 (shut_bool Try.underlying4 _), (trodAll_cons_mk (Below.trod laidOut (by kernel_rfl) (of_decide_eq_true (by kernel_rfl)) h0 bel lt0) (trodAll_cons_mk (Below.trod laidOut (by kernel_rfl) (of_decide_eq_true (by kernel_rfl)) h1 bel lt1) (trodAll_cons_mk (Below.trod laidOut (by kernel_rfl) (of_decide_eq_true (by kernel_rfl)) h2 bel lt2) trodAll_mk0))), rfl, bel.frame _, fun h => by cases h⟩

theorem proved : Rows.FrameTornSaid :=
  OpenClaim.holds_of_wide 6 Try.f6 rfl rfl rfl rfl rfl rfl rfl ⟨rfl, rfl, rfl, rfl, rfl⟩ rfl rfl rfl rfl rfl (by kernel_rfl) Try.func6 (by kernel_rfl)
    (of_decide_eq_true (by kernel_rfl)) (by unfold Func.isWrapper; first | (rw [if_pos (by decide +kernel)]; kernel_rfl) | (rw [if_neg (by decide +kernel)]; exact ⟨rfl, rfl⟩))
    (fun os started H enc _ => lifted os started H enc)
#print axioms proved
end Go.Proofs.Ytdlfnmkdidiafaa.frameTorn
