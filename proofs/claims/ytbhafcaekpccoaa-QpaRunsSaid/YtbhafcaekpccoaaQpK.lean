/- The statements' functions few, made, awake of layer 12. -/
import Derived.Test.YtbhafcaekpccoaaBsK
import Derived.Test.YtbhafcaekpccoaaQpB
import Derived.Test.YtbhafcaekpccoaaQpG
import Derived.BigRegion
namespace Go.Proofs.Ytbhafcaekpccoaa.Qp
open Go.ChangeShapes Go.WideShapes Go.ChangeAt Go.RowKit Go.Joins
open Pm
open Bs (per per_in per_dvd perOf i64_and7 rest_eq perC per_cell exB exB_per exB_work exB_load exB_ts exB_len exB_length)
set_option maxRecDepth 100000
set_option maxRecDepth 100000
set_option linter.unusedVariables false
set_option linter.unusedSimpArgs false
theorem build_tk (w : World) (x : Tk) : (Instr.buildSlice 22 1 #[(0, x.v)]).run Try.prog w = .ok (.slice (some ⟨w.heap.size, 0, none⟩) 1 1) (w.alloc (.cells x.cs.toArray 42)) := by kernel_rfl
theorem i64_and15 (n : Int) : bits .and .i64 n 15 = n % 16 := by
  have hm : (BitVec.ofInt 64 15).toNat = 2 ^ 4 - 1 := by decide
  have key : (BitVec.ofInt 64 n &&& BitVec.ofInt 64 15).toNat = (n % ((2 ^ 64 : Nat) : Int)).toNat % 2 ^ 4 := by
    rw [BitVec.toNat_and, BitVec.toNat_ofInt, hm, Nat.and_two_pow_sub_one_eq_mod]
  show IntKind.i64.wrap ((BitVec.ofInt 64 n &&& BitVec.ofInt 64 15).toNat : Nat) = n % 16
  rw [key, IntKind.wrap_i64]
  omega
/-- a task by numbers -/
def mdOf (z : Int) : Int := 1 + z / 8 % 16 % 15
def mkQ (i : Nat) (x : Tri) : Tk := ⟨(i : Int), 1 + x.a % (1 + x.b % perOf x.c), 1 + x.b % perOf x.c, perOf x.c, mdOf x.c⟩
def madeQ (l : List Tri) (n : Nat) : List Tk := (List.range n).map fun i => mkQ i (l.getD i default)
def made12 (l : List Tri) : List Tk := madeQ l (min l.length 8)
theorem madeQ_len (l : List Tri) (n : Nat) : (madeQ l n).length = n := by simp [madeQ]
theorem madeQ_succ {l : List Tri} {i : Nat} (h : i < l.length) : madeQ l (i + 1) = madeQ l i ++ [mkQ i l[i]] := by
  unfold madeQ
  rw [List.range_succ, List.map_append]
  simp [List.getD, h]
theorem made12_len (l : List Tri) : (made12 l).length = min l.length 8 := madeQ_len l _
theorem made12_get {l : List Tri} {i : Nat} {t : Tk} (h : (made12 l)[i]? = some t) : ∃ x : Tri, t = mkQ i x := by
  unfold made12 madeQ at h
  obtain ⟨hi, rfl⟩ := List.getElem?_eq_some_iff.1 h
  exact ⟨l.getD i default, by simp⟩
theorem mkQ_in (i : Nat) (x : Tri) : 2 ≤ (mkQ i x).t ∧ (mkQ i x).t ≤ 12 ∧ 1 ≤ (mkQ i x).d ∧ (mkQ i x).d ≤ (mkQ i x).t ∧ 1 ≤ (mkQ i x).c ∧ (mkQ i x).c ≤ (mkQ i x).d ∧ 1 ≤ (mkQ i x).m ∧ (mkQ i x).m ≤ 15 := by
  unfold mkQ mdOf
  simp only
  have h0 : 2 ≤ perOf x.c ∧ perOf x.c ≤ 12 := per_in _
  generalize perOf x.c = t at *
  have h3 := Int.emod_nonneg x.b (show t ≠ 0 by omega)
  have h4 := Int.emod_lt_of_pos x.b (show 0 < t by omega)
  generalize x.b % t = q at *
  have h5 := Int.emod_nonneg x.a (show 1 + q ≠ 0 by omega)
  have h6 := Int.emod_lt_of_pos x.a (show 0 < 1 + q by omega)
  omega
theorem mkQ_chk {i : Nat} (hi : i ≤ 1023) (x : Tri) : chk (mkQ i x) = true := by
  have := mkQ_in i x
  have h0 : (mkQ i x).id = (i : Int) := rfl
  rw [chk_iff]; omega
theorem mkQ_dvd (i : Nat) (x : Tri) : (mkQ i x).t.toNat ∣ 120 := per_dvd _
theorem made12_mem {l : List Tri} {t : Tk} (h : t ∈ made12 l) : chk t = true ∧ t.t ≤ 12 ∧ t.t.toNat ∣ 120 := by
  obtain ⟨i, hi⟩ := List.mem_iff_getElem?.1 h
  have hlen := made12_len l
  have hi2 := (List.getElem?_eq_some_iff.1 hi).1
  obtain ⟨x, rfl⟩ := made12_get hi
  exact ⟨mkQ_chk (by omega) x, (mkQ_in i x).2.1, mkQ_dvd _ _⟩
theorem made12_row (l : List Tri) : rowB (made12 l) = true := rowB_yes (by have := made12_len l; omega) (fun t ht => (made12_mem ht).1)
def MqRel (l : List Tri) (w W : World) (g : Nat) (s t : Value) (wx : World) : Prop :=
  ∃ (i : Nat) (v : Value), i + g = min l.length 8 ∧ t = .int .i64 (i : Int) ∧ v = s ∧ TRow W.heap.size wx v (madeQ l i) ∧ Below W.heap.size W wx
set_option maxHeartbeats 4000000 in
theorem made_any (l : List Tri) (ao : Option Addr) (cap : Nat) (w : World) (hT : Tris ao l w) (hl : l.length ≤ 9223372036854775807) (hok : ∀ x ∈ l, x.Ok) :
    Calls Try.prog 13 #[.slice ao l.length cap] w fun e w' => ∃ v, e = .returned v ∧ TRow w.heap.size w' v (made12 l) ∧ Below w.heap.size w w' := by
  have T := Lib.hid (hT.below ((Below.refl _ _).alloc (Nat.le_refl _) perC) (Nat.le_refl _))
  have PC := Lib.hid (per_cell w)
  have K0 := Lib.hid ((Below.refl w.heap.size w).alloc (Nat.le_refl _) perC)
  have OK := Lib.hid hok
  unfold perC at T PC K0
  clear hT hok
  go_enter Try.func13, Try.ntmps13
  go_wp2_with fail
  generalize (w.alloc (.cells #[.int .i64 2, .int .i64 3, .int .i64 4, .int .i64 5, .int .i64 6, .int .i64 8, .int .i64 10, .int .i64 12] 50)) = W at *
  go_loopg [4, 5] (min l.length 8) (MqRel l w W)
  case atStart => exact ⟨0, _, by omega, rfl, rfl, trow_nil _ _, Below.refl _ _⟩
  case round =>
    obtain ⟨i, v0, hi, rfl, rfl, hr, hB⟩ := hrel
    have TQ := T.out.below hB (Nat.le_refl _)
    by_cases hlt : i < l.length ∧ i < 8
    · obtain ⟨h1, h2⟩ := hlt
      obtain ⟨b, off, rfl, hb, hat⟩ := TQ (by omega)
      have hx := hat i l[i] (List.getElem?_eq_getElem h1)
      have hxo := OK.out _ (List.getElem_mem h1)
      have AP := trow_append W.heap.size wr.drew _ _ (mkQ i l[i]) (hr.call (Below.refl _ _).drew) hB.size (by rw [madeQ_len]; omega)
      rw [← madeQ_succ h1] at AP
      have HI := Lib.hid hi
      have KD := Lib.hid hB.drew
      have hg0 : 0 < gk := by omega
      have PQ := Lib.hid (fun k h => carry hB (PC.out k h))
      clear hi hat TQ hB
      generalize hNX : madeQ l (i + 1) = NX at *
      have HN := Lib.hid hNX
      clear hNX
      generalize l[i] = x at *
      obtain ⟨c0, c1, c2⟩ := hx
      obtain ⟨xa, xb, xc⟩ := x
      obtain ⟨oa, ob, oc⟩ := hxo
      unfold I64 at oa ob oc
      unfold mkQ at AP
      simp only at *
      have hm1 : bits .and .i64 (xc / 8) 15 = xc / 8 % 16 := i64_and15 _
      have hm2 : (xc / 8 % 16).tmod 15 = xc / 8 % 16 % 15 := Int.tmod_eq_emod_of_nonneg (by omega)
      have hm3 : mdOf xc = 1 + xc / 8 % 16 % 15 := rfl
      rw [hm3] at AP
      have hm4 : 0 ≤ xc / 8 % 16 ∧ xc / 8 % 16 ≤ 15 := by omega
      have hm5 : 0 ≤ xc / 8 % 16 % 15 ∧ xc / 8 % 16 % 15 ≤ 14 := by omega
      obtain ⟨hm6, hm7⟩ := hm4
      obtain ⟨hm8, hm9⟩ := hm5
      generalize hMZ : xc / 8 % 16 % 15 = MZ at *
      generalize hMY : xc / 8 % 16 = MY at *
      clear hMZ hMY hm3
      have hz : bits .and .i64 xc 7 = (((xc % 8).toNat : Nat) : Int) := by rw [i64_and7]; omega
      have hk : (xc % 8).toNat < 8 := by omega
      have cp := PQ.out _ hk
      have hp0 : 2 ≤ perOf xc ∧ perOf xc ≤ 12 := per_in _
      have hpe : per (xc % 8).toNat = perOf xc := rfl
      rw [hpe] at cp
      generalize (xc % 8).toNat = k at *
      clear hpe
      generalize perOf xc = R at *
      obtain ⟨R1, R2⟩ := hp0
      have rz : ¬ R = 0 := by omega
      obtain ⟨r2, p2, q2⟩ := rest_eq (x := xb) (m := R) (by omega)
      have m3 := Int.emod_nonneg xb (show R ≠ 0 by omega)
      have m4 := Int.emod_lt_of_pos xb (show 0 < R by omega)
      generalize hQ : xb % R = Q at *
      obtain ⟨r3, p3, q3⟩ := rest_eq (x := xa) (m := 1 + Q) (by omega)
      have m5 := Int.emod_nonneg xa (show 1 + Q ≠ 0 by omega)
      have m6 := Int.emod_lt_of_pos xa (show 0 < 1 + Q by omega)
      generalize hS : xa % (1 + Q) = S at *
      clear hQ hS PQ
      obtain ⟨v', w', hap, hrow, hbw⟩ := AP
      have HRW := Lib.hid hrow
      have HBW := Lib.hid hbw
      clear hrow hbw
      have i1 : (i : Int) < (l.length : Int) := by omega
      have i2 : (i : Int) < 8 := by omega
      have k2 : (k : Int) < 8 := by omega
      go_upto_region 8 with (fail)
      generalize hD : 1 + Q = D at *
      have D0 : 1 ≤ D := by omega
      have D1 : D ≤ 12 := by omega
      have D2 : ¬ D = 0 := by omega
      have D3 : (D == 0) = false := by simp; omega
      have r4 : (xa.tmod D + D).tmod D = S := by rw [Int.tmod_eq_emod_of_nonneg (by omega)]; exact r3
      have w1 : IntKind.i64.wrap (xa.tmod D + D) = xa.tmod D + D := wrap_in (by omega) (by omega)
      have w2 : IntKind.i64.wrap (1 + S) = 1 + S := wrap_in (by omega) (by omega)
      have w3 : IntKind.i64.wrap (1 + MZ) = 1 + MZ := wrap_in (by omega) (by omega)
      have c0d : wr.drew.cell? ⟨b, off + i * 3, none⟩ = some (.int .i64 xa) := c0
      have c2d : wr.drew.cell? ⟨b, off + i * 3 + 2, none⟩ = some (.int .i64 xc) := c2
      clear hD
      go_wp2_with fail
      refine wp_region_any (by kernel_rfl) ?_
      (try (change wpAny _ _ _ _ _ _ _ (World.drew _)))
      refine wpAny_take (i := 0) (v := ?_) rfl (by kernel_rfl) (by kernel_rfl) (by kernel_rfl) (fun _ _ _ h => h) (Or.inl ⟨by rfl, ?_⟩) ?_
      rotate_left
      · (intro wS; go_simp; try with_reducible rfl)
      (try simp only [Act.put, List.getElem_toArray, List.getElem_cons_succ, List.getElem_cons_zero, List.setIfInBounds_toArray, List.set_cons_zero, List.set_cons_succ])
      refine wpAny_take (i := 1) (v := ?_) rfl (by kernel_rfl) (by kernel_rfl) (by kernel_rfl) (fun _ _ _ h => h) (Or.inl ⟨by rfl, ?_⟩) ?_
      rotate_left
      · (intro wS; go_simp; try with_reducible rfl)
      (try simp only [Act.put, List.getElem_toArray, List.getElem_cons_succ, List.getElem_cons_zero, List.setIfInBounds_toArray, List.set_cons_zero, List.set_cons_succ])
      refine wpAny_take (i := 2) (v := ?_) rfl (by kernel_rfl) (by kernel_rfl) (by kernel_rfl) (fun _ _ _ h => h) (Or.inl ⟨by rfl, ?_⟩) ?_
      rotate_left
      · (intro wS; go_simp; try with_reducible rfl)
      (try simp only [Act.put, List.getElem_toArray, List.getElem_cons_succ, List.getElem_cons_zero, List.setIfInBounds_toArray, List.set_cons_zero, List.set_cons_succ])
      refine wpAny_take (i := 3) (v := ?_) rfl (by kernel_rfl) (by kernel_rfl) (by kernel_rfl) (fun _ _ _ h => h) (Or.inl ⟨by rfl, ?_⟩) ?_
      rotate_left
      · (intro wS; go_simp; try with_reducible rfl)
      (try simp only [Act.put, List.getElem_toArray, List.getElem_cons_succ, List.getElem_cons_zero, List.setIfInBounds_toArray, List.set_cons_zero, List.set_cons_succ])
      refine wpAny_take (i := 4) (v := ?_) rfl (by kernel_rfl) (by kernel_rfl) (by kernel_rfl) (fun _ _ _ h => h) (Or.inl ⟨by rfl, ?_⟩) ?_
      rotate_left
      · (intro wS; go_simp; try with_reducible rfl)
      (try simp only [Act.put, List.getElem_toArray, List.getElem_cons_succ, List.getElem_cons_zero, List.setIfInBounds_toArray, List.set_cons_zero, List.set_cons_succ])
      refine wpAny_take (i := 5) (v := ?_) rfl (by kernel_rfl) (by kernel_rfl) (by kernel_rfl) (fun _ _ _ h => h) (Or.inl ⟨by rfl, ?_⟩) ?_
      rotate_left
      · (intro wS; go_simp; try with_reducible rfl)
      (try simp only [Act.put, List.getElem_toArray, List.getElem_cons_succ, List.getElem_cons_zero, List.setIfInBounds_toArray, List.set_cons_zero, List.set_cons_succ])
      refine wpAny_take (i := 7) (v := ?_) rfl (by kernel_rfl) (by kernel_rfl) (by kernel_rfl) (fun _ _ _ h => h) (Or.inl ⟨by rfl, ?_⟩) ?_
      rotate_left
      · (intro wS; go_simp; try with_reducible rfl)
      (try simp only [Act.put, List.getElem_toArray, List.getElem_cons_succ, List.getElem_cons_zero, List.setIfInBounds_toArray, List.set_cons_zero, List.set_cons_succ])
      refine wpAny_take (i := 9) (v := ?_) rfl (by kernel_rfl) (by kernel_rfl) (by kernel_rfl) (fun _ _ _ h => h) (Or.inl ⟨by rfl, ?_⟩) ?_
      rotate_left
      · (intro wS; go_simp; try with_reducible rfl)
      (try simp only [Act.put, List.getElem_toArray, List.getElem_cons_succ, List.getElem_cons_zero, List.setIfInBounds_toArray, List.set_cons_zero, List.set_cons_succ])
      refine wpAny_take (i := 11) (v := ?_) rfl (by kernel_rfl) (by kernel_rfl) (by kernel_rfl) (fun _ _ _ h => h) (Or.inl ⟨by rfl, ?_⟩) ?_
      rotate_left
      · (intro wS; go_simp; try with_reducible rfl)
      (try simp only [Act.put, List.getElem_toArray, List.getElem_cons_succ, List.getElem_cons_zero, List.setIfInBounds_toArray, List.set_cons_zero, List.set_cons_succ])
      refine wpAny_take (i := 14) (v := ?_) rfl (by kernel_rfl) (by kernel_rfl) (by kernel_rfl) (fun _ _ _ h => h) (Or.inl ⟨by rfl, ?_⟩) ?_
      rotate_left
      · (intro wS; go_simp; try with_reducible rfl)
      (try simp only [Act.put, List.getElem_toArray, List.getElem_cons_succ, List.getElem_cons_zero, List.setIfInBounds_toArray, List.set_cons_zero, List.set_cons_succ])
      refine wpAny_take (i := 15) (v := ?_) rfl (by kernel_rfl) (by kernel_rfl) (by kernel_rfl) (fun _ _ _ h => h) (Or.inl ⟨by rfl, ?_⟩) ?_
      rotate_left
      · (intro wS; go_simp; try with_reducible rfl)
      (try simp only [Act.put, List.getElem_toArray, List.getElem_cons_succ, List.getElem_cons_zero, List.setIfInBounds_toArray, List.set_cons_zero, List.set_cons_succ])
      refine wpAny_take (i := 16) (v := ?_) rfl (by kernel_rfl) (by kernel_rfl) (by kernel_rfl) (fun _ _ _ h => h) (Or.inl ⟨by rfl, ?_⟩) ?_
      rotate_left
      · (intro wS; go_simp; try with_reducible rfl)
      (try simp only [Act.put, List.getElem_toArray, List.getElem_cons_succ, List.getElem_cons_zero, List.setIfInBounds_toArray, List.set_cons_zero, List.set_cons_succ])
      refine wpAny_take (i := 17) (v := ?_) rfl (by kernel_rfl) (by kernel_rfl) (by kernel_rfl) (fun _ _ _ h => h) (Or.inl ⟨by rfl, ?_⟩) ?_
      rotate_left
      · (intro wS; go_simp; try with_reducible rfl)
      (try simp only [Act.put, List.getElem_toArray, List.getElem_cons_succ, List.getElem_cons_zero, List.setIfInBounds_toArray, List.set_cons_zero, List.set_cons_succ])
      refine wpAny_take (i := 18) (v := ?_) rfl (by kernel_rfl) (by kernel_rfl) (by kernel_rfl) (fun _ _ _ h => h) (Or.inl ⟨by rfl, ?_⟩) ?_
      rotate_left
      · (intro wS; go_simp; try with_reducible rfl)
      (try simp only [Act.put, List.getElem_toArray, List.getElem_cons_succ, List.getElem_cons_zero, List.setIfInBounds_toArray, List.set_cons_zero, List.set_cons_succ])
      refine wpAny_take (i := 19) (v := ?_) rfl (by kernel_rfl) (by kernel_rfl) (by kernel_rfl) (fun _ _ _ h => h) (Or.inl ⟨by rfl, ?_⟩) ?_
      rotate_left
      · (intro wS; go_simp; try with_reducible rfl)
      (try simp only [Act.put, List.getElem_toArray, List.getElem_cons_succ, List.getElem_cons_zero, List.setIfInBounds_toArray, List.set_cons_zero, List.set_cons_succ])
      refine wpAny_ready (rs := [6, 20]) (by kernel_rfl) (by simp) ?_
      refine AllReady.cons rfl (fun K hK => ?_) ?_
      · rw [if_pos (by rfl)]
        go_simp
        refine hK _ _ ?_
        clear hK K
        (try simp only [Act.put, List.getElem_toArray, List.getElem_cons_succ, List.getElem_cons_zero, List.setIfInBounds_toArray, List.set_cons_zero, List.set_cons_succ])
        refine wpAny_take (i := 8) (v := ?_) rfl (by kernel_rfl) (by kernel_rfl) (by kernel_rfl) (fun _ _ _ h => h) (Or.inl ⟨by rfl, ?_⟩) ?_
        rotate_left
        · (intro wS; go_simp; try with_reducible rfl)
        (try simp only [Act.put, List.getElem_toArray, List.getElem_cons_succ, List.getElem_cons_zero, List.setIfInBounds_toArray, List.set_cons_zero, List.set_cons_succ])
        refine wpAny_take (i := 10) (v := ?_) rfl (by kernel_rfl) (by kernel_rfl) (by kernel_rfl) (fun _ _ _ h => h) (Or.inl ⟨by rfl, ?_⟩) ?_
        rotate_left
        · (intro wS; go_simp; try with_reducible rfl)
        (try simp only [Act.put, List.getElem_toArray, List.getElem_cons_succ, List.getElem_cons_zero, List.setIfInBounds_toArray, List.set_cons_zero, List.set_cons_succ])
        refine wpAny_take (i := 12) (v := ?_) rfl (by kernel_rfl) (by kernel_rfl) (by kernel_rfl) (fun _ _ _ h => h) (Or.inl ⟨by rfl, ?_⟩) ?_
        rotate_left
        · (intro wS; go_simp; try with_reducible rfl)
        (try simp only [Act.put, List.getElem_toArray, List.getElem_cons_succ, List.getElem_cons_zero, List.setIfInBounds_toArray, List.set_cons_zero, List.set_cons_succ])
        refine wpAny_take (i := 13) (v := ?_) rfl (by kernel_rfl) (by kernel_rfl) (by kernel_rfl) (fun _ _ _ h => h) (Or.inl ⟨by rfl, ?_⟩) ?_
        rotate_left
        · (intro wS; go_simp; try with_reducible rfl)
        (try simp only [Act.put, List.getElem_toArray, List.getElem_cons_succ, List.getElem_cons_zero, List.setIfInBounds_toArray, List.set_cons_zero, List.set_cons_succ])
        refine wpAny_ready (rs := [20]) (by kernel_rfl) (by simp) ?_
        refine AllReady.cons rfl (fun K hK => ?_) ?_
        · rw [if_pos (by rfl)]
          go_simp
          refine hK _ _ ?_
          clear hK K
          (try simp only [Act.put, List.getElem_toArray, List.getElem_cons_succ, List.getElem_cons_zero, List.setIfInBounds_toArray, List.set_cons_zero, List.set_cons_succ])
          refine wpAny_take (i := 21) (v := ?_) rfl (by kernel_rfl) (by kernel_rfl) (by kernel_rfl) (fun _ _ _ h => h) (Or.inl ⟨by rfl, ?_⟩) ?_
          rotate_left
          · (intro wS; go_simp; try with_reducible rfl)
          (try simp only [Act.put, List.getElem_toArray, List.getElem_cons_succ, List.getElem_cons_zero, List.setIfInBounds_toArray, List.set_cons_zero, List.set_cons_succ])
          refine wpAny_take (i := 22) (v := ?_) rfl (by kernel_rfl) (by kernel_rfl) (by kernel_rfl) (fun _ _ _ h => h) (Or.inl ⟨by rfl, ?_⟩) ?_
          rotate_left
          · (intro wS; go_simp; try with_reducible rfl)
          (try simp only [Act.put, List.getElem_toArray, List.getElem_cons_succ, List.getElem_cons_zero, List.setIfInBounds_toArray, List.set_cons_zero, List.set_cons_succ])
          refine wpAny_take (i := 23) (v := ?_) rfl (by kernel_rfl) (by kernel_rfl) (by kernel_rfl) (fun _ _ _ h => h) (Or.inl ⟨by rfl, ?_⟩) ?_
          rotate_left
          · (intro wS; go_simp; try with_reducible rfl)
          (try simp only [Act.put, List.getElem_toArray, List.getElem_cons_succ, List.getElem_cons_zero, List.setIfInBounds_toArray, List.set_cons_zero, List.set_cons_succ])
          refine wpAny_take (i := 24) (v := ?_) rfl (by kernel_rfl) (by kernel_rfl) (by kernel_rfl) (fun _ _ _ h => h) (Or.inl ⟨by rfl, ?_⟩) ?_
          rotate_left
          · (intro wS; go_simp; try with_reducible rfl)
          (try simp only [Act.put, List.getElem_toArray, List.getElem_cons_succ, List.getElem_cons_zero, List.setIfInBounds_toArray, List.set_cons_zero, List.set_cons_succ])
          refine wpAny_take (i := 25) (v := ?_) rfl (by kernel_rfl) (by kernel_rfl) (by kernel_rfl) (fun _ _ _ h => h) (Or.inl ⟨by rfl, ?_⟩) ?_
          rotate_left
          · (intro wS; go_simp; try with_reducible rfl)
          (try simp only [Act.put, List.getElem_toArray, List.getElem_cons_succ, List.getElem_cons_zero, List.setIfInBounds_toArray, List.set_cons_zero, List.set_cons_succ])
          refine wpAny_ready (rs := [26]) (by kernel_rfl) (by simp) ?_
          refine AllReady.cons rfl (fun K hK => ?_) ?_
          · rw [if_pos (by rfl)]
            refine wp_val (exec_build1 rfl rfl (build_tk wr.drew ⟨(i : Int), 1 + S, D, R, 1 + MZ⟩)) (hK _ _ ?_)
            clear hK K
            (try simp only [Act.put, List.getElem_toArray, List.getElem_cons_succ, List.getElem_cons_zero, List.setIfInBounds_toArray, List.set_cons_zero, List.set_cons_succ])
            refine wpAny_ready (rs := [27]) (by kernel_rfl) (by simp) ?_
            refine AllReady.cons rfl (fun K hK => ?_) ?_
            · rw [if_pos (by rfl)]
              refine Lib.wp_append_run _ _ _ _ _ rfl _ _ rfl rfl _ _ hap (hK _ _ ?_)
              clear hK K
              (try simp only [Act.put, List.getElem_toArray, List.getElem_cons_succ, List.getElem_cons_zero, List.setIfInBounds_toArray, List.set_cons_zero, List.set_cons_succ])
              refine wpAny_take (i := 28) (v := ?_) rfl (by kernel_rfl) (by kernel_rfl) (by kernel_rfl) (fun _ _ _ h => h) (Or.inl ⟨by rfl, ?_⟩) ?_
              rotate_left
              · (intro wS; go_simp; try with_reducible rfl)
              (try simp only [Act.put, List.getElem_toArray, List.getElem_cons_succ, List.getElem_cons_zero, List.setIfInBounds_toArray, List.set_cons_zero, List.set_cons_succ])
              refine wpAny_done (by kernel_rfl) ?_ _
              go_wp2
              go_roundg (gk - 1)
              case measure => omega
              case rel => exact ⟨i + 1, _, by have := HI.out; omega, by go_num, rfl, by rw [HN.out]; exact HRW.out, KD.out.trans (HBW.out)⟩
            exact AllReady.nil
          exact AllReady.nil
        exact AllReady.nil
      refine AllReady.cons rfl (fun K hK => ?_) ?_
      · rw [if_pos (by rfl)]
        go_simp
        refine hK _ _ ?_
        clear hK K
        (try simp only [Act.put, List.getElem_toArray, List.getElem_cons_succ, List.getElem_cons_zero, List.setIfInBounds_toArray, List.set_cons_zero, List.set_cons_succ])
        refine wpAny_take (i := 21) (v := ?_) rfl (by kernel_rfl) (by kernel_rfl) (by kernel_rfl) (fun _ _ _ h => h) (Or.inl ⟨by rfl, ?_⟩) ?_
        rotate_left
        · (intro wS; go_simp; try with_reducible rfl)
        (try simp only [Act.put, List.getElem_toArray, List.getElem_cons_succ, List.getElem_cons_zero, List.setIfInBounds_toArray, List.set_cons_zero, List.set_cons_succ])
        refine wpAny_take (i := 22) (v := ?_) rfl (by kernel_rfl) (by kernel_rfl) (by kernel_rfl) (fun _ _ _ h => h) (Or.inl ⟨by rfl, ?_⟩) ?_
        rotate_left
        · (intro wS; go_simp; try with_reducible rfl)
        (try simp only [Act.put, List.getElem_toArray, List.getElem_cons_succ, List.getElem_cons_zero, List.setIfInBounds_toArray, List.set_cons_zero, List.set_cons_succ])
        refine wpAny_take (i := 23) (v := ?_) rfl (by kernel_rfl) (by kernel_rfl) (by kernel_rfl) (fun _ _ _ h => h) (Or.inl ⟨by rfl, ?_⟩) ?_
        rotate_left
        · (intro wS; go_simp; try with_reducible rfl)
        (try simp only [Act.put, List.getElem_toArray, List.getElem_cons_succ, List.getElem_cons_zero, List.setIfInBounds_toArray, List.set_cons_zero, List.set_cons_succ])
        refine wpAny_take (i := 24) (v := ?_) rfl (by kernel_rfl) (by kernel_rfl) (by kernel_rfl) (fun _ _ _ h => h) (Or.inl ⟨by rfl, ?_⟩) ?_
        rotate_left
        · (intro wS; go_simp; try with_reducible rfl)
        (try simp only [Act.put, List.getElem_toArray, List.getElem_cons_succ, List.getElem_cons_zero, List.setIfInBounds_toArray, List.set_cons_zero, List.set_cons_succ])
        refine wpAny_ready (rs := [6]) (by kernel_rfl) (by simp) ?_
        refine AllReady.cons rfl (fun K hK => ?_) ?_
        · rw [if_pos (by rfl)]
          go_simp
          refine hK _ _ ?_
          clear hK K
          (try simp only [Act.put, List.getElem_toArray, List.getElem_cons_succ, List.getElem_cons_zero, List.setIfInBounds_toArray, List.set_cons_zero, List.set_cons_succ])
          refine wpAny_take (i := 8) (v := ?_) rfl (by kernel_rfl) (by kernel_rfl) (by kernel_rfl) (fun _ _ _ h => h) (Or.inl ⟨by rfl, ?_⟩) ?_
          rotate_left
          · (intro wS; go_simp; try with_reducible rfl)
          (try simp only [Act.put, List.getElem_toArray, List.getElem_cons_succ, List.getElem_cons_zero, List.setIfInBounds_toArray, List.set_cons_zero, List.set_cons_succ])
          refine wpAny_take (i := 10) (v := ?_) rfl (by kernel_rfl) (by kernel_rfl) (by kernel_rfl) (fun _ _ _ h => h) (Or.inl ⟨by rfl, ?_⟩) ?_
          rotate_left
          · (intro wS; go_simp; try with_reducible rfl)
          (try simp only [Act.put, List.getElem_toArray, List.getElem_cons_succ, List.getElem_cons_zero, List.setIfInBounds_toArray, List.set_cons_zero, List.set_cons_succ])
          refine wpAny_take (i := 12) (v := ?_) rfl (by kernel_rfl) (by kernel_rfl) (by kernel_rfl) (fun _ _ _ h => h) (Or.inl ⟨by rfl, ?_⟩) ?_
          rotate_left
          · (intro wS; go_simp; try with_reducible rfl)
          (try simp only [Act.put, List.getElem_toArray, List.getElem_cons_succ, List.getElem_cons_zero, List.setIfInBounds_toArray, List.set_cons_zero, List.set_cons_succ])
          refine wpAny_take (i := 13) (v := ?_) rfl (by kernel_rfl) (by kernel_rfl) (by kernel_rfl) (fun _ _ _ h => h) (Or.inl ⟨by rfl, ?_⟩) ?_
          rotate_left
          · (intro wS; go_simp; try with_reducible rfl)
          (try simp only [Act.put, List.getElem_toArray, List.getElem_cons_succ, List.getElem_cons_zero, List.setIfInBounds_toArray, List.set_cons_zero, List.set_cons_succ])
          refine wpAny_take (i := 25) (v := ?_) rfl (by kernel_rfl) (by kernel_rfl) (by kernel_rfl) (fun _ _ _ h => h) (Or.inl ⟨by rfl, ?_⟩) ?_
          rotate_left
          · (intro wS; go_simp; try with_reducible rfl)
          (try simp only [Act.put, List.getElem_toArray, List.getElem_cons_succ, List.getElem_cons_zero, List.setIfInBounds_toArray, List.set_cons_zero, List.set_cons_succ])
          refine wpAny_ready (rs := [26]) (by kernel_rfl) (by simp) ?_
          refine AllReady.cons rfl (fun K hK => ?_) ?_
          · rw [if_pos (by rfl)]
            refine wp_val (exec_build1 rfl rfl (build_tk wr.drew ⟨(i : Int), 1 + S, D, R, 1 + MZ⟩)) (hK _ _ ?_)
            clear hK K
            (try simp only [Act.put, List.getElem_toArray, List.getElem_cons_succ, List.getElem_cons_zero, List.setIfInBounds_toArray, List.set_cons_zero, List.set_cons_succ])
            refine wpAny_ready (rs := [27]) (by kernel_rfl) (by simp) ?_
            refine AllReady.cons rfl (fun K hK => ?_) ?_
            · rw [if_pos (by rfl)]
              refine Lib.wp_append_run _ _ _ _ _ rfl _ _ rfl rfl _ _ hap (hK _ _ ?_)
              clear hK K
              (try simp only [Act.put, List.getElem_toArray, List.getElem_cons_succ, List.getElem_cons_zero, List.setIfInBounds_toArray, List.set_cons_zero, List.set_cons_succ])
              refine wpAny_take (i := 28) (v := ?_) rfl (by kernel_rfl) (by kernel_rfl) (by kernel_rfl) (fun _ _ _ h => h) (Or.inl ⟨by rfl, ?_⟩) ?_
              rotate_left
              · (intro wS; go_simp; try with_reducible rfl)
              (try simp only [Act.put, List.getElem_toArray, List.getElem_cons_succ, List.getElem_cons_zero, List.setIfInBounds_toArray, List.set_cons_zero, List.set_cons_succ])
              refine wpAny_done (by kernel_rfl) ?_ _
              go_wp2
              go_roundg (gk - 1)
              case measure => omega
              case rel => exact ⟨i + 1, _, by have := HI.out; omega, by go_num, rfl, by rw [HN.out]; exact HRW.out, KD.out.trans (HBW.out)⟩
            exact AllReady.nil
          exact AllReady.nil
        exact AllReady.nil
      exact AllReady.nil
    · have hge : (l.length : Int) ≤ (i : Int) ∨ ((i : Int) < (l.length : Int) ∧ (8 : Int) ≤ (i : Int)) := by omega
      have e : i = min l.length 8 := by omega
      have RW : Hid (TRow w.heap.size wr v0 (made12 l)) := Lib.hid (by unfold made12; rw [← e]; exact hr.mono K0.out.size)
      have K2 := Lib.hid (K0.out.trans (hB.mono K0.out.size))
      clear hB TQ hi hlt e hr
      rcases hge with hge | ⟨hge1, hge2⟩
      · go_wp2
        go_ret
        exact ⟨_, rfl, RW.out, K2.out⟩
      · go_wp2
        go_ret
        exact ⟨_, rfl, RW.out, K2.out⟩
/-- those that are not too slow to be asked -/
def okT (t : Tk) : Bool := decide (t.t ≤ 1024) || decide (1048576 < t.t)
def fewL (l : List Tk) : List Tk := (l.take 3).filter okT
theorem fewL_len (l : List Tk) : (fewL l).length ≤ 3 := by
  have h1 : (fewL l).length ≤ (l.take 3).length := List.length_filter_le _ _
  have h2 : (l.take 3).length ≤ 3 := by rw [List.length_take]; omega
  omega
theorem few_take {l : List Tk} {i : Nat} (h : i < l.length) : (l.take (i + 1)).filter okT = if okT l[i] = true then (l.take i).filter okT ++ [l[i]] else (l.take i).filter okT := by
  rw [List.take_succ_eq_append_getElem h, List.filter_append]
  cases hb : okT l[i] <;> simp [hb]
def FwRel (l : List Tk) (w : World) (g : Nat) (s t : Value) (wx : World) : Prop :=
  ∃ (i : Nat), i + g = min l.length 3 ∧ t = .int .i64 (i : Int) ∧ TRow w.heap.size wx s ((l.take i).filter okT) ∧ Below w.heap.size w wx
set_option maxHeartbeats 4000000 in
theorem few_any (l : List Tk) (ao : Option Addr) (cap : Nat) (w : World) (hT : Ts ao l w) (hl : l.length ≤ 9223372036854775807) :
    Calls Try.prog 12 #[.slice ao l.length cap] w fun e w' => ∃ v, e = .returned v ∧ TRow w.heap.size w' v (fewL l) ∧ Below w.heap.size w w' := by
  have T := Lib.hid hT
  clear hT
  go_enter Try.func12, Try.ntmps12
  go_wp2_with fail
  go_loopg [3, 4] (min l.length 3) (FwRel l w)
  case atStart => exact ⟨0, by omega, rfl, trow_nil _ _, Below.refl _ _⟩
  case round =>
    obtain ⟨i, hi, rfl, hr, hB⟩ := hrel
    have TQ := T.out.call hB
    by_cases hlt : i < l.length ∧ i < 3
    · obtain ⟨h1, h2⟩ := hlt
      obtain ⟨b, off, rfl, hb, hat⟩ := TQ (by omega)
      have hx := hat i l[i] (List.getElem?_eq_getElem h1)
      have HI := Lib.hid hi
      have i1 : (i : Int) < (l.length : Int) := by omega
      have i2 : (i : Int) < 3 := by omega
      have hg0 : 0 < gk := by omega
      have TK := few_take h1
      obtain ⟨c0, c1, c2, c3, c4⟩ := hx
      have hlen : ((l.take i).filter okT).length ≤ 100000 := by have := List.length_filter_le okT (l.take i); simp at this; omega
      generalize l[i] = t at *
      obtain ⟨ti, tc, td, tt, tm⟩ := t
      have ok : okT ⟨ti, tc, td, tt, tm⟩ = (decide (tt ≤ 1024) || decide (1048576 < tt)) := rfl
      rw [ok] at TK
      simp only at *
      have RR := Lib.hid hr
      have BB := Lib.hid hB
      obtain ⟨qa, qc, rfl, -, -⟩ := hr.form
      clear ok hi hat TQ hr hB
      have yes : (tt ≤ 1024 ∨ (1024 < tt ∧ 1048576 < tt)) → TRow w.heap.size wr (.slice qa ((l.take i).filter okT).length qc) ((l.take i).filter okT) → ∃ v' w', (Builtin.append_ #[22, 22] 22 #[.slice qa ((l.take i).filter okT).length qc, .slice (some ⟨wr.heap.size, 0, none⟩) 1 1]).run Try.prog (wr.alloc (.cells (Tk.cs ⟨ti, tc, td, tt, tm⟩).toArray 42)) = .ok v' w' ∧ TRow w.heap.size w' v' ((l.take (i + 1)).filter okT) ∧ Below w.heap.size wr w' := fun h hr => by
        have h1 : (decide (tt ≤ 1024) || decide (1048576 < tt)) = true := by simp; omega
        rw [if_pos h1] at TK
        rw [TK]
        exact trow_append w.heap.size wr _ _ ⟨ti, tc, td, tt, tm⟩ hr BB.out.size hlen
      by_cases h5 : tt ≤ 1024
      · obtain ⟨v', w', hap, hrow, hbw⟩ := yes (.inl h5) RR.out
        have HR := Lib.hid hrow
        have HB := Lib.hid (BB.out.trans hbw)
        clear hrow hbw TK RR BB yes
        generalize ((l.take i).filter okT).length = n2 at *
        go_wp2_with (at_builtin; refine Lib.wpList_append_run _ rfl _ _ _ _ rfl _ _ rfl rfl _ _ hap ?_)
        go_roundg (gk - 1)
        case measure => omega
        case rel => exact ⟨i + 1, by have := HI.out; omega, by go_num, HR.out, HB.out⟩
      · have h6 : 1024 < tt := by omega
        by_cases h7 : 1048576 < tt
        · have h8 : tt > 1048576 := h7
          obtain ⟨v', w', hap, hrow, hbw⟩ := yes (.inr ⟨h6, h7⟩) RR.out
          have HR := Lib.hid hrow
          have HB := Lib.hid (BB.out.trans hbw)
          clear hrow hbw TK RR BB yes h5
          generalize ((l.take i).filter okT).length = n2 at *
          go_wp2_with (at_builtin; refine Lib.wpList_append_run _ rfl _ _ _ _ rfl _ _ rfl rfl _ _ hap ?_)
          go_roundg (gk - 1)
          case measure => omega
          case rel => exact ⟨i + 1, by have := HI.out; omega, by go_num, HR.out, HB.out⟩
        · have h8 : tt ≤ 1048576 := by omega
          have h9 : ¬ (decide (tt ≤ 1024) || decide (1048576 < tt)) = true := by simp; omega
          rw [if_neg h9] at TK
          have HR : Hid (TRow w.heap.size wr (.slice qa ((l.take i).filter okT).length qc) ((l.take (i + 1)).filter okT)) := Lib.hid (by rw [TK]; exact RR.out)
          clear TK RR yes h5 h7 h9
          generalize ((l.take i).filter okT).length = n2 at *
          go_wp2
          go_roundg (gk - 1)
          case measure => omega
          case rel => exact ⟨i + 1, by have := HI.out; omega, by go_num, HR.out, BB.out⟩
    · have hge : (l.length : Int) ≤ (i : Int) ∨ ((i : Int) < (l.length : Int) ∧ (3 : Int) ≤ (i : Int)) := by omega
      have e : l.take i = l.take 3 := by
        rcases Nat.lt_or_ge l.length 3 with h | h
        · rw [List.take_of_length_le (by omega), List.take_of_length_le (by omega)]
        · rw [show i = 3 by omega]
      rw [e] at hr
      have hfl : fewL l = (l.take 3).filter okT := rfl
      rw [← hfl] at hr
      have RW := Lib.hid (hr.mono (Nat.le_refl _))
      have KB := Lib.hid hB
      obtain ⟨qa, qc, rfl, -, -⟩ := hr.form
      clear hB TQ hi hlt e hr hfl
      generalize (fewL l).length = n2 at *
      rcases hge with hge | ⟨hge1, hge2⟩
      · go_wp2
        go_ret
        exact ⟨_, rfl, RW.out, KB.out⟩
      · go_wp2
        go_ret
        exact ⟨_, rfl, RW.out, KB.out⟩
/-- the chapter's examples -/
def exC : List Tk := [⟨1, 3, 3, 5, 1⟩, ⟨2, 2, 4, 6, 1⟩]
theorem exB_may : May exB := may_of (by rw [exB_load]) (by rw [exB_load]; decide)
theorem exB_test : testR exB = 0 := testR_zero.2 ⟨by rw [exB_load], by rw [exB_load]; decide, (missN_all exB_may).1 (by
  have : missN exB = seekM exB (loadR exB).p.toNat 1 := rfl
  rw [this, exB_load]; decide +kernel)⟩
theorem exC_load : loadR exC = ⟨28, 30, 0⟩ := by
  have e : periodR exC = (30, 0) := by decide +kernel
  have e2 : work 30 exC = 28 := by decide
  rw [load_yes (by rw [e]), e]; rw [e2]
theorem exC_test : testR exC = 17 := by
  rcases testR_is (l := exC) (by rw [exC_load]) with h | h
  · have := (testR_zero.1 h).2.2 4 (by omega)
    have e : Dm.sum exC 4 = 5 := by decide
    omega
  · exact h
theorem exC_ts (w : World) (b : Nat) (h : Ts (some ⟨b, 0, none⟩) exB w) : Ts (some ⟨b, 0, none⟩) exC (w.setCell ⟨b, 1, none⟩ (.int .i64 3)) := fun _ => by
  obtain ⟨b', off, e, hl, hc⟩ := h (by decide)
  cases e
  refine ⟨_, _, rfl, by simp [World.setCell]; exact hl, fun i x hi => ?_⟩
  match i, hi with
  | 0, hi => obtain rfl : _ = x := by simpa [exC] using hi
             have k := hc 0 _ rfl
             have k0 := k.c0
             have k1 := k.c1
             have k2 := k.c2
             have k3 := k.c3
             have k4 := k.c4
             simp at k0 k1 k2 k3 k4
             exact ⟨by simp [go_sem, k0], by simp [go_sem, k1], by simp [go_sem, k2], by simp [go_sem, k3], by simp [go_sem, k4]⟩
  | 1, hi => obtain rfl : _ = x := by simpa [exC] using hi
             have k := hc 1 _ rfl
             have k0 := k.c0
             have k1 := k.c1
             have k2 := k.c2
             have k3 := k.c3
             have k4 := k.c4
             simp at k0 k1 k2 k3 k4
             exact ⟨by simp [go_sem, k0], by simp [go_sem, k1], by simp [go_sem, k2], by simp [go_sem, k3], by simp [go_sem, k4]⟩
  | i + 2, hi => simp [exC] at hi
theorem awake_any (w : World) :
    Calls Try.prog 10 #[] w fun e w' => e = .returned (.bool true) ∧ Below w.heap.size w w' := by
  have TB : Hid (∀ w T, Calls Try.prog 18 #[.slice (some ⟨w.heap.size, 0, none⟩) 2 2] (w.alloc (.cells #[.int .i64 1, .int .i64 2, .int .i64 3, .int .i64 5, .int .i64 1, .int .i64 2, .int .i64 2, .int .i64 4, .int .i64 6, .int .i64 1] T)) fun e w' => e = .returned (.int .i64 0) ∧ Below w.heap.size w w' ∧ Ts (some ⟨w.heap.size, 0, none⟩) exB w' ∧ w'.frozen? ⟨w.heap.size, 1, none⟩ = false) := Lib.hid (fun w T => by
    refine (test_any exB _ 2 _ (exB_ts w T) (by decide)).mono fun e w' ⟨he, hb⟩ => ?_
    rw [exB_test] at he
    exact ⟨he, ((Below.refl _ _).alloc (Nat.le_refl _) _).trans (hb.mono (by simp)), (exB_ts w T).call hb, by rw [hb.frozen (p := ⟨w.heap.size, 1, none⟩) (by simp)]; simp [go_sem]⟩)
  have TC : Hid (∀ w b, Ts (some ⟨b, 0, none⟩) exC w → Calls Try.prog 18 #[.slice (some ⟨b, 0, none⟩) 2 2] w fun e w' => e = .returned (.int .i64 17) ∧ Below w.heap.size w w') := Lib.hid (fun w b h => by
    refine (test_any exC _ 2 _ h (by decide)).mono fun e w' ⟨he, hb⟩ => ?_
    rw [exC_test] at he
    exact ⟨he, hb⟩)
  go_enter Try.func10, Try.ntmps10
  go_wp2_with fail
  (with_reducible refine (TB.out _ _).mono ?_)
  rintro e w1 ⟨rfl, b1, t1, z1⟩
  obtain ⟨b', off, e, hl, hc⟩ := t1 (by decide)
  cases e
  have k1 := (hc 0 _ rfl).c1
  have T3 := Lib.hid (TC.out _ _ (exC_ts _ _ t1))
  have B3 := Lib.hid (b1.setCell (p := ⟨w.heap.size, 1, none⟩) (Nat.le_refl _) (.int .i64 3))
  simp at k1
  clear hc t1 b1 TB TC
  go_wp2_with fail
  generalize (w1.setCell ⟨w.heap.size, 1, none⟩ (.int .i64 3)) = W3 at *
  (with_reducible refine T3.out.mono ?_)
  rintro e w4 ⟨rfl, b4⟩
  have K4 := Lib.hid (B3.out.trans (b4.mono B3.out.size))
  clear b4 T3 B3
  go_wp2
  go_ret
  exact ⟨rfl, K4.out⟩
end Go.Proofs.Ytbhafcaekpccoaa.Qp
