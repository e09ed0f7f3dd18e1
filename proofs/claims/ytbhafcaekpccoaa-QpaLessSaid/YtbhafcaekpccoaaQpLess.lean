/- horariumlaw12.QpaLess answers true at every row of three numbers and every two numbers: what fits fits without one of its tasks, or with less work, a later deadline, or a longer period of one. No condition. -/
import Derived.Test.YtbhafcaekpccoaaQpL
import Derived.Deep.DeepCutAuto
import Derived.BigQuiet
import Derived.BigRegion
namespace Go.Proofs.Ytbhafcaekpccoaa.qpaLess
open Go.ChangeShapes Go.WideShapes Go.ChangeAt Go.RowKit Go.Joins
set_option maxRecDepth 100000
set_option linter.unusedVariables false
set_option linter.unusedSimpArgs false
open Pm Qp

theorem i64_and3 (n : Int) : bits .and .i64 n 3 = n % 4 := by
  have hm : (BitVec.ofInt 64 3).toNat = 2 ^ 2 - 1 := by decide
  have key : (BitVec.ofInt 64 n &&& BitVec.ofInt 64 3).toNat = (n % ((2 ^ 64 : Nat) : Int)).toNat % 2 ^ 2 := by
    rw [BitVec.toNat_and, BitVec.toNat_ofInt, hm, Nat.and_two_pow_sub_one_eq_mod]
  show IntKind.i64.wrap ((BitVec.ofInt 64 n &&& BitVec.ofInt 64 3).toNat : Nat) = n % 4
  rw [key, IntKind.wrap_i64]
  omega
theorem row0 (w : World) : TRow w.heap.size (w.alloc (.cells #[] 42)) (.slice (some ⟨w.heap.size, 0, none⟩) 0 0) [] :=
  ⟨rfl, .inr ⟨w.heap.size, 0, #[], rfl, Nat.le_refl _, by show (w.heap.push _)[w.heap.size]? = _; rw [Array.getElem?_push_size], Nat.le_refl _, by simp [maxLen], rfl, rfl⟩⟩
theorem TRow.tsn {B : Nat} {w : World} {am : Option Addr} {cm n : Nat} {l : List Tk} (h : TRow B w (.slice am n cm) l) (hn : n = l.length) : Ts am l w := by
  obtain ⟨ao, cap', hv, -, hts⟩ := h.form
  cases hv; exact hts
/-- a test of a row that fits -/
theorem test_n {B : Nat} {w : World} {am : Option Addr} {cm n : Nat} {M : List Tk} (h : TRow B w (.slice am n cm) M) (hn : n = M.length) (h6 : n ≤ 100) (hz : testR M = 0) :
    Calls Try.prog 18 #[.slice am n cm] w fun e w' => e = .returned (.int .i64 0) ∧ Below w.heap.size w w' := by
  subst hn
  have := test_any M am cm w (TRow.tsn h rfl) (by omega)
  rw [hz] at this
  exact this
theorem slice_lo (g n cap k : Nat) (h1 : k ≤ n) (h2 : n ≤ cap) (w : World) : (Instr.sliceAt 22 (.slice (some ⟨g, 0, none⟩) n cap) none (some (.int .i64 (k : Int))) none).run Try.prog w = .ok (.slice (some ⟨g, 0, none⟩) k cap) w := by
  rw [run_sliceAt_slice w _ _ _ _ _ (by kernel_rfl), run_slice_h w _ _ _ _ (by kernel_rfl) _ _ (by omega) (by omega)]
  have e : (sizeOf (Try.prog.elem 22)).run Try.prog w = .ok 5 w := by kernel_rfl
  rw [e]
  simp [Result.andThen, sliced, Addr.add]
theorem slice_hi (g n cap k : Nat) (h1 : k ≤ n) (h2 : n ≤ cap) : ∃ a : Addr, (k < cap → a = ⟨g, k * 5, none⟩) ∧ ∀ w, (Instr.sliceAt 22 (.slice (some ⟨g, 0, none⟩) n cap) (some (.int .i64 (k : Int))) none none).run Try.prog w = .ok (.slice (some a) (n - k) (cap - k)) w := by
  have e : ∀ w, (sizeOf (Try.prog.elem 22)).run Try.prog w = .ok 5 w := fun w => by kernel_rfl
  by_cases hc : k < cap
  · refine ⟨⟨g, k * 5, none⟩, fun _ => rfl, fun w => ?_⟩
    have hc' : ¬ cap = k := by omega
    rw [run_sliceAt_slice w _ _ _ _ _ (by kernel_rfl), run_slice_l w _ _ _ _ (by kernel_rfl) _ _ (by omega) (by omega), e]
    by_cases h0 : k = 0
    · subst h0; simp [Result.andThen, sliced, Addr.add, hc']
    · have h5 : ¬ k * 5 = 0 := by omega
      simp [Result.andThen, sliced, Addr.add, h0, hc', h5]
  · have hc' : cap = k := by omega
    subst hc'
    refine ⟨⟨g, 0, none⟩, fun h => absurd h hc, fun w => ?_⟩
    rw [run_sliceAt_slice w _ _ _ _ _ (by kernel_rfl), run_slice_l w _ _ _ _ (by kernel_rfl) _ _ (by omega) (by omega), e]
    simp [Result.andThen, sliced, Addr.add]
/-- what stands of the tasks behind the cut -/
def CutRel (T : List Tk) (B : Nat) (w : World) (s : Value) (wx : World) : Prop := ∃ ao cap, s = .slice ao T.length cap ∧ Ts ao T wx ∧ Below B w wx
set_option maxRecDepth 100000 in
set_option maxHeartbeats 8000000 in
theorem walk (l : List Tri) (ao : Option Addr) (cap : Nat) (x y : Int) (w : World) (hT : Tris ao l w) (hl : l.length ≤ 9223372036854775807) (hok : ∀ x ∈ l, x.Ok) (hx : I64 x) (hy : I64 y) :
    Calls Try.prog 6 #[.slice ao l.length cap, .int .i64 x, .int .i64 y] w fun e w' => e = .returned (.bool true) ∧ Below w.heap.size w w' := by
  have AW := Lib.hid awake_any
  have MA := Lib.hid (fun w h => made_any l ao cap w h hl hok)
  have TI := Lib.hid hT
  have hml := made12_len l
  have CKA : Hid (∀ t ∈ made12 l, chk t = true ∧ t.t.toNat ∣ 120) := Lib.hid (fun t ht => ⟨(made12_mem ht).1, (made12_mem ht).2.2⟩)
  unfold I64 at hx hy
  clear hT hok
  go_enter Try.func6, Try.ntmps6
  go_wp2_with fail
  (with_reducible refine (AW.out _).mono ?_)
  rintro e w1 ⟨rfl, b1⟩
  have K1 := Lib.hid b1
  clear b1 AW
  go_wp2_with fail
  (with_reducible refine (MA.out _ (TI.out.below K1.out (Nat.le_refl _))).mono ?_)
  rintro e w2 ⟨v, rfl, tr, b2⟩
  have K2 := Lib.hid (K1.out.trans (b2.mono K1.out.size))
  obtain ⟨am, cm, rfl, hcm, hts⟩ := tr.form
  have T2 := Lib.hid hts
  clear b2 tr hts MA TI K1
  have CK : Hid (∀ t ∈ (made12 l).take 6, chk t = true ∧ t.t.toNat ∣ 120) := Lib.hid (fun t ht => CKA.out t (List.mem_of_mem_take ht))
  have T6 : Hid (Ts am ((made12 l).take 6) w2) := Lib.hid (T2.out.take 6)
  have LN : Hid (((made12 l).take 6).length ≤ 6) := Lib.hid (by rw [List.length_take]; omega)
  have LE : Hid ((made12 l).length ≤ 6 → (made12 l).length = ((made12 l).take 6).length) := Lib.hid (fun h => by rw [List.length_take]; omega)
  have LF : Hid (6 < (made12 l).length → 6 = ((made12 l).take 6).length) := Lib.hid (fun h => by rw [List.length_take]; omega)
  generalize (made12 l).take 6 = T at *
  clear T2 CKA
  generalize (made12 l).length = m at *
  have hm : m ≤ 16 := by omega
  clear hml
  go_upto_if 16 with (fail)
  go_cut [8] (CutRel T w.heap.size w)
  case first =>
    by_cases h6 : 6 < m
    · have h1 : (6 : Int) < (m : Int) := by omega
      have hc2 : 6 ≤ cm := by omega
      have e := LF.out h6
      have sl : (Instr.sliceAt 22 (.slice am m cm) none (some (.int .i64 6)) none).run Try.prog w2 = .ok (.slice am 6 cm) w2 := by
        rw [run_sliceAt_slice w2 _ _ _ _ _ (by kernel_rfl), run_slice_h w2 _ _ _ _ (by kernel_rfl) _ _ (by omega) (by omega)]
        have e : (sizeOf (Try.prog.elem 22)).run Try.prog w2 = .ok 5 w2 := by kernel_rfl
        rw [e]
        simp only [Result.andThen, sliced]
        have : am.map (fun x => x.add (0 * 5)) = am := by cases am <;> simp [Addr.add]
        rw [this]
        simp
      have EE := Lib.hid e
      clear h6 e
      go_wp2_with fail
      go_meet
      exact ⟨am, cm, by rw [← EE.out], T6.out, K2.out⟩
    · have h1 : (m : Int) ≤ 6 := by omega
      have EE := Lib.hid (LE.out (by omega))
      clear h6
      go_wp2_with fail
      go_meet
      exact ⟨am, cm, by rw [← EE.out], T6.out, K2.out⟩
  case rest =>
    obtain ⟨an, cn, rfl, hts, hB⟩ := hcut
    have hlen := LN.out
    have TS := Lib.hid hts
    have KB := Lib.hid hB
    have hr : rowB T = true := rowB_yes (by omega) (fun t h => (CK.out t h).1)
    have TE := Lib.hid (fun w h => test_any T an cn w h (by omega))
    have NT := Lib.hid (nice_test (⟨hr, fun t h => Nat.dvd_trans (CK.out t h).2 (by decide)⟩ : Nice T))
    have LS := Lib.hid (fun h0 k t hk => lss (T := T) (k := k) (t := t) hr (fun t h => (CK.out t h).2) h0 hk)
    clear T6 K2 LE LF hts hB LN CK hcm hm hr
    by_cases h0 : T.length = 0
    · have e0 : ((T.length : Int) == 0) = true := by rw [h0]; rfl
      clear h0 LS NT TE
      generalize T.length = ln at *
      go_wp2
      go_ret
      exact ⟨rfl, KB.out⟩
    · have e0 : ((T.length : Int) == 0) = false := by simp; intro h; subst h; exact h0 rfl
      obtain ⟨te, hte⟩ : ∃ te, testR T = te := ⟨_, rfl⟩
      rw [hte] at TE
      go_wp2_with fail
      (with_reducible refine (TE.out _ TS.out).mono ?_)
      rintro e w3 ⟨rfl, b3⟩
      have K3 := Lib.hid (KB.out.trans (b3.mono KB.out.size))
      have T3 := Lib.hid (TS.out.call b3)
      clear b3 KB TS TE
      rcases NT.out with ⟨-, hz⟩ | ⟨-, hz⟩
      · obtain rfl : te = 0 := by omega
        have hn0 : 0 < T.length := by omega
        obtain ⟨k, hk⟩ : ∃ k : Nat, x % (T.length : Int) = (k : Int) := ⟨(x % (T.length : Int)).toNat, by have := Int.emod_nonneg x (show (T.length : Int) ≠ 0 by omega); omega⟩
        have hkl : k < T.length := by have := Int.emod_lt_of_pos x (show 0 < (T.length : Int) by omega); omega
        obtain ⟨r2, p2, q2⟩ := Bs.rest_eq (x := x) (m := (T.length : Int)) (by omega)
        rw [hk] at r2
        have hT0 : ¬ (T.length : Int) = 0 := by omega
        have hL := LS.out hz k T[k] (List.getElem?_eq_getElem hkl)
        have hTk : T[k]? = some T[k] := List.getElem?_eq_getElem hkl
        generalize T[k] = t at *
        have r0 := row0 w3
        have ba := (Below.refl w3.heap.size w3).alloc (Nat.le_refl _) (.cells #[] 42)
        obtain ⟨v', w5, hap, hrow, hb5, -⟩ := trow_all w3.heap.size _ _ [] T an cn r0 (T3.out.call ba) ba.size (by simp; omega)
        rw [List.nil_append] at hrow
        obtain ⟨g, cp, rfl, hg1, hg2⟩ := World.ownsRow.form hrow hn0
        have K5 := Lib.hid (K3.out.trans ((ba.trans hb5).mono K3.out.size))
        have Z5 := (ba.trans hb5).size
        have Z3 := K3.out.size
        have R5 := Lib.hid hrow
        have G5 := Lib.hid (Nat.le_trans K3.out.size hg1)
        obtain ⟨h, hh⟩ : ∃ h, bits .and .i64 y 3 = h := ⟨_, rfl⟩
        have hh4 : 0 ≤ h ∧ h ≤ 3 := by rw [i64_and3] at hh; omega
        have hcp : T.length ≤ cp := by
          obtain ⟨ao', cap', hv, hc', -⟩ := hrow.form
          cases hv; exact hc'
        have HL := Lib.hid hL
        have HT := Lib.hid hTk
        clear r0 ba hb5 hrow LS NT hte hL hg1 hg2 T3 K3 h0 hk hTk
        generalize hN : T.length = n at *
        have HN := Lib.hid hN
        clear hN
        have i0 : (k : Int) < (n : Int) := by omega
        have HZ := Lib.hid hz
        obtain ⟨b', off, eo, -, hat⟩ := TRow.ts1 R5.out HN.out.symm (by have := HN.out; omega)
        cases eo
        obtain ⟨c0, c1, c2, c3, c4⟩ := hat k t HT.out
        simp only [Nat.zero_add] at c0 c1 c2 c3 c4
        have hlo := HL.out.lo
        obtain ⟨t1, t2, t3, t4⟩ := hlo
        have SN : Hid (∀ u : Tk, n = (T.set k u).length) := Lib.hid (fun u => by rw [List.length_set]; exact HN.out.symm)
        have hn6 : n ≤ 100 := by omega
        clear hat hz
        have hcs : h = 0 ∨ h = 1 ∨ h = 2 ∨ h = 3 := by omega
        clear hh4
        rcases hcs with rfl | rfl | rfl | rfl
        · -- without it
          have bd : Below w5.heap.size w5 w5.drew := (Below.refl _ _).drew
          have RD := R5.out.call bd
          obtain ⟨a5, ha5, hs5⟩ := slice_hi g n cp (k + 1) (by omega) hcp
          obtain ⟨v6, w6, hap6, hrow6, hb6, -⟩ := trow_all w3.heap.size w5.drew _ (T.take k) (T.drop (k + 1)) (some a5) (cp - (k + 1)) (trow_take RD HN.out.symm (by omega)) (fun h0 => by rw [ha5 (by have := HN.out; simp at h0; omega)]; exact trow_drop RD HN.out.symm (k + 1) h0) (by show w3.heap.size ≤ w5.heap.size; exact Z5) (by have := HN.out; simp; omega)
          have e6 : (T.drop (k + 1)).length = n - (k + 1) := by rw [List.length_drop, HN.out]
          rw [e6] at hap6
          obtain ⟨a6, c6, rfl, -, -⟩ := hrow6.form
          have R6 := Lib.hid hrow6
          have e7 : (T.take k ++ T.drop (k + 1)).length ≤ 100 := by have := HN.out; simp; omega
          have s1 := fun w => slice_lo g n cp k (by omega) hcp w
          have s2 : ∀ w, (Instr.sliceAt 22 (.slice (some ⟨g, 0, none⟩) n cp) (some (.int .i64 ((k : Int) + 1))) none none).run Try.prog w = .ok (.slice (some a5) (n - (k + 1)) (cp - (k + 1))) w := hs5
          have wk1 : IntKind.i64.wrap ((k : Int) + 1) = (k : Int) + 1 := wrap_in (by omega) (by omega)
          have LL := Lib.hid (test_n R6.out rfl e7 HL.out.cut)
          have K6 := Lib.hid (K5.out.drew.trans (hb6.mono (by omega)))
          generalize (T.take k ++ T.drop (k + 1)).length = n6 at *
          clear c0 c1 c2 c3 c4 SN HL HT ha5 hs5
          go_wp2_with (at_builtin; refine Lib.wpList_append_run _ rfl _ _ _ _ rfl _ _ rfl rfl _ _ hap ?_)
          refine wp_region_any (by kernel_rfl) ?_
          (try (change wpAny _ _ _ _ _ _ _ (World.drew _)))
          refine wpAny_take (i := 0) (v := ?_) rfl (by kernel_rfl) (by kernel_rfl) (by kernel_rfl) (fun _ _ _ h => h) (Or.inl ⟨by rfl, ?_⟩) ?_
          rotate_left
          · (intro wS; go_simp; try with_reducible rfl)
          (try simp only [Act.put, List.getElem_toArray, List.getElem_cons_succ, List.getElem_cons_zero, List.setIfInBounds_toArray, List.set_cons_zero, List.set_cons_succ])
          refine wpAny_take (i := 1) (v := ?_) rfl (by kernel_rfl) (by kernel_rfl) (by kernel_rfl) (fun _ _ _ h => h) (Or.inl ⟨by rfl, ?_⟩) ?_
          rotate_left
          · (intro wS; go_simp; try with_reducible rfl)
          (try simp only [Act.put, List.getElem_toArray, List.getElem_cons_succ, List.getElem_cons_zero, List.setIfInBounds_toArray, List.set_cons_zero, List.set_cons_succ])
          refine wpAny_take (i := 2) (v := ?_) rfl (by kernel_rfl) (by kernel_rfl) (by kernel_rfl) (fun _ _ _ h => h) (Or.inl ⟨by rfl, ?_⟩) ?_
          rotate_left
          · (intro wS; go_simp; try with_reducible rfl)
          (try simp only [Act.put, List.getElem_toArray, List.getElem_cons_succ, List.getElem_cons_zero, List.setIfInBounds_toArray, List.set_cons_zero, List.set_cons_succ])
          refine wpAny_take (i := 3) (v := ?_) rfl (by kernel_rfl) (by kernel_rfl) (by kernel_rfl) (fun _ _ _ h => h) (Or.inl ⟨by rfl, ?_⟩) ?_
          rotate_left
          · (intro wS; go_simp; try with_reducible rfl)
          (try simp only [Act.put, List.getElem_toArray, List.getElem_cons_succ, List.getElem_cons_zero, List.setIfInBounds_toArray, List.set_cons_zero, List.set_cons_succ])
          refine wpAny_take (i := 4) (v := ?_) rfl (by kernel_rfl) (by kernel_rfl) (by kernel_rfl) (fun _ _ _ h => h) (Or.inl ⟨by rfl, ?_⟩) ?_
          rotate_left
          · (intro wS; go_simp; try with_reducible rfl)
          (try simp only [Act.put, List.getElem_toArray, List.getElem_cons_succ, List.getElem_cons_zero, List.setIfInBounds_toArray, List.set_cons_zero, List.set_cons_succ])
          refine wpAny_take (i := 5) (v := ?_) rfl (by kernel_rfl) (by kernel_rfl) (by kernel_rfl) (fun _ _ _ h => h) (Or.inl ⟨by rfl, ?_⟩) ?_
          rotate_left
          · (intro wS; go_simp; try with_reducible rfl)
          (try simp only [Act.put, List.getElem_toArray, List.getElem_cons_succ, List.getElem_cons_zero, List.setIfInBounds_toArray, List.set_cons_zero, List.set_cons_succ])
          refine wpAny_take (i := 6) (v := ?_) rfl (by kernel_rfl) (by kernel_rfl) (by kernel_rfl) (fun _ _ _ h => h) (Or.inl ⟨by rfl, ?_⟩) ?_
          rotate_left
          · (intro wS; go_simp; try with_reducible rfl)
          (try simp only [Act.put, List.getElem_toArray, List.getElem_cons_succ, List.getElem_cons_zero, List.setIfInBounds_toArray, List.set_cons_zero, List.set_cons_succ])
          refine wpAny_ready (rs := [7]) (by kernel_rfl) (by simp) ?_
          refine AllReady.cons rfl (fun K hK => ?_) ?_
          · rw [if_pos (by rfl)]
            refine Lib.wp_append_run _ _ _ _ _ rfl _ _ rfl rfl _ _ hap6 (hK _ _ ?_)
            clear hK K
            (try simp only [Act.put, List.getElem_toArray, List.getElem_cons_succ, List.getElem_cons_zero, List.setIfInBounds_toArray, List.set_cons_zero, List.set_cons_succ])
            refine wpAny_take (i := 8) (v := ?_) rfl (by kernel_rfl) (by kernel_rfl) (by kernel_rfl) (fun _ _ _ h => h) (Or.inl ⟨by rfl, ?_⟩) ?_
            rotate_left
            · (intro wS; go_simp; try with_reducible rfl)
            (try simp only [Act.put, List.getElem_toArray, List.getElem_cons_succ, List.getElem_cons_zero, List.setIfInBounds_toArray, List.set_cons_zero, List.set_cons_succ])
            refine wpAny_done (by kernel_rfl) ?_ _
            go_wp2_with fail
            (with_reducible refine LL.out.mono ?_)
            rintro e w7 ⟨rfl, b7⟩
            have K7 := Lib.hid (K6.out.trans (b7.mono K6.out.size))
            clear b7
            go_wp2
            go_ret
            exact ⟨rfl, K7.out⟩
          exact AllReady.nil
        · by_cases hc : 1 < t.c
          · obtain ⟨f0, r6, -⟩ := trow_f R5.out HN.out.symm HT.out (j := 1) (by decide) (.int .i64 (t.c - 1)) { t with c := t.c - 1 } rfl
            have K6 := Lib.hid (K5.out.setCell (p := ⟨g, k * 5 + 1, none⟩) G5.out (.int .i64 (t.c - 1)))
            have LL := Lib.hid (test_n r6 (SN.out _) hn6 (HL.out.less hc))
            have hc' : t.c > 1 := hc
            clear r6 K5 R5 HL HT SN
            go_wp2_with (at_builtin; refine Lib.wpList_append_run _ rfl _ _ _ _ rfl _ _ rfl rfl _ _ hap ?_)
            generalize (w5.setCell ⟨g, k * 5 + 1, none⟩ (.int .i64 (t.c - 1))) = W6 at *
            (with_reducible refine LL.out.mono ?_)
            rintro e w7 ⟨rfl, b7⟩
            have K7 := Lib.hid (K6.out.trans (b7.mono K6.out.size))
            clear b7
            go_wp2
            go_ret
            exact ⟨rfl, K7.out⟩
          · have LL := Lib.hid (test_n R5.out HN.out.symm hn6 HZ.out)
            have hc' : t.c ≤ 1 := by omega
            clear R5 HL HT SN hc
            go_wp2_with (at_builtin; refine Lib.wpList_append_run _ rfl _ _ _ _ rfl _ _ rfl rfl _ _ hap ?_)
            (with_reducible refine LL.out.mono ?_)
            rintro e w7 ⟨rfl, b7⟩
            have K7 := Lib.hid (K5.out.trans (b7.mono K5.out.size))
            clear b7
            go_wp2
            go_ret
            exact ⟨rfl, K7.out⟩
        · have RD := R5.out.call ((Below.refl _ _).drew : Below w5.heap.size w5 w5.drew)
          go_wp2_with (at_builtin; refine Lib.wpList_append_run _ rfl _ _ _ _ rfl _ _ rfl rfl _ _ hap ?_)
          go_quiet (fail)
          have K6 := Lib.hid (K5.out.trans ((below_drewN _ nq).mono K5.out.size))
          have R6 := Lib.hid (R5.out.call (below_drewN _ nq))
          have q2 : (w5.drewN nq).cell? ⟨g, k * 5 + 2, none⟩ = some (.int .i64 t.d) := carry (below_drewN _ nq) c2
          clear RD K5 R5 c0 c1 c2 c3 c4 hap
          generalize w5.drewN nq = w6 at *
          by_cases hc : t.d < t.t
          · obtain ⟨f0, r6, -⟩ := trow_f R6.out HN.out.symm HT.out (j := 2) (by decide) (.int .i64 (t.d + 1)) { t with d := t.d + 1 } rfl
            have K7 := Lib.hid (K6.out.setCell (p := ⟨g, k * 5 + 2, none⟩) G5.out (.int .i64 (t.d + 1)))
            have LL := Lib.hid (test_n r6 (SN.out _) hn6 (HL.out.late hc))
            clear r6 K6 R6 HL HT SN
            go_wp2_with fail
            generalize (w6.setCell ⟨g, k * 5 + 2, none⟩ (.int .i64 (t.d + 1))) = W6 at *
            (with_reducible refine LL.out.mono ?_)
            rintro e w7 ⟨rfl, b7⟩
            have K8 := Lib.hid (K7.out.trans (b7.mono K7.out.size))
            clear b7
            go_wp2
            go_ret
            exact ⟨rfl, K8.out⟩
          · have LL := Lib.hid (test_n R6.out HN.out.symm hn6 HZ.out)
            have hc' : t.t ≤ t.d := by omega
            clear R6 HL HT SN hc
            go_wp2_with fail
            (with_reducible refine LL.out.mono ?_)
            rintro e w7 ⟨rfl, b7⟩
            have K7 := Lib.hid (K6.out.trans (b7.mono K6.out.size))
            clear b7
            go_wp2
            go_ret
            exact ⟨rfl, K7.out⟩
        · obtain ⟨f0, r6, -⟩ := trow_f R5.out HN.out.symm HT.out (j := 3) (by decide) (.int .i64 (2 * t.t)) { t with t := 2 * t.t } rfl
          have K6 := Lib.hid (K5.out.setCell (p := ⟨g, k * 5 + 3, none⟩) G5.out (.int .i64 (2 * t.t)))
          have LL := Lib.hid (test_n r6 (SN.out _) hn6 HL.out.long)
          clear r6 K5 R5 HL HT SN
          go_wp2_with (at_builtin; refine Lib.wpList_append_run _ rfl _ _ _ _ rfl _ _ rfl rfl _ _ hap ?_)
          generalize (w5.setCell ⟨g, k * 5 + 3, none⟩ (.int .i64 (2 * t.t))) = W6 at *
          (with_reducible refine LL.out.mono ?_)
          rintro e w7 ⟨rfl, b7⟩
          have K7 := Lib.hid (K6.out.trans (b7.mono K6.out.size))
          clear b7
          go_wp2
          go_ret
          exact ⟨rfl, K7.out⟩
      · obtain rfl : te = 17 := by omega
        clear LS NT
        generalize T.length = ln at *
        go_wp2
        go_ret
        exact ⟨rfl, K3.out⟩

set_option maxRecDepth 100000 in
set_option maxHeartbeats 1600000 in
theorem lifted (os : Os) (started : os.Started) (H : Type) (enc : TypeId × Value → H) :
    ReturnsInHanded {} Try.checked os 6 .any (Rows.qpaLessSpec.pre6 enc Try.prog Try.f6 Rows.qpaLessRow.domain false) (Rows.qpaLessSpec.post enc Try.prog Try.f6 false true false false) := by
  refine returnsInHanded_of_change (C := Try.checked) own started (by kernel_rfl) Try.func6
    (ChangeSpec.witness6 (enc := enc) (C := Try.checked) false ⟨#[], #[.slice none 0 0, .int .i64 0, .int .i64 0], []⟩ 8 (by kernel_rfl) (by kernel_rfl) (by kernel_rfl) (by kernel_rfl)) ?_
  intro W base args ds gs before hval0 hW hcnd _
  have hval : ∀ (j : Nat) t v, Try.f6.params[j]? = some t → args[j]? = some v → Value.okWide Try.prog W .any base t v := hval0
  have hW' := hW
  obtain ⟨p, q, hA0, hV, rfl, hfz, hnd⟩ := hW
  have hA : DataW.TrodAll enc Try.prog W 0 (fun _ => true) true Try.f6.params.toList args.toList ds p := hA0
  rw [Try.params6] at hA hval
  obtain ⟨v0, vs0, d0, ds0, p0, q0, hargs, rfl, rfl, h0, r0⟩ := trodAll_cons hA
  obtain ⟨v1, vs1, d1, ds1, p1, q1, rfl, rfl, rfl, h1, r1⟩ := trodAll_cons r0
  obtain ⟨v2, vs2, d2, ds2, p2, q2, rfl, rfl, rfl, h2, r2⟩ := trodAll_cons r1
  obtain ⟨rfl, rfl, rfl⟩ := trodAll_nil r2
  obtain rfl : args = #[v0, v1, v2] := by cases args; simp_all
  obtain ⟨rfl, rfl⟩ := trodVars_none hV
  have lt0 : ∀ x ∈ p0, x.block < W.heap.size := by obtain ⟨m, hm⟩ := h0; exact DataW.trod_lt m _ _ _ hm
  obtain ⟨aol, ll, capl, rfl, lel, val, okl⟩ := open_tris (hval 0 23 v0 rfl rfl) h0
  have lt1 : ∀ x ∈ p1, x.block < W.heap.size := by obtain ⟨m, hm⟩ := h1; exact DataW.trod_lt m _ _ _ hm
  obtain ⟨a, e1, -, -, wfa⟩ := open_int Try.underlying3 (hval 1 3 v1 rfl rfl) h1
  subst e1
  have lt2 : ∀ x ∈ p2, x.block < W.heap.size := by obtain ⟨m, hm⟩ := h2; exact DataW.trod_lt m _ _ _ hm
  obtain ⟨b, e2, -, -, wfb⟩ := open_int Try.underlying3 (hval 2 3 v2 rfl rfl) h2
  subst e2
  clear hA0 hval0
  refine (walk ll aol capl a b W val lel okl (i64_wf wfa) (i64_wf wfb)).mono fun e W' ⟨he, bel⟩ => ?_
  subst he
  exact ⟨_, rfl, _, _, _, [], _, [], hW', trodAll_mk1 (shut_bool Try.underlying4 _), (trodAll_cons_mk (Below.trod laidOut (by kernel_rfl) (of_decide_eq_true (by kernel_rfl)) h0 bel lt0) (trodAll_cons_mk (Below.trod laidOut (by kernel_rfl) (of_decide_eq_true (by kernel_rfl)) h1 bel lt1) (trodAll_cons_mk (Below.trod laidOut (by kernel_rfl) (of_decide_eq_true (by kernel_rfl)) h2 bel lt2) trodAll_mk0))), rfl, bel.frame _, fun h => by cases h⟩

theorem proved : Rows.QpaLessSaid :=
  OpenClaim.holds_of_wide 6 Try.f6 rfl rfl rfl rfl rfl rfl rfl ⟨rfl, rfl, rfl, rfl, rfl⟩ rfl rfl rfl rfl rfl (by kernel_rfl) Try.func6 (by kernel_rfl)
    (of_decide_eq_true (by kernel_rfl)) (by unfold Func.isWrapper; first | (rw [if_pos (by decide +kernel)]; kernel_rfl) | (rw [if_neg (by decide +kernel)]; exact ⟨rfl, rfl⟩))
    (fun os started H enc _ => lifted os started H enc)
#print axioms proved
end Go.Proofs.Ytbhafcaekpccoaa.qpaLess
