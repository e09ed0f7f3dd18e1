/- Contract of the document's times (numbers bit by bit). -/
import Derived.Test.YtcnfojbncmkdeaaMHs
namespace Go.Proofs.Ytcnfojbncmkdeaa
open Go.ChangeShapes Go.WideShapes Go.ChangeAt Go.RowKit Go.Joins
set_option maxRecDepth 100000
set_option linter.unusedVariables false
set_option linter.unusedSimpArgs false
theorem BitsF.drew {w : World} {b : Nat} {f : Nat → Bool} (h : BitsF w b f) : BitsF w.drew b f := fun j hj => by simpa [go_sem] using h j hj
theorem FreeF.drew {w : World} {b : Nat} (h : FreeF w b) : FreeF w.drew b := fun j hj => by simpa [go_sem] using h j hj
theorem FreeF.call {w w' : World} {b : Nat} {f : Nat → Bool} (h : FreeF w b) (k : BitsF w b f) (hb : Below w.heap.size w w') : FreeF w' b := h.below hb k.lt
theorem bitsA_size (f : Nat → Bool) : (bitsL f).toArray.size = 256 := by simp [bitsL]
theorem BitsF.stored {w : World} {b : Nat} {f : Nat → Bool} (ht : w.there b 0 256) : BitsF (w.setCells b 0 (bitsL f).toArray.toList) b f := fun j hj => by
  have := World.rangeAt_setCells_same w b 0 (bitsL f) (by rw [bitsL_length]; exact ht)
  have h2 := this j _ (bitsL_get hj)
  rw [Nat.zero_add] at h2
  simpa using h2
theorem BitsF.apart {w : World} {b g : Nat} {f : Nat → Bool} {vs : List Value} (h : BitsF w b f) (hne : ¬ b = g) : BitsF (w.setCells g 0 vs) b f := fun j hj => by
  rw [World.cell?_setCells_out g vs 0 w ⟨b, j, none⟩ (fun hb _ => absurd hb hne)]; exact h j hj
theorem FreeF.setCells {w : World} {b g : Nat} {vs : List Value} (h : FreeF w b) : FreeF (w.setCells g 0 vs) b := fun j hj => by
  rw [World.frozen?_setCells]; exact h j hj
theorem two_stored {w wx : World} {f h o o' : Nat → Bool} (k : Two w f h o wx) : Two w f h o' (wx.setCells (w.heap.size + 1 + 1 + 1) 0 (bitsL o').toArray.toList) := by
  obtain ⟨a, b, c, d, g, l, m⟩ := k
  exact ⟨a.apart (by omega), b.apart (by omega), c.apart (by omega), d.setCells, BitsF.stored (g.there l), l.setCells, below_setCells _ (by omega) _ _ _ m⟩
theorem two_call {w wx wy : World} {f h o : Nat → Bool} (k : Two w f h o wx) (hb : Below wx.heap.size wx wy) : Two w f h o wy := by
  obtain ⟨a, b, c, d, g, l, m⟩ := k
  exact ⟨a.call hb, b.call hb, c.call hb, d.call c hb, g.call hb, l.call g hb, m.trans (hb.mono (by have := g.lt; omega))⟩
theorem two_drew {w wx : World} {f h o : Nat → Bool} (k : Two w f h o wx) : Two w f h o wx.drew := by
  obtain ⟨a, b, c, d, g, l, m⟩ := k
  exact ⟨a.drew, b.drew, c.drew, d.drew, g.drew, l.drew, m.drew⟩
/-- the product of a number and another one's lower 128 bits, of 256 bits -/
def timesN (N M : Nat) : Nat := N * (M % 2 ^ 128) % 2 ^ 256
def TimesRel (w : World) (N M : Nat) (g : Nat) (s6 : Value) (wx : World) : Prop :=
  ∃ i : Nat, i + g = 128 ∧ s6 = .int .i64 i ∧ Two w N.testBit M.testBit (N * (M % 2 ^ i) % 2 ^ 256).testBit wx
set_option maxRecDepth 100000 in
set_option maxHeartbeats 4000000 in
theorem times_ref (N M : Nat) (w : World) :
    Calls Try.prog 36 #[.agg (bitsC N.testBit), .agg (bitsC M.testBit)] w fun e w' => e = .returned (.agg (bitsC (timesN N M).testBit)) ∧ Below w.heap.size w w' := by
  have hv := zeroB.1
  go_enter Try.func36, Try.ntmps36
  go_wp2
  clear hv
  go_loopg [6] 128 (TimesRel w N M)
  case atStart =>
    refine ⟨0, by omega, rfl, ?_⟩
    have := two_start w N.testBit M.testBit 59
    have e : (N * (M % 2 ^ 0) % 2 ^ 256).testBit = fun _ => false := by funext j; simp [Nat.mod_one]
    rw [e]; exact this
  case round =>
    obtain ⟨i, hig, rfl, hm⟩ := hrel
    cases gk with
    | zero =>
      obtain rfl : i = 128 := by omega
      replace hm : Two w N.testBit M.testBit (timesN N M).testBit wr := hm
      have hr := hm.2.2.2.2.1.range
      have ht := BitsF.there hm.2.2.1 hm.2.2.2.1
      have HB := Lib.hid hm.2.2.2.2.2.2
      have HR := Lib.hid hr
      have HT := Lib.hid ht
      clear hm hr ht
      go_wp2_with (first
        | (refine wpList_load_mid rfl 59 (.tmp 5) rfl (w.heap.size + 1 + 1 + 1) 0 rfl (bitsL (timesN N M).testBit) (.array 256 4) HR.out undB rfl (by rw [bitsL_length]; exact zeroB.2) ?_)
        | (refine wpList_store_mid rfl 59 (.tmp 4) (.tmp 19) rfl (w.heap.size + 1 + 1) 0 (bitsC (timesN N M).testBit) rfl rfl (by rw [bitsC_size]; exact HT.out) (by rw [bitsC_size]; exact zeroB.2) (bitsC_one _) ?_))
      refine bodyPost_ret (v := .agg (bitsC (timesN N M).testBit)) ?_ rfl ⟨rfl, below_setCells _ (by omega) _ _ _ HB.out⟩
      rw [results_cell rfl]
      simp only [asAddr, Result.andThen]
      exact load_back HT.out
    | succ g =>
      have hi : i < 256 := by omega
      have hiz : (i : Int) < 128 := by omega
      have hi2 : (i : Int) < 256 := by omega
      have hc2 := hm.2.1 i hi
      have HY : Hid (M % 2 ^ (i + 1) = M % 2 ^ i + 2 ^ i * (M.testBit i).toNat) := Lib.hid (mod_bit M i)
      generalize hp : N * (M % 2 ^ i) % 2 ^ 256 = P at *
      have HPP := Lib.hid hp
      have HM := Lib.hid hm
      clear hm hp
      generalize hy : M.testBit i = y at *
      have HYY := Lib.hid hy
      clear hy
      cases y
      · go_wp2
        go_roundg g
        case measure => omega
        case rel =>
          have e : M % 2 ^ (i + 1) = M % 2 ^ i := by have := HY.out; simpa using this
          refine ⟨i + 1, by omega, by go_num, ?_⟩
          rw [e, HPP.out]; exact HM.out
      obtain ⟨Q, hq⟩ : ∃ Q, Q = N * 2 ^ i % 2 ^ 256 := ⟨_, rfl⟩
      obtain ⟨R, hR⟩ : ∃ R, R = (P + Q) % 2 ^ 256 := ⟨_, rfl⟩
      have SH : Hid (∀ w, Calls Try.prog 43 #[.agg (bitsL N.testBit).toArray, .int .i64 i] w fun e w' => e = .returned (.agg (bitsL Q.testBit).toArray) ∧ Below w.heap.size w w') := Lib.hid (fun w => by rw [hq]; exact shift_ref N i w (by omega))
      have PL : Hid (∀ w, Calls Try.prog 42 #[.agg (bitsL P.testBit).toArray, .agg (bitsL Q.testBit).toArray] w fun e w' => e = .returned (.agg (bitsL R.testBit).toArray) ∧ Below w.heap.size w w') := Lib.hid (fun w => by rw [hR]; exact plus_ref P Q w)
      have HRR : Hid (R = N * (M % 2 ^ (i + 1)) % 2 ^ 256) := Lib.hid (by
        rw [show M % 2 ^ (i + 1) = M % 2 ^ i + 2 ^ i from by have := HY.out; simpa using this, Nat.mul_add, hR, hq, ← HPP.out, ← Nat.add_mod])
      clear hq hR
      go_wp2
      refine wp_region_any (by kernel_rfl) ?_
      (try (change wpAny _ _ _ _ _ _ _ (World.drew _)))
      refine wpAny_take (i := 2) (v := .int .i64 i) rfl (by kernel_rfl) (by kernel_rfl) (by kernel_rfl) (fun _ _ _ h => h) (Or.inl ⟨by rfl, ?_⟩) ?_
      · intro w; go_simp
      refine wpAny_ready (rs := [0, 1]) (by kernel_rfl) (by simp) ?_
      refine AllReady.cons rfl (fun K hK => ?_) ?_
      · rw [if_pos (by rfl)]
        refine wp_load_mid 59 (.tmp 5) rfl (w.heap.size + 1 + 1 + 1) 0 rfl (bitsL P.testBit) (.array 256 4) (BitsF.range (HM.out.2.2.2.2.1.drew)) undB rfl (by rw [bitsL_length]; exact zeroB.2) (hK _ _ ?_)
        clear hK K
        refine wpAny_ready (rs := [1]) (by kernel_rfl) (by simp) ?_
        refine AllReady.cons rfl (fun K hK => ?_) ?_
        · rw [if_pos (by rfl)]
          refine wp_load_mid 59 (.tmp 2) rfl (w.heap.size) 0 rfl (bitsL N.testBit) (.array 256 4) (BitsF.range (HM.out.1.drew)) undB rfl (by rw [bitsL_length]; exact zeroB.2) (hK _ _ ?_)
          clear hK K
          refine wpAny_ready (rs := [3]) (by kernel_rfl) (by simp) ?_
          refine AllReady.cons rfl (fun K hK => ?_) ?_
          · rw [if_pos (by rfl)]
            go_simp
            (with_reducible refine (SH.out _).mono ?_)
            rintro e ws ⟨rfl, hbs⟩
            go_simp
            refine hK _ _ ?_
            clear hK K
            refine wpAny_ready (rs := [4]) (by kernel_rfl) (by simp) ?_
            refine AllReady.cons rfl (fun K hK => ?_) ?_
            · rw [if_pos (by rfl)]
              go_simp
              (with_reducible refine (PL.out _).mono ?_)
              rintro e wp ⟨rfl, hbp⟩
              go_simp
              refine hK _ _ ?_
              clear hK K
              refine wpAny_ready (rs := [5]) (by kernel_rfl) (by simp) ?_
              refine AllReady.cons rfl (fun K hK => ?_) ?_
              · rw [if_pos (by rfl)]
                refine wp_store_mid 59 (.tmp 5) (.tmp 18) rfl (w.heap.size + 1 + 1 + 1) 0 (bitsL R.testBit).toArray rfl rfl (by rw [bitsA_size]; exact (BitsF.there (two_call (two_call (two_drew HM.out) hbs) hbp).2.2.2.2.1 (two_call (two_call (two_drew HM.out) hbs) hbp).2.2.2.2.2.1)) (by rw [bitsA_size]; exact zeroB.2) (bitsC_one R.testBit) (hK _ _ ?_)
                clear hK K
                refine wpAny_done (by kernel_rfl) ?_ _
                go_wp2
                go_roundg g
                case measure => omega
                case rel =>
                  refine ⟨i + 1, by omega, by go_num, ?_⟩
                  rw [← HRR.out]
                  exact two_stored (two_call (two_call (two_drew HM.out) hbs) hbp)
              exact AllReady.nil
            exact AllReady.nil
          exact AllReady.nil
        exact AllReady.nil
      refine AllReady.cons rfl (fun K hK => ?_) ?_
      · rw [if_pos (by rfl)]
        refine wp_load_mid 59 (.tmp 2) rfl (w.heap.size) 0 rfl (bitsL N.testBit) (.array 256 4) (BitsF.range (HM.out.1.drew)) undB rfl (by rw [bitsL_length]; exact zeroB.2) (hK _ _ ?_)
        clear hK K
        refine wpAny_ready (rs := [0, 3]) (by kernel_rfl) (by simp) ?_
        refine AllReady.cons rfl (fun K hK => ?_) ?_
        · rw [if_pos (by rfl)]
          refine wp_load_mid 59 (.tmp 5) rfl (w.heap.size + 1 + 1 + 1) 0 rfl (bitsL P.testBit) (.array 256 4) (BitsF.range (HM.out.2.2.2.2.1.drew)) undB rfl (by rw [bitsL_length]; exact zeroB.2) (hK _ _ ?_)
          clear hK K
          refine wpAny_ready (rs := [3]) (by kernel_rfl) (by simp) ?_
          refine AllReady.cons rfl (fun K hK => ?_) ?_
          · rw [if_pos (by rfl)]
            go_simp
            (with_reducible refine (SH.out _).mono ?_)
            rintro e ws ⟨rfl, hbs⟩
            go_simp
            refine hK _ _ ?_
            clear hK K
            refine wpAny_ready (rs := [4]) (by kernel_rfl) (by simp) ?_
            refine AllReady.cons rfl (fun K hK => ?_) ?_
            · rw [if_pos (by rfl)]
              go_simp
              (with_reducible refine (PL.out _).mono ?_)
              rintro e wp ⟨rfl, hbp⟩
              go_simp
              refine hK _ _ ?_
              clear hK K
              refine wpAny_ready (rs := [5]) (by kernel_rfl) (by simp) ?_
              refine AllReady.cons rfl (fun K hK => ?_) ?_
              · rw [if_pos (by rfl)]
                refine wp_store_mid 59 (.tmp 5) (.tmp 18) rfl (w.heap.size + 1 + 1 + 1) 0 (bitsL R.testBit).toArray rfl rfl (by rw [bitsA_size]; exact (BitsF.there (two_call (two_call (two_drew HM.out) hbs) hbp).2.2.2.2.1 (two_call (two_call (two_drew HM.out) hbs) hbp).2.2.2.2.2.1)) (by rw [bitsA_size]; exact zeroB.2) (bitsC_one R.testBit) (hK _ _ ?_)
                clear hK K
                refine wpAny_done (by kernel_rfl) ?_ _
                go_wp2
                go_roundg g
                case measure => omega
                case rel =>
                  refine ⟨i + 1, by omega, by go_num, ?_⟩
                  rw [← HRR.out]
                  exact two_stored (two_call (two_call (two_drew HM.out) hbs) hbp)
              exact AllReady.nil
            exact AllReady.nil
          exact AllReady.nil
        refine AllReady.cons rfl (fun K hK => ?_) ?_
        · rw [if_pos (by rfl)]
          go_simp
          (with_reducible refine (SH.out _).mono ?_)
          rintro e ws ⟨rfl, hbs⟩
          go_simp
          refine hK _ _ ?_
          clear hK K
          refine wpAny_ready (rs := [0]) (by kernel_rfl) (by simp) ?_
          refine AllReady.cons rfl (fun K hK => ?_) ?_
          · rw [if_pos (by rfl)]
            refine wp_load_mid 59 (.tmp 5) rfl (w.heap.size + 1 + 1 + 1) 0 rfl (bitsL P.testBit) (.array 256 4) (BitsF.range ((HM.out.2.2.2.2.1.drew).call hbs)) undB rfl (by rw [bitsL_length]; exact zeroB.2) (hK _ _ ?_)
            clear hK K
            refine wpAny_ready (rs := [4]) (by kernel_rfl) (by simp) ?_
            refine AllReady.cons rfl (fun K hK => ?_) ?_
            · rw [if_pos (by rfl)]
              go_simp
              (with_reducible refine (PL.out _).mono ?_)
              rintro e wp ⟨rfl, hbp⟩
              go_simp
              refine hK _ _ ?_
              clear hK K
              refine wpAny_ready (rs := [5]) (by kernel_rfl) (by simp) ?_
              refine AllReady.cons rfl (fun K hK => ?_) ?_
              · rw [if_pos (by rfl)]
                refine wp_store_mid 59 (.tmp 5) (.tmp 18) rfl (w.heap.size + 1 + 1 + 1) 0 (bitsL R.testBit).toArray rfl rfl (by rw [bitsA_size]; exact (BitsF.there (two_call (two_call (two_drew HM.out) hbs) hbp).2.2.2.2.1 (two_call (two_call (two_drew HM.out) hbs) hbp).2.2.2.2.2.1)) (by rw [bitsA_size]; exact zeroB.2) (bitsC_one R.testBit) (hK _ _ ?_)
                clear hK K
                refine wpAny_done (by kernel_rfl) ?_ _
                go_wp2
                go_roundg g
                case measure => omega
                case rel =>
                  refine ⟨i + 1, by omega, by go_num, ?_⟩
                  rw [← HRR.out]
                  exact two_stored (two_call (two_call (two_drew HM.out) hbs) hbp)
              exact AllReady.nil
            exact AllReady.nil
          exact AllReady.nil
        exact AllReady.nil
      exact AllReady.nil
end Go.Proofs.Ytcnfojbncmkdeaa
