/- The document's reader: Num of what stands there. -/
import Derived.Test.YtnaanahgflbihaaOcE
namespace Go.Proofs.Ytnaanahgflbihaa.Oc
open Go.ChangeShapes Go.WideShapes Go.ChangeAt Go.RowKit Go.Joins
set_option maxRecDepth 100000
set_option linter.unusedVariables false
set_option linter.unusedSimpArgs false
theorem held_call {w0 w w' : World} {b : Nat} {v : Value} (h : w.cell? ⟨b, 0, none⟩ = some v ∧ Below w0.heap.size w0 w) (hb : Below w.heap.size w w') : w'.cell? ⟨b, 0, none⟩ = some v ∧ Below w0.heap.size w0 w' := by
  refine ⟨?_, h.2.trans (hb.mono h.2.size)⟩
  rw [hb.cell (p := ⟨b, 0, none⟩) (World.block_lt_of_cell? _ _ h.1)]
  exact h.1
theorem held_drew {w0 w : World} {b : Nat} {v : Value} (h : w.cell? ⟨b, 0, none⟩ = some v ∧ Below w0.heap.size w0 w) : w.drew.cell? ⟨b, 0, none⟩ = some v ∧ Below w0.heap.size w0 w.drew := ⟨h.1, h.2.drew⟩
set_option maxHeartbeats 2000000 in
set_option maxRecDepth 100000 in
theorem dnum_ok (b most : Nat) (x : UInt8) (r : List UInt8) (w : World) (k : Rd RD b (some (x :: r)) w) (hx : x.toNat ≤ 8) (hr : x.toNat ≤ r.length) (hr2 : r.length ≤ 1000000) (hm : most < 18446744073709551616) :
    Calls Try.prog 49 #[self b, .int .u64 (most : Int)] w fun e w' => e = .returned (.int .u64 ((num (some (x :: r)) most).1 : Int)) ∧ Rd RD b (num (some (x :: r)) most).2 w' ∧ Apart b w w' := by
  have SP := Lib.hid (fun n => k.spoiled (below_drewN w n))
  have hs : w.heap[b]? = some (.cells #[.string (mkB (x :: r)), .bool false] RD (0, 0)) := k
  have c0 : w.cell? ⟨b, 0, none⟩ = some (.string (mkB (x :: r))) := by rw [Lib.cell_of_heap hs]; rfl
  have c1 : w.cell? ⟨b, 1, none⟩ = some (.bool false) := by rw [Lib.cell_of_heap hs]; rfl
  have f1 : w.frozen? ⟨b, 1, none⟩ = false := Lib.frozen_of_heap hs 1
  have sz : (mkB (x :: r)).size = r.length + 1 := mkB_size (x :: r)
  have l0 : 0 < (mkB (x :: r)).size := by omega
  have b0 : (mkB (x :: r))[0].toNat = x.toNat := by rw [byteAt_eq l0, byteAt_mkB l0]; rfl
  have bi : ∀ i, 1 ≤ i → (h : i < (mkB (x :: r)).size) → (mkB (x :: r))[i].toNat = byteAt (mkB (x :: r)) i := fun i _ h => byteAt_eq h
  have VS : Hid (∀ i, 1 ≤ i → i < x.toNat + 1 → val (r.take i) = val (r.take (i - 1)) * 256 + byteAt (mkB (x :: r)) i ∧ val (r.take (i - 1)) < 72057594037927936) := Lib.hid (fun i h1 h2 => by
    have hb := byteAt_mkB (l := x :: r) (i := i) (by rw [mkB_size]; simp; omega)
    obtain ⟨j, rfl⟩ : ∃ j, i = j + 1 := ⟨i - 1, by omega⟩
    rw [hb]
    refine ⟨?_, ?_⟩
    · rw [List.take_succ_eq_append_getElem (by omega), val_snoc]; rfl
    · have := val_lt (r.take (j + 1 - 1))
      have h3 : 256 ^ (r.take (j + 1 - 1)).length ≤ 256 ^ 7 := Nat.pow_le_pow_right (by omega) (by simp; omega)
      have h4 : (256 : Nat) ^ 7 = 72057594037927936 := by decide
      omega)
  have BL : Hid (∀ i, byteAt (mkB (x :: r)) i < 256) := Lib.hid (byteAt_lt _)
  have K := Lib.hid k
  clear k hs
  generalize hq : x.toNat = q at *
  generalize hS : mkB (x :: r) = s at *
  have d1 : (s.size == 0) = false := by rw [beq_eq_false_iff_ne]; omega
  have d2 : ((s.size : Int) == 0) = false := by rw [beq_eq_false_iff_ne]; omega
  have d3 : decide (8 < (q : Int)) = false := by simp; omega
  have d4 : IntKind.i64.wrap (1 + (q : Int)) = 1 + (q : Int) := IntWalk.i64_in _ (by omega)
  have d6 : IntKind.i64.wrap (q : Int) = (q : Int) := IntWalk.i64_in _ (by omega)
  have d5 : decide ((s.size : Int) < 1 + (q : Int)) = false := by simp; omega
  have HQ := Lib.hid hq
  have HS := Lib.hid hS
  have s1 : q + 1 ≤ s.size := by omega
  have s2 : s.size ≤ 1000001 := by omega
  have HR := Lib.hid hr
  clear hq hS sz hr hr2
  go_enter Try.func49, Try.ntmps49
  go_wp2_with fail
  go_quiet (fail)
  clear d1 d2 d3 d4 d5 d6
  go_wp2_with fail
  have BW : Below w.heap.size w (w.drewN nq) := below_drewN _ _
  have k1 := K.out.call BW
  have g0 : (w.drewN nq).cell? ⟨b, 0, none⟩ = some (.string s) := c0
  generalize w.drewN nq = w1 at *
  have K1 := Lib.hid k1
  clear k1 c0 c1 f1 SP K
  go_loopg [6, 7] q (DrRel q r w1)
  case atStart => exact ⟨1, by omega, Nat.le_refl _, rfl, rfl, rfl⟩
  case round =>
    obtain ⟨i, hg, hi1, rfl, rfl, rfl⟩ := hrel
    rcases Nat.lt_or_ge i (q + 1) with hlt | hge
    · obtain ⟨v1, v2⟩ := VS.out i hi1 hlt
      have bl := BL.out i
      have hsz : i < s.size := by omega
      have be := bi i hi1 hsz
      have V1 := Lib.hid v1
      clear v1 VS BL bi
      generalize byteAt s i = c at *
      generalize val (r.take (i - 1)) = n at *
      have m1 : (n : Int) * 256 % 18446744073709551616 = (n : Int) * 256 := by omega
      have m2 : ((n : Int) * 256 + (c : Int)) % 18446744073709551616 = (n : Int) * 256 + (c : Int) := by omega
      go_wp2
      go_roundg (gk - 1)
      case measure => omega
      case rel => exact ⟨i + 1, by omega, by omega, by rw [show i + 1 - 1 = i by omega, V1.out]; go_num, by go_num, rfl⟩
    · have e : i = q + 1 := by omega
      subst e
      clear VS BL bi hge hg hi1
      have e0 : q + 1 - 1 = q := by omega
      rw [e0]
      clear e0
      have hn64 : val (r.take q) < 18446744073709551616 := by
        have := val_lt (r.take q)
        have h3 : 256 ^ (r.take q).length ≤ 256 ^ 8 := Nat.pow_le_pow_right (by omega) (by simp; omega)
        have h4 : (256 : Nat) ^ 8 = 18446744073709551616 := by decide
        omega
      have DC : Hid (dec (x :: r) = if (r.take q).head? ≠ some 0 then some (val (r.take q), r.drop q) else none) := Lib.hid (by
        rw [dec_cons, HQ.out]
        by_cases hh : (r.take q).head? ≠ some 0
        · rw [if_pos hh, if_pos ⟨hx, HR.out, hh⟩]
        · rw [if_neg hh, if_neg (fun c => hh c.2.2)])
      have SE : Hid (s.extract 0 (1 + q) = mkB (x :: r.take q)) := Lib.hid (mkB_ext (by rw [extract_list, ← HS.out, mkB_data, Nat.add_comm]; simp))
      have SF : Hid (s.extract (1 + q) s.size = mkB (r.drop q)) := Lib.hid (mkB_ext (by rw [extract_list, ← HS.out, mkB_data, mkB_size, Nat.add_comm]; simp))
      have NRF := Lib.hid (fun w => num_rf (val (r.take q)) w hn64)
      have EN : Hid ((mkB (enc (val (r.take q)))).toList = x :: r.take q ↔ (r.take q).head? ≠ some 0) := Lib.hid (by
        rw [toList_mkB]
        constructor
        · intro e hh
          have e2 : bytesOf (val (r.take q)) = r.take q := by unfold enc at e; exact (List.cons.inj e).2
          have := bytesOf_head (val (r.take q))
          rw [e2] at this
          exact this hh
        · intro hh
          unfold enc
          rw [bytesOf_val _ hh, List.length_take, Nat.min_eq_left HR.out]
          congr 1
          exact UInt8.toNat_inj.1 (by rw [UInt8.toNat_ofNat', HQ.out]; omega))
      generalize hN : val (r.take q) = n at *
      have k1 := K1.out
      have c1 : wr.cell? ⟨b, 1, none⟩ = some (.bool false) := by rw [Lib.cell_of_heap (show wr.heap[b]? = _ from k1)]; rfl
      clear HS hN
      by_cases hA : most < n
      · have NM : Hid (num (some (x :: r)) most = (0, none)) := Lib.hid (by
          have := DC.out
          split at this
          · exact num_gt this (by omega)
          · exact num_no this most)
        have dA : decide ((most : Int) < (n : Int)) = true := by simp; omega
        have SP : Hid (∀ j, Rd RD b none ((wr.drewN j).setCell ⟨b, 1, none⟩ (.bool true)) ∧ Apart b w ((wr.drewN j).setCell ⟨b, 1, none⟩ (.bool true))) := Lib.hid (fun j => ⟨(k1.spoiled (below_drewN wr j)).1, (Apart.of_below BW).trans (k1.spoiled (below_drewN wr j)).2⟩)
        have f1 : wr.frozen? ⟨b, 1, none⟩ = false := Lib.frozen_of_heap (show wr.heap[b]? = _ from k1) 1
        clear k1 K1 DC SE SF NRF EN
        go_wp2_with fail
        go_quiet (fail)
        go_wp2
        go_ret
        rw [NM.out]
        exact ⟨rfl, SP.out _⟩
      · have dA : decide ((most : Int) < (n : Int)) = false := by simp; omega
        have j0 : ((1 : Int) + (q : Int)).toNat = 1 + q := by omega
        have j1 : (0 : Int) ≤ 1 + (q : Int) := by omega
        have j2 : 1 + (q : Int) ≤ (s.size : Int) := by omega
        have t1 : (s.extract 0 (1 + q)).toList = x :: r.take q := by rw [SE.out, toList_mkB]
        have KS : Hid (wr.cell? ⟨b, 0, none⟩ = some (.string s) ∧ Below wr.heap.size wr wr) := Lib.hid ⟨g0, Below.refl _ _⟩
        go_wp2_with fail
        by_cases hh : (r.take q).head? ≠ some 0
        · have t2 : (mkB (enc n)).toList = x :: r.take q := EN.out.2 hh
          have NM : Hid (num (some (x :: r)) most = (n, some (r.drop q))) := Lib.hid (num_le (by rw [DC.out, if_pos hh]) (by omega))
          clear DC EN SE k1
          go_region_held3 (fun w' => w'.cell? ⟨b, 0, none⟩ = some (.string s) ∧ Below wr.heap.size wr w') (first | exact KS.out | exact held_drew KS.out | assumption) (first | (go_at_call 41; (with_reducible refine (NRF.out _).mono ?_); rintro e wn ⟨rfl, hbn⟩; (have kn : wn.cell? ⟨b, 0, none⟩ = some (.string s) ∧ Below wr.heap.size wr wn := held_call (by assumption) hbn)))
          have k2 := K1.out.call kn.2
          have hs2 : wn.heap[b]? = some (.cells #[.string (mkB (x :: r)), .bool false] RD (0, 0)) := k2
          have f0 : wn.frozen? ⟨b, 0, none⟩ = false := Lib.frozen_of_heap hs2 0
          have H : Hid (Rd RD b (some (r.drop q)) (wn.setCell ⟨b, 0, none⟩ (.string (s.extract (1 + q) s.size))) ∧ Apart b w (wn.setCell ⟨b, 0, none⟩ (.string (s.extract (1 + q) s.size)))) := Lib.hid ⟨by
            rw [SF.out]
            show (wn.setCell ⟨b, 0, none⟩ (.string (mkB (r.drop q)))).heap[b]? = _
            simp [World.setCell, Array.getElem?_modify, hs2], ((Apart.of_below BW).trans (Apart.of_below kn.2)).setCell _ _⟩
          have g2 := kn.1
          clear k2 hs2 K1 SF NRF KS hbn
          go_wp2
          go_ret
          rw [NM.out]
          exact ⟨rfl, H.out⟩
        · have t2 : ¬ (mkB (enc n)).toList = x :: r.take q := fun e => hh (EN.out.1 e)
          have t3 : ((mkB (enc n)).toList == x :: r.take q) = false := by simpa using t2
          have t4 : ((mkB (enc n)).toList != x :: r.take q) = true := by simp [bne, t3]
          have NM : Hid (num (some (x :: r)) most = (0, none)) := Lib.hid (num_no (by rw [DC.out, if_neg hh]) most)
          clear DC EN SE k1 SF
          go_region_held3 (fun w' => w'.cell? ⟨b, 0, none⟩ = some (.string s) ∧ Below wr.heap.size wr w') (first | exact KS.out | exact held_drew KS.out | assumption) (first | (go_at_call 41; (with_reducible refine (NRF.out _).mono ?_); rintro e wn ⟨rfl, hbn⟩; (have kn : wn.cell? ⟨b, 0, none⟩ = some (.string s) ∧ Below wr.heap.size wr wn := held_call (by assumption) hbn)))
          have SP : Hid (Rd RD b none (wn.setCell ⟨b, 1, none⟩ (.bool true)) ∧ Apart b w (wn.setCell ⟨b, 1, none⟩ (.bool true))) := Lib.hid ⟨(K1.out.spoiled kn.2).1, (Apart.of_below BW).trans (K1.out.spoiled kn.2).2⟩
          have k2 := K1.out.call kn.2
          have hs2 : wn.heap[b]? = some (.cells #[.string (mkB (x :: r)), .bool false] RD (0, 0)) := k2
          have f0 : wn.frozen? ⟨b, 1, none⟩ = false := Lib.frozen_of_heap hs2 1
          have g2 : wn.cell? ⟨b, 1, none⟩ = some (.bool false) := by rw [Lib.cell_of_heap hs2]; rfl
          clear k2 hs2 K1 NRF KS hbn
          go_wp2
          go_ret
          rw [NM.out]
          exact ⟨rfl, SP.out⟩
theorem num_dc (b : Nat) (o : St) (most : Nat) (w : World) (k : Rd RD b o w) (hm : most < 18446744073709551616) (hl : left o ≤ 1000000) :
    Calls Try.prog 49 #[self b, .int .u64 (most : Int)] w fun e w' => e = .returned (.int .u64 ((num o most).1 : Int)) ∧ Rd RD b (num o most).2 w' ∧ Apart b w w' := by
  cases o with
  | none => exact dnum_bad b _ w k
  | some l =>
    cases l with
    | nil => exact dnum_empty b _ w k
    | cons x r =>
      simp only [left, List.length_cons] at hl
      by_cases h8 : x.toNat ≤ 8
      · by_cases h9 : x.toNat ≤ r.length
        · exact dnum_ok b most x r w k h8 h9 (by omega) hm
        · rw [num_no (by rw [dec_cons, if_neg (by omega)])]
          exact dnum_short b _ x r w k h8 (by omega)
      · rw [num_no (by rw [dec_cons, if_neg (by omega)])]
        exact dnum_long b _ x r w k (by omega) (by omega)
end Go.Proofs.Ytnaanahgflbihaa.Oc
