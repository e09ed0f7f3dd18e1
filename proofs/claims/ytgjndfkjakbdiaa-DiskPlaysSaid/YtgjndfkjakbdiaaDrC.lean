/- Contract of the document's Crash. -/
import Derived.Test.YtgjndfkjakbdiaaDrB
import Derived.Deep.DeepCutAuto
namespace Go.Proofs.Ytgjndfkjakbdiaa.Dk
open Go.ChangeShapes Go.WideShapes Go.ChangeAt Go.RowKit Go.Joins
set_option linter.unusedVariables false
set_option linter.unusedSimpArgs false
theorem tmod_mod (n m : Int) (h : 0 < m) : n.tmod m % m = n % m := by
  have e := Int.mul_tdiv_add_tmod n m
  conv => rhs; rw [← e, Int.add_comm, Int.add_mul_emod_self_left]
theorem tm (n m : Int) (h : 0 < m) : -m < n.tmod m ∧ n.tmod m < m := ⟨Int.lt_tmod_of_pos n h, Int.tmod_lt_of_pos n h⟩
theorem putS_eq {S : List (List UInt8)} {a : Nat} {bs : List UInt8} {k : Nat} (ha : a < S.length) : putS S a bs k = S.set a (bs.take k ++ S[a].drop k) := by
  unfold putS
  have : S[a]?.getD [] = S[a] := by simp [ha]
  rw [this]
theorem ext_to (l : List UInt8) (n : Nat) : (mkB l).extract 0 n = mkB (l.take n) := by rw [mkB_extract]; simp
theorem ext_from (l : List UInt8) (n m : Nat) (h : l.length ≤ m) : (mkB l).extract n m = mkB (l.drop n) := by
  rw [mkB_extract, List.take_of_length_le (by simp; omega)]
theorem add_mk (a b : List UInt8) (h : a.length + b.length ≤ 1000000) (w : World) : (Op.stringOp .add (mkB a) (mkB b)).run Try.prog w = .ok (.string (mkB (a ++ b))) w := by
  rw [run_string_add_sum (a := mkB a) (b := mkB b) (h := by rw [mkB_size, mkB_size]; omega), mkB_append]
theorem szP : (Try.prog.info? 65).map (·.size) = some 2 := by kernel_rfl
def CnRel (q : Nat) (W : World) (s8 : Value) (wx : World) : Prop := s8 = .int .i64 (q : Int) ∧ wx = W
def RcRel (B b : Nat) (vS vL : Value) (s : DS) (fs : List (Int × Int)) (w : World) (m : Nat) (s5 s6 : Value) (wx : World) : Prop :=
  ∃ i : Nat, i + m = s.opn.length ∧ s5 = .int .i64 (brokenTo fs i : Int) ∧ s6 = .int .i64 (i : Int) ∧ RkAt B b vS vL ⟨laid s.sec s.opn (keptAt fs) i, s.opn, s.fail, s.reads⟩ wx ∧ Moved b w wx
theorem RkAt.reset {B b : Nat} {vS vL : Value} {s : DS} {w : World} (h : RkAt B b vS vL s w) :
    RkAt B b vS (.slice none 0 0) ⟨s.sec, [], 0, 0⟩ (((w.setCell ⟨b, 1, none⟩ (.slice none 0 0)).setCell ⟨b, 2, none⟩ (.int .i64 0)).setCell ⟨b, 3, none⟩ (.int .i64 0)) ∧ Moved b w (((w.setCell ⟨b, 1, none⟩ (.slice none 0 0)).setCell ⟨b, 2, none⟩ (.int .i64 0)).setCell ⟨b, 3, none⟩ (.int .i64 0)) := by
  have h1 := h.shut
  have h2 := h1.1.setFail (x := 0) (f := 0) rfl
  have h3 := h2.setReads (x := 0) (f := 0) rfl
  exact ⟨h3, (h1.2.trans (rFail h1.1 0)).trans (rReads h2 0)⟩
set_option maxRecDepth 100000 in
set_option maxHeartbeats 8000000 in
theorem crash_rf (B b : Nat) (s : DS) (ao : Option Addr) (fs : List (Int × Int)) (fc : Nat) (w : World) (h : Rk B b s w) (hF : Fats ao fs w) (ho : 0 < fs.length → Off ao b w) (hn : s.opn.length ≤ 1000000) (hfl : fs.length ≤ 9223372036854775807) :
    Calls Try.prog 20 #[ptr b, .slice ao fs.length fc] w fun e w' => e = .returned (.int .i64 ((crashR s fs).2 : Int)) ∧ Rk B b (crashR s fs).1 w' ∧ Moved b w w' := by
  obtain ⟨vS, vL, h⟩ := h
  have hl := h.ok.len
  have OK := Lib.hid h.ok
  obtain ⟨pS, capS, rfl, -, hpS⟩ := own_form h.rowS
  obtain ⟨pL, capL, rfl, -, hpL⟩ := own_form h.rowL
  have HS := Lib.hid hpS
  have HP := Lib.hid hpL
  have H := Lib.hid h
  have HF := Lib.hid hF
  have HO := Lib.hid ho
  clear h hpS hpL hF ho
  generalize hL : s.opn.length = L at *
  have HL := Lib.hid hL
  clear hL
  generalize hN : s.sec.length = N at *
  have HN := Lib.hid hN
  clear hN
  go_enter Try.func20, Try.ntmps20
  go_wp2_with fail
  go_loopg [5, 6] L (RcRel B b (.slice pS N capS) (.slice pL L capL) s fs w)
  case atStart => exact ⟨0, by rw [HL.out]; omega, rfl, rfl, H.out, Moved.refl _ _⟩
  case round =>
    clear H
    obtain ⟨i, hi, rfl, rfl, hk, hm⟩ := hrel
    have hl3 := HL.out
    have c0 := hk.c0
    have c1 := hk.c1
    rcases Nat.lt_or_ge i L with hlt | hge
    · have hlt' : i < s.opn.length := by omega
      obtain ⟨k, rfl⟩ := HP.out (by omega)
      have hp := OK.out.opn _ (List.getElem_mem hlt')
      obtain ⟨g, rfl⟩ := HS.out (by have := HN.out; omega)
      obtain ⟨q0, q1⟩ := RkAt.opnAt (s := ⟨laid s.sec s.opn (keptAt fs) i, s.opn, s.fail, s.reads⟩) (g := k) (cap := capL) (by show RkAt B b _ (.slice _ s.opn.length _) _ _; rw [hl3]; exact hk) (i := i) hlt'
      simp only at q0 q1
      have hln : (laid s.sec s.opn (keptAt fs) i).length = N := by rw [laid_length]; exact HN.out
      have hkA : RkAt B b (.slice (some ⟨g, 0, none⟩) (DS.mk (laid s.sec s.opn (keptAt fs) i) s.opn s.fail s.reads).sec.length capS) (.slice (some ⟨k, 0, none⟩) L capL) ⟨laid s.sec s.opn (keptAt fs) i, s.opn, s.fail, s.reads⟩ wr := by
        show RkAt B b (.slice _ (laid s.sec s.opn (keptAt fs) i).length _) _ _ _
        rw [hln]; exact hk
      have ha : s.opn[i].1 < N := by have := HN.out; omega
      have hal : s.opn[i].1 < (laid s.sec s.opn (keptAt fs) i).length := by rw [hln]; exact ha
      have hol : ((laid s.sec s.opn (keptAt fs) i)[s.opn[i].1]).length = 64 := laid_sec OK.out.sec OK.out.opn (keptAt_le fs) i _ (List.getElem_mem hal)
      obtain ⟨o, ho⟩ : ∃ o, o = Obj.cells #[.int .i64 (s.opn[i].1 : Int), .string (mkB s.opn[i].2)] 65 := ⟨_, rfl⟩
      have hk' := (hkA.alloc o).drew
      have kle := keptAt_le fs i
      have st := hk'.setSec s.opn[i].1 (s.opn[i].2.take (keptAt fs i) ++ ((laid s.sec s.opn (keptAt fs) i)[s.opn[i].1]).drop (keptAt fs i)) (by simp; omega)
      have NX : Hid (RkAt B b (.slice (some ⟨g, 0, none⟩) N capS) (.slice (some ⟨k, 0, none⟩) L capL) ⟨laid s.sec s.opn (keptAt fs) (i + 1), s.opn, s.fail, s.reads⟩ ((wr.alloc o).drew.setCell ⟨g, s.opn[i].1, none⟩ (.string (mkB (s.opn[i].2.take (keptAt fs i) ++ ((laid s.sec s.opn (keptAt fs) i)[s.opn[i].1]).drop (keptAt fs i))))) ∧ Moved b w ((wr.alloc o).drew.setCell ⟨g, s.opn[i].1, none⟩ (.string (mkB (s.opn[i].2.take (keptAt fs i) ++ ((laid s.sec s.opn (keptAt fs) i)[s.opn[i].1]).drop (keptAt fs i)))))) := Lib.hid (by
        refine ⟨?_, (hm.alloc hk.lt o).drew.trans st.2⟩
        rw [laid_succ hlt', putS_eq hal]
        have e := st.1
        have e2 : (DS.mk (laid s.sec s.opn (keptAt fs) i) s.opn s.fail s.reads).sec.length = N := hln
        rw [e2] at e
        exact e)
      have cs0 := RkAt.secAt hk' (i := s.opn[i].1) hal
      have fs0 := World.ownsRow.frozenAt hk'.rowS s.opn[i].1
      have d0 := hk'.c0
      rw [World.cell?_drew] at cs0 d0
      rw [World.frozen?_drew] at fs0
      simp only at cs0 fs0
      rw [show (DS.mk (laid s.sec s.opn (keptAt fs) i) s.opn s.fail s.reads).sec.length = N from hln] at d0
      have e1 := ext_to s.opn[i].2 (keptAt fs i)
      have e2 := ext_from ((laid s.sec s.opn (keptAt fs) i)[s.opn[i].1]) (keptAt fs i) 64 (by omega)
      have z1 : (mkB s.opn[i].2).size = 64 := by rw [mkB_size]; exact hp.2
      have z2 : (mkB ((laid s.sec s.opn (keptAt fs) i)[s.opn[i].1])).size = 64 := by rw [mkB_size]; exact hol
      have ad := add_mk (s.opn[i].2.take (keptAt fs i)) (((laid s.sec s.opn (keptAt fs) i)[s.opn[i].1]).drop (keptAt fs i)) (by simp; omega)
      have FW := Lib.hid (fun (h0 : 0 < fs.length) => HF.out.moved hm (HO.out h0))
      have BN : Hid (brokenTo fs (i + 1) = brokenTo fs i + (if keptAt fs i = 64 then 0 else 1)) := Lib.hid rfl
      have bl := brokenTo_le fs i
      have KA : Hid (keptAt fs i = if hf : i < fs.length then keepOf fs[i].1 fs[i].2 else 0) := Lib.hid (by
        by_cases hf : i < fs.length
        · rw [dif_pos hf, keptAt_lt hf]
        · rw [dif_neg hf, keptAt_ge (by omega)])
      generalize mkB (s.opn[i].2.take (keptAt fs i) ++ ((laid s.sec s.opn (keptAt fs) i)[s.opn[i].1]).drop (keptAt fs i)) = Y at *
      generalize mkB (s.opn[i].2.take (keptAt fs i)) = X1 at *
      generalize mkB (((laid s.sec s.opn (keptAt fs) i)[s.opn[i].1]).drop (keptAt fs i)) = X2 at *
      generalize mkB ((laid s.sec s.opn (keptAt fs) i)[s.opn[i].1]) = P2 at *
      generalize mkB s.opn[i].2 = P1 at *
      clear hol hk' st hkA hln hal
      generalize s.opn[i].1 = a at *
      have ha1 : (a : Int) < (N : Int) := by omega
      have HI := Lib.hid hi
      have hg0 : 0 < gk := by omega
      have il : (i : Int) < (L : Int) := by omega
      subst ho
      have n0 : (wr.alloc (.cells #[.int .i64 (a : Int), .string P1] 65)).cell? ⟨wr.heap.size, 0, none⟩ = some (.int .i64 (a : Int)) := by simp [go_sem]
      have n1 : (wr.alloc (.cells #[.int .i64 (a : Int), .string P1] 65)).cell? ⟨wr.heap.size, 1, none⟩ = some (.string P1) := by simp [go_sem]
      have NXT : Hid (∀ x : Int, x = (brokenTo fs (i + 1) : Int) → ∀ y : Int, y = ((i + 1 : Nat) : Int) → RcRel B b (.slice (some ⟨g, 0, none⟩) N capS) (.slice (some ⟨k, 0, none⟩) L capL) s fs w (gk - 1) (.int .i64 x) (.int .i64 y) ((wr.alloc (.cells #[.int .i64 (a : Int), .string P1] 65)).drew.setCell ⟨g, a, none⟩ (.string Y))) := Lib.hid (fun x hx y hy => ⟨i + 1, by have := HI.out; omega, by rw [hx], by rw [hy], NX.out⟩)
      generalize brokenTo fs i = br at *
      clear hk hm hl3 hlt' hp hi NX
      generalize keptAt fs i = q at *
      have kq : (q : Int) ≤ 64 := by omega
      have CF : Hid (∀ h : i < fs.length, ∃ bf off, ao = some ⟨bf, off, none⟩ ∧ (wr.alloc (.cells #[.int .i64 (a : Int), .string P1] 65)).cell? ⟨bf, off + i * 2, none⟩ = some (.int .i64 fs[i].1) ∧ (wr.alloc (.cells #[.int .i64 (a : Int), .string P1] 65)).cell? ⟨bf, off + i * 2 + 1, none⟩ = some (.int .i64 fs[i].2)) := Lib.hid (fun hif => by
        obtain ⟨bf, off, hao, hbf, hcf⟩ := (FW.out (by omega)).2 (by omega)
        obtain ⟨cK, cA⟩ := hcf i hif
        exact ⟨bf, off, hao, by rw [World.cell?_alloc_lt _ _ _ (lt_of_cell cK)]; exact cK, by rw [World.cell?_alloc_lt _ _ _ (lt_of_cell cA)]; exact cA⟩)
      clear FW
      go_upto_if 29 with (refine wpList_store_new (c := #[.int .i64 0, .string ⟨#[]⟩]) (c' := #[.int .i64 (a : Int), .string P1]) rfl rfl rfl rfl szP rfl rfl ?_)
      generalize wr.alloc (.cells #[.int .i64 (a : Int), .string P1] 65) = WA at *
      go_cut [8] (CnRel q WA)
      case first =>
        clear e1 e2 ad
        rcases Nat.lt_or_ge i fs.length with hif | hif
        · obtain ⟨bf, off, rfl, cK, cA⟩ := CF.out hif
          have KB := KA.out
          rw [dif_pos hif] at KB
          have il2 : (i : Int) < (fs.length : Int) := by omega
          have t1 := tm fs[i].1 3 (by omega)
          have t2 := tm fs[i].2 65 (by omega)
          have m1 := tmod_mod fs[i].1 3 (by omega)
          have m2 := tmod_mod fs[i].2 65 (by omega)
          clear CF KA
          generalize fs[i].1 = KK at *
          generalize fs[i].2 = AA at *
          obtain ⟨t1a, t1b⟩ := t1
          obtain ⟨t2a, t2b⟩ := t2
          have h3 : KK % 3 = 0 ∨ KK % 3 = 1 ∨ KK % 3 = 2 := by omega
          rcases h3 with h3 | h3 | h3
          · have hq : Hid (q = 0) := Lib.hid (by rw [KB]; unfold keepOf; rw [if_pos h3])
            rw [h3] at m1
            clear KB h3 m2
            go_wp2_with fail
            go_meet
            exact ⟨by rw [hq.out]; rfl, rfl⟩
          · have hq : Hid (q = 64) := Lib.hid (by rw [KB]; unfold keepOf; rw [if_neg (by omega), if_pos h3])
            rw [h3] at m1
            clear KB h3 m2
            go_wp2_with fail
            go_meet
            exact ⟨by rw [hq.out]; rfl, rfl⟩
          · have hq : q = (AA % 65).toNat := by rw [KB]; unfold keepOf; rw [if_neg (by omega), if_neg (by omega)]
            have hq2 : AA % 65 = (q : Int) := by omega
            rw [h3] at m1
            rw [hq2] at m2
            have HM2 := Lib.hid m2
            clear KB h3 hq hq2
            go_wp2_with fail
            go_meet
            exact ⟨by have hz : (AA.tmod 65 + 65) % 65 = (q : Int) := by (have := HM2.out; omega)
                      first | rw [hz] | rfl, rfl⟩
        · have KB := KA.out
          rw [dif_neg (by omega)] at KB
          have hq := Lib.hid KB
          have il2 : (fs.length : Int) ≤ (i : Int) := by omega
          clear KA CF KB
          go_wp2_with fail
          go_meet
          exact ⟨by rw [hq.out]; rfl, rfl⟩
      case rest =>
        obtain ⟨rfl, hwc⟩ := hcut
        subst hwc
        clear CF KA
        by_cases h64 : q = 64
        · have H64 := Lib.hid h64
          have t6 : decide ((q : Int) < 64) = false := by simp; omega
          have t7 : (64 : Int) ≤ (q : Int) := by omega
          clear h64
          go_wp2_with fail
          go_still_tail 22, (by kernel_rfl)
          change wpList _ _ _ _ _ (World.drew _)
          go_wp2
          go_roundg (gk - 1)
          case measure => omega
          case rel => exact NXT.out _ (by rw [BN.out, if_pos H64.out]; rfl) _ (by go_num)
        · have H64 := Lib.hid h64
          have t7 : (q : Int) < 64 := by omega
          clear h64
          go_wp2_with fail
          go_still_tail 22, (by kernel_rfl)
          change wpList _ _ _ _ _ (World.drew _)
          go_wp2
          go_roundg (gk - 1)
          case measure => omega
          case rel => exact NXT.out _ (by rw [BN.out, if_neg H64.out]; rfl) _ (by go_num)
    · obtain rfl : i = L := by omega
      have f1 := hk.fz
      have c2 := hk.c2
      have c3 := hk.c3
      have RS := hk.reset
      have FIN : Hid (Rk B b (crashR s fs).1 _ ∧ Moved b w _) := Lib.hid ⟨⟨_, _, by unfold crashR crashedS; rw [hl3]; exact RS.1⟩, hm.trans RS.2⟩
      have RES : Hid ((crashR s fs).2 = brokenTo fs i) := Lib.hid (by unfold crashR; show brokenTo fs s.opn.length = _; rw [hl3])
      have il : (i : Int) ≤ (i : Int) := by omega
      clear hk hm hl3 RS
      go_wp2
      go_ret
      exact ⟨by rw [RES.out]; rfl, FIN.out⟩
end Go.Proofs.Ytgjndfkjakbdiaa.Dk
