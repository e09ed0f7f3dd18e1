/- Contract of the document's Crash. Contract of the document's New. A disk and the document's, side by side; how a script of steps is opened. -/
import Derived.Test.YtcbemjckcmcelaaMDr
import Derived.Deep.DeepCutAuto
namespace Go.Proofs.Ytcbemjckcmcelaa.Dk
open Go.ChangeShapes Go.WideShapes Go.ChangeAt Go.RowKit Go.Joins
set_option maxRecDepth 100000
set_option linter.unusedVariables false
set_option linter.unusedSimpArgs false
theorem tmod_mod (n m : Int) (h : 0 < m) : n.tmod m % m = n % m := by
  have e := Int.mul_tdiv_add_tmod n m
  conv => rhs; rw [← e, Int.add_comm, Int.add_mul_emod_self_left]
theorem tm (n m : Int) (h : 0 < m) : -m < n.tmod m ∧ n.tmod m < m := ⟨Int.lt_tmod_of_pos n h, Int.tmod_lt_of_pos n h⟩
theorem putS_eq {S : List (List UInt8)} {a : Nat} {bs : List UInt8} {k : Nat} (ha : a < S.length) : putS S a bs k = S.set a (bs.take k ++ S[a].drop k) := by
  unfold putS
  have : S[a]?.getD [] = S[a] := by simp [ha]
  rw [this]
theorem ext_to (l : List UInt8) (n : Nat) : (mkB l).extract 0 n = mkB (l.take n) := by rw [mkB_extract]; simp
theorem ext_from (l : List UInt8) (n m : Nat) (h : l.length ≤ m) : (mkB l).extract n m = mkB (l.drop n) := by
  rw [mkB_extract, List.take_of_length_le (by simp; omega)]
theorem add_mk (a b : List UInt8) (h : a.length + b.length ≤ 1000000) (w : World) : (Op.stringOp .add (mkB a) (mkB b)).run Try.prog w = .ok (.string (mkB (a ++ b))) w := by
  rw [run_string_add_sum (a := mkB a) (b := mkB b) (h := by rw [mkB_size, mkB_size]; omega), mkB_append]
theorem szP : (Try.prog.info? 92).map (·.size) = some 2 := by kernel_rfl
def CnRel (q : Nat) (W : World) (s8 : Value) (wx : World) : Prop := s8 = .int .i64 (q : Int) ∧ wx = W
def RcRel (B b : Nat) (vS vL : Value) (s : DS) (fs : List (Int × Int)) (w : World) (m : Nat) (s5 s6 : Value) (wx : World) : Prop :=
  ∃ i : Nat, i + m = s.opn.length ∧ s5 = .int .i64 (brokenTo fs i : Int) ∧ s6 = .int .i64 (i : Int) ∧ RkAt B b vS vL ⟨laid s.sec s.opn (keptAt fs) i, s.opn, s.fail, s.reads⟩ wx ∧ Moved b w wx
theorem RkAt.reset {B b : Nat} {vS vL : Value} {s : DS} {w : World} (h : RkAt B b vS vL s w) :
    RkAt B b vS (.slice none 0 0) ⟨s.sec, [], 0, 0⟩ (((w.setCell ⟨b, 1, none⟩ (.slice none 0 0)).setCell ⟨b, 2, none⟩ (.int .i64 0)).setCell ⟨b, 3, none⟩ (.int .i64 0)) ∧ Moved b w (((w.setCell ⟨b, 1, none⟩ (.slice none 0 0)).setCell ⟨b, 2, none⟩ (.int .i64 0)).setCell ⟨b, 3, none⟩ (.int .i64 0)) := by
  have h1 := h.shut
  have h2 := h1.1.setFail (x := 0) (f := 0) rfl
  have h3 := h2.setReads (x := 0) (f := 0) rfl
  exact ⟨h3, (h1.2.trans (rFail h1.1 0)).trans (rReads h2 0)⟩
set_option maxRecDepth 100000 in
set_option maxHeartbeats 8000000 in
theorem crash_rf (B b : Nat) (s : DS) (ao : Option Addr) (fs : List (Int × Int)) (fc : Nat) (w : World) (h : Rk B b s w) (hF : Fats ao fs w) (ho : 0 < fs.length → Off ao b w) (hn : s.opn.length ≤ 1000000) (hfl : fs.length ≤ 9223372036854775807) :
    Calls Try.prog 22 #[ptr b, .slice ao fs.length fc] w fun e w' => e = .returned (.int .i64 ((crashR s fs).2 : Int)) ∧ Rk B b (crashR s fs).1 w' ∧ Moved b w w' := by
  obtain ⟨vS, vL, h⟩ := h
  have hl := h.ok.len
  have OK := Lib.hid h.ok
  obtain ⟨pS, capS, rfl, -, hpS⟩ := own_form h.rowS
  obtain ⟨pL, capL, rfl, -, hpL⟩ := own_form h.rowL
  have HS := Lib.hid hpS
  have HP := Lib.hid hpL
  have H := Lib.hid h
  have HF := Lib.hid hF
  have HO := Lib.hid ho
  clear h hpS hpL hF ho
  generalize hL : s.opn.length = L at *
  have HL := Lib.hid hL
  clear hL
  generalize hN : s.sec.length = N at *
  have HN := Lib.hid hN
  clear hN
  go_enter Try.func22, Try.ntmps22
  go_wp2_with fail
  go_loopg [5, 6] L (RcRel B b (.slice pS N capS) (.slice pL L capL) s fs w)
  case atStart => exact ⟨0, by rw [HL.out]; omega, rfl, rfl, H.out, Moved.refl _ _⟩
  case round =>
    clear H
    obtain ⟨i, hi, rfl, rfl, hk, hm⟩ := hrel
    have hl3 := HL.out
    have c0 := hk.c0
    have c1 := hk.c1
    rcases Nat.lt_or_ge i L with hlt | hge
    · have hlt' : i < s.opn.length := by omega
      obtain ⟨k, rfl⟩ := HP.out (by omega)
      have hp := OK.out.opn _ (List.getElem_mem hlt')
      obtain ⟨g, rfl⟩ := HS.out (by have := HN.out; omega)
      obtain ⟨q0, q1⟩ := RkAt.opnAt (s := ⟨laid s.sec s.opn (keptAt fs) i, s.opn, s.fail, s.reads⟩) (g := k) (cap := capL) (by show RkAt B b _ (.slice _ s.opn.length _) _ _; rw [hl3]; exact hk) (i := i) hlt'
      simp only at q0 q1
      have hln : (laid s.sec s.opn (keptAt fs) i).length = N := by rw [laid_length]; exact HN.out
      have hkA : RkAt B b (.slice (some ⟨g, 0, none⟩) (DS.mk (laid s.sec s.opn (keptAt fs) i) s.opn s.fail s.reads).sec.length capS) (.slice (some ⟨k, 0, none⟩) L capL) ⟨laid s.sec s.opn (keptAt fs) i, s.opn, s.fail, s.reads⟩ wr := by
        show RkAt B b (.slice _ (laid s.sec s.opn (keptAt fs) i).length _) _ _ _
        rw [hln]; exact hk
      have ha : s.opn[i].1 < N := by have := HN.out; omega
      have hal : s.opn[i].1 < (laid s.sec s.opn (keptAt fs) i).length := by rw [hln]; exact ha
      have hol : ((laid s.sec s.opn (keptAt fs) i)[s.opn[i].1]).length = 64 := laid_sec OK.out.sec OK.out.opn (keptAt_le fs) i _ (List.getElem_mem hal)
      obtain ⟨o, ho⟩ : ∃ o, o = Obj.cells #[.int .i64 (s.opn[i].1 : Int), .string (mkB s.opn[i].2)] 92 := ⟨_, rfl⟩
      have hk' := (hkA.alloc o).drew
      have kle := keptAt_le fs i
      have st := hk'.setSec s.opn[i].1 (s.opn[i].2.take (keptAt fs i) ++ ((laid s.sec s.opn (keptAt fs) i)[s.opn[i].1]).drop (keptAt fs i)) (by simp; omega)
      have NX : Hid (RkAt B b (.slice (some ⟨g, 0, none⟩) N capS) (.slice (some ⟨k, 0, none⟩) L capL) ⟨laid s.sec s.opn (keptAt fs) (i + 1), s.opn, s.fail, s.reads⟩ ((wr.alloc o).drew.setCell ⟨g, s.opn[i].1, none⟩ (.string (mkB (s.opn[i].2.take (keptAt fs i) ++ ((laid s.sec s.opn (keptAt fs) i)[s.opn[i].1]).drop (keptAt fs i))))) ∧ Moved b w ((wr.alloc o).drew.setCell ⟨g, s.opn[i].1, none⟩ (.string (mkB (s.opn[i].2.take (keptAt fs i) ++ ((laid s.sec s.opn (keptAt fs) i)[s.opn[i].1]).drop (keptAt fs i)))))) := Lib.hid (by
        refine ⟨?_, (hm.alloc hk.lt o).drew.trans st.2⟩
        rw [laid_succ hlt', putS_eq hal]
        have e := st.1
        have e2 : (DS.mk (laid s.sec s.opn (keptAt fs) i) s.opn s.fail s.reads).sec.length = N := hln
        rw [e2] at e
        exact e)
      have cs0 := RkAt.secAt hk' (i := s.opn[i].1) hal
      have fs0 := World.ownsRow.frozenAt hk'.rowS s.opn[i].1
      have d0 := hk'.c0
      rw [World.cell?_drew] at cs0 d0
      rw [World.frozen?_drew] at fs0
      simp only at cs0 fs0
      rw [show (DS.mk (laid s.sec s.opn (keptAt fs) i) s.opn s.fail s.reads).sec.length = N from hln] at d0
      have e1 := ext_to s.opn[i].2 (keptAt fs i)
      have e2 := ext_from ((laid s.sec s.opn (keptAt fs) i)[s.opn[i].1]) (keptAt fs i) 64 (by omega)
      have z1 : (mkB s.opn[i].2).size = 64 := by rw [mkB_size]; exact hp.2
      have z2 : (mkB ((laid s.sec s.opn (keptAt fs) i)[s.opn[i].1])).size = 64 := by rw [mkB_size]; exact hol
      have ad := add_mk (s.opn[i].2.take (keptAt fs i)) (((laid s.sec s.opn (keptAt fs) i)[s.opn[i].1]).drop (keptAt fs i)) (by simp; omega)
      have FW := Lib.hid (fun (h0 : 0 < fs.length) => HF.out.moved hm (HO.out h0))
      have BN : Hid (brokenTo fs (i + 1) = brokenTo fs i + (if keptAt fs i = 64 then 0 else 1)) := Lib.hid rfl
      have bl := brokenTo_le fs i
      have KA : Hid (keptAt fs i = if hf : i < fs.length then keepOf fs[i].1 fs[i].2 else 0) := Lib.hid (by
        by_cases hf : i < fs.length
        · rw [dif_pos hf, keptAt_lt hf]
        · rw [dif_neg hf, keptAt_ge (by omega)])
      generalize mkB (s.opn[i].2.take (keptAt fs i) ++ ((laid s.sec s.opn (keptAt fs) i)[s.opn[i].1]).drop (keptAt fs i)) = Y at *
      generalize mkB (s.opn[i].2.take (keptAt fs i)) = X1 at *
      generalize mkB (((laid s.sec s.opn (keptAt fs) i)[s.opn[i].1]).drop (keptAt fs i)) = X2 at *
      generalize mkB ((laid s.sec s.opn (keptAt fs) i)[s.opn[i].1]) = P2 at *
      generalize mkB s.opn[i].2 = P1 at *
      clear hol hk' st hkA hln hal
      generalize s.opn[i].1 = a at *
      have ha1 : (a : Int) < (N : Int) := by omega
      have HI := Lib.hid hi
      have hg0 : 0 < gk := by omega
      have il : (i : Int) < (L : Int) := by omega
      subst ho
      have n0 : (wr.alloc (.cells #[.int .i64 (a : Int), .string P1] 92)).cell? ⟨wr.heap.size, 0, none⟩ = some (.int .i64 (a : Int)) := by simp [go_sem]
      have n1 : (wr.alloc (.cells #[.int .i64 (a : Int), .string P1] 92)).cell? ⟨wr.heap.size, 1, none⟩ = some (.string P1) := by simp [go_sem]
      have NXT : Hid (∀ x : Int, x = (brokenTo fs (i + 1) : Int) → ∀ y : Int, y = ((i + 1 : Nat) : Int) → RcRel B b (.slice (some ⟨g, 0, none⟩) N capS) (.slice (some ⟨k, 0, none⟩) L capL) s fs w (gk - 1) (.int .i64 x) (.int .i64 y) ((wr.alloc (.cells #[.int .i64 (a : Int), .string P1] 92)).drew.setCell ⟨g, a, none⟩ (.string Y))) := Lib.hid (fun x hx y hy => ⟨i + 1, by have := HI.out; omega, by rw [hx], by rw [hy], NX.out⟩)
      generalize brokenTo fs i = br at *
      clear hk hm hl3 hlt' hp hi NX
      generalize keptAt fs i = q at *
      have kq : (q : Int) ≤ 64 := by omega
      have CF : Hid (∀ h : i < fs.length, ∃ bf off, ao = some ⟨bf, off, none⟩ ∧ (wr.alloc (.cells #[.int .i64 (a : Int), .string P1] 92)).cell? ⟨bf, off + i * 2, none⟩ = some (.int .i64 fs[i].1) ∧ (wr.alloc (.cells #[.int .i64 (a : Int), .string P1] 92)).cell? ⟨bf, off + i * 2 + 1, none⟩ = some (.int .i64 fs[i].2)) := Lib.hid (fun hif => by
        obtain ⟨bf, off, hao, hbf, hcf⟩ := (FW.out (by omega)).2 (by omega)
        obtain ⟨cK, cA⟩ := hcf i hif
        exact ⟨bf, off, hao, by rw [World.cell?_alloc_lt _ _ _ (lt_of_cell cK)]; exact cK, by rw [World.cell?_alloc_lt _ _ _ (lt_of_cell cA)]; exact cA⟩)
      clear FW
      go_upto_if 29 with (refine wpList_store_new (c := #[.int .i64 0, .string ⟨#[]⟩]) (c' := #[.int .i64 (a : Int), .string P1]) rfl rfl rfl rfl szP rfl rfl ?_)
      generalize wr.alloc (.cells #[.int .i64 (a : Int), .string P1] 92) = WA at *
      go_cut [8] (CnRel q WA)
      case first =>
        clear e1 e2 ad
        rcases Nat.lt_or_ge i fs.length with hif | hif
        · obtain ⟨bf, off, rfl, cK, cA⟩ := CF.out hif
          have KB := KA.out
          rw [dif_pos hif] at KB
          have il2 : (i : Int) < (fs.length : Int) := by omega
          have t1 := tm fs[i].1 3 (by omega)
          have t2 := tm fs[i].2 65 (by omega)
          have m1 := tmod_mod fs[i].1 3 (by omega)
          have m2 := tmod_mod fs[i].2 65 (by omega)
          clear CF KA
          generalize fs[i].1 = KK at *
          generalize fs[i].2 = AA at *
          obtain ⟨t1a, t1b⟩ := t1
          obtain ⟨t2a, t2b⟩ := t2
          have h3 : KK % 3 = 0 ∨ KK % 3 = 1 ∨ KK % 3 = 2 := by omega
          rcases h3 with h3 | h3 | h3
          · have hq : Hid (q = 0) := Lib.hid (by rw [KB]; unfold keepOf; rw [if_pos h3])
            rw [h3] at m1
            clear KB h3 m2
            go_wp2_with fail
            go_meet
            exact ⟨by rw [hq.out]; rfl, rfl⟩
          · have hq : Hid (q = 64) := Lib.hid (by rw [KB]; unfold keepOf; rw [if_neg (by omega), if_pos h3])
            rw [h3] at m1
            clear KB h3 m2
            go_wp2_with fail
            go_meet
            exact ⟨by rw [hq.out]; rfl, rfl⟩
          · have hq : q = (AA % 65).toNat := by rw [KB]; unfold keepOf; rw [if_neg (by omega), if_neg (by omega)]
            have hq2 : AA % 65 = (q : Int) := by omega
            rw [h3] at m1
            rw [hq2] at m2
            have HM2 := Lib.hid m2
            clear KB h3 hq hq2
            go_wp2_with fail
            go_meet
            exact ⟨by have hz : (AA.tmod 65 + 65) % 65 = (q : Int) := by (have := HM2.out; omega)
                      first | rw [hz] | rfl, rfl⟩
        · have KB := KA.out
          rw [dif_neg (by omega)] at KB
          have hq := Lib.hid KB
          have il2 : (fs.length : Int) ≤ (i : Int) := by omega
          clear KA CF KB
          go_wp2_with fail
          go_meet
          exact ⟨by rw [hq.out]; rfl, rfl⟩
      case rest =>
        obtain ⟨rfl, hwc⟩ := hcut
        subst hwc
        clear CF KA
        by_cases h64 : q = 64
        · have H64 := Lib.hid h64
          have t6 : decide ((q : Int) < 64) = false := by simp; omega
          have t7 : (64 : Int) ≤ (q : Int) := by omega
          clear h64
          go_wp2_with fail
          go_still_tail 22, (by kernel_rfl)
          change wpList _ _ _ _ _ (World.drew _)
          go_wp2
          go_roundg (gk - 1)
          case measure => omega
          case rel => exact NXT.out _ (by rw [BN.out, if_pos H64.out]; rfl) _ (by go_num)
        · have H64 := Lib.hid h64
          have t7 : (q : Int) < 64 := by omega
          clear h64
          go_wp2_with fail
          go_still_tail 22, (by kernel_rfl)
          change wpList _ _ _ _ _ (World.drew _)
          go_wp2
          go_roundg (gk - 1)
          case measure => omega
          case rel => exact NXT.out _ (by rw [BN.out, if_neg H64.out]; rfl) _ (by go_num)
    · obtain rfl : i = L := by omega
      have f1 := hk.fz
      have c2 := hk.c2
      have c3 := hk.c3
      have RS := hk.reset
      have FIN : Hid (Rk B b (crashR s fs).1 _ ∧ Moved b w _) := Lib.hid ⟨⟨_, _, by unfold crashR crashedS; rw [hl3]; exact RS.1⟩, hm.trans RS.2⟩
      have RES : Hid ((crashR s fs).2 = brokenTo fs i) := Lib.hid (by unfold crashR; show brokenTo fs s.opn.length = _; rw [hl3])
      have il : (i : Int) ≤ (i : Int) := by omega
      clear hk hm hl3 RS
      go_wp2
      go_ret
      exact ⟨by rw [RES.out]; rfl, FIN.out⟩
end Go.Proofs.Ytcbemjckcmcelaa.Dk
namespace Go.Proofs.Ytcbemjckcmcelaa.Dk
open Go.ChangeShapes Go.WideShapes Go.ChangeAt Go.RowKit Go.Joins
set_option maxRecDepth 100000
set_option linter.unusedVariables false
set_option linter.unusedSimpArgs false
theorem infoStr : (Try.prog.info? 9).map (fun i => (i.zero, i.size, i.bytes)) = some (some (.string ⟨#[]⟩), 1, 16) := by kernel_rfl
/-- a sector more -/
theorem RkAt.more {B b : Nat} {vS : Value} {i : Nat} {w w1 w2 : World} {k cap : Nat} (h : RkAt B b vS (.slice none 0 0) (newR i) w) (h1 : RkAt B b vS (.slice none 0 0) (newR i) w1) (m1 : Moved b w w1) (hi : i + 1 ≤ 1024)
    (hown : w2.ownsRow B 9 1 (.slice (some ⟨k, 0, none⟩) (i + 1) cap) (i + 1) (secV (newR i).sec ++ [.string (mkB (List.replicate 64 0))])) (hg : w1.grownBy w2 vS.ownBlock) (hn : vS.ownBlock = some k ∨ w.heap.size ≤ k) :
    RkAt B b (.slice (some ⟨k, 0, none⟩) (i + 1) cap) (.slice none 0 0) (newR (i + 1)) (w2.setCell ⟨b, 0, none⟩ (.slice (some ⟨k, 0, none⟩) (i + 1) cap)) ∧ Moved b w (w2.setCell ⟨b, 0, none⟩ (.slice (some ⟨k, 0, none⟩) (i + 1) cap)) := by
  have nb : vS.ownBlock ≠ some b := fun e => h1.nS e rfl
  have eb : w2.heap[b]? = w1.heap[b]? := hg.block b h1.lt (fun e => nb e.symm)
  have b2 := eb.trans h1.blk
  have kb : k ≠ b := by
    obtain ⟨cur, hcur⟩ := own_block hown (k := k) rfl
    exact blk_ne hcur b2 (by decide)
  constructor
  · refine ⟨newR_ok hi, h.hb, ?_, ?_, World.ownsRow_nil _ _ _ _⟩
    · simp [World.setCell, Array.getElem?_modify, b2]
      exact ⟨rfl, rfl⟩
    · have := hown.kept (grown_set w2 b 0 (.slice (some ⟨k, 0, none⟩) (i + 1) cap)) (.inr (by simp [Value.ownBlock]; exact kb))
      have e1 : (newR (i + 1)).sec.length = i + 1 := by simp [newR]
      have e2 : secV (newR (i + 1)).sec = secV (newR i).sec ++ [.string (mkB (List.replicate 64 0))] := by
        unfold secV newR
        simp only [List.replicate_succ', List.map_append, List.map_cons, List.map_nil]
      rw [e1, e2]
      exact this
  · have m2 := m1.grown hg h1.lt nb (fun k hk => h1.owns.2 (.inr (.inl hk)))
    refine m2.set (x := vS) (by rw [Lib.cell_of_heap b2]; rfl) (fun k' hk' _ => ?_)
    simp [Value.ownBlock] at hk'
    subst hk'
    rcases hn with e | e
    · exact .inl (h.owns.2 (.inr (.inl e)))
    · exact .inr e
theorem build_str (T : ByteArray) (w : World) : (Instr.buildSlice 36 1 #[(0, .string T)]).run Try.prog w = .ok (.slice (some ⟨w.heap.size, 0, none⟩) 1 1) (w.alloc (.cells #[.string T] 9)) := by
  go_simp
def RnRel (B b : Nat) (n : Nat) (w : World) (m : Nat) (s4 : Value) (wx : World) : Prop := ∃ (i : Nat) (vS : Value), i + m = n ∧ s4 = .int .i64 (i : Int) ∧ RkAt B b vS (.slice none 0 0) (newR i) wx ∧ Below B w wx
set_option maxRecDepth 100000 in
set_option maxHeartbeats 4000000 in
theorem new_rf (n : Nat) (w : World) (hn : n ≤ 1024) :
    Calls Try.prog 12 #[.int .i64 (n : Int)] w fun e w' => e = .returned (ptr w.heap.size) ∧ Rk w.heap.size w.heap.size (newR n) w' ∧ Below w.heap.size w w' := by
  have R0 : Hid (RkAt w.heap.size w.heap.size (.slice none 0 0) (.slice none 0 0) (newR 0) (w.alloc (.cells #[.slice none 0 0, .slice none 0 0, .int .i64 0, .int .i64 0] 49))) := Lib.hid ⟨newR_ok (by omega), Nat.le_refl _, heap_alloc_new _ _, World.ownsRow_nil _ _ _ _, World.ownsRow_nil _ _ _ _⟩
  have B0 := Lib.hid ((Below.refl w.heap.size w).alloc (Nat.le_refl _) (.cells #[.slice none 0 0, .slice none 0 0, .int .i64 0, .int .i64 0] 49))
  go_enter Try.func12, Try.ntmps12
  go_wp2_with fail
  generalize w.alloc (.cells #[.slice none 0 0, .slice none 0 0, .int .i64 0, .int .i64 0] 49) = W0 at *
  go_loopg [4] n (RnRel w.heap.size w.heap.size n w)
  case atStart => exact ⟨0, _, by omega, rfl, R0.out, B0.out⟩
  case round =>
    clear R0 B0
    obtain ⟨i, vS, hi, rfl, hk, hb⟩ := hrel
    rcases Nat.lt_or_ge i n with hlt | hge
    · obtain ⟨M, hM⟩ : ∃ M, M = (Lib.byteCells (List.replicate 64 0)).toArray := ⟨_, rfl⟩
      have mk := make64 wr.drew
      rw [← hM] at mk
      have rM := rowB_new wr.drew (List.replicate 64 0) 5
      rw [← hM] at rM
      have cv := rM.text 0 64 64 (by simp)
      rw [List.drop_zero, List.take_of_length_le (by simp)] at cv
      obtain ⟨T, hT⟩ : ∃ T, T = mkB (List.replicate 64 0) := ⟨_, rfl⟩
      rw [← hT] at cv
      have k1 := hk.drew.alloc (.cells M 5)
      have k2 := k1.alloc (.cells #[.string T] 9)
      have a40 : ∀ (w' : World), w'.cell? ⟨w.heap.size, 0, none⟩ = some vS → (loadVar 36 ⟨w.heap.size, 0, none⟩).run Try.prog w' = .ok vS w' := by
        intro w' hc
        go_simp
      have cA := Lib.hid (a40 _ hk.drew.c0)
      have cB := Lib.hid (a40 _ k1.c0)
      have cC := Lib.hid (a40 _ k2.c0)
      clear a40
      obtain ⟨q, cap, w4, hap, hown, hgrow, hnew⟩ := append_one (P := Try.prog) ((wr.drew.alloc (.cells M 5)).alloc (.cells #[.string T] 9)) w.heap.size 36 36 9 _ 1 16 Try.underlying36 infoStr rfl (by omega) (by omega) vS i (secV (newR i).sec) (by have := k2.rowS; simpa [newR] using this) ⟨(wr.drew.alloc (.cells M 5)).heap.size, 0, none⟩ [.string T] rfl (fun j u hj => by
        rw [addr_add, Nat.zero_add, Lib.cell_of_heap (heap_alloc_new _ _)]; simpa using hj) (fun u hu => by simp at hu; rw [hu]; rfl) (by omega) k2.le
      have nb : vS.ownBlock ≠ some w.heap.size := fun e => k2.nS e rfl
      have b4 := (hgrow.block w.heap.size k2.lt (fun e => nb e.symm)).trans k2.blk
      have FN := hk.drew.more k2 (((Moved.refl w.heap.size wr.drew).alloc hk.drew.lt _).alloc k1.lt _) (by omega) (by rw [← hT]; exact hown) hgrow (hnew.imp id (fun e => by simp at e; show wr.heap.size ≤ q; omega))
      have FIN : Hid (∀ y : Int, y = ((i + 1 : Nat) : Int) → RnRel w.heap.size w.heap.size n w (gk - 1) (.int .i64 y) (w4.setCell ⟨w.heap.size, 0, none⟩ (.slice (some ⟨q, 0, none⟩) (i + 1) cap))) := Lib.hid (fun y hy => ⟨i + 1, _, by omega, by rw [hy], FN.1, hb.drew.trans (FN.2.below (fun k hkk => (hk.drew.ownLt hkk).1) hk.le)⟩)
      have d1 : w4.cell? ⟨w.heap.size, 0, none⟩ = some vS := by rw [Lib.cell_of_heap b4]; rfl
      have f1 : w4.frozen? ⟨w.heap.size, 0, none⟩ = false := Lib.frozen_of_heap b4 0
      have AP := Lib.hid hap
      have MK := Lib.hid mk
      have CV := Lib.hid cv
      have BS := Lib.hid (build_str T (wr.drew.alloc (.cells M 5)))
      have hg0 : 0 < gk := by omega
      have il : (i : Int) < (n : Int) := by omega
      clear FN hap hown hgrow hnew nb b4 k1 k2 hk hb mk cv rM hM hT hi
      generalize wr.drew.alloc (.cells M 5) = W1 at *
      generalize W1.alloc (.cells #[.string T] 9) = W2 at *
      generalize w.heap.size = bb at *
      go_wp2_with fail
      -- (the region, by drn.py)
      refine wp_region_any (by kernel_rfl) ?_
      (try (change wpAny _ _ _ _ _ _ _ (World.drew _)))
      refine wpAny_take (i := 0) (v := ?_) rfl (by kernel_rfl) (by kernel_rfl) (by kernel_rfl) (fun _ _ _ h => h) (Or.inl ⟨by rfl, ?_⟩) ?_
      rotate_left
      · (intro wS; go_simp; try with_reducible rfl)
      (try simp only [Act.put, List.getElem_toArray, List.getElem_cons_succ, List.getElem_cons_zero, List.setIfInBounds_toArray, List.set_cons_zero, List.set_cons_succ])
      refine wpAny_take (i := 1) (v := ?_) rfl (by kernel_rfl) (by kernel_rfl) (by kernel_rfl) (fun _ _ _ h => h) (Or.inl ⟨by rfl, ?_⟩) ?_
      rotate_left
      · (intro wS; go_simp; try with_reducible rfl)
      (try simp only [Act.put, List.getElem_toArray, List.getElem_cons_succ, List.getElem_cons_zero, List.setIfInBounds_toArray, List.set_cons_zero, List.set_cons_succ])
      refine wpAny_take (i := 2) (v := ?_) rfl (by kernel_rfl) (by kernel_rfl) (by kernel_rfl) (fun _ _ _ h => h) (Or.inl ⟨by rfl, ?_⟩) ?_
      rotate_left
      · (intro wS; go_simp; try with_reducible rfl)
      (try simp only [Act.put, List.getElem_toArray, List.getElem_cons_succ, List.getElem_cons_zero, List.setIfInBounds_toArray, List.set_cons_zero, List.set_cons_succ])
      refine wpAny_take (i := 3) (v := ?_) rfl (by kernel_rfl) (by kernel_rfl) (by kernel_rfl) (fun _ _ _ h => h) (Or.inl ⟨by rfl, ?_⟩) ?_
      rotate_left
      · (intro wS; go_simp; try with_reducible rfl)
      (try simp only [Act.put, List.getElem_toArray, List.getElem_cons_succ, List.getElem_cons_zero, List.setIfInBounds_toArray, List.set_cons_zero, List.set_cons_succ])
      refine wpAny_ready (rs := [4, 5]) (by kernel_rfl) (by simp) ?_
      refine AllReady.cons rfl (fun K hK => ?_) ?_
      · rw [if_pos (by rfl)]
        refine wp_value (v := vS) (w' := _) (exec_load1 rfl rfl cA.out) (hK _ _ ?_)
        clear hK K
        (try simp only [Act.put, List.getElem_toArray, List.getElem_cons_succ, List.getElem_cons_zero, List.setIfInBounds_toArray, List.set_cons_zero, List.set_cons_succ])
        refine wpAny_ready (rs := [5]) (by kernel_rfl) (by simp) ?_
        refine AllReady.cons rfl (fun K hK => ?_) ?_
        · rw [if_pos (by rfl)]
          refine wp_value (exec_makeSlice rfl MK.out) (hK _ _ ?_)
          clear hK K
          (try simp only [Act.put, List.getElem_toArray, List.getElem_cons_succ, List.getElem_cons_zero, List.setIfInBounds_toArray, List.set_cons_zero, List.set_cons_succ])
          refine wpAny_ready (rs := [6]) (by kernel_rfl) (by simp) ?_
          refine AllReady.cons rfl (fun K hK => ?_) ?_
          · rw [if_pos (by rfl)]
            refine wp_value (exec_convert rfl CV.out) (hK _ _ ?_)
            clear hK K
            (try simp only [Act.put, List.getElem_toArray, List.getElem_cons_succ, List.getElem_cons_zero, List.setIfInBounds_toArray, List.set_cons_zero, List.set_cons_succ])
            refine wpAny_ready (rs := [7]) (by kernel_rfl) (by simp) ?_
            refine AllReady.cons rfl (fun K hK => ?_) ?_
            · rw [if_pos (by rfl)]
              refine wp_value (exec_buildSlice1 rfl rfl BS.out) (hK _ _ ?_)
              clear hK K
              (try simp only [Act.put, List.getElem_toArray, List.getElem_cons_succ, List.getElem_cons_zero, List.setIfInBounds_toArray, List.set_cons_zero, List.set_cons_succ])
              refine wpAny_ready (rs := [8]) (by kernel_rfl) (by simp) ?_
              refine AllReady.cons rfl (fun K hK => ?_) ?_
              · rw [if_pos (by rfl)]
                refine Lib.wp_append_run _ _ _ _ _ rfl _ _ rfl rfl _ _ AP.out (hK _ _ ?_)
                clear hK K
                (try simp only [Act.put, List.getElem_toArray, List.getElem_cons_succ, List.getElem_cons_zero, List.setIfInBounds_toArray, List.set_cons_zero, List.set_cons_succ])
                refine wpAny_take (i := 9) (v := ?_) rfl (by kernel_rfl) (by kernel_rfl) (by kernel_rfl) (fun _ _ _ h => h) (Or.inl ⟨by rfl, ?_⟩) ?_
                rotate_left
                · (intro wS; go_simp; try with_reducible rfl)
                (try simp only [Act.put, List.getElem_toArray, List.getElem_cons_succ, List.getElem_cons_zero, List.setIfInBounds_toArray, List.set_cons_zero, List.set_cons_succ])
                refine wpAny_take (i := 10) (v := ?_) rfl (by kernel_rfl) (by kernel_rfl) (by kernel_rfl) (fun _ _ _ h => h) (Or.inl ⟨by rfl, ?_⟩) ?_
                rotate_left
                · (intro wS; go_simp; try with_reducible rfl)
                (try simp only [Act.put, List.getElem_toArray, List.getElem_cons_succ, List.getElem_cons_zero, List.setIfInBounds_toArray, List.set_cons_zero, List.set_cons_succ])
                refine wpAny_ready (rs := [11]) (by kernel_rfl) (by simp) ?_
                refine AllReady.cons rfl (fun K hK => ?_) ?_
                · rw [if_pos (by rfl)]
                  go_simp
                  refine hK _ _ ?_
                  clear hK K
                  (try simp only [Act.put, List.getElem_toArray, List.getElem_cons_succ, List.getElem_cons_zero, List.setIfInBounds_toArray, List.set_cons_zero, List.set_cons_succ])
                  refine wpAny_done (by kernel_rfl) ?_ _
                  go_wp2
                  go_roundg (gk - 1)
                  case measure => omega
                  case rel => exact FIN.out _ (by go_num)
                exact AllReady.nil
              exact AllReady.nil
            exact AllReady.nil
          exact AllReady.nil
        exact AllReady.nil
      refine AllReady.cons rfl (fun K hK => ?_) ?_
      · rw [if_pos (by rfl)]
        refine wp_value (exec_makeSlice rfl MK.out) (hK _ _ ?_)
        clear hK K
        (try simp only [Act.put, List.getElem_toArray, List.getElem_cons_succ, List.getElem_cons_zero, List.setIfInBounds_toArray, List.set_cons_zero, List.set_cons_succ])
        refine wpAny_ready (rs := [4, 6]) (by kernel_rfl) (by simp) ?_
        refine AllReady.cons rfl (fun K hK => ?_) ?_
        · rw [if_pos (by rfl)]
          refine wp_value (v := vS) (w' := _) (exec_load1 rfl rfl cB.out) (hK _ _ ?_)
          clear hK K
          (try simp only [Act.put, List.getElem_toArray, List.getElem_cons_succ, List.getElem_cons_zero, List.setIfInBounds_toArray, List.set_cons_zero, List.set_cons_succ])
          refine wpAny_ready (rs := [6]) (by kernel_rfl) (by simp) ?_
          refine AllReady.cons rfl (fun K hK => ?_) ?_
          · rw [if_pos (by rfl)]
            refine wp_value (exec_convert rfl CV.out) (hK _ _ ?_)
            clear hK K
            (try simp only [Act.put, List.getElem_toArray, List.getElem_cons_succ, List.getElem_cons_zero, List.setIfInBounds_toArray, List.set_cons_zero, List.set_cons_succ])
            refine wpAny_ready (rs := [7]) (by kernel_rfl) (by simp) ?_
            refine AllReady.cons rfl (fun K hK => ?_) ?_
            · rw [if_pos (by rfl)]
              refine wp_value (exec_buildSlice1 rfl rfl BS.out) (hK _ _ ?_)
              clear hK K
              (try simp only [Act.put, List.getElem_toArray, List.getElem_cons_succ, List.getElem_cons_zero, List.setIfInBounds_toArray, List.set_cons_zero, List.set_cons_succ])
              refine wpAny_ready (rs := [8]) (by kernel_rfl) (by simp) ?_
              refine AllReady.cons rfl (fun K hK => ?_) ?_
              · rw [if_pos (by rfl)]
                refine Lib.wp_append_run _ _ _ _ _ rfl _ _ rfl rfl _ _ AP.out (hK _ _ ?_)
                clear hK K
                (try simp only [Act.put, List.getElem_toArray, List.getElem_cons_succ, List.getElem_cons_zero, List.setIfInBounds_toArray, List.set_cons_zero, List.set_cons_succ])
                refine wpAny_take (i := 9) (v := ?_) rfl (by kernel_rfl) (by kernel_rfl) (by kernel_rfl) (fun _ _ _ h => h) (Or.inl ⟨by rfl, ?_⟩) ?_
                rotate_left
                · (intro wS; go_simp; try with_reducible rfl)
                (try simp only [Act.put, List.getElem_toArray, List.getElem_cons_succ, List.getElem_cons_zero, List.setIfInBounds_toArray, List.set_cons_zero, List.set_cons_succ])
                refine wpAny_take (i := 10) (v := ?_) rfl (by kernel_rfl) (by kernel_rfl) (by kernel_rfl) (fun _ _ _ h => h) (Or.inl ⟨by rfl, ?_⟩) ?_
                rotate_left
                · (intro wS; go_simp; try with_reducible rfl)
                (try simp only [Act.put, List.getElem_toArray, List.getElem_cons_succ, List.getElem_cons_zero, List.setIfInBounds_toArray, List.set_cons_zero, List.set_cons_succ])
                refine wpAny_ready (rs := [11]) (by kernel_rfl) (by simp) ?_
                refine AllReady.cons rfl (fun K hK => ?_) ?_
                · rw [if_pos (by rfl)]
                  go_simp
                  refine hK _ _ ?_
                  clear hK K
                  (try simp only [Act.put, List.getElem_toArray, List.getElem_cons_succ, List.getElem_cons_zero, List.setIfInBounds_toArray, List.set_cons_zero, List.set_cons_succ])
                  refine wpAny_done (by kernel_rfl) ?_ _
                  go_wp2
                  go_roundg (gk - 1)
                  case measure => omega
                  case rel => exact FIN.out _ (by go_num)
                exact AllReady.nil
              exact AllReady.nil
            exact AllReady.nil
          exact AllReady.nil
        refine AllReady.cons rfl (fun K hK => ?_) ?_
        · rw [if_pos (by rfl)]
          refine wp_value (exec_convert rfl CV.out) (hK _ _ ?_)
          clear hK K
          (try simp only [Act.put, List.getElem_toArray, List.getElem_cons_succ, List.getElem_cons_zero, List.setIfInBounds_toArray, List.set_cons_zero, List.set_cons_succ])
          refine wpAny_ready (rs := [4, 7]) (by kernel_rfl) (by simp) ?_
          refine AllReady.cons rfl (fun K hK => ?_) ?_
          · rw [if_pos (by rfl)]
            refine wp_value (v := vS) (w' := _) (exec_load1 rfl rfl cB.out) (hK _ _ ?_)
            clear hK K
            (try simp only [Act.put, List.getElem_toArray, List.getElem_cons_succ, List.getElem_cons_zero, List.setIfInBounds_toArray, List.set_cons_zero, List.set_cons_succ])
            refine wpAny_ready (rs := [7]) (by kernel_rfl) (by simp) ?_
            refine AllReady.cons rfl (fun K hK => ?_) ?_
            · rw [if_pos (by rfl)]
              refine wp_value (exec_buildSlice1 rfl rfl BS.out) (hK _ _ ?_)
              clear hK K
              (try simp only [Act.put, List.getElem_toArray, List.getElem_cons_succ, List.getElem_cons_zero, List.setIfInBounds_toArray, List.set_cons_zero, List.set_cons_succ])
              refine wpAny_ready (rs := [8]) (by kernel_rfl) (by simp) ?_
              refine AllReady.cons rfl (fun K hK => ?_) ?_
              · rw [if_pos (by rfl)]
                refine Lib.wp_append_run _ _ _ _ _ rfl _ _ rfl rfl _ _ AP.out (hK _ _ ?_)
                clear hK K
                (try simp only [Act.put, List.getElem_toArray, List.getElem_cons_succ, List.getElem_cons_zero, List.setIfInBounds_toArray, List.set_cons_zero, List.set_cons_succ])
                refine wpAny_take (i := 9) (v := ?_) rfl (by kernel_rfl) (by kernel_rfl) (by kernel_rfl) (fun _ _ _ h => h) (Or.inl ⟨by rfl, ?_⟩) ?_
                rotate_left
                · (intro wS; go_simp; try with_reducible rfl)
                (try simp only [Act.put, List.getElem_toArray, List.getElem_cons_succ, List.getElem_cons_zero, List.setIfInBounds_toArray, List.set_cons_zero, List.set_cons_succ])
                refine wpAny_take (i := 10) (v := ?_) rfl (by kernel_rfl) (by kernel_rfl) (by kernel_rfl) (fun _ _ _ h => h) (Or.inl ⟨by rfl, ?_⟩) ?_
                rotate_left
                · (intro wS; go_simp; try with_reducible rfl)
                (try simp only [Act.put, List.getElem_toArray, List.getElem_cons_succ, List.getElem_cons_zero, List.setIfInBounds_toArray, List.set_cons_zero, List.set_cons_succ])
                refine wpAny_ready (rs := [11]) (by kernel_rfl) (by simp) ?_
                refine AllReady.cons rfl (fun K hK => ?_) ?_
                · rw [if_pos (by rfl)]
                  go_simp
                  refine hK _ _ ?_
                  clear hK K
                  (try simp only [Act.put, List.getElem_toArray, List.getElem_cons_succ, List.getElem_cons_zero, List.setIfInBounds_toArray, List.set_cons_zero, List.set_cons_succ])
                  refine wpAny_done (by kernel_rfl) ?_ _
                  go_wp2
                  go_roundg (gk - 1)
                  case measure => omega
                  case rel => exact FIN.out _ (by go_num)
                exact AllReady.nil
              exact AllReady.nil
            exact AllReady.nil
          refine AllReady.cons rfl (fun K hK => ?_) ?_
          · rw [if_pos (by rfl)]
            refine wp_value (exec_buildSlice1 rfl rfl BS.out) (hK _ _ ?_)
            clear hK K
            (try simp only [Act.put, List.getElem_toArray, List.getElem_cons_succ, List.getElem_cons_zero, List.setIfInBounds_toArray, List.set_cons_zero, List.set_cons_succ])
            refine wpAny_ready (rs := [4]) (by kernel_rfl) (by simp) ?_
            refine AllReady.cons rfl (fun K hK => ?_) ?_
            · rw [if_pos (by rfl)]
              refine wp_value (v := vS) (w' := _) (exec_load1 rfl rfl cC.out) (hK _ _ ?_)
              clear hK K
              (try simp only [Act.put, List.getElem_toArray, List.getElem_cons_succ, List.getElem_cons_zero, List.setIfInBounds_toArray, List.set_cons_zero, List.set_cons_succ])
              refine wpAny_ready (rs := [8]) (by kernel_rfl) (by simp) ?_
              refine AllReady.cons rfl (fun K hK => ?_) ?_
              · rw [if_pos (by rfl)]
                refine Lib.wp_append_run _ _ _ _ _ rfl _ _ rfl rfl _ _ AP.out (hK _ _ ?_)
                clear hK K
                (try simp only [Act.put, List.getElem_toArray, List.getElem_cons_succ, List.getElem_cons_zero, List.setIfInBounds_toArray, List.set_cons_zero, List.set_cons_succ])
                refine wpAny_take (i := 9) (v := ?_) rfl (by kernel_rfl) (by kernel_rfl) (by kernel_rfl) (fun _ _ _ h => h) (Or.inl ⟨by rfl, ?_⟩) ?_
                rotate_left
                · (intro wS; go_simp; try with_reducible rfl)
                (try simp only [Act.put, List.getElem_toArray, List.getElem_cons_succ, List.getElem_cons_zero, List.setIfInBounds_toArray, List.set_cons_zero, List.set_cons_succ])
                refine wpAny_take (i := 10) (v := ?_) rfl (by kernel_rfl) (by kernel_rfl) (by kernel_rfl) (fun _ _ _ h => h) (Or.inl ⟨by rfl, ?_⟩) ?_
                rotate_left
                · (intro wS; go_simp; try with_reducible rfl)
                (try simp only [Act.put, List.getElem_toArray, List.getElem_cons_succ, List.getElem_cons_zero, List.setIfInBounds_toArray, List.set_cons_zero, List.set_cons_succ])
                refine wpAny_ready (rs := [11]) (by kernel_rfl) (by simp) ?_
                refine AllReady.cons rfl (fun K hK => ?_) ?_
                · rw [if_pos (by rfl)]
                  go_simp
                  refine hK _ _ ?_
                  clear hK K
                  (try simp only [Act.put, List.getElem_toArray, List.getElem_cons_succ, List.getElem_cons_zero, List.setIfInBounds_toArray, List.set_cons_zero, List.set_cons_succ])
                  refine wpAny_done (by kernel_rfl) ?_ _
                  go_wp2
                  go_roundg (gk - 1)
                  case measure => omega
                  case rel => exact FIN.out _ (by go_num)
                exact AllReady.nil
              exact AllReady.nil
            exact AllReady.nil
          exact AllReady.nil
        exact AllReady.nil
      exact AllReady.nil
      -- (its end)
    · obtain rfl : i = n := by omega
      have FIN := Lib.hid (And.intro (show Rk w.heap.size w.heap.size (newR i) wr from ⟨_, _, hk⟩) hb)
      have il : (i : Int) ≤ (i : Int) := by omega
      clear hk hb
      go_wp2
      go_ret
      exact ⟨rfl, FIN.out⟩
end Go.Proofs.Ytcbemjckcmcelaa.Dk
namespace Go.Proofs.Ytcbemjckcmcelaa.Dk
open Go.ChangeShapes Go.WideShapes Go.ChangeAt Go.RowKit Go.Joins
set_option maxRecDepth 100000
set_option linter.unusedVariables false
set_option linter.unusedSimpArgs false
theorem Rk.keep {B b : Nat} {s : DS} {w w' : World} (h : Rk B b s w) (m : Moved b w w') {k : Nat} {cs : Array Value} {T : TypeId} {fz : Nat × Nat} (hk : w.heap[k]? = some (.cells cs T fz)) (h1 : T ≠ 49) (h2 : T ≠ 9) (h3 : T ≠ 92) : w'.heap[k]? = some (.cells cs T fz) := by
  obtain ⟨vS, vL, h⟩ := h
  rw [m.block k (lt_of_heap hk) ?_]
  · exact hk
  · intro e
    rcases h.owns.1 e with rfl | e | e
    · have := h.blk; rw [hk] at this; simp only [Option.some.injEq, Obj.cells.injEq] at this; exact h1 this.2.1
    · obtain ⟨c, hc⟩ := own_block h.rowS e; rw [hk] at hc; simp only [Option.some.injEq, Obj.cells.injEq] at hc; exact h2 hc.2.1
    · obtain ⟨c, hc⟩ := own_block h.rowL e; rw [hk] at hc; simp only [Option.some.injEq, Obj.cells.injEq] at hc; exact h3 hc.2.1
/-- a disk at d, the document's at r, and nothing shared -/
structure Pr (B d r : Nat) (sd sr : DS) (w0 w : World) : Prop where
  dk : Dk B d sd w
  rk : Rk B r sr w
  apt : Apt w d r
  below : Below B w0 w
section
variable {B d r : Nat} {sd sr s' : DS} {w0 w w' : World}
theorem Pr.left (h : Pr B d r sd sr w0 w) (k : Dk B d s' w') (m : Moved d w w') : Pr B d r s' sr w0 w' :=
  ⟨k, h.rk.moved m (fun k hk hc => h.apt k hc hk), h.apt.moved m (fun k hk => (h.rk.ownLt hk).2), h.below.trans (h.dk.below m)⟩
theorem Pr.right (h : Pr B d r sd sr w0 w) (k : Rk B r s' w') (m : Moved r w w') : Pr B d r sd s' w0 w' :=
  ⟨h.dk.moved m h.apt, k, (h.apt.symm.moved m (fun k hk => (h.dk.ownLt hk).2)).symm, h.below.trans (h.rk.below m)⟩
theorem Pr.call (h : Pr B d r sd sr w0 w) (b : Below w.heap.size w w') : Pr B d r sd sr w0 w' :=
  ⟨h.dk.call b, h.rk.call b, h.apt.call b h.dk.lt h.rk.lt, h.below.trans (b.mono h.dk.le)⟩
theorem Pr.drewN (h : Pr B d r sd sr w0 w) (n : Nat) : Pr B d r sd sr w0 (w.drewN n) := by
  have hh : (w.drewN n).heap = w.heap := by simp
  exact h.call ⟨rfl, rfl, rfl, by rw [hh]; exact Nat.le_refl _, fun k _ => by rw [hh]⟩
theorem Pr.drew (h : Pr B d r sd sr w0 w) : Pr B d r sd sr w0 w.drew := h.call ⟨rfl, rfl, rfl, Nat.le_refl _, fun k _ => rfl⟩
end
/-- with a block of the law's own: the step that is done -/
structure Pl (B d r ob : Nat) (C : Array Value) (sd sr : DS) (w0 w : World) : Prop where
  pr : Pr B d r sd sr w0 w
  blk : w.heap[ob]? = some (.cells C 35 (0, 0))
section
variable {B d r ob : Nat} {C : Array Value} {sd sr s' : DS} {w0 w w' : World}
theorem Pl.left (h : Pl B d r ob C sd sr w0 w) (k : Dk B d s' w') (m : Moved d w w') : Pl B d r ob C s' sr w0 w' := ⟨h.pr.left k m, h.pr.dk.keep m h.blk (by decide) (by decide) (by decide)⟩
theorem Pl.right (h : Pl B d r ob C sd sr w0 w) (k : Rk B r s' w') (m : Moved r w w') : Pl B d r ob C sd s' w0 w' := ⟨h.pr.right k m, h.pr.rk.keep m h.blk (by decide) (by decide) (by decide)⟩
theorem Pl.call (h : Pl B d r ob C sd sr w0 w) (b : Below w.heap.size w w') : Pl B d r ob C sd sr w0 w' := ⟨h.pr.call b, by rw [b.block ob (lt_of_heap h.blk)]; exact h.blk⟩
theorem Pl.drew (h : Pl B d r ob C sd sr w0 w) : Pl B d r ob C sd sr w0 w.drew := h.call ⟨rfl, rfl, rfl, Nat.le_refl _, fun k _ => rfl⟩
theorem Pl.cell (h : Pl B d r ob C sd sr w0 w) (j : Nat) : w.cell? ⟨ob, j, none⟩ = C[j]? := Lib.cell_of_heap h.blk j
end
/-- so few writes are open, so few reads were, and so on -/
structure Small (s : DS) (i many : Nat) : Prop where
  sec : s.sec.length = many
  opn : s.opn.length ≤ i
  reads : s.reads ≤ i
  fail : s.fail < 9223372036854775808
theorem Small.read {s : DS} {i many : Nat} (h : Small s i many) (a : Int) : Small (readR s a).1 (i + 1) many := by
  obtain ⟨h1, h2, h3, h4⟩ := h
  unfold readR
  split
  · split
    · exact ⟨h1, by show s.opn.length ≤ _; omega, by show s.reads + 1 ≤ _; omega, by show 0 < _; omega⟩
    · exact ⟨h1, by show s.opn.length ≤ _; omega, by show s.reads + 1 ≤ _; omega, by show s.fail - 1 < _; omega⟩
  · exact ⟨h1, by show s.opn.length ≤ _; omega, by show s.reads ≤ _; omega, h4⟩
theorem Small.write {s : DS} {i many : Nat} (h : Small s i many) (a : Int) (t : List UInt8) : Small (writeR s a t).1 (i + 1) many := by
  obtain ⟨h1, h2, h3, h4⟩ := h
  unfold writeR
  split
  · split
    · exact ⟨h1, by show s.opn.length ≤ _; omega, by show s.reads ≤ _; omega, by show 0 < _; omega⟩
    · exact ⟨h1, by show (s.opn ++ [_]).length ≤ _; simp; omega, by show s.reads ≤ _; omega, by show s.fail - 1 < _; omega⟩
  · exact ⟨h1, by show s.opn.length ≤ _; omega, by show s.reads ≤ _; omega, h4⟩
theorem Small.flush {s : DS} {i many : Nat} (h : Small s i many) : Small (flushR s).1 (i + 1) many := by
  obtain ⟨h1, h2, h3, h4⟩ := h
  unfold flushR
  split
  · exact ⟨h1, by show s.opn.length ≤ _; omega, by show s.reads ≤ _; omega, by show 0 < _; omega⟩
  · exact ⟨by show (flushedS s).length = _; unfold flushedS; rw [laid_length]; exact h1, by show 0 ≤ _; omega, by show s.reads ≤ _; omega, by show s.fail - 1 < _; omega⟩
theorem Small.failed {s : DS} {i many : Nat} (h : Small s i many) {n : Int} (hn : In64 n) : Small (failR s n) (i + 1) many := by
  obtain ⟨h1, h2, h3, h4⟩ := h
  exact ⟨h1, by show s.opn.length ≤ _; omega, by show s.reads ≤ _; omega, by show n.toNat < _; unfold In64 at hn; omega⟩
theorem Small.crash {s : DS} {i many : Nat} (h : Small s i many) (fs : List (Int × Int)) : Small (crashR s fs).1 (i + 1) many := by
  obtain ⟨h1, h2, h3, h4⟩ := h
  exact ⟨by show (crashedS s fs).length = _; unfold crashedS; rw [laid_length]; exact h1, by show 0 ≤ _; omega, by show 0 ≤ _; omega, by show 0 < _; omega⟩
theorem Small.idle {s : DS} {i many : Nat} (h : Small s i many) : Small s (i + 1) many := ⟨h.sec, by have := h.opn; omega, by have := h.reads; omega, h.fail⟩
/-- a step's cells -/
def opC (k a : Int) (c : UInt8) (raw fl : Bool) (t : ByteArray) (n : Int) (v : Value) : List Value := [.int .i64 k, .int .i64 a, .int .u8 (c.toNat : Int), .bool raw, .bool fl, .string t, .int .i64 n, v]
structure OpAt (b o : Nat) (k a : Int) (c : UInt8) (raw fl : Bool) (t : ByteArray) (n : Int) (fo : Option Addr) (fs : List (Int × Int)) (fc : Nat) (w : World) : Prop where
  at_ : w.rangeAt b o (opC k a c raw fl t n (.slice fo fs.length fc))
  ik : In64 k
  ia : In64 a
  i_n : In64 n
  fats : Fats fo fs w
  len : fs.length ≤ 9223372036854775807
def Ops (ao : Option Addr) (len : Nat) (w : World) : Prop := 0 < len → ∃ b off, ao = some ⟨b, off, none⟩ ∧ b < w.heap.size ∧ ∀ i, i < len → ∃ k a c raw fl t n fo fs fc, OpAt b (off + i * 8) k a c raw fl t n fo fs fc w
theorem fates_of2 {H : Type} {enc : TypeId × Value → H} {W : World} {base : Nat} {spare : Nat → Bool} {held : Bool} {v : Value} {fuel : Nat} {x : DataW H × List MemPlace}
    (hf : DataW.trod enc Try.prog W base spare held fuel 33 [v] = some x) : ∃ ao fs fc, v = .slice ao (fs : List (Int × Int)).length fc ∧ fs.length ≤ 9223372036854775807 ∧ Fats ao fs W := by
  obtain ⟨ao, len, cap, rfl⟩ : ∃ ao len cap, v = .slice ao len cap := by
    rcases Go.Deep.open_slice Try.underlying33 hf with ⟨hcs, hx⟩ | ⟨a, len', cap', m, n, D, Pl, hcs, _⟩
    · simp at hcs; exact ⟨none, 0, 0, hcs⟩
    · simp at hcs; exact ⟨some a, len', cap', hcs⟩
  obtain ⟨fs, rfl, h1, h2⟩ := fates_of hf
  exact ⟨ao, fs, cap, rfl, h1, h2⟩
end Go.Proofs.Ytcbemjckcmcelaa.Dk
