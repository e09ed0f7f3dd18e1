/- Contracts of the document's disk: Write, Flush. -/
import Derived.Test.YtgjndfkjakbdiaaDrA
import Derived.BigRegion
namespace Go.Proofs.Ytgjndfkjakbdiaa.Dk
open Go.ChangeShapes Go.WideShapes Go.ChangeAt Go.RowKit Go.Joins
set_option linter.unusedVariables false
set_option linter.unusedSimpArgs false
theorem infoP : (Try.prog.info? 65).map (fun i => (i.zero, i.size, i.bytes)) = some (some (.agg #[.int .i64 0, .string ⟨#[]⟩]), 2, 24) := by kernel_rfl
theorem RkAt.wrote {B b : Nat} {vS vL : Value} {s : DS} {w w1 w2 : World} {k cap : Nat} {p : Nat × List UInt8} (h : RkAt B b vS vL s w) (h1 : RkAt B b vS vL s w1) (m1 : Moved b w w1) (hp : p.1 < s.sec.length ∧ p.2.length = 64)
    (hown : w2.ownsRow B 65 2 (.slice (some ⟨k, 0, none⟩) (s.opn.length + 1) cap) (s.opn.length + 1) (opnV s.opn ++ [.int .i64 (p.1 : Int), .string (mkB p.2)])) (hg : w1.grownBy w2 vL.ownBlock) (hn : vL.ownBlock = some k ∨ w.heap.size ≤ k) :
    RkAt B b vS (.slice (some ⟨k, 0, none⟩) (s.opn.length + 1) cap) ⟨s.sec, s.opn ++ [p], s.fail, s.reads⟩ (w2.setCell ⟨b, 1, none⟩ (.slice (some ⟨k, 0, none⟩) (s.opn.length + 1) cap)) ∧ Moved b w (w2.setCell ⟨b, 1, none⟩ (.slice (some ⟨k, 0, none⟩) (s.opn.length + 1) cap)) := by
  have nb : vL.ownBlock ≠ some b := fun e => h1.nL e rfl
  have eb : w2.heap[b]? = w1.heap[b]? := hg.block b h1.lt (fun e => nb e.symm)
  have b2 := eb.trans h1.blk
  have rS : w2.ownsRow B 9 1 vS s.sec.length (secV s.sec) := own_of_block h1.rowS (fun j hj => hg.block j (h1.rowS.lt j hj).2 (fun e => h1.nSL hj e.symm rfl))
  have kb : k ≠ b := by
    obtain ⟨cur, hcur⟩ := own_block hown (k := k) rfl
    exact blk_ne hcur b2 (by decide)
  constructor
  · refine ⟨⟨h1.ok.len, h1.ok.sec, fun q hq => ?_⟩, h.hb, by simp [World.setCell, Array.getElem?_modify, b2], rS.kept (grown_set _ _ _ _) (.inr fun e => h1.nS e rfl), ?_⟩
    · simp only [List.mem_append, List.mem_singleton] at hq
      rcases hq with hq | rfl
      · exact h1.ok.opn q hq
      · exact hp
    · have := hown.kept (grown_set w2 b 1 (.slice (some ⟨k, 0, none⟩) (s.opn.length + 1) cap)) (.inr (by simp [Value.ownBlock]; exact kb))
      show World.ownsRow _ _ _ _ _ (s.opn ++ [p]).length (opnV (s.opn ++ [p]))
      unfold opnV at *
      rw [List.map_append, List.flatten_append, List.length_append]
      simpa using this
  · have m2 := m1.grown hg h1.lt nb (fun k hk => h1.owns.2 (.inr (.inr hk)))
    refine m2.set (x := vL) (by rw [Lib.cell_of_heap b2]; rfl) (fun k' hk' _ => ?_)
    simp [Value.ownBlock] at hk'
    subst hk'
    rcases hn with e | e
    · exact .inl (h.owns.2 (.inr (.inr e)))
    · exact .inr e
set_option maxRecDepth 100000 in
set_option maxHeartbeats 1000000 in
theorem write_yes (B b : Nat) (s : DS) (a : Nat) (t : ByteArray) (w : World) (h : Rk B b s w) (ha : a < s.sec.length) (ht : t.size = 64) (hio : s.fail ≠ 1) (hn : s.opn.length ≤ 900000) (hf : s.fail < 9223372036854775808) :
    Calls Try.prog 22 #[ptr b, .int .i64 (a : Int), .string t] w fun e w' => e = .returned (.int .i64 0) ∧ Rk B b ⟨s.sec, s.opn ++ [(a, t.data.toList)], s.fail - 1, s.reads⟩ w' ∧ Moved b w w' := by
  have OP := Lib.hid (fails_ok B b s w h hio hf)
  have tl : t.data.toList.length = 64 := by rw [← size_list]; exact ht
  obtain ⟨vS, vL, h⟩ := h
  have hl := h.ok.len
  have c0 := h.c0
  obtain ⟨pS, capS, rfl, -, hpS⟩ := own_form h.rowS
  clear h hpS
  have ha1 : (a : Int) < (s.sec.length : Int) := by omega
  go_enter Try.func22, Try.ntmps22
  go_wp2_with fail
  (with_reducible refine OP.out.mono ?_)
  rintro e w2 ⟨rfl, ⟨vS, vL, k2⟩, m2⟩
  clear OP c0
  have z1 := k2.c1
  have k3 := k2.alloc (.cells #[.int .i64 (a : Int), .string t] 65)
  obtain ⟨q, cap, w4, hap, hown, hgrow, hnew⟩ := append_one (P := Try.prog) (w2.alloc (.cells #[.int .i64 (a : Int), .string t] 65)) B 41 41 65 _ 2 24 Try.underlying41 infoP rfl (by omega) (by omega) vL s.opn.length (opnV s.opn) k3.rowL ⟨w2.heap.size, 0, none⟩ [.int .i64 (a : Int), .string t] rfl (fun j u hj => by
    rw [addr_add, Nat.zero_add, Lib.cell_of_heap (heap_alloc_new _ _)]; simpa using hj) (fun u hu => by simp at hu; rcases hu with rfl | rfl <;> rfl) (by omega) k3.le
  have nb : vL.ownBlock ≠ some b := fun e => k3.nL e rfl
  have b4 := (hgrow.block b k3.lt (fun e => nb e.symm)).trans k3.blk
  have FN := k2.wrote k3 ((Moved.refl b w2).alloc k2.lt _) (p := (a, t.data.toList)) ⟨ha, tl⟩ (by rw [mkB_of]; exact hown) hgrow (hnew.imp id (fun e => by simp at e; exact Nat.le_of_succ_le e))
  have FIN := Lib.hid (And.intro (show Rk B b _ _ from ⟨_, _, FN.1⟩) (m2.trans FN.2))
  have d1 : w4.cell? ⟨b, 1, none⟩ = some vL := by rw [Lib.cell_of_heap b4]; rfl
  have f1 : w4.frozen? ⟨b, 1, none⟩ = false := Lib.frozen_of_heap b4 1
  clear FN hown hgrow hnew nb b4 k3 k2 m2 tl
  go_wp2_with (at_builtin; refine Lib.wpList_append_run _ rfl _ _ _ _ rfl _ _ rfl rfl _ _ hap ?_)
  go_ret
  exact ⟨rfl, FIN.out⟩
theorem write_rf (B b : Nat) (s : DS) (a : Int) (t : ByteArray) (w : World) (h : Rk B b s w) (hn : s.opn.length ≤ 900000) (hf : s.fail < 9223372036854775808) :
    Calls Try.prog 22 #[ptr b, .int .i64 a, .string t] w fun e w' => e = .returned (.int .i64 ((writeR s a t.data.toList).2 : Int)) ∧ Rk B b (writeR s a t.data.toList).1 w' ∧ Moved b w w' := by
  unfold writeR
  by_cases hv : (0 ≤ a ∧ a < s.sec.length) ∧ t.size = 64
  · rw [if_pos (by rw [← size_list]; exact hv)]
    obtain ⟨⟨h0, h1⟩, ht⟩ := hv
    by_cases hio : s.fail = 1
    · rw [if_pos hio]
      have OP := Lib.hid (fails_io B b s w h hio)
      obtain ⟨vS, vL, h⟩ := h
      have c0 := h.c0
      obtain ⟨pS, capS, rfl, -, hpS⟩ := own_form h.rowS
      clear h hpS hio hf
      go_enter Try.func22, Try.ntmps22
      go_wp2_with fail
      (with_reducible refine OP.out.mono ?_)
      rintro e w2 ⟨rfl, hk⟩
      have FIN := Lib.hid hk
      clear hk OP c0
      go_wp2
      go_ret
      exact ⟨rfl, FIN.out⟩
    · rw [if_neg hio]
      have := write_yes B b s a.toNat t w h (by omega) ht hio hn hf
      rw [show ((a.toNat : Nat) : Int) = a by omega] at this
      exact this
  · rw [if_neg (by rw [← size_list]; exact hv)]
    have FIN := Lib.hid (And.intro h (Moved.refl b w))
    obtain ⟨vS, vL, h⟩ := h
    have c0 := h.c0
    obtain ⟨pS, capS, rfl, -, hpS⟩ := own_form h.rowS
    clear h hpS hf
    by_cases h0 : a < 0
    · clear hv
      go_enter Try.func22, Try.ntmps22
      go_wp2
      go_ret
      exact ⟨rfl, FIN.out⟩
    · have h1 : 0 ≤ a := by omega
      by_cases h2 : (s.sec.length : Int) ≤ a
      · clear hv h0
        go_enter Try.func22, Try.ntmps22
        go_wp2
        go_ret
        exact ⟨rfl, FIN.out⟩
      · have h3 : a < (s.sec.length : Int) := by omega
        have t1 : ((t.size : Int) == 64) = false := by simp; omega
        have t2 : ((t.size : Int) != 64) = true := by simp; omega
        clear hv h0 h2
        go_enter Try.func22, Try.ntmps22
        go_wp2
        go_ret
        exact ⟨rfl, FIN.out⟩
theorem put64 {S : List (List UInt8)} {a : Nat} {bs : List UInt8} (hS : ∀ x ∈ S, x.length = 64) (ha : a < S.length) (hb : bs.length = 64) : putS S a bs 64 = S.set a bs := by
  unfold putS
  have : S[a]?.getD [] = S[a] := by simp [ha]
  rw [this, List.take_of_length_le (by omega), List.drop_eq_nil_of_le (by rw [hS _ (List.getElem_mem ha)]; omega), List.append_nil]
def RfRel (B b : Nat) (vS vL : Value) (s : DS) (w : World) (m : Nat) (s4 : Value) (wx : World) : Prop :=
  ∃ i : Nat, i + m = s.opn.length ∧ s4 = .int .i64 (i : Int) ∧ RkAt B b vS vL ⟨laid s.sec s.opn (fun _ => 64) i, s.opn, s.fail, s.reads⟩ wx ∧ Moved b w wx
set_option maxRecDepth 100000 in
set_option maxHeartbeats 4000000 in
theorem flush_yes (B b : Nat) (s : DS) (w : World) (h : Rk B b s w) (hio : s.fail ≠ 1) (hn : s.opn.length ≤ 1000000) (hf : s.fail < 9223372036854775808) :
    Calls Try.prog 16 #[ptr b] w fun e w' => e = .returned (.int .i64 0) ∧ Rk B b ⟨flushedS s, [], s.fail - 1, s.reads⟩ w' ∧ Moved b w w' := by
  have OP := Lib.hid (fails_ok B b s w h hio hf)
  have hl := h.ok.len
  clear h
  go_enter Try.func16, Try.ntmps16
  go_wp2_with fail
  (with_reducible refine OP.out.mono ?_)
  rintro e w1 ⟨rfl, ⟨vS, vL, k1⟩, m1⟩
  clear OP
  have EX2 : Hid (∀ w' u v, RkAt B b u v ⟨flushedS ⟨s.sec, s.opn, s.fail - 1, s.reads⟩, [], (DS.mk s.sec s.opn (s.fail - 1) s.reads).fail, (DS.mk s.sec s.opn (s.fail - 1) s.reads).reads⟩ w' → Rk B b ⟨flushedS s, [], s.fail - 1, s.reads⟩ w') := Lib.hid (fun w' u v h => ⟨u, v, h⟩)
  obtain ⟨s2, hs2⟩ : ∃ s2 : DS, s2 = ⟨s.sec, s.opn, s.fail - 1, s.reads⟩ := ⟨_, rfl⟩
  rw [← hs2] at k1 EX2
  have hn2 : s2.opn.length ≤ 1000000 := by rw [hs2]; exact hn
  have hl2 : s2.sec.length ≤ 1024 := by rw [hs2]; exact hl
  clear hs2
  have OK := Lib.hid k1.ok
  obtain ⟨pS, capS, rfl, -, hpS⟩ := own_form k1.rowS
  obtain ⟨pL, capL, rfl, -, hpL⟩ := own_form k1.rowL
  have HS := Lib.hid hpS
  have HP := Lib.hid hpL
  have K1 := Lib.hid (And.intro k1 m1)
  clear k1 m1 hpS hpL
  generalize hL : s2.opn.length = L at *
  have HL := Lib.hid hL
  clear hL
  generalize hN : s2.sec.length = N at *
  have HN := Lib.hid hN
  clear hN
  go_wp2_with fail
  go_loopg [4] L (RfRel B b (.slice pS N capS) (.slice pL L capL) s2 w)
  case atStart => exact ⟨0, by rw [HL.out]; omega, rfl, K1.out.1, K1.out.2⟩
  case round =>
    clear K1
    obtain ⟨i, hi, rfl, hk, hm⟩ := hrel
    have hl3 := HL.out
    have c0 := hk.c0
    have c1 := hk.c1
    rcases Nat.lt_or_ge i L with hlt | hge
    · have hlt' : i < s2.opn.length := by omega
      obtain ⟨k, rfl⟩ := HP.out (by omega)
      have hp := OK.out.opn _ (List.getElem_mem hlt')
      obtain ⟨g, rfl⟩ := HS.out (by have := HN.out; omega)
      obtain ⟨q0, q1⟩ := RkAt.opnAt (s := ⟨laid s2.sec s2.opn (fun _ => 64) i, s2.opn, s2.fail, s2.reads⟩) (g := k) (cap := capL) (by show RkAt B b _ (.slice _ s2.opn.length _) _ _; rw [hl3]; exact hk) (i := i) hlt'
      simp only at q0 q1
      have hln : (laid s2.sec s2.opn (fun _ => 64) i).length = N := by rw [laid_length]; exact HN.out
      have hk' : RkAt B b (.slice (some ⟨g, 0, none⟩) (DS.mk (laid s2.sec s2.opn (fun _ => 64) i) s2.opn s2.fail s2.reads).sec.length capS) (.slice (some ⟨k, 0, none⟩) L capL) ⟨laid s2.sec s2.opn (fun _ => 64) i, s2.opn, s2.fail, s2.reads⟩ wr.drew := by
        show RkAt B b (.slice _ (laid s2.sec s2.opn (fun _ => 64) i).length _) _ _ _
        rw [hln]; exact hk.drew
      have st := hk'.setSec s2.opn[i].1 s2.opn[i].2 hp.2
      have ha : s2.opn[i].1 < N := by have := HN.out; omega
      have NX : Hid (RkAt B b (.slice (some ⟨g, 0, none⟩) N capS) (.slice (some ⟨k, 0, none⟩) L capL) ⟨laid s2.sec s2.opn (fun _ => 64) (i + 1), s2.opn, s2.fail, s2.reads⟩ (wr.drew.setCell ⟨g, s2.opn[i].1, none⟩ (.string (mkB s2.opn[i].2))) ∧ Moved b w (wr.drew.setCell ⟨g, s2.opn[i].1, none⟩ (.string (mkB s2.opn[i].2)))) := Lib.hid (by
        refine ⟨?_, hm.drew.trans st.2⟩
        rw [laid_succ hlt', put64 (laid_sec OK.out.sec OK.out.opn (fun _ => Nat.le_refl _) i) (by rw [laid_length]; exact hp.1) hp.2]
        have e := st.1
        have e2 : (DS.mk (laid s2.sec s2.opn (fun _ => 64) i) s2.opn s2.fail s2.reads).sec.length = N := hln
        rw [e2] at e
        exact e)
      have cs := RkAt.secAt hk' (i := s2.opn[i].1) (by show _ < (laid _ _ _ _).length; rw [hln]; exact ha)
      have fs := World.ownsRow.frozenAt hk'.rowS s2.opn[i].1
      rw [World.cell?_drew] at cs
      rw [World.frozen?_drew] at fs
      simp only at cs fs
      generalize (laid s2.sec s2.opn (fun _ => 64) i)[s2.opn[i].1]'(by rw [hln]; exact ha) = old at *
      generalize s2.opn[i].1 = a at *
      generalize s2.opn[i].2 = bs at *
      have ha1 : (a : Int) < (N : Int) := by omega
      have HI := Lib.hid hi
      have hg0 : 0 < gk := by omega
      have il : (i : Int) < (L : Int) := by omega
      clear hk hm hl3 hlt' hp hln hk' st hi
      go_wp2_with fail
      go_still_tail 21, (by kernel_rfl)
      change wpList _ _ _ _ _ wr.drew
      go_wp2
      go_roundg (gk - 1)
      case measure => omega
      case rel => exact ⟨i + 1, by have := HI.out; omega, by go_num, NX.out⟩
    · obtain rfl : i = L := by omega
      have f1 := hk.fz 1
      have FIN := Lib.hid (And.intro (EX2.out _ _ _ (by have := hk.shut.1; rw [← hl3] at this; exact this)) (hm.trans hk.shut.2))
      have il : (i : Int) ≤ (i : Int) := by omega
      clear hk hm hl3 EX2
      go_wp2
      go_ret
      exact ⟨rfl, FIN.out⟩
theorem flush_rf (B b : Nat) (s : DS) (w : World) (h : Rk B b s w) (hn : s.opn.length ≤ 1000000) (hf : s.fail < 9223372036854775808) :
    Calls Try.prog 16 #[ptr b] w fun e w' => e = .returned (.int .i64 ((flushR s).2 : Int)) ∧ Rk B b (flushR s).1 w' ∧ Moved b w w' := by
  unfold flushR
  by_cases hio : s.fail = 1
  · rw [if_pos hio]
    have OP := Lib.hid (fails_io B b s w h hio)
    clear h hio hf
    go_enter Try.func16, Try.ntmps16
    go_wp2_with fail
    (with_reducible refine OP.out.mono ?_)
    rintro e w1 ⟨rfl, hk⟩
    have FIN := Lib.hid hk
    clear OP hk
    go_wp2
    go_ret
    exact ⟨rfl, FIN.out⟩
  · rw [if_neg hio]; exact flush_yes B b s w h hio hn hf
end Go.Proofs.Ytgjndfkjakbdiaa.Dk
