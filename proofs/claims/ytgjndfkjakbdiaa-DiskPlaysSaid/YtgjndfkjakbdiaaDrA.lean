/- Contracts of the document's disk: fails, Fail, Read, Write. -/
import Derived.Test.YtgjndfkjakbdiaaDrM
namespace Go.Proofs.Ytgjndfkjakbdiaa.Dk
open Go.ChangeShapes Go.WideShapes Go.ChangeAt Go.RowKit Go.Joins
set_option linter.unusedVariables false
set_option linter.unusedSimpArgs false
theorem fails_ok (B b : Nat) (s : DS) (w : World) (h : Rk B b s w) (hf : s.fail ≠ 1) (hb : s.fail < 9223372036854775808) :
    Calls Try.prog 29 #[ptr b] w fun e w' => e = .returned (.bool false) ∧ Rk B b ⟨s.sec, s.opn, s.fail - 1, s.reads⟩ w' ∧ Moved b w w' := by
  obtain ⟨g, v, h⟩ := h
  have c2 := h.c2
  have f2 := h.fz 2
  rcases Nat.eq_zero_or_pos s.fail with h0 | h0
  · have FIN : Hid (Rk B b ⟨s.sec, s.opn, s.fail - 1, s.reads⟩ w ∧ Moved b w w) := Lib.hid ⟨⟨g, v, by
      have e : DS.mk s.sec s.opn (s.fail - 1) s.reads = s := by rw [h0]; cases s; simp at h0; subst h0; rfl
      rw [e]; exact h⟩, Moved.refl _ _⟩
    rw [h0] at c2
    clear h h0 hf hb
    go_enter Try.func29, Try.ntmps29
    go_wp2
    go_ret
    exact ⟨rfl, FIN.out⟩
  · have FIN := Lib.hid (fun x (e : x = ((s.fail - 1 : Nat) : Int)) => And.intro (show Rk B b _ _ from ⟨g, v, h.setFail e⟩) (rFail h x))
    have t0 : ((s.fail : Int) == 0) = false := by simp; omega
    have t1 : ((s.fail : Int) - 1 == 0) = false := by simp; omega
    generalize hF : (s.fail : Int) = F at *
    have b1 : 2 ≤ F := by omega
    have b2 : F < 9223372036854775808 := by omega
    have E := Lib.hid (show F - 1 = ((s.fail - 1 : Nat) : Int) by omega)
    clear hF h hb h0
    go_enter Try.func29, Try.ntmps29
    go_wp2
    go_ret
    exact ⟨rfl, FIN.out _ E.out⟩
theorem fails_io (B b : Nat) (s : DS) (w : World) (h : Rk B b s w) (hf : s.fail = 1) :
    Calls Try.prog 29 #[ptr b] w fun e w' => e = .returned (.bool true) ∧ Rk B b ⟨s.sec, s.opn, 0, s.reads⟩ w' ∧ Moved b w w' := by
  obtain ⟨g, v, h⟩ := h
  have c2 := h.c2
  have f2 := h.fz 2
  have FIN := Lib.hid (And.intro (show Rk B b _ _ from ⟨g, v, h.setFail (x := 0) (f := 0) rfl⟩) (rFail h 0))
  rw [hf] at c2
  clear h hf
  go_enter Try.func29, Try.ntmps29
  go_wp2
  go_ret
  exact ⟨rfl, FIN.out⟩
theorem fail_rf (B b : Nat) (s : DS) (n : Int) (w : World) (h : Rk B b s w) (hn : n < 9223372036854775808) :
    Calls Try.prog 18 #[ptr b, .int .i64 n] w fun e w' => e = .returned (.tuple #[]) ∧ Rk B b (failR s n) w' ∧ Moved b w w' := by
  obtain ⟨g, v, h⟩ := h
  have c2 := h.c2
  have f2 := h.fz 2
  have FIN := Lib.hid (fun x (e : x = ((n.toNat : Nat) : Int)) => And.intro (show Rk B b (failR s n) _ from ⟨g, v, h.setFail e⟩) (rFail h x))
  clear h
  by_cases h0 : n < 0
  · have E := Lib.hid (show (0 : Int) = ((n.toNat : Nat) : Int) by omega)
    go_enter Try.func18, Try.ntmps18
    go_wp2
    go_end0
    exact ⟨rfl, FIN.out _ E.out⟩
  · have E := Lib.hid (show n = ((n.toNat : Nat) : Int) by omega)
    have h1 : 0 ≤ n := by omega
    clear h0
    go_enter Try.func18, Try.ntmps18
    go_wp2
    go_end0
    exact ⟨rfl, FIN.out _ E.out⟩
def RdRel (s : DS) (a : Nat) (W : World) (g : Nat) (s7 : Value) (wx : World) : Prop := g ≤ s.opn.length ∧ s7 = .int .i64 ((g : Int) - 1) ∧ lastOf (s.opn.drop g) a = none ∧ wx = W
set_option maxRecDepth 100000 in
set_option maxHeartbeats 1000000 in
theorem read_yes (B b : Nat) (s : DS) (a : Nat) (w : World) (h : Rk B b s w) (ha : a < s.sec.length) (hio : s.fail ≠ 1) (hr : s.reads ≤ 1000000000) (hn : s.opn.length ≤ 1000000) (hf : s.fail < 9223372036854775808) :
    Calls Try.prog 14 #[ptr b, .int .i64 (a : Int)] w fun e w' => e = .returned (.tuple #[.string (mkB (newestOf s a)), .int .i64 0]) ∧ Rk B b ⟨s.sec, s.opn, s.fail - 1, s.reads + 1⟩ w' ∧ Moved b w w' := by
  obtain ⟨vS, vL, h⟩ := h
  have hl := h.ok.len
  have c0 := h.c0
  have c3 := h.c3
  have f3 := h.fz 3
  obtain ⟨pS, capS, hvS, -, hpS⟩ := own_form h.rowS
  obtain ⟨gS, rfl⟩ := hpS (by omega)
  have hk := h.setReads (x := (s.reads : Int) + 1) (f := s.reads + 1) (by omega)
  have mk := Lib.hid (rReads h ((s.reads : Int) + 1))
  have OP := Lib.hid (fails_ok B b _ _ ⟨vS, vL, hk⟩ hio hf)
  rw [hvS] at c0
  clear h hk hio
  generalize hRR : (s.reads : Int) = R at *
  have hR : R ≤ 1000000000 := by omega
  have hR0 : 0 ≤ R := by omega
  clear hRR
  have ha1 : (a : Int) < (s.sec.length : Int) := by omega
  go_enter Try.func14, Try.ntmps14
  go_wp2_with fail
  (with_reducible refine OP.out.mono ?_)
  rintro e w2 ⟨rfl, ⟨vS, vL, k2⟩, m2⟩
  have FIN := Lib.hid (And.intro (show Rk B b ⟨s.sec, s.opn, s.fail - 1, s.reads + 1⟩ w2 from ⟨vS, vL, k2⟩) (mk.out.trans m2))
  have z0 := k2.c0
  have z1 := k2.c1
  obtain ⟨pS, cS, rfl, -, hpS⟩ := own_form k2.rowS
  obtain ⟨gS, rfl⟩ := hpS (by show 0 < s.sec.length; omega)
  obtain ⟨pL, cL, rfl, -, hpL⟩ := own_form k2.rowL
  have HPL := Lib.hid hpL
  have K2 := Lib.hid k2
  have SA := Lib.hid (k2.secAt (i := a) ha)
  clear m2 mk OP c3 f3 c0 hvS k2 hpL
  simp only at z0 z1 HPL SA
  go_wp2_with fail
  go_loopg [7] (s.opn.length) (RdRel s a w2)
  case atStart => exact ⟨Nat.le_refl _, rfl, by simp [lastOf], rfl⟩
  case round =>
    obtain ⟨hg, rfl, hno, rfl⟩ := hrel
    rcases Nat.eq_zero_or_pos gk with rfl | hpos
    · have E : Hid (newestOf s a = s.sec[a]) := Lib.hid (by
        unfold newestOf
        rw [List.drop_zero] at hno
        rw [hno]; simp [ha])
      have sc := SA.out
      generalize s.sec[a] = X at *
      clear hno SA
      go_wp2
      go_ret2
      exact ⟨by rw [E.out]; rfl, FIN.out⟩
    · obtain ⟨i, rfl⟩ : ∃ i, gk = i + 1 := ⟨gk - 1, by omega⟩
      have hi : i < s.opn.length := by omega
      obtain ⟨k, rfl⟩ := HPL.out (by omega)
      obtain ⟨R0, R1⟩ := RkAt.opnAt (s := ⟨s.sec, s.opn, s.fail - 1, s.reads + 1⟩) K2.out (i := i) hi
      simp only at R0 R1
      have x1 : ((i + 1 : Nat) : Int) - 1 = (i : Int) := by omega
      rw [x1]
      by_cases he : s.opn[i].1 = a
      · have E : Hid (newestOf s a = s.opn[i].2) := Lib.hid (by unfold newestOf; rw [lastOf_at hi hno he]; rfl)
        have t : ((s.opn[i].1 : Int) == (a : Int)) = true := by simp [he]
        generalize s.opn[i].1 = q at *
        generalize s.opn[i].2 = bs at *
        clear hno he x1
        go_wp2
        go_ret2
        exact ⟨by rw [E.out]; rfl, FIN.out⟩
      · have N1 := Lib.hid (lastOf_not hi hno he)
        have t : ((s.opn[i].1 : Int) == (a : Int)) = false := by simp; omega
        generalize s.opn[i].1 = q at *
        clear hno he x1
        go_wp2
        go_roundg i
        case measure => omega
        case rel => exact ⟨by omega, rfl, N1.out, rfl⟩
theorem read_rf (B b : Nat) (s : DS) (a : Int) (w : World) (h : Rk B b s w) (hr : s.reads ≤ 1000000000) (hn : s.opn.length ≤ 1000000) (hf : s.fail < 9223372036854775808) :
    Calls Try.prog 14 #[ptr b, .int .i64 a] w fun e w' => e = .returned (.tuple #[.string (mkB (readR s a).2.1), .int .i64 ((readR s a).2.2 : Int)]) ∧ Rk B b (readR s a).1 w' ∧ Moved b w w' := by
  by_cases hv : 0 ≤ a ∧ a < s.sec.length
  · obtain ⟨h0, h1⟩ := hv
    by_cases hio : s.fail = 1
    · rw [io_read s h0 h1 hio]
      obtain ⟨vS, vL, h⟩ := h
      have c0 := h.c0
      have c3 := h.c3
      have f3 := h.fz 3
      obtain ⟨pS, capS, rfl, -, hpS⟩ := own_form h.rowS
      have hk := h.setReads (x := (s.reads : Int) + 1) (f := s.reads + 1) (by omega)
      have mk := Lib.hid (rReads h ((s.reads : Int) + 1))
      have OP := Lib.hid (fails_io B b _ _ ⟨_, vL, hk⟩ hio)
      clear h hk hio hpS hf
      generalize hRR : (s.reads : Int) = R at *
      have hR : R ≤ 1000000000 := by omega
      have hR0 : 0 ≤ R := by omega
      clear hRR
      go_enter Try.func14, Try.ntmps14
      go_wp2_with fail
      (with_reducible refine OP.out.mono ?_)
      rintro e w2 ⟨rfl, k2, m2⟩
      have FIN := Lib.hid (And.intro k2 (mk.out.trans m2))
      clear k2 m2 mk OP c3 f3 c0
      go_wp2
      go_ret2
      exact ⟨rfl, FIN.out⟩
    · rw [newest_read s h0 h1 hio]
      have := read_yes B b s a.toNat w h (by omega) hio hr hn hf
      rw [show ((a.toNat : Nat) : Int) = a by omega] at this
      exact this
  · rw [arg_read s hv]
    have FIN := Lib.hid (And.intro h (Moved.refl b w))
    obtain ⟨vS, vL, h⟩ := h
    have c0 := h.c0
    obtain ⟨pS, capS, rfl, -, hpS⟩ := own_form h.rowS
    clear h hpS
    by_cases h0 : a < 0
    · clear hv
      go_enter Try.func14, Try.ntmps14
      go_wp2
      go_ret2
      exact ⟨rfl, FIN.out⟩
    · have h1 : 0 ≤ a := by omega
      have h2 : (s.sec.length : Int) ≤ a := by omega
      clear hv h0
      go_enter Try.func14, Try.ntmps14
      go_wp2
      go_ret2
      exact ⟨rfl, FIN.out⟩
end Go.Proofs.Ytgjndfkjakbdiaa.Dk
