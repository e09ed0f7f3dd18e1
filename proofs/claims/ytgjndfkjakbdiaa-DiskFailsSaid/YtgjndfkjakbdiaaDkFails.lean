/- horariumlaw05.DiskFails answers true at every number and every row of numbers, and leaves its arguments as they were: just the operation that was told of fails, and does nothing. No condition. -/
import Derived.Test.YtgjndfkjakbdiaaDkG
import Derived.Deep.DeepCutAuto
import Derived.Deep.RegionHeld3
import Derived.BigQuiet
namespace Go.Proofs.Ytgjndfkjakbdiaa.diskFails
open Go.ChangeShapes Go.WideShapes Go.ChangeAt Go.RowKit Go.Joins
set_option linter.unusedVariables false
set_option linter.unusedSimpArgs false
open Dk
/-- what an operation tells: whether it is the one that fails -/
def FaRel (B d k : Nat) (w : World) (m : Nat) (s8 : Value) (wx : World) : Prop :=
  ∃ (i : Nat) (s : DS), i + m = 20 ∧ s8 = .int .i64 (i : Int) ∧ Dk B d s wx ∧ s.sec.length = 4 ∧ s.opn.length ≤ i ∧ s.reads ≤ i ∧ s.fail = k - i ∧ Below B w wx
theorem tm (n m : Int) (h : 0 < m) : -m < n.tmod m ∧ n.tmod m < m := ⟨Int.lt_tmod_of_pos n h, Int.tmod_lt_of_pos n h⟩
structure Step (s s' : DS) (r : Nat) : Prop where
  sec : s'.sec.length = s.sec.length
  opn : s'.opn.length ≤ s.opn.length + 1
  reads : s'.reads ≤ s.reads + 1
  fail : s'.fail = s.fail - 1
  err : r = if s.fail = 1 then 18 else 0
  same : s.fail = 1 → s'.opn.length = s.opn.length
theorem step_write (s : DS) (t : List UInt8) (h4 : s.sec.length = 4) (ht : t.length = 64) : Step s (writeR s 1 t).1 (writeR s 1 t).2 := by
  unfold writeR
  rw [if_pos ⟨by omega, ht⟩]
  by_cases h : s.fail = 1
  · rw [if_pos h]; exact ⟨rfl, by show s.opn.length ≤ _; omega, by show s.reads ≤ _; omega, by show 0 = _; omega, by rw [if_pos h], fun _ => rfl⟩
  · rw [if_neg h]; exact ⟨rfl, by simp, by show s.reads ≤ _; omega, rfl, by rw [if_neg h], fun e => absurd e h⟩
theorem step_read (s : DS) (h4 : s.sec.length = 4) : Step s (readR s 1).1 (readR s 1).2.2 := by
  unfold readR
  rw [if_pos (by omega)]
  by_cases h : s.fail = 1
  · rw [if_pos h]; exact ⟨rfl, by show s.opn.length ≤ _; omega, by show s.reads + 1 ≤ _; omega, by show 0 = _; omega, by rw [if_pos h], fun _ => rfl⟩
  · rw [if_neg h]; exact ⟨rfl, by show s.opn.length ≤ _; omega, by show s.reads + 1 ≤ _; omega, rfl, by rw [if_neg h], fun e => absurd e h⟩
theorem step_flush (s : DS) : Step s (flushR s).1 (flushR s).2 := by
  unfold flushR
  by_cases h : s.fail = 1
  · rw [if_pos h]; exact ⟨rfl, by show s.opn.length ≤ _; omega, by show s.reads ≤ _; omega, by show 0 = _; omega, by rw [if_pos h], fun _ => rfl⟩
  · rw [if_neg h]; exact ⟨by show (flushedS s).length = _; unfold flushedS; rw [laid_length], by show 0 ≤ _; omega, by show s.reads ≤ _; omega, rfl, by rw [if_neg h], fun e => absurd e h⟩
theorem FaRel.next {B d k : Nat} {w w' : World} {s s' : DS} {m i r : Nat} (st : Step s s' r) (hi : i + m = 20) (hm : 0 < m) (h4 : s.sec.length = 4) (h1 : s.opn.length ≤ i) (h2 : s.reads ≤ i) (h3 : s.fail = k - i) (hd : Dk B d s' w') (hb : Below B w w') (z : Int) (hz : z = ((i + 1 : Nat) : Int)) : FaRel B d k w (m - 1) (.int .i64 z) w' :=
  ⟨i + 1, s', by omega, by rw [hz], hd, by rw [st.sec]; exact h4, by have := st.opn; omega, by have := st.reads; omega, by rw [st.fail]; omega, hb⟩

set_option maxRecDepth 100000 in
set_option maxHeartbeats 8000000 in
theorem walk (n : Int) (ao : Option Addr) (len cap : Nat) (f : Nat → Int) (w : World) (hn : Dk.In64 n) (hl : len ≤ 9223372036854775807) (hf : ∀ i, Dk.In64 (f i)) (hv : Vals ao len (fun i => .int .i64 (f i)) w) :
    Calls Try.prog 6 #[.int .i64 n, .slice ao len cap] w fun e w' => e = .returned (.bool true) ∧ Below w.heap.size w w' := by
  have tb := tm n 20 (by omega)
  obtain ⟨k, hk⟩ : ∃ k : Nat, 1 + n.tmod 20 % 20 = (k : Int) := ⟨(1 + n.tmod 20 % 20).toNat, by omega⟩
  have hk1 : 1 ≤ k := by omega
  have hk2 : k ≤ 20 := by omega
  obtain ⟨tb1, tb2⟩ := tb
  obtain ⟨hn0, hn1⟩ := hn
  go_enter Try.func6, Try.ntmps6
  go_wp2_with fail
  (with_reducible refine (awake_any _).mono ?_)
  rintro e w1 ⟨rfl, b1⟩
  have NW : Hid (Calls Try.prog 10 #[.int .i64 4] w1 fun e w' => e = .returned (ptr (w1.heap.size + 1)) ∧ Dk w1.heap.size (w1.heap.size + 1) (newR 4) w' ∧ Below w1.heap.size w1 w') := Lib.hid (new_yes 4 w1 (by omega) (by omega))
  go_wp2_with fail
  (with_reducible refine NW.out.mono ?_)
  rintro e w2 ⟨rfl, k2, b2⟩
  replace k2 := k2.mono b1.size
  have l2 := Lib.hid (b1.trans (b2.mono b1.size))
  clear NW b1 b2
  generalize w1.heap.size + 1 = d at *
  have FF := Lib.hid (fail_any w.heap.size d (newR 4) (k : Int) w2 k2 (by omega))
  have l3 := Lib.hid (fun w' (m : Moved d w2 w') => l2.out.trans (k2.below m))
  clear k2 l2
  go_wp2_with fail
  (with_reducible refine FF.out.mono ?_)
  rintro e w3 ⟨rfl, k3, m3⟩
  have K3 : Hid (FaRel w.heap.size d k w 20 (.int .i64 0) w3) := Lib.hid ⟨0, _, rfl, rfl, k3, by simp [failR, newR], by simp [failR, newR], by simp [failR, newR], by simp [failR], l3.out _ m3⟩
  clear FF k3 m3 l3 hk tb1 tb2 hn0 hn1
  have HV := Lib.hid hv
  have HF := Lib.hid hf
  clear hv hf
  go_wp2_with fail
  go_loopg [8] 20 (FaRel w.heap.size d k w)
  case atStart => exact K3.out
  case round =>
    clear K3
    obtain ⟨i, s, hi, rfl, kd, h4, h1, h2, h3, lb⟩ := hrel
    have KD := Lib.hid kd
    have LB := Lib.hid lb
    rcases Nat.lt_or_ge i 20 with hlt | hge
    · have hg0 : 0 < gk := by omega
      have O0 := Lib.hid (open_any w.heap.size d s wr kd)
      have FI := Lib.hid (fun w => fill_any i w (by omega))
      obtain ⟨T, hT⟩ : ∃ T, T = mkB (List.replicate 64 (UInt8.ofNat i)) := ⟨_, rfl⟩
      rw [← hT] at FI
      have tl : T.data.toList.length = 64 := by rw [hT, mkB_data]; simp
      clear hT kd lb
      have sW := step_write s T.data.toList h4 tl
      have sR := step_read s h4
      have sF := step_flush s
      have WR := Lib.hid (fun w' (h' : Dk w.heap.size d s w') => write_any w.heap.size d s 1 T w' h' (by omega) (by omega))
      have RD := Lib.hid (fun w' (h' : Dk w.heap.size d s w') => read_any w.heap.size d s 1 w' h' (by omega) (by omega) (by omega))
      have FL := Lib.hid (fun w' (h' : Dk w.heap.size d s w') => flush_any w.heap.size d s w' h' (by omega) (by omega))
      rw [sW.err] at WR
      rw [sR.err] at RD
      rw [sF.err] at FL
      generalize mkB (readR s 1).2.1 = X at *
      generalize (writeR s 1 T.data.toList).1 = s1 at *
      generalize (readR s 1).1 = s2 at *
      generalize (flushR s).1 = s3 at *
      have N1 := Lib.hid (fun (w' : World) (hd : Dk w.heap.size d s1 w') (hb : Below w.heap.size w w') (z : Int) (hz : z = ((i + 1 : Nat) : Int)) => FaRel.next sW hi hg0 h4 h1 h2 h3 hd hb z hz)
      have N2 := Lib.hid (fun (w' : World) (hd : Dk w.heap.size d s2 w') (hb : Below w.heap.size w w') (z : Int) (hz : z = ((i + 1 : Nat) : Int)) => FaRel.next sR hi hg0 h4 h1 h2 h3 hd hb z hz)
      have N3 := Lib.hid (fun (w' : World) (hd : Dk w.heap.size d s3 w') (hb : Below w.heap.size w w') (z : Int) (hz : z = ((i + 1 : Nat) : Int)) => FaRel.next sF hi hg0 h4 h1 h2 h3 hd hb z hz)
      have P1 := Lib.hid (fun w' (h' : Dk w.heap.size d s1 w') => open_any w.heap.size d s1 w' h')
      have P2 := Lib.hid (fun w' (h' : Dk w.heap.size d s2 w') => open_any w.heap.size d s2 w' h')
      have P3 := Lib.hid (fun w' (h' : Dk w.heap.size d s3 w') => open_any w.heap.size d s3 w' h')
      have E1 := Lib.hid sW.same
      have E2 := Lib.hid sR.same
      have E3 := Lib.hid sF.same
      have hq : s.fail = 1 ↔ i + 1 = k := by omega
      have hol : s.opn.length ≤ 20 := by omega
      generalize s.opn.length = oq at *
      have hm : (i : Int) % 256 = (i : Int) := by omega
      clear sW sR sF tl
      by_cases hio : s.fail = 1
      · have hik : i + 1 = k := hq.1 hio
        rw [if_pos hio] at WR RD FL
        have t1 : ((i : Int) + 1 == (k : Int)) = true := by simp; omega
        have e1 := E1.out hio
        have e2 := E2.out hio
        have e3 := E3.out hio
        rw [e1] at P1
        rw [e2] at P2
        rw [e3] at P3
        have rz : ((18 : Nat) : Int) = 18 := rfl
        rw [rz] at WR RD FL
        clear hq hio hik rz E1 E2 E3 hi h4 h1 h2 h3 e1 e2 e3
        rcases Nat.lt_or_ge i len with hil | hil
        · obtain ⟨ba, off, rfl, hba, hca⟩ := HV.out (by omega)
          have hc : wr.cell? ⟨ba, off + i, none⟩ = some (.int .i64 (f i)) := by rw [LB.out.cell (p := ⟨ba, off + i, none⟩) hba]; exact hca i hil
          have hfi := HF.out i
          have tz := tm (f i) 3 (by omega)
          have h3 : (f i).tmod 3 % 3 = 0 ∨ (f i).tmod 3 % 3 = 1 ∨ (f i).tmod 3 % 3 = 2 := by omega
          have il : (i : Int) < (len : Int) := by omega
          obtain ⟨hz0, hz1⟩ := hfi
          obtain ⟨hz2, hz3⟩ := tz
          generalize f i = z at *
          clear hca HV HF
          rcases h3 with h3 | h3 | h3
          · go_wp2_with fail
            (with_reducible refine O0.out.mono ?_)
            rintro e wo ⟨rfl, rfl⟩
            go_wp2_with fail
            (with_reducible refine (FI.out _).mono ?_)
            rintro e wf ⟨rfl, bf⟩
            have kf := KD.out.call bf
            have lf := Lib.hid (LB.out.trans (bf.mono KD.out.le))
            go_wp2_with fail
            (with_reducible refine (WR.out _ kf).mono ?_)
            rintro e wg ⟨rfl, kg, mg⟩
            have lg := Lib.hid (lf.out.trans (kf.below mg))
            clear kf mg lf bf
            have KG := Lib.hid kg
            clear kg
            go_wp2_with fail
            (with_reducible refine (P1.out _ KG.out).mono ?_)
            rintro e wp ⟨rfl, rfl⟩
            go_wp2
            go_roundg (gk - 1)
            case measure => omega
            case rel => exact N1.out _ KG.out lg.out _ (by omega)
          · go_wp2_with fail
            (with_reducible refine O0.out.mono ?_)
            rintro e wo ⟨rfl, rfl⟩
            go_wp2_with fail
            (with_reducible refine (RD.out _ KD.out).mono ?_)
            rintro e wg ⟨rfl, kg, mg⟩
            have lg := Lib.hid (LB.out.trans (KD.out.below mg))
            clear mg
            have KG := Lib.hid kg
            clear kg
            go_wp2_with fail
            (with_reducible refine (P2.out _ KG.out).mono ?_)
            rintro e wp ⟨rfl, rfl⟩
            go_wp2
            go_roundg (gk - 1)
            case measure => omega
            case rel => exact N2.out _ KG.out lg.out _ (by omega)
          · go_wp2_with fail
            (with_reducible refine O0.out.mono ?_)
            rintro e wo ⟨rfl, rfl⟩
            go_wp2_with fail
            (with_reducible refine (FL.out _ KD.out).mono ?_)
            rintro e wg ⟨rfl, kg, mg⟩
            have lg := Lib.hid (LB.out.trans (KD.out.below mg))
            clear mg
            have KG := Lib.hid kg
            clear kg
            go_wp2_with fail
            (with_reducible refine (P3.out _ KG.out).mono ?_)
            rintro e wp ⟨rfl, rfl⟩
            go_wp2
            go_roundg (gk - 1)
            case measure => omega
            case rel => exact N3.out _ KG.out lg.out _ (by omega)
        · have il : (len : Int) ≤ (i : Int) := by omega
          clear HV HF
          go_wp2_with fail
          (with_reducible refine O0.out.mono ?_)
          rintro e wo ⟨rfl, rfl⟩
          go_wp2_with fail
          (with_reducible refine (FI.out _).mono ?_)
          rintro e wf ⟨rfl, bf⟩
          have kf := KD.out.call bf
          have lf := Lib.hid (LB.out.trans (bf.mono KD.out.le))
          go_wp2_with fail
          (with_reducible refine (WR.out _ kf).mono ?_)
          rintro e wg ⟨rfl, kg, mg⟩
          have lg := Lib.hid (lf.out.trans (kf.below mg))
          clear kf mg lf bf
          have KG := Lib.hid kg
          clear kg
          go_wp2_with fail
          (with_reducible refine (P1.out _ KG.out).mono ?_)
          rintro e wp ⟨rfl, rfl⟩
          go_wp2
          go_roundg (gk - 1)
          case measure => omega
          case rel => exact N1.out _ KG.out lg.out _ (by omega)
      · have hik : ¬ i + 1 = k := fun e => hio (hq.2 e)
        rw [if_neg hio] at WR RD FL
        have t1 : ((i : Int) + 1 == (k : Int)) = false := by simp; omega
        have rz : ((0 : Nat) : Int) = 0 := rfl
        rw [rz] at WR RD FL
        clear hq hio hik rz E1 E2 E3 hi h4 h1 h2 h3
        rcases Nat.lt_or_ge i len with hil | hil
        · obtain ⟨ba, off, rfl, hba, hca⟩ := HV.out (by omega)
          have hc : wr.cell? ⟨ba, off + i, none⟩ = some (.int .i64 (f i)) := by rw [LB.out.cell (p := ⟨ba, off + i, none⟩) hba]; exact hca i hil
          have hfi := HF.out i
          have tz := tm (f i) 3 (by omega)
          have h3 : (f i).tmod 3 % 3 = 0 ∨ (f i).tmod 3 % 3 = 1 ∨ (f i).tmod 3 % 3 = 2 := by omega
          have il : (i : Int) < (len : Int) := by omega
          obtain ⟨hz0, hz1⟩ := hfi
          obtain ⟨hz2, hz3⟩ := tz
          generalize f i = z at *
          clear hca HV HF
          rcases h3 with h3 | h3 | h3
          · go_wp2_with fail
            (with_reducible refine O0.out.mono ?_)
            rintro e wo ⟨rfl, rfl⟩
            go_wp2_with fail
            (with_reducible refine (FI.out _).mono ?_)
            rintro e wf ⟨rfl, bf⟩
            have kf := KD.out.call bf
            have lf := Lib.hid (LB.out.trans (bf.mono KD.out.le))
            go_wp2_with fail
            (with_reducible refine (WR.out _ kf).mono ?_)
            rintro e wg ⟨rfl, kg, mg⟩
            have lg := Lib.hid (lf.out.trans (kf.below mg))
            clear kf mg lf bf
            have KG := Lib.hid kg
            clear kg
            go_wp2
            go_roundg (gk - 1)
            case measure => omega
            case rel => exact N1.out _ KG.out lg.out _ (by omega)
          · go_wp2_with fail
            (with_reducible refine O0.out.mono ?_)
            rintro e wo ⟨rfl, rfl⟩
            go_wp2_with fail
            (with_reducible refine (RD.out _ KD.out).mono ?_)
            rintro e wg ⟨rfl, kg, mg⟩
            have lg := Lib.hid (LB.out.trans (KD.out.below mg))
            clear mg
            have KG := Lib.hid kg
            clear kg
            go_wp2
            go_roundg (gk - 1)
            case measure => omega
            case rel => exact N2.out _ KG.out lg.out _ (by omega)
          · go_wp2_with fail
            (with_reducible refine O0.out.mono ?_)
            rintro e wo ⟨rfl, rfl⟩
            go_wp2_with fail
            (with_reducible refine (FL.out _ KD.out).mono ?_)
            rintro e wg ⟨rfl, kg, mg⟩
            have lg := Lib.hid (LB.out.trans (KD.out.below mg))
            clear mg
            have KG := Lib.hid kg
            clear kg
            go_wp2
            go_roundg (gk - 1)
            case measure => omega
            case rel => exact N3.out _ KG.out lg.out _ (by omega)
        · have il : (len : Int) ≤ (i : Int) := by omega
          clear HV HF
          go_wp2_with fail
          (with_reducible refine O0.out.mono ?_)
          rintro e wo ⟨rfl, rfl⟩
          go_wp2_with fail
          (with_reducible refine (FI.out _).mono ?_)
          rintro e wf ⟨rfl, bf⟩
          have kf := KD.out.call bf
          have lf := Lib.hid (LB.out.trans (bf.mono KD.out.le))
          go_wp2_with fail
          (with_reducible refine (WR.out _ kf).mono ?_)
          rintro e wg ⟨rfl, kg, mg⟩
          have lg := Lib.hid (lf.out.trans (kf.below mg))
          clear kf mg lf bf
          have KG := Lib.hid kg
          clear kg
          go_wp2
          go_roundg (gk - 1)
          case measure => omega
          case rel => exact N1.out _ KG.out lg.out _ (by omega)
    · obtain rfl : i = 20 := by omega
      have A9 : Hid (∀ T w', Dk w.heap.size d s w' → Calls Try.prog 21 #[ptr d, .int .i64 9, .string T] w' fun e w'' => e = .returned (.int .i64 1) ∧ Dk w.heap.size d s w'' ∧ Moved d w' w'') := Lib.hid (fun T w' h' => write_arg w.heap.size d s 9 T w' h' (by omega))
      have AX : Hid (∀ w', Dk w.heap.size d s w' → Calls Try.prog 21 #[ptr d, .int .i64 0, .string ⟨#[120]⟩] w' fun e w'' => e = .returned (.int .i64 1) ∧ Dk w.heap.size d s w'' ∧ Moved d w' w'') := Lib.hid (fun w' h' => write_arg w.heap.size d s 0 ⟨#[120]⟩ w' h' (fun e => absurd e.2 (by decide)))
      have F1 : Hid (∀ w : World, Calls Try.prog 12 #[.int .u8 1] w fun e w' => e = .returned (.string (mkB (List.replicate 64 (UInt8.ofNat 1)))) ∧ Below w.heap.size w w') := Lib.hid (fun w => fill_any 1 w (by omega))
      generalize mkB (List.replicate 64 (UInt8.ofNat 1)) = T at *
      clear kd lb hi h4 h1 h2 h3
      go_wp2_with fail
      (with_reducible refine (F1.out _).mono ?_)
      rintro e w4 ⟨rfl, b4⟩
      have k4 := KD.out.call b4
      have l4 := Lib.hid (LB.out.trans (b4.mono KD.out.le))
      clear b4 F1 KD LB
      go_wp2_with fail
      (with_reducible refine (A9.out _ _ k4).mono ?_)
      rintro e w5 ⟨rfl, k5, m5⟩
      have l5 := Lib.hid (l4.out.trans (k4.below m5))
      clear k4 m5 l4 A9
      go_wp2_with fail
      (with_reducible refine (AX.out _ k5).mono ?_)
      rintro e w6 ⟨rfl, k6, m6⟩
      have l6 := Lib.hid (l5.out.trans (k5.below m6))
      clear k5 m6 l5 AX k6
      go_wp2
      go_ret
      exact ⟨rfl, l6.out⟩

set_option maxRecDepth 100000 in
set_option maxHeartbeats 1600000 in
theorem lifted (os : Os) (started : os.Started) (H : Type) (enc : TypeId × Value → H) :
    ReturnsInHanded {} Try.checked os 6 .any (Rows.diskFailsSpec.pre6 enc Try.prog Try.f6 Rows.diskFailsRow.domain false) (Rows.diskFailsSpec.post enc Try.prog Try.f6 false true false false) := by
  refine returnsInHanded_of_change (C := Try.checked) own started (by kernel_rfl) Try.func6
    (ChangeSpec.witness6 (enc := enc) (C := Try.checked) false ⟨#[], #[.int .i64 0, .slice none 0 0], []⟩ 8 (by kernel_rfl) (by kernel_rfl) (by kernel_rfl) (by kernel_rfl)) ?_
  intro W base args ds gs before hval0 hW hcnd _
  have hval : ∀ (j : Nat) t v, Try.f6.params[j]? = some t → args[j]? = some v → Value.okWide Try.prog W .any base t v := hval0
  have hW' := hW
  obtain ⟨p, q, hA0, hV, rfl, hfz, hnd⟩ := hW
  have hA : DataW.TrodAll enc Try.prog W 0 (fun _ => true) true Try.f6.params.toList args.toList ds p := hA0
  rw [Try.params6] at hA hval
  obtain ⟨v0, vs0, d0, ds0, p0, q0, hargs, rfl, rfl, h0, r0⟩ := trodAll_cons hA
  obtain ⟨v1, vs1, d1, ds1, p1, q1, rfl, rfl, rfl, h1, r1⟩ := trodAll_cons r0
  obtain ⟨rfl, rfl, rfl⟩ := trodAll_nil r1
  obtain rfl : args = #[v0, v1] := by cases args; simp_all
  obtain ⟨rfl, rfl⟩ := trodVars_none hV
  have lt0 : ∀ x ∈ p0, x.block < W.heap.size := by obtain ⟨m, hm⟩ := h0; exact DataW.trod_lt m _ _ _ hm
  obtain ⟨n, e0, -, -, wfn⟩ := open_int Try.underlying3 (hval 0 3 v0 rfl rfl) h0
  subst e0
  have lt1 : ∀ x ∈ p1, x.block < W.heap.size := by obtain ⟨m, hm⟩ := h1; exact DataW.trod_lt m _ _ _ hm
  obtain ⟨aop, np, capp, fp, rfl, lep, inp, vap⟩ := open_row (hval 1 45 v1 rfl rfl) h1
  clear hA0 hval0
  refine (walk n _ _ _ _ W (in64_wf wfn) lep inp vap).mono fun e W' ⟨he, bel⟩ => ?_
  subst he
  exact ⟨_, rfl, _, _, _, [], _, [], hW', trodAll_mk1 (shut_bool Try.underlying4 _), (trodAll_cons_mk (Below.trod laidOut (by kernel_rfl) (of_decide_eq_true (by kernel_rfl)) h0 bel lt0) (trodAll_cons_mk (Below.trod laidOut (by kernel_rfl) (of_decide_eq_true (by kernel_rfl)) h1 bel lt1) trodAll_mk0)), rfl, bel.frame _, fun h => by cases h⟩

theorem proved : Rows.DiskFailsSaid :=
  OpenClaim.holds_of_wide 6 Try.f6 rfl rfl rfl rfl rfl rfl rfl ⟨rfl, rfl, rfl, rfl, rfl⟩ rfl rfl rfl rfl rfl (by kernel_rfl) Try.func6 (by kernel_rfl)
    (of_decide_eq_true (by kernel_rfl)) (by unfold Func.isWrapper; first | (rw [if_pos (by decide +kernel)]; kernel_rfl) | (rw [if_neg (by decide +kernel)]; exact ⟨rfl, rfl⟩))
    (fun os started H enc _ => lifted os started H enc)
#print axioms proved
end Go.Proofs.Ytgjndfkjakbdiaa.diskFails
