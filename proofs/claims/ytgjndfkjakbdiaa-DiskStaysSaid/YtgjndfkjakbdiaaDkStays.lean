/- horariumlaw05.DiskStays answers true at every two rows of numbers and every fates, and leaves its arguments as they were: behind any crash each sector that was not written since the flush is as it was; one that was is a beginning of a write of it, and then what it was ahead. No condition. -/
import Derived.Test.YtgjndfkjakbdiaaDkS
import Derived.Deep.CutBlock
import Derived.Deep.DeepCutAuto
import Derived.Deep.RegionHeld3
import Derived.BigQuiet
namespace Go.Proofs.Ytgjndfkjakbdiaa.diskStays
open Go.ChangeShapes Go.WideShapes Go.ChangeAt Go.RowKit Go.Joins
set_option linter.unusedVariables false
set_option linter.unusedSimpArgs false
open Dk
def S1Rel (B d q : Nat) (w : World) (m : Nat) (s10 : Value) (wx : World) : Prop := ∃ (i : Nat) (la : List UInt8) (s : DS), i + m = 12 ∧ s10 = .int .i64 (i : Int) ∧ In B d q w i 0 la s wx
def S2Rel (B d q p : Nat) (la : List UInt8) (S : List (List UInt8)) (w : World) (m : Nat) (s13 : Value) (wx : World) : Prop := ∃ (i : Nat) (ov : List Bool) (s : DS), i + m = 12 ∧ s13 = .int .i64 (i : Int) ∧ In2 B d q p w i la S ov s wx
def S3Rel (B d q p : Nat) (la : List UInt8) (ov : List Bool) (S : List (List UInt8)) (w : World) (m : Nat) (s15 : Value) (wx : World) : Prop := ∃ k : Nat, k + m = 4 ∧ s15 = .int .i64 (k : Int) ∧ In3 B d q p w k la ov S wx
def S4Rel (B d q p r m0 : Nat) (la : List UInt8) (ov : List Bool) (S : List (List UInt8)) (w : World) (m : Nat) (s18 s19 : Value) (wx : World) : Prop := ∃ j : Nat, j + m = 64 ∧ s19 = .int .i64 (j : Int) ∧ s18 = .bool (decide (m0 < j)) ∧ In3 B d q p w r la ov S wx
def C1 (B d q : Nat) (w : World) (s10 : Value) (wx : World) : Prop := ∃ (i : Nat) (la : List UInt8) (s : DS), i ≤ 12 ∧ In B d q w i 0 la s wx
def C2 (B d q p : Nat) (la : List UInt8) (S : List (List UInt8)) (w : World) (s13 : Value) (wx : World) : Prop := ∃ (i : Nat) (ov : List Bool) (s : DS), i ≤ 12 ∧ In2 B d q p w i la S ov s wx
def C3 (B d q p r : Nat) (la : List UInt8) (ov : List Bool) (S : List (List UInt8)) (w : World) (s118 : Value) (wx : World) : Prop := s118 = .bool false ∧ In3 B d q p w r la ov S wx
theorem in3_drewN {B d q p : Nat} {w wx : World} {r : Nat} {la : List UInt8} {ov : List Bool} {S : List (List UInt8)} (h : In3 B d q p w r la ov S wx) (n : Nat) : In3 B d q p w r la ov S (wx.drewN n) := by
  have hh : (wx.drewN n).heap = wx.heap := by simp
  have hb : Below wx.heap.size wx (wx.drewN n) := ⟨rfl, rfl, rfl, by rw [hh]; exact Nat.le_refl _, fun k _ => by rw [hh]⟩
  exact h.call hb

set_option maxRecDepth 100000 in
set_option maxHeartbeats 8000000 in
theorem walk (aa : Option Addr) (na ca : Nat) (f : Nat → Int) (ab : Option Addr) (nb cb : Nat) (g : Nat → Int) (ao : Option Addr) (fc : Nat) (fs : List (Int × Int)) (w : World) (ha : na ≤ 9223372036854775807) (hb : nb ≤ 9223372036854775807) (hc : fs.length ≤ 9223372036854775807) (hva : Vals aa na (fun i => .int .i64 (f i)) w) (hvb : Vals ab nb (fun i => .int .i64 (g i)) w) (hF : Fats ao fs w) (hoB : ∀ k off, ao = some ⟨k, off, none⟩ → 0 < fs.length → k < w.heap.size) :
    Calls Try.prog 4 #[.slice aa na ca, .slice ab nb cb, .slice ao fs.length fc] w fun e w' => e = .returned (.bool true) ∧ Below w.heap.size w w' := by
  go_enter Try.func4, Try.ntmps4
  go_wp2_with fail
  (with_reducible refine (awake_any _).mono ?_)
  rintro e w1 ⟨rfl, b1⟩
  have NW : Hid (Calls Try.prog 10 #[.int .i64 4] w1 fun e w' => e = .returned (ptr (w1.heap.size + 1)) ∧ Dk w1.heap.size (w1.heap.size + 1) (newR 4) w' ∧ Below w1.heap.size w1 w') := Lib.hid (new_yes 4 w1 (by omega) (by omega))
  go_wp2_with fail
  (with_reducible refine NW.out.mono ?_)
  rintro e w2 ⟨rfl, k2, b2⟩
  replace k2 := k2.mono b1.size
  have l2 := Lib.hid (b1.trans (b2.mono b1.size))
  clear NW b1 b2
  generalize w1.heap.size + 1 = d at *
  have HVA := Lib.hid hva
  have HVB := Lib.hid hvb
  have HF := Lib.hid hF
  have HOB := Lib.hid hoB
  clear hva hvb hF hoB
  have I0 : Hid (In w.heap.size d w2.heap.size w 0 0 [0, 0, 0, 0] (newR 4) (w2.alloc (.cells #[.int .u8 0, .int .u8 0, .int .u8 0, .int .u8 0] 46))) := Lib.hid ⟨k2.call ((Below.refl _ _).alloc (Nat.le_refl _) _), row4_new w2, rfl, by simp [newR], rfl, by simp [newR], by simp [newR], fun x hx => by (simp at hx; rw [hx]; decide), fun k hk => by
      have : k = 0 ∨ k = 1 ∨ k = 2 ∨ k = 3 := by simp at hk; omega
      rcases this with rfl | rfl | rfl | rfl <;> rfl, l2.out.alloc l2.out.size _⟩
  have hqB := l2.out.size
  clear k2
  go_upto_block 0 with (fail)
  generalize w2.alloc (.cells #[.int .u8 0, .int .u8 0, .int .u8 0, .int .u8 0] 46) = W2 at *
  generalize w2.heap.size = q at *
  clear l2
  go_cut [10] (C1 w.heap.size d q w)
  case first =>
   go_wp2_with fail
   go_loopg [10] 12 (S1Rel w.heap.size d q w)
   case atStart => exact ⟨0, _, _, by omega, rfl, I0.out⟩
   case round =>
    clear I0
    obtain ⟨i, la, s, hi, rfl, hin⟩ := hrel
    have hend : Hid (Below w.heap.size w wr) := Lib.hid hin.below
    rcases (show (i < na ∧ i < 12) ∨ ¬ (i < na ∧ i < 12) by omega) with ⟨hip, hlt⟩ | hex
    · have hg0 : 0 < gk := by omega
      obtain ⟨ba, off, rfl, hba, hca⟩ := HVA.out (by omega)
      have hc : wr.cell? ⟨ba, off + i, none⟩ = some (.int .i64 (f i)) := by rw [hend.out.cell (p := ⟨ba, off + i, none⟩) hba]; exact hca i hip
      obtain ⟨a, ha, ha4⟩ := four (f i)
      generalize f i = z at *
      obtain ⟨c, hcc⟩ : ∃ c : UInt8, c.toNat = 1 + i := ⟨UInt8.ofNat (1 + i), by rw [UInt8.toNat_ofNat']; omega⟩
      have hx : (1 + (i : Int)) = (c.toNat : Int) := by omega
      have FC : Hid (∀ w : World, Calls Try.prog 12 #[.int .u8 (1 + (i : Int))] w fun e w' => e = .returned (.string (mkB (List.replicate 64 c))) ∧ Below w.heap.size w w') := Lib.hid (fun w => by rw [hx]; exact fill_byte c w)
      have cq := hin.row.cell (j := a) (by rw [hin.len]; exact ha4)
      have fq := hin.row.frozen a
      have HI := Lib.hid hin
      have HX := Lib.hid hx
      have HC := Lib.hid (show c.toNat ≤ 12 by omega)
      have hm : (1 + (i : Int)) % 256 = 1 + (i : Int) := by omega
      have KW := Lib.hid (fun w' (k' : Dk w.heap.size d s w') => wr_calm w.heap.size d s a (mkB (List.replicate 64 c)) w' k' (by rw [hin.sec]; exact ha4) (by rw [mkB_size]; simp) hin.fail (by have := hin.opn; omega))
      rw [mkB_data] at KW
      have K1 := Lib.hid (hin.dk.setOther (v := .int .u8 (1 + (i : Int))) (o := a) (hin.dk.notOwn hin.row))
      generalize ((la[a]'(by rw [hin.len]; exact ha4)).toNat : Int) = old at *
      clear hin hca hcc hx hend
      have hai : (a : Int) < 4 := by omega
      have hip2 : (i : Int) < (na : Int) := by omega
      have hlt2 : (i : Int) < 12 := by omega
      generalize hTT : mkB (List.replicate 64 c) = T at *
      clear hTT
      go_wp2_with fail
      (with_reducible refine (FC.out _).mono ?_)
      rintro e w3 ⟨rfl, b3⟩
      have k3 := K1.out.call b3
      go_wp2_with fail
      (with_reducible refine (KW.out _ k3).mono ?_)
      rintro e w4 ⟨rfl, k4, m4⟩
      have HN := Lib.hid (HI.out.write ha4 HC.out hqB HX.out (by simpa [World.setCell] using b3) k4 m4)
      clear b3 k3 k4 m4 HI K1 KW FC HX hc cq fq hm ha
      go_wp2
      go_roundg (gk - 1)
      case measure => omega
      case rel => exact ⟨i + 1, _, _, by omega, by go_num, HN.out⟩
    · have HI := Lib.hid hin
      clear hin hend
      have hx1 : (na : Int) ≤ (i : Int) ∨ ((i : Int) < (na : Int) ∧ (12 : Int) ≤ (i : Int)) := by omega
      have hi12 : i ≤ 12 := by omega
      clear hex
      rcases hx1 with hx1 | ⟨hx1, hx2⟩
      all_goals
        go_wp2_with fail
        go_meet
        exact ⟨i, la, s, hi12, HI.out⟩
  case rest =>
    clear I0 HVA
    obtain ⟨i, la, s, hi12, hin⟩ := hcut
    have HI := Lib.hid hin
    have FL := Lib.hid (fl_calm w.heap.size d s _ hin.dk hin.fail (by have := hin.opn; omega))
    have OO := Lib.hid (fun w' (k' : Dk w.heap.size d (flushS s) w') => open_any w.heap.size d (flushS s) w' k')
    clear hin
    go_wp2_with fail
    (with_reducible refine FL.out.mono ?_)
    rintro e w3 ⟨rfl, k3, m3⟩
    have J0 := Lib.hid (HI.out.flush k3 m3 rfl)
    have hpB := Lib.hid (Nat.le_trans HI.out.dk.le m3.size)
    go_wp2_with fail
    (with_reducible refine (OO.out _ k3).mono ?_)
    rintro e w4 ⟨rfl, rfl⟩
    have on : ((flushS s).opn.length : Int) = 0 := rfl
    clear k3 m3 OO FL HI
    go_upto_block 2 with (fail)
    generalize w4.alloc (.cells #[.bool false, .bool false, .bool false, .bool false] 47) = W3 at *
    generalize w4.heap.size = p at *
    generalize (flushS s).sec = S at *
    generalize flushS s = s5 at *
    clear on
    go_cut [13] (C2 w.heap.size d q p la S w)
    case first =>
     go_wp2_with fail
     go_loopg [13] 12 (S2Rel w.heap.size d q p la S w)
     case atStart => exact ⟨0, _, _, by omega, rfl, J0.out⟩
     case round =>
          clear J0
          obtain ⟨j, ov, s6, hj, rfl, hin⟩ := hrel
          have hend : Hid (Below w.heap.size w wr) := Lib.hid hin.below
          rcases (show (j < nb ∧ j < 12) ∨ ¬ (j < nb ∧ j < 12) by omega) with ⟨hip, hlt⟩ | hex
          · have hg0 : 0 < gk := by omega
            obtain ⟨ba, off, rfl, hba, hca⟩ := HVB.out (by omega)
            have hc : wr.cell? ⟨ba, off + j, none⟩ = some (.int .i64 (g j)) := by rw [hend.out.cell (p := ⟨ba, off + j, none⟩) hba]; exact hca j hip
            obtain ⟨a, ha, ha4⟩ := four (g j)
            generalize g j = z at *
            obtain ⟨c, hcc⟩ : ∃ c : UInt8, c.toNat = 100 + j := ⟨UInt8.ofNat (100 + j), by rw [UInt8.toNat_ofNat']; omega⟩
            have hx : (100 + (j : Int)) = (c.toNat : Int) := by omega
            have FC : Hid (∀ w : World, Calls Try.prog 12 #[.int .u8 (100 + (j : Int))] w fun e w' => e = .returned (.string (mkB (List.replicate 64 c))) ∧ Below w.heap.size w w') := Lib.hid (fun w => by rw [hx]; exact fill_byte c w)
            have cq := hin.rov.cell (j := a) (by rw [bools_len, hin.lov]; exact ha4)
            have fq := hin.rov.frozen a
            have HI := Lib.hid hin
            have HC := Lib.hid (show 100 ≤ c.toNat by omega)
            have hm : (100 + (j : Int)) % 256 = 100 + (j : Int) := by omega
            have KW := Lib.hid (fun w' (k' : Dk w.heap.size d s6 w') => wr_calm w.heap.size d s6 a (mkB (List.replicate 64 c)) w' k' (by rw [hin.sec, hin.lS]; exact ha4) (by rw [mkB_size]; simp) hin.fail (by have := hin.opn; omega))
            rw [mkB_data] at KW
            have K1 := Lib.hid (hin.dk.setOther (v := .bool true) (o := a) (hin.dk.notOwnV hin.rov))
            generalize (bools ov)[a]'(by rw [bools_len, hin.lov]; exact ha4) = old at *
            clear hin hca hcc hx hend
            have hai : (a : Int) < 4 := by omega
            have hip2 : (j : Int) < (nb : Int) := by omega
            have hlt2 : (j : Int) < 12 := by omega
            generalize hTT : mkB (List.replicate 64 c) = T at *
            clear hTT
            go_wp2_with fail
            (with_reducible refine (FC.out _).mono ?_)
            rintro e w5 ⟨rfl, b5⟩
            have k5 := K1.out.call b5
            go_wp2_with fail
            (with_reducible refine (KW.out _ k5).mono ?_)
            rintro e w6 ⟨rfl, k6, m6⟩
            have HN := Lib.hid (HI.out.write ha4 HC.out hpB.out (by simpa [World.setCell] using b5) k6 m6)
            clear b5 k5 k6 m6 HI K1 KW FC hc cq fq hm ha
            go_wp2
            go_roundg (gk - 1)
            case measure => omega
            case rel => exact ⟨j + 1, _, _, by omega, by go_num, HN.out⟩
          · have HI := Lib.hid hin
            clear hin hend
            have hx1 : (nb : Int) ≤ (j : Int) ∨ ((j : Int) < (nb : Int) ∧ (12 : Int) ≤ (j : Int)) := by omega
            have hj12 : j ≤ 12 := by omega
            clear hex
            rcases hx1 with hx1 | ⟨hx1, hx2⟩
            all_goals
              go_wp2_with fail
              go_meet
              exact ⟨j, ov, s6, hj12, HI.out⟩
    case rest =>
      clear J0 HVB
      obtain ⟨j, ov, s6, hj12, hin⟩ := hcut
      have HI := Lib.hid hin
      have hFw := HF.out.of_blocks hin.below.size (fun k off e hk => hin.below.block k hk)
      have CR := Lib.hid (crash_any w.heap.size d s6 ao fs fc _ hin.dk hFw (fun h0 k off e hk => by
        have h1 := HOB.out k off e h0
        have h2 := (hin.dk.ownLt hk).1
        omega) (by have := hin.opn; omega) hc)
      clear hin hFw
      go_wp2_with fail
      (with_reducible refine CR.out.mono ?_)
      rintro e w5 ⟨rfl, k5, m5⟩
      have J5 := Lib.hid (HI.out.crash fs k5 m5)
      clear k5 m5 HI CR
      generalize crashedS s6 fs = S5 at *
      generalize (crashR s6 fs).2 = br at *
      go_wp2_with fail
      go_loopg [15] 4 (S3Rel w.heap.size d q p la ov S5 w)
      case atStart => exact ⟨0, by omega, rfl, J5.out⟩
      case round =>
        clear J5
        obtain ⟨k, hk, rfl, hin⟩ := hrel
        have HI := Lib.hid hin
        have hl1 := hin.len
        have hl2 := hin.lS
        have hl3 := hin.lov
        rcases Nat.lt_or_ge k 4 with hk4 | hk4
        · have kl : k < la.length := by omega
          have ks : k < S5.length := by omega
          have ko : k < ov.length := by omega
          obtain ⟨m0, hm0, xl, sh1, sh2⟩ := hin.shape k ks kl
          have st := hin.stays k ks kl
          have sm := hin.small _ (List.getElem_mem kl)
          rw [List.getElem?_eq_getElem ko] at st
          have RD := Lib.hid (rd_calm w.heap.size d ⟨S5, [], 0, k⟩ k wr hin.dk ks rfl (by show 0 ≤ _; omega) (by show k ≤ _; omega))
          have en : newestOf ⟨S5, [], 0, k⟩ k = S5[k] := by simp [newestOf, lastOf, ks]
          rw [en] at RD
          have cl := hin.row.cell kl
          have co := hin.rov.cell (j := k) (by rw [bools_len]; exact ko)
          have eo : (bools ov)[k]'(by rw [bools_len]; exact ko) = .bool ov[k] := by simp [bools]
          rw [eo] at co
          have HD := Lib.hid (fun w' (m : Moved d wr w') => And.intro (hin.row.disk hin.dk m) (hin.rov.disk hin.dk m))
          have lc : ∀ w', RowB w' q 46 la → w'.cell? ⟨q, k, none⟩ = some (.int .u8 (la[k].toNat : Int)) := fun w' h => h.cell kl
          have oc : ∀ w', RowV w' p 47 (bools ov) → w'.cell? ⟨p, k, none⟩ = some (.bool ov[k]) := fun w' h => by rw [h.cell (j := k) (by rw [bools_len]; exact ko), eo]
          clear hin en cl co eo
          have LC := Lib.hid lc
          have OC := Lib.hid oc
          clear lc oc
          generalize la[k] = l at *
          generalize S5[k] = X at *
          generalize ov[k] = o at *
          have FC := Lib.hid (fun w => fill_byte l w)
          have ts : (mkB X).size = 64 := by rw [mkB_size]; exact xl
          have SH1 := Lib.hid sh1
          have SH2 := Lib.hid sh2
          have ST := Lib.hid st
          have XL := Lib.hid xl
          clear sh1 sh2 st xl
          obtain ⟨T, hT⟩ : ∃ T, T = mkB X := ⟨_, rfl⟩
          rw [← hT] at ts RD
          have HT := Lib.hid hT
          clear hT
          have HL := Lib.hid (And.intro hl1 (And.intro hl2 hl3))
          clear hl1 hl2 hl3 kl ks ko
          have k4i : (k : Int) < 4 := by omega
          go_wp2_with fail
          (with_reducible refine RD.out.mono ?_)
          rintro e w6 ⟨rfl, k6, m6⟩
          have H6 := Lib.hid (HI.out.read k6 m6)
          have cl := LC.out _ (HD.out _ m6).1
          have co := OC.out _ (HD.out _ m6).2
          clear k6 m6 RD HD HI
          go_upto_region 28 with (fail)
          go_cut [118] (C3 w.heap.size d q p (k + 1) la ov S5 w)
          case first =>
            cases o
            · have tt : (T.toList == T.toList) = true := by simp
              have tu : (T.toList != T.toList) = false := by simp
              have ex := ST.out rfl
              rw [← ex, ← HT.out] at FC
              clear ex
              go_wp2_with fail
              (with_reducible refine (FC.out _).mono ?_)
              rintro e w7 ⟨rfl, b7⟩
              have H7 := Lib.hid (H6.out.call b7)
              clear b7 H6 FC cl co
              go_wp2_with fail
              go_meet
              exact ⟨rfl, H7.out⟩
            · go_wp2_with fail
              go_meet
              exact ⟨rfl, H6.out⟩
          case rest =>
            obtain ⟨rfl, hcut⟩ := hcut
            have H7 := Lib.hid hcut
            clear hcut H6 FC cl co ST
            go_wp2_with fail
            go_loopg [18, 19] 64 (S4Rel w.heap.size d q p (k + 1) m0 la ov S5 w)
            case atStart => exact ⟨0, by omega, rfl, by simp, H7.out⟩
            case round =>
              clear H7
              obtain ⟨j, hj, rfl, rfl, hin⟩ := hrel
              have H8 := Lib.hid hin
              rcases Nat.lt_or_ge j 64 with hj64 | hj64
              · have hjx : j < X.length := by rw [XL.out]; exact hj64
                have cl := LC.out _ hin.row
                clear hin
                have s1 := SH1.out j hjx
                have s2 := SH2.out j hjx
                have hjT : j < T.size := by omega
                have ej : T[j] = X[j] := by
                  have hh := HT.out
                  subst hh
                  exact mkB_get X j hjT
                generalize X[j] = x at *
                have j1 : (j : Int) < 64 := by omega
                by_cases hjm : j < m0
                · have hx := s1 hjm
                  have hd : decide (m0 < j) = false := by simp; omega
                  have q1 : ((x.toNat : Int) == (l.toNat : Int)) = false := by simp; omega
                  have q2 : ((x.toNat : Int) != (l.toNat : Int)) = true := by simp; omega
                  have q3 : decide ((x.toNat : Int) < 100) = false := by simp; omega
                  clear s1 s2
                  rw [hd]
                  go_wp2_with fail
                  go_quiet (fail)
                  have H9 := Lib.hid (in3_drewN H8.out nq)
                  have cl9 := LC.out _ H9.out.row
                  clear H8 cl
                  generalize wr.drewN nq = W9 at *
                  go_wp2_with fail
                  go_quiet (fail)
                  have HA := Lib.hid (in3_drewN H9.out nq)
                  clear H9 cl9
                  generalize W9.drewN nq = WA at *
                  go_wp2
                  go_roundg (gk - 1)
                  case measure => omega
                  case rel => exact ⟨j + 1, by omega, by go_num, by rw [show decide (m0 < j + 1) = false by simp; omega], HA.out⟩
                · have hx := s2 (by omega)
                  subst hx
                  have q1 : ((x.toNat : Int) == (x.toNat : Int)) = true := by simp
                  have q2 : ((x.toNat : Int) != (x.toNat : Int)) = false := by simp
                  clear s1 s2
                  generalize decide (m0 < j) = od at *
                  go_wp2_with fail
                  go_quiet (fail)
                  have H9 := Lib.hid (in3_drewN H8.out nq)
                  have cl9 := LC.out _ H9.out.row
                  clear H8 cl
                  generalize wr.drewN nq = W9 at *
                  go_wp2_with fail
                  go_quiet (fail)
                  have HA := Lib.hid (in3_drewN H9.out nq)
                  clear H9 cl9
                  generalize W9.drewN nq = WA at *
                  go_wp2
                  go_roundg (gk - 1)
                  case measure => omega
                  case rel => exact ⟨j + 1, by omega, by go_num, by rw [show decide (m0 < j + 1) = true by simp; omega], HA.out⟩
              · have j1 : (64 : Int) ≤ (j : Int) := by omega
                clear hin
                go_wp2
                go_roundg (4 - k - 1)
                case measure => omega
                case rel => exact ⟨k + 1, by omega, by go_num, H8.out⟩
        · have k4i : (4 : Int) ≤ (k : Int) := by omega
          have OE := Lib.hid (open_any w.heap.size d ⟨S5, [], 0, k⟩ wr hin.dk)
          have BE := Lib.hid hin.below
          clear hin HI hl1 hl2 hl3
          go_wp2_with fail
          (with_reducible refine OE.out.mono ?_)
          rintro e w6 ⟨rfl, rfl⟩
          go_wp2
          go_ret
          exact ⟨rfl, BE.out⟩

set_option maxRecDepth 100000 in
set_option maxHeartbeats 1600000 in
theorem lifted (os : Os) (started : os.Started) (H : Type) (enc : TypeId × Value → H) :
    ReturnsInHanded {} Try.checked os 4 .any (Rows.diskStaysSpec.pre6 enc Try.prog Try.f4 Rows.diskStaysRow.domain false) (Rows.diskStaysSpec.post enc Try.prog Try.f4 false true false false) := by
  refine returnsInHanded_of_change (C := Try.checked) own started (by kernel_rfl) Try.func4
    (ChangeSpec.witness6 (enc := enc) (C := Try.checked) false ⟨#[], #[.slice none 0 0, .slice none 0 0, .slice none 0 0], []⟩ 8 (by kernel_rfl) (by kernel_rfl) (by kernel_rfl) (by kernel_rfl)) ?_
  intro W base args ds gs before hval0 hW hcnd _
  have hval : ∀ (j : Nat) t v, Try.f4.params[j]? = some t → args[j]? = some v → Value.okWide Try.prog W .any base t v := hval0
  have hW' := hW
  obtain ⟨p, q, hA0, hV, rfl, hfz, hnd⟩ := hW
  have hA : DataW.TrodAll enc Try.prog W 0 (fun _ => true) true Try.f4.params.toList args.toList ds p := hA0
  rw [Try.params4] at hA hval
  obtain ⟨v0, vs0, d0, ds0, p0, q0, hargs, rfl, rfl, h0, r0⟩ := trodAll_cons hA
  obtain ⟨v1, vs1, d1, ds1, p1, q1, rfl, rfl, rfl, h1, r1⟩ := trodAll_cons r0
  obtain ⟨v2, vs2, d2, ds2, p2, q2, rfl, rfl, rfl, h2, r2⟩ := trodAll_cons r1
  obtain ⟨rfl, rfl, rfl⟩ := trodAll_nil r2
  obtain rfl : args = #[v0, v1, v2] := by cases args; simp_all
  obtain ⟨rfl, rfl⟩ := trodVars_none hV
  have lt0 : ∀ x ∈ p0, x.block < W.heap.size := by obtain ⟨m, hm⟩ := h0; exact DataW.trod_lt m _ _ _ hm
  obtain ⟨aop, np, capp, fp, rfl, lep, inp, vap⟩ := open_row (hval 0 45 v0 rfl rfl) h0
  have lt1 : ∀ x ∈ p1, x.block < W.heap.size := by obtain ⟨m, hm⟩ := h1; exact DataW.trod_lt m _ _ _ hm
  obtain ⟨aoq, nq, capq, fq, rfl, leq, inq, vaq⟩ := open_row (hval 1 45 v1 rfl rfl) h1
  have lt2 : ∀ x ∈ p2, x.block < W.heap.size := by obtain ⟨m, hm⟩ := h2; exact DataW.trod_lt m _ _ _ hm
  obtain ⟨aor, capr, fsr, rfl, ler, var⟩ := open_fates (hval 2 28 v2 rfl rfl) h2
  clear hA0 hval0
  refine (walk _ _ _ _ _ _ _ _ _ _ _ W lep leq ler vap vaq var (fun k off e h0 => by obtain ⟨b, o, e2, hb, -⟩ := var.2 h0; rw [e] at e2; simp at e2; omega)).mono fun e W' ⟨he, bel⟩ => ?_
  subst he
  exact ⟨_, rfl, _, _, _, [], _, [], hW', trodAll_mk1 (shut_bool Try.underlying4 _), (trodAll_cons_mk (Below.trod laidOut (by kernel_rfl) (of_decide_eq_true (by kernel_rfl)) h0 bel lt0) (trodAll_cons_mk (Below.trod laidOut (by kernel_rfl) (of_decide_eq_true (by kernel_rfl)) h1 bel lt1) (trodAll_cons_mk (Below.trod laidOut (by kernel_rfl) (of_decide_eq_true (by kernel_rfl)) h2 bel lt2) trodAll_mk0))), rfl, bel.frame _, fun h => by cases h⟩

theorem proved : Rows.DiskStaysSaid :=
  OpenClaim.holds_of_wide 4 Try.f4 rfl rfl rfl rfl rfl rfl rfl ⟨rfl, rfl, rfl, rfl, rfl⟩ rfl rfl rfl rfl rfl (by kernel_rfl) Try.func4 (by kernel_rfl)
    (of_decide_eq_true (by kernel_rfl)) (by unfold Func.isWrapper; first | (rw [if_pos (by decide +kernel)]; kernel_rfl) | (rw [if_neg (by decide +kernel)]; exact ⟨rfl, rfl⟩))
    (fun os started H enc _ => lifted os started H enc)
#print axioms proved
end Go.Proofs.Ytgjndfkjakbdiaa.diskStays
