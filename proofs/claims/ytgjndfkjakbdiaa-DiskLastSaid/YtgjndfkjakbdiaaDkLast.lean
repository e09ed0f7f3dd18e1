/- horariumlaw05.DiskLast answers true at every row of numbers and every row of flags, and leaves its arguments as they were: a Read tells the last write, flushed or not; of a sector that was never written 64 bytes 00. No condition. -/
import Derived.Test.YtgjndfkjakbdiaaDkL
import Derived.Deep.DeepCutAuto
import Derived.Deep.RegionHeld3
import Derived.BigQuiet
namespace Go.Proofs.Ytgjndfkjakbdiaa.diskLast
open Go.ChangeShapes Go.WideShapes Go.ChangeAt Go.RowKit Go.Joins
set_option linter.unusedVariables false
set_option linter.unusedSimpArgs false
open Dk
structure In (B d q : Nat) (w : World) (i r : Nat) (la : List UInt8) (s : DS) (wx : World) : Prop where
  dk : Dk B d s wx
  row : RowB wx q 46 la
  len : la.length = 4
  sec : s.sec.length = 4
  fail : s.fail = 0
  opn : s.opn.length ≤ i
  reads : s.reads ≤ r
  says : ∀ k (h : k < la.length), newestOf s k = List.replicate 64 la[k]
  below : Below B w wx
theorem In.write {B d q : Nat} {w wx wf wg : World} {i r a : Nat} {la : List UInt8} {s : DS} {c : UInt8} {x : Int} (h : In B d q w i r la s wx) (ha : a < 4) (hq : B ≤ q) (hx : x = (c.toNat : Int)) (bf : Below wx.heap.size (wx.setCell ⟨q, a, none⟩ (.int .u8 x)) wf) (kg : Dk B d (wroteS s a (List.replicate 64 c)) wg) (m : Moved d wf wg) : In B d q w (i + 1) r (la.set a c) (wroteS s a (List.replicate 64 c)) wg := by
  have k1 := h.dk.setOther (v := .int .u8 x) (o := a) (h.dk.notOwn h.row)
  have r1 : RowB (wx.setCell ⟨q, a, none⟩ (.int .u8 x)) q 46 (la.set a c) := h.row.set hx
  have b1 : Below (wx.setCell ⟨q, a, none⟩ (.int .u8 x)).heap.size (wx.setCell ⟨q, a, none⟩ (.int .u8 x)) wf := by simpa [World.setCell] using bf
  have k2 := k1.call b1
  have r2 := r1.call b1
  refine ⟨kg, r2.disk k2 m, by simp [h.len], h.sec, rfl, by show (s.opn ++ [_]).length ≤ _; simp; exact h.opn, h.reads, fun k hk => ?_, ((h.below.setCell hq _).trans (b1.mono k1.le)).trans (k2.below m)⟩
  rw [newest_wrote, List.getElem_set]
  have hk' : k < la.length := by simpa using hk
  by_cases e : a = k
  · rw [if_pos e, if_pos e]
  · rw [if_neg e, if_neg e]; exact h.says k hk'
theorem In.flush {B d q : Nat} {w wx wg : World} {i r : Nat} {la : List UInt8} {s : DS} (h : In B d q w i r la s wx) (kg : Dk B d (flushS s) wg) (m : Moved d wx wg) : In B d q w i r la (flushS s) wg :=
  ⟨kg, h.row.disk h.dk m, h.len, by rw [flushS_len]; exact h.sec, rfl, by show 0 ≤ i; omega, h.reads, fun k hk => by rw [newest_flushed h.dk.ok (by have := h.sec; have := h.len; omega)]; exact h.says k hk, h.below.trans (h.dk.below m)⟩
theorem In.read {B d q : Nat} {w wx wg : World} {i r : Nat} {la : List UInt8} {s : DS} (h : In B d q w i r la s wx) (kg : Dk B d (readS s) wg) (m : Moved d wx wg) : In B d q w i (r + 1) la (readS s) wg :=
  ⟨kg, h.row.disk h.dk m, h.len, h.sec, rfl, h.opn, by show s.reads + 1 ≤ r + 1; have := h.reads; omega, fun k hk => by rw [newest_reads]; exact h.says k hk, h.below.trans (h.dk.below m)⟩
theorem In.call {B d q : Nat} {w wx wg : World} {i r : Nat} {la : List UInt8} {s : DS} (h : In B d q w i r la s wx) (b : Below wx.heap.size wx wg) : In B d q w i r la s wg :=
  ⟨h.dk.call b, h.row.call b, h.len, h.sec, h.fail, h.opn, h.reads, h.says, h.below.trans (b.mono h.dk.le)⟩
def LaRel (B d q : Nat) (w : World) (m : Nat) (s8 : Value) (wx : World) : Prop := ∃ (i : Nat) (la : List UInt8) (s : DS), i + m = 20 ∧ s8 = .int .i64 (i : Int) ∧ In B d q w i (4 * i) la s wx
def LiRel (B d q i : Nat) (la : List UInt8) (w : World) (m : Nat) (s10 : Value) (wx : World) : Prop := ∃ (k : Nat) (s : DS), k + m = 4 ∧ s10 = .int .i64 (k : Int) ∧ In B d q w (i + 1) (4 * i + k) la s wx

set_option maxRecDepth 100000 in
set_option maxHeartbeats 8000000 in
theorem walk (ap : Option Addr) (np cp : Nat) (f : Nat → Int) (af : Option Addr) (nf cf : Nat) (g : Nat → Bool) (w : World) (hp : np ≤ 9223372036854775807) (hq : nf ≤ 9223372036854775807) (hv : Vals ap np (fun i => .int .i64 (f i)) w) (hu : Vals af nf (fun i => .bool (g i)) w) :
    Calls Try.prog 8 #[.slice ap np cp, .slice af nf cf] w fun e w' => e = .returned (.bool true) ∧ Below w.heap.size w w' := by
  go_enter Try.func8, Try.ntmps8
  go_wp2_with fail
  (with_reducible refine (awake_any _).mono ?_)
  rintro e w1 ⟨rfl, b1⟩
  have NW : Hid (Calls Try.prog 10 #[.int .i64 4] w1 fun e w' => e = .returned (ptr (w1.heap.size + 1)) ∧ Dk w1.heap.size (w1.heap.size + 1) (newR 4) w' ∧ Below w1.heap.size w1 w') := Lib.hid (new_yes 4 w1 (by omega) (by omega))
  go_wp2_with fail
  (with_reducible refine NW.out.mono ?_)
  rintro e w2 ⟨rfl, k2, b2⟩
  replace k2 := k2.mono b1.size
  have l2 := Lib.hid (b1.trans (b2.mono b1.size))
  clear NW b1 b2
  generalize w1.heap.size + 1 = d at *
  have HV := Lib.hid hv
  have HU := Lib.hid hu
  clear hv hu
  have I0 : Hid (In w.heap.size d w2.heap.size w 0 0 [0, 0, 0, 0] (newR 4) (w2.alloc (.cells #[.int .u8 0, .int .u8 0, .int .u8 0, .int .u8 0] 46))) := Lib.hid ⟨k2.call ((Below.refl _ _).alloc (Nat.le_refl _) _), row4_new w2, rfl, by simp [newR], rfl, by simp [newR], by simp [newR], fun k hk => by
      have : k = 0 ∨ k = 1 ∨ k = 2 ∨ k = 3 := by simp at hk; omega
      rcases this with rfl | rfl | rfl | rfl <;> rfl, l2.out.alloc l2.out.size _⟩
  have hqB := l2.out.size
  clear k2
  go_wp2_with fail
  generalize w2.alloc (.cells #[.int .u8 0, .int .u8 0, .int .u8 0, .int .u8 0] 46) = W2 at *
  generalize w2.heap.size = q at *
  clear l2
  go_loopg [8] 20 (LaRel w.heap.size d q w)
  case atStart => exact ⟨0, _, _, by omega, rfl, I0.out⟩
  case round =>
    clear I0
    obtain ⟨i, la, s, hi, rfl, hin⟩ := hrel
    have hend : Hid (Below w.heap.size w wr) := Lib.hid hin.below
    rcases Nat.lt_or_ge i np with hip | hip
    · rcases Nat.lt_or_ge i 20 with hlt | hge
      · have hg0 : 0 < gk := by omega
        obtain ⟨ba, off, rfl, hba, hca⟩ := HV.out (by omega)
        have hc : wr.cell? ⟨ba, off + i, none⟩ = some (.int .i64 (f i)) := by rw [hend.out.cell (p := ⟨ba, off + i, none⟩) hba]; exact hca i hip
        obtain ⟨a, ha, ha4⟩ := four (f i)
        generalize f i = z at *
        obtain ⟨c, hcc⟩ : ∃ c : UInt8, c.toNat = 1 + i := ⟨UInt8.ofNat (1 + i), by rw [UInt8.toNat_ofNat']; omega⟩
        have hx : (1 + (i : Int)) = (c.toNat : Int) := by omega
        have FC : Hid (∀ w : World, Calls Try.prog 12 #[.int .u8 (1 + (i : Int))] w fun e w' => e = .returned (.string (mkB (List.replicate 64 c))) ∧ Below w.heap.size w w') := Lib.hid (fun w => by rw [hx]; exact fill_byte c w)
        have cq := hin.row.cell (j := a) (by rw [hin.len]; exact ha4)
        have fq := hin.row.frozen a
        have HI := Lib.hid hin
        have HX := Lib.hid hx
        have hm : (1 + (i : Int)) % 256 = 1 + (i : Int) := by omega
        have KW := Lib.hid (fun w' (k' : Dk w.heap.size d s w') => wr_calm w.heap.size d s a (mkB (List.replicate 64 c)) w' k' (by rw [hin.sec]; exact ha4) (by rw [mkB_size]; simp) hin.fail (by have := hin.opn; omega))
        rw [mkB_data] at KW
        have K1 := Lib.hid (hin.dk.setOther (v := .int .u8 (1 + (i : Int))) (o := a) (hin.dk.notOwn hin.row))
        generalize ((la[a]'(by rw [hin.len]; exact ha4)).toNat : Int) = old at *
        clear hin hca hcc hx hend
        have hai : (a : Int) < 4 := by omega
        have hip2 : (i : Int) < (np : Int) := by omega
        have hlt2 : (i : Int) < 20 := by omega
        generalize hTT : mkB (List.replicate 64 c) = T at *
        clear hTT
        go_wp2_with fail
        (with_reducible refine (FC.out _).mono ?_)
        rintro e w3 ⟨rfl, b3⟩
        have k3 := K1.out.call b3
        go_wp2_with fail
        (with_reducible refine (KW.out _ k3).mono ?_)
        rintro e w4 ⟨rfl, k4, m4⟩
        have h4 := HI.out.write ha4 hqB HX.out (by simpa [World.setCell] using b3) k4 m4
        have HN := Lib.hid h4
        clear b3 k3 k4 m4 h4 HI K1 KW FC HX hc cq fq hm ha HV
        generalize la.set a c = la2 at *
        generalize wroteS s a (List.replicate 64 c) = s2 at *
        have OO := Lib.hid (fun w' (k' : Dk w.heap.size d (flushS s2) w') => open_any w.heap.size d (flushS s2) w' k')
        have FL := Lib.hid (fl_calm w.heap.size d s2 w4 HN.out.dk HN.out.fail (by have := HN.out.opn; omega))
        rcases Nat.lt_or_ge i nf with hif | hif
        · obtain ⟨bb, ofb, rfl, hbb, hcb⟩ := HU.out (by omega)
          have hc : w4.cell? ⟨bb, ofb + i, none⟩ = some (.bool (g i)) := by rw [HN.out.below.cell (p := ⟨bb, ofb + i, none⟩) hbb]; exact hcb i hif
          have hif2 : (i : Int) < (nf : Int) := by omega
          generalize g i = fl at *
          clear hcb HU
          cases fl
          · have IN : Hid (∃ s3, In w.heap.size d q w (i + 1) (4 * i) la2 s3 w4) := Lib.hid ⟨_, HN.out⟩
            clear HN OO FL
            go_wp2_with fail
            go_loopg [10] 4 (LiRel w.heap.size d q i la2 w)
            case atStart => obtain ⟨s3, h3⟩ := IN.out; exact ⟨0, s3, by omega, rfl, h3⟩
            case round =>
              clear IN
              obtain ⟨k, s4, hk, rfl, h4⟩ := hrel
              have H4 := Lib.hid h4
              have hl4 := h4.len
              rcases Nat.lt_or_ge k 4 with hlt4 | hge4
              · have hkl : k < la2.length := by omega
                have c4 := h4.row.cell hkl
                have RD := Lib.hid (rd_calm w.heap.size d s4 k wr h4.dk (by rw [h4.sec]; exact hlt4) h4.fail (by have := h4.opn; omega) (by have := h4.reads; omega))
                rw [h4.says k hkl] at RD
                have RK := Lib.hid (fun w' (m : Moved d wr w') => h4.row.disk h4.dk m)
                generalize la2[k] = c at *
                have FC := Lib.hid (fun w => fill_byte c w)
                have tt : ((mkB (List.replicate 64 c)).toList == (mkB (List.replicate 64 c)).toList) = true := by simp
                have tu : ((mkB (List.replicate 64 c)).toList != (mkB (List.replicate 64 c)).toList) = false := by simp
                generalize mkB (List.replicate 64 c) = T at *
                clear h4
                have k4 : (k : Int) < 4 := by omega
                go_wp2_with fail
                (with_reducible refine RD.out.mono ?_)
                rintro e w5 ⟨rfl, k5, m5⟩
                have h5 := H4.out.read k5 m5
                have H5 := Lib.hid h5
                have c5 : w5.cell? ⟨q, k, none⟩ = some (.int .u8 (c.toNat : Int)) := by
                  rw [World.cell?_of_block (w := wr) (a := ⟨q, k, none⟩) (H4.out.dk.keep m5 H4.out.row (by decide) (by decide) (by decide) |>.trans H4.out.row.symm)]; exact c4
                clear k5 m5 h5 c4 H4 RD RK
                go_wp2_with fail
                (with_reducible refine (FC.out _).mono ?_)
                rintro e w6 ⟨rfl, b6⟩
                have H6 := Lib.hid (H5.out.call b6)
                clear b6 H5 FC c5
                go_wp2
                go_roundg (gk - 1)
                case measure => omega
                case rel => exact ⟨k + 1, _, by omega, by go_num, H6.out⟩
              · obtain rfl : k = 4 := by omega
                clear h4
                go_wp2
                go_roundg (20 - i - 1)
                case measure => omega
                case rel => exact ⟨i + 1, la2, s4, by omega, by go_num, H4.out⟩
          · go_wp2_with fail
            (with_reducible refine FL.out.mono ?_)
            rintro e w5 ⟨rfl, k5, m5⟩
            have IN : Hid (∃ s3, In w.heap.size d q w (i + 1) (4 * i) la2 s3 w5) := Lib.hid ⟨_, HN.out.flush k5 m5⟩
            go_wp2_with fail
            (with_reducible refine (OO.out _ k5).mono ?_)
            rintro e w6 ⟨rfl, rfl⟩
            clear HN OO FL k5 m5 hc
            go_wp2_with fail
            go_loopg [10] 4 (LiRel w.heap.size d q i la2 w)
            case atStart => obtain ⟨s3, h3⟩ := IN.out; exact ⟨0, s3, by omega, rfl, h3⟩
            case round =>
              clear IN
              obtain ⟨k, s4, hk, rfl, h4⟩ := hrel
              have H4 := Lib.hid h4
              have hl4 := h4.len
              rcases Nat.lt_or_ge k 4 with hlt4 | hge4
              · have hkl : k < la2.length := by omega
                have c4 := h4.row.cell hkl
                have RD := Lib.hid (rd_calm w.heap.size d s4 k wr h4.dk (by rw [h4.sec]; exact hlt4) h4.fail (by have := h4.opn; omega) (by have := h4.reads; omega))
                rw [h4.says k hkl] at RD
                have RK := Lib.hid (fun w' (m : Moved d wr w') => h4.row.disk h4.dk m)
                generalize la2[k] = c at *
                have FC := Lib.hid (fun w => fill_byte c w)
                have tt : ((mkB (List.replicate 64 c)).toList == (mkB (List.replicate 64 c)).toList) = true := by simp
                have tu : ((mkB (List.replicate 64 c)).toList != (mkB (List.replicate 64 c)).toList) = false := by simp
                generalize mkB (List.replicate 64 c) = T at *
                clear h4
                have k4 : (k : Int) < 4 := by omega
                go_wp2_with fail
                (with_reducible refine RD.out.mono ?_)
                rintro e w5 ⟨rfl, k5, m5⟩
                have h5 := H4.out.read k5 m5
                have H5 := Lib.hid h5
                have c5 : w5.cell? ⟨q, k, none⟩ = some (.int .u8 (c.toNat : Int)) := by
                  rw [World.cell?_of_block (w := wr) (a := ⟨q, k, none⟩) (H4.out.dk.keep m5 H4.out.row (by decide) (by decide) (by decide) |>.trans H4.out.row.symm)]; exact c4
                clear k5 m5 h5 c4 H4 RD RK
                go_wp2_with fail
                (with_reducible refine (FC.out _).mono ?_)
                rintro e w6 ⟨rfl, b6⟩
                have H6 := Lib.hid (H5.out.call b6)
                clear b6 H5 FC c5
                go_wp2
                go_roundg (gk - 1)
                case measure => omega
                case rel => exact ⟨k + 1, _, by omega, by go_num, H6.out⟩
              · obtain rfl : k = 4 := by omega
                clear h4
                go_wp2
                go_roundg (20 - i - 1)
                case measure => omega
                case rel => exact ⟨i + 1, la2, s4, by omega, by go_num, H4.out⟩
        · have IN : Hid (∃ s3, In w.heap.size d q w (i + 1) (4 * i) la2 s3 w4) := Lib.hid ⟨_, HN.out⟩
          have hif2 : (nf : Int) ≤ (i : Int) := by omega
          clear HN OO FL HU
          go_wp2_with fail
          go_loopg [10] 4 (LiRel w.heap.size d q i la2 w)
          case atStart => obtain ⟨s3, h3⟩ := IN.out; exact ⟨0, s3, by omega, rfl, h3⟩
          case round =>
            clear IN
            obtain ⟨k, s4, hk, rfl, h4⟩ := hrel
            have H4 := Lib.hid h4
            have hl4 := h4.len
            rcases Nat.lt_or_ge k 4 with hlt4 | hge4
            · have hkl : k < la2.length := by omega
              have c4 := h4.row.cell hkl
              have RD := Lib.hid (rd_calm w.heap.size d s4 k wr h4.dk (by rw [h4.sec]; exact hlt4) h4.fail (by have := h4.opn; omega) (by have := h4.reads; omega))
              rw [h4.says k hkl] at RD
              have RK := Lib.hid (fun w' (m : Moved d wr w') => h4.row.disk h4.dk m)
              generalize la2[k] = c at *
              have FC := Lib.hid (fun w => fill_byte c w)
              have tt : ((mkB (List.replicate 64 c)).toList == (mkB (List.replicate 64 c)).toList) = true := by simp
              have tu : ((mkB (List.replicate 64 c)).toList != (mkB (List.replicate 64 c)).toList) = false := by simp
              generalize mkB (List.replicate 64 c) = T at *
              clear h4
              have k4 : (k : Int) < 4 := by omega
              go_wp2_with fail
              (with_reducible refine RD.out.mono ?_)
              rintro e w5 ⟨rfl, k5, m5⟩
              have h5 := H4.out.read k5 m5
              have H5 := Lib.hid h5
              have c5 : w5.cell? ⟨q, k, none⟩ = some (.int .u8 (c.toNat : Int)) := by
                rw [World.cell?_of_block (w := wr) (a := ⟨q, k, none⟩) (H4.out.dk.keep m5 H4.out.row (by decide) (by decide) (by decide) |>.trans H4.out.row.symm)]; exact c4
              clear k5 m5 h5 c4 H4 RD RK
              go_wp2_with fail
              (with_reducible refine (FC.out _).mono ?_)
              rintro e w6 ⟨rfl, b6⟩
              have H6 := Lib.hid (H5.out.call b6)
              clear b6 H5 FC c5
              go_wp2
              go_roundg (gk - 1)
              case measure => omega
              case rel => exact ⟨k + 1, _, by omega, by go_num, H6.out⟩
            · obtain rfl : k = 4 := by omega
              clear h4
              go_wp2
              go_roundg (20 - i - 1)
              case measure => omega
              case rel => exact ⟨i + 1, la2, s4, by omega, by go_num, H4.out⟩
      · have hge2 : (20 : Int) ≤ (i : Int) := by omega
        have hip2 : (i : Int) < (np : Int) := by omega
        clear hin
        go_wp2
        go_ret
        exact ⟨rfl, hend.out⟩
    · have hip2 : (np : Int) ≤ (i : Int) := by omega
      clear hin
      go_wp2
      go_ret
      exact ⟨rfl, hend.out⟩

set_option maxRecDepth 100000 in
set_option maxHeartbeats 1600000 in
theorem lifted (os : Os) (started : os.Started) (H : Type) (enc : TypeId × Value → H) :
    ReturnsInHanded {} Try.checked os 8 .any (Rows.diskLastSpec.pre6 enc Try.prog Try.f8 Rows.diskLastRow.domain false) (Rows.diskLastSpec.post enc Try.prog Try.f8 false true false false) := by
  refine returnsInHanded_of_change (C := Try.checked) own started (by kernel_rfl) Try.func8
    (ChangeSpec.witness6 (enc := enc) (C := Try.checked) false ⟨#[], #[.slice none 0 0, .slice none 0 0], []⟩ 8 (by kernel_rfl) (by kernel_rfl) (by kernel_rfl) (by kernel_rfl)) ?_
  intro W base args ds gs before hval0 hW hcnd _
  have hval : ∀ (j : Nat) t v, Try.f8.params[j]? = some t → args[j]? = some v → Value.okWide Try.prog W .any base t v := hval0
  have hW' := hW
  obtain ⟨p, q, hA0, hV, rfl, hfz, hnd⟩ := hW
  have hA : DataW.TrodAll enc Try.prog W 0 (fun _ => true) true Try.f8.params.toList args.toList ds p := hA0
  rw [Try.params8] at hA hval
  obtain ⟨v0, vs0, d0, ds0, p0, q0, hargs, rfl, rfl, h0, r0⟩ := trodAll_cons hA
  obtain ⟨v1, vs1, d1, ds1, p1, q1, rfl, rfl, rfl, h1, r1⟩ := trodAll_cons r0
  obtain ⟨rfl, rfl, rfl⟩ := trodAll_nil r1
  obtain rfl : args = #[v0, v1] := by cases args; simp_all
  obtain ⟨rfl, rfl⟩ := trodVars_none hV
  have lt0 : ∀ x ∈ p0, x.block < W.heap.size := by obtain ⟨m, hm⟩ := h0; exact DataW.trod_lt m _ _ _ hm
  obtain ⟨aop, np, capp, fp, rfl, lep, inp, vap⟩ := open_row (hval 0 45 v0 rfl rfl) h0
  have lt1 : ∀ x ∈ p1, x.block < W.heap.size := by obtain ⟨m, hm⟩ := h1; exact DataW.trod_lt m _ _ _ hm
  obtain ⟨aoq, nq, capq, fq, rfl, leq, vaq⟩ := open_flags (hval 1 54 v1 rfl rfl) h1
  clear hA0 hval0
  refine (walk _ _ _ _ _ _ _ _ W lep leq vap vaq).mono fun e W' ⟨he, bel⟩ => ?_
  subst he
  exact ⟨_, rfl, _, _, _, [], _, [], hW', trodAll_mk1 (shut_bool Try.underlying4 _), (trodAll_cons_mk (Below.trod laidOut (by kernel_rfl) (of_decide_eq_true (by kernel_rfl)) h0 bel lt0) (trodAll_cons_mk (Below.trod laidOut (by kernel_rfl) (of_decide_eq_true (by kernel_rfl)) h1 bel lt1) trodAll_mk0)), rfl, bel.frame _, fun h => by cases h⟩

theorem proved : Rows.DiskLastSaid :=
  OpenClaim.holds_of_wide 8 Try.f8 rfl rfl rfl rfl rfl rfl rfl ⟨rfl, rfl, rfl, rfl, rfl⟩ rfl rfl rfl rfl rfl (by kernel_rfl) Try.func8 (by kernel_rfl)
    (of_decide_eq_true (by kernel_rfl)) (by unfold Func.isWrapper; first | (rw [if_pos (by decide +kernel)]; kernel_rfl) | (rw [if_neg (by decide +kernel)]; exact ⟨rfl, rfl⟩))
    (fun os started H enc _ => lifted os started H enc)
#print axioms proved
end Go.Proofs.Ytgjndfkjakbdiaa.diskLast
