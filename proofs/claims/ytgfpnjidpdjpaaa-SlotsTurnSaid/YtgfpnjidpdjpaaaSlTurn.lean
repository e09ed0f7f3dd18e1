/- horariumlaw06.SlotsTurn answers true at every row of texts: snapshots turn from slot to slot; the last one is told; epochs rise by one. No condition. -/
import Derived.Test.YtgfpnjidpdjpaaaSlS
import Derived.Test.YtgfpnjidpdjpaaaFrE
import Derived.Test.YtgfpnjidpdjpaaaSlR
import Derived.Test.YtgfpnjidpdjpaaaDkG
import Derived.Deep.DeepCutAuto
import Derived.Deep.RegionHeld3
import Derived.BigQuiet
namespace Go.Proofs.Ytgfpnjidpdjpaaa.slotsTurn
open Go.ChangeShapes Go.WideShapes Go.ChangeAt Go.RowKit Go.Joins
set_option maxRecDepth 100000
set_option linter.unusedVariables false
set_option linter.unusedSimpArgs false
open Dk (own laidOut in64_wf ptr DS)
open Sl (Lw Few snapV InvD gotR newR SS)
/-- between two snapshots -/
structure Tn (B d q i : Nat) (s : DS) (told : Option (Nat × List UInt8)) (w wx : World) : Prop where
  lw : Lw B d q ⟨0, 2, true, i, i % 2⟩ s w wx
  len : s.sec.length = 4
  opn : s.opn = []
  fail : s.fail = 0
  reads : s.reads ≤ 100 * (i + 1)
  inv : InvD s 0 2 (i % 2) i told
def TnRel (B d q : Nat) (w : World) (m : Nat) (s9 : Value) (wx : World) : Prop :=
  ∃ i s told, i + m = 12 ∧ s9 = .int .i64 (i : Int) ∧ Tn B d q i s told w wx
theorem and1 (n : Int) : bits .and .i64 n 1 = n % 2 := by
  have hm : (BitVec.ofInt 64 1).toNat = 2 ^ 1 - 1 := by decide
  have key : (BitVec.ofInt 64 n &&& BitVec.ofInt 64 1).toNat = (n % ((2 ^ 64 : Nat) : Int)).toNat % 2 ^ 1 := by
    rw [BitVec.toNat_and, BitVec.toNat_ofInt, hm, Nat.and_two_pow_sub_one_eq_mod]
  show IntKind.i64.wrap ((BitVec.ofInt 64 n &&& BitVec.ofInt 64 1).toNat : Nat) = n % 2
  rw [key, IntKind.wrap_i64]
  omega
theorem short86 (l : List UInt8) (w : World) :
    Calls Try.prog 11 #[.string (mkB l), .int .i64 86] w fun e w' => e = .returned (.string (mkB (l.take 86))) ∧ w' = w := Sl.short_any l 86 w (by omega)
theorem make87 (w : World) :
    (Instr.makeSlice 50 (.int .i64 87) (.int .i64 87)).run Try.prog w = .ok (.slice (some ⟨w.heap.size, 0, none⟩) 87 87) (w.alloc (.cells (Lib.byteCells (List.replicate 87 0)).toArray 5)) := by
  rw [← Dk.made_bytes]
  exact run_make_row' (P := Try.prog) 50 5 (.int .u8 0) 1 Try.underlying50 Dk.infoByte rfl .i64 .i64 87 (by omega) (by omega) w
theorem text87 (w : World) : (convert 50 9 (.slice (some ⟨w.heap.size, 0, none⟩) 87 87)).run Try.prog (w.alloc (.cells (Lib.byteCells (List.replicate 87 0)).toArray 5)) = .ok (.string (mkB (List.replicate 87 0))) (w.alloc (.cells (Lib.byteCells (List.replicate 87 0)).toArray 5)) := by
  have := (Dk.rowB_new w (List.replicate 87 0) 5).text 0 87 87 (by simp)
  rwa [List.drop_zero, List.take_of_length_le (by simp)] at this
/-- the sector that tells the epoch -/
theorem told_tag {s : DS} {a nx N e : Nat} {d : List UInt8} (h : InvD s 0 2 nx N (some (e, d))) (ha : a = (1 - nx) * 2) : tagE (Dk.newestOf s a) = e ∧ (Dk.newestOf s a).length = 64 := by
  have hw := (h.inv.ts e d rfl).2.1 0 (by rw [h.inv.ly]; omega)
  rw [Sl.rowOf_get, Nat.zero_add, Nat.add_zero, ← ha] at hw
  have := Sl.whole_epoch hw
  exact ⟨by rw [Sl.tagE_of this.2.2.1]; exact this.1, this.2.2.1⟩

set_option maxRecDepth 100000 in
set_option maxHeartbeats 8000000 in
theorem walk (ao : Option Addr) (len cap : Nat) (w : World) (hl : len ≤ 9223372036854775807) (hT : Sl.Texts ao len w) :
    Calls Try.prog 4 #[.slice ao len cap] w fun e w' => e = .returned (.bool true) ∧ Below w.heap.size w w' := by
  have AW := Lib.hid (fun w => Sl.awake_any w)
  have ND := Lib.hid (fun w => Sl.disk4 w)
  have HT := Lib.hid hT
  clear hT
  go_enter Try.func4, Try.ntmps4
  go_wp2_with fail
  (with_reducible refine (AW.out _).mono ?_)
  rintro e w1 ⟨rfl, b1⟩
  clear AW
  go_wp2_with fail
  (with_reducible refine (ND.out _).mono ?_)
  rintro e w2 ⟨rfl, d2, b2⟩
  have l2 := Lib.hid (b1.trans (b2.mono b1.size))
  have D2 := Lib.hid (d2.mono b1.size)
  clear ND d2 b1 b2
  generalize w1.heap.size + 1 = d at *
  have NS := Lib.hid (Sl.slots02 w.heap.size d (Dk.newR 4) w2 D2.out (by simp [Dk.newR]))
  go_wp2_with fail
  (with_reducible refine NS.out.mono ?_)
  rintro e w3 ⟨rfl, s3, b3⟩
  have L3 := Lib.hid (Sl.lw_new D2.out l2.out s3 b3)
  clear NS D2 l2 s3 b3
  generalize w2.heap.size = q at *
  have f3 := Sl.newS_few 4 2 (by omega) (by omega) (by omega) false 0 0
  have i3 : InvD (Dk.newR 4) 0 2 0 0 none := Sl.invD_new 4 0 2 (by omega) (by omega)
  have RD := Lib.hid (Sl.read_t w.heap.size d q _ _ 0 0 none w w3 L3.out f3 i3)
  have se : snapV none = .agg #[.int .u64 0, .string ⟨#[]⟩] := rfl
  rw [se] at RD
  go_wp2_with fail
  (with_reducible refine RD.out.mono ?_)
  rintro e w5 ⟨rfl, L5, _⟩
  rw [Sl.newR_zero (k := 2) rfl rfl (by omega) (by omega)] at L5
  have T0 : Hid (Tn w.heap.size d q 0 (gotR (Dk.newR 4) 2) none w (w5.alloc (.cells #[.int .u64 0, .string ⟨#[]⟩] 33))) := Lib.hid ⟨L5.call ((Below.refl _ _).alloc (Nat.le_refl _) _), by simp [gotR, Dk.newR], rfl, rfl, by simp [gotR, Dk.newR], i3.got 2⟩
  clear RD L3 L5 f3 i3 se
  go_wp2_with fail
  go_loopg [9] 12 (TnRel w.heap.size d q w)
  case atStart => exact ⟨0, _, none, rfl, rfl, T0.out⟩
  case round =>
    clear T0
    obtain ⟨i, s, told, hi, rfl, hs⟩ := hrel
    rcases (show (i < len ∧ i < 12) ∨ (i < len ∧ i = 12) ∨ len ≤ i by omega) with ⟨hil, hi12⟩ | hend
    · obtain ⟨tb, off, rfl, htb, hcs⟩ := HT.out (by omega)
      obtain ⟨tx, tr⟩ := hcs i hil
      obtain ⟨T, rfl⟩ : ∃ T, tx = mkB T := ⟨tx.data.toList, (mkB_of tx).symm⟩
      have CT := Lib.hid (fun wz (hb : Below w.heap.size w wz) => show wz.cell? ⟨tb, off + i, none⟩ = some (.string (mkB T)) from by rw [hb.cell (p := ⟨tb, off + i, none⟩) htb]; exact tr)
      have r0 := CT.out _ hs.lw.bel
      have il : (i : Int) < (len : Int) := by omega
      have il12 : (i : Int) < 12 := by omega
      have TN := Lib.hid hs
      clear tr hcs hs HT
      have SH := Lib.hid (fun w => short86 T w)
      obtain ⟨data, hdata⟩ : ∃ data, data = T.take 86 := ⟨_, rfl⟩
      have hdl : data.length ≤ 86 := by rw [hdata, List.length_take]; omega
      rw [← hdata] at SH
      have few1 : Few ⟨0, 2, true, i, i % 2⟩ s := ⟨by show 1 ≤ 2; omega, by show 2 ≤ 64; omega, by show 0 + 2 * 2 ≤ s.sec.length; rw [TN.out.len]; omega, by rw [TN.out.opn]; simp, by have := TN.out.reads; omega, TN.out.fail⟩
      have WR := Lib.hid (Sl.write_t w.heap.size d q _ s 0 told data w wr TN.out.lw few1 TN.out.inv rfl (by show i + 1 < 256; omega) (by omega) (by show data.length ≤ 43 * 2; omega))
      have I2 := TN.out.inv.put (t := ⟨0, 2, true, i, i % 2⟩) (data := data) TN.out.lw.dk.ok few1 (by show i + 1 < 256; omega) (by show data.length ≤ 43 * 2; omega)
      have l2 := Sl.putS_len ⟨0, 2, true, i, i % 2⟩ s data
      have x2 : 1 - i % 2 = (i + 1) % 2 := by omega
      dsimp only at WR I2
      rw [x2] at WR I2
      rw [show ((i + 1 : Nat) : Int) = (i : Int) + 1 by push_cast; rfl] at WR
      have few2 : Few ⟨0, 2, true, i + 1, (i + 1) % 2⟩ (Sl.putS ⟨0, 2, true, i, i % 2⟩ s data) := ⟨by show 1 ≤ 2; omega, by show 2 ≤ 64; omega, by rw [l2]; show 0 + 2 * 2 ≤ s.sec.length; rw [TN.out.len]; omega, by simp [Sl.putS], by show s.reads ≤ _; have := TN.out.reads; omega, rfl⟩
      have NI := I2.newest_is (t := ⟨0, 2, true, i + 1, (i + 1) % 2⟩) (by show 1 ≤ 2; omega)
      have r2 : (Sl.putS ⟨0, 2, true, i, i % 2⟩ s data).reads ≤ 100 * (i + 1) := TN.out.reads
      rw [TN.out.len] at l2
      have o2 : (Sl.putS ⟨0, 2, true, i, i % 2⟩ s data).opn = [] := rfl
      have fz2 : (Sl.putS ⟨0, 2, true, i, i % 2⟩ s data).fail = 0 := rfl
      generalize Sl.putS ⟨0, 2, true, i, i % 2⟩ s data = s2 at *
      clear few1 TN
      generalize hDB : mkB data = DB at *
      go_wp2_with fail
      (with_reducible refine (SH.out _).mono ?_)
      rintro e w6 ⟨rfl, rfl⟩
      go_wp2_with fail
      (with_reducible refine WR.out.mono ?_)
      rintro e w7 ⟨rfl, L7, _⟩
      have RD := Lib.hid (Sl.read_t w.heap.size d q _ s2 _ _ _ w w7 L7 few2 I2)
      rw [NI] at RD
      have sv : snapV (some (i + 1, data)) = .agg #[.int .u64 ((i : Int) + 1), .string DB] := by rw [← hDB]; show Value.agg #[.int .u64 ((i + 1 : Nat) : Int), _] = _; rw [show ((i + 1 : Nat) : Int) = (i : Int) + 1 by push_cast; rfl]; rfl
      have si : (some (i + 1, data)).isSome = true := rfl
      rw [sv, si] at RD
      clear WR L7 few2 NI sv si r0
      go_wp2_with fail
      (with_reducible refine RD.out.mono ?_)
      rintro e w8 ⟨rfl, L8, _⟩
      clear RD
      have LA := Lib.hid (L8.call ((Below.refl _ _).alloc (Nat.le_refl _) (.cells #[.int .u64 ((i : Int) + 1), .string DB] 33)))
      have XA : (w8.alloc (.cells #[.int .u64 ((i : Int) + 1), .string DB] 33)).heap[w8.heap.size]? = some (.cells #[.int .u64 ((i : Int) + 1), .string DB] 33 (0, 0)) := heap_alloc_new _ _
      have NS := Lib.hid (Sl.slots02 w.heap.size d (gotR s2 2) _ LA.out.dk (by show 4 ≤ s2.sec.length; omega))
      clear L8
      have XB := Lib.hid XA
      clear XA
      go_wp2_with fail
      (with_reducible refine NS.out.mono ?_)
      rintro e w9 ⟨rfl, _, b9⟩
      have L9 := Lib.hid (LA.out.call b9)
      have y0 : w9.cell? ⟨w8.heap.size, 0, none⟩ = some (.int .u64 ((i : Int) + 1)) := by
        rw [b9.cell (p := ⟨w8.heap.size, 0, none⟩) (Dk.lt_of_heap XB.out), Lib.cell_of_heap XB.out]; rfl
      have y1 : w9.cell? ⟨w8.heap.size, 1, none⟩ = some (.string DB) := by
        rw [b9.cell (p := ⟨w8.heap.size, 1, none⟩) (Dk.lt_of_heap XB.out), Lib.cell_of_heap XB.out]; rfl
      have NW := Lib.hid (fun n => Sl.newest_any (w9.drewN n) (L9.out.sl.call (Sl.below_drewN w9 n)))
      dsimp only at NW
      rw [show ((i + 1 : Nat) : Int) = (i : Int) + 1 by push_cast; rfl] at NW
      have SH2 := Lib.hid (fun n => SH.out (w9.drewN n))
      have r9 := CT.out _ L9.out.bel
      generalize w8.heap.size = xb at *
      generalize (w8.alloc (.cells #[.int .u64 ((i : Int) + 1), .string DB] 33)).heap.size = zb at *
      clear b9 LA NS XB
      have q1 : (((i : Int) + 1) != ((i : Int) + 1)) = false := by simp
      have q2 : (DB.toList != DB.toList) = false := by simp
      have i0 : (0 : Int) ≤ (i : Int) := by omega
      go_wp2_with fail
      go_quiet ((first | (go_at_call 11; exact Calls.quiet_of_same (SH2.out _)) | (go_at_call 15; exact Calls.quiet_of_same (NW.out _))))
      have LB := Lib.hid (L9.out.call (Sl.below_drewN w9 nq))
      clear L9 NW SH SH2 y0 y1 r9 CT
      generalize w9.drewN nq = wB at *
      have A1 := and1 (i : Int)
      have A2 : bits .and .i64 (i : Int) 1 = ((i % 2 : Nat) : Int) := by rw [A1]; push_cast; rfl
      obtain ⟨ad, had⟩ : ∃ ad : Nat, ad = 2 * (i % 2) := ⟨_, rfl⟩
      have A3 : 2 * ((i % 2 : Nat) : Int) = (ad : Int) := by rw [had]; push_cast; rfl
      have adl : ad ≤ 2 := by omega
      have IG := I2.got 2
      have TG := told_tag (a := ad) IG (by rw [had]; omega)
      have RR := Lib.hid (Dk.read_any w.heap.size d (gotR s2 2) (ad : Int) wB LB.out.dk (by show s2.reads + 2 * 2 ≤ _; omega) (by show s2.opn.length ≤ _; rw [o2]; simp) (by show s2.fail - 2 * 2 < _; rw [fz2]; omega))
      have RN := Dk.newest_read (gotR s2 2) (a := (ad : Int)) (by omega) (by show (ad : Int) < (s2.sec.length : Int); omega) (by show ¬ s2.fail - 2 * 2 = 1; rw [fz2]; omega)
      rw [RN, Int.toNat_natCast] at RR
      have RF := Lib.hid (fun w => tag_rf (mkB (Dk.newestOf (gotR s2 2) ad)) w)
      rw [mkB_data, TG.1] at RF
      rw [show ((i + 1 : Nat) : Int) = (i : Int) + 1 by push_cast; rfl] at RF
      have ab : 2 * bits .and .i64 (i : Int) 1 = (ad : Int) := by rw [A2, A3]
      have ab0 : (0 : Int) ≤ bits .and .i64 (i : Int) 1 := by rw [A2]; omega
      have ab1 : bits .and .i64 (i : Int) 1 ≤ 1 := by rw [A2]; omega
      have ab3 : 2 * ((i : Int) % 2) = (ad : Int) := by rw [had]; push_cast; rfl
      rw [← ab3] at RR
      clear A1 A2 A3 RN ab3
      obtain ⟨bt, hbt⟩ : ∃ bt, bits .and .i64 (i : Int) 1 = bt := ⟨_, rfl⟩
      rw [hbt] at ab ab0 ab1
      generalize hSX : mkB (Dk.newestOf (gotR s2 2) ad) = SX at *
      generalize (tagN (Dk.newestOf (gotR s2 2) ad) : Int) = TNN at *
      generalize decide (SX.size = 64) = TDD at *
      go_wp2_with fail
      (with_reducible refine RR.out.mono ?_)
      rintro e wC ⟨rfl, dC, mC⟩
      have LC := Lib.hid (LB.out.disk dC mC)
      clear RR dC mC LB
      go_wp2_with fail
      (with_reducible refine (RF.out _).mono ?_)
      rintro e wD ⟨rfl, bD⟩
      have N : Hid (∀ x o, x = ((i + 1 : Nat) : Int) → TnRel w.heap.size d q w (gk - 1) (.int .i64 x) (wD.alloc o)) := Lib.hid (fun x o hx => by
        subst hx
        refine ⟨i + 1, _, _, by omega, rfl, (LC.out.call bD).call ((Below.refl _ _).alloc (Nat.le_refl _) o), by show s2.sec.length = 4; omega, o2, by show s2.fail - 2 * 2 - 1 = 0; rw [fz2], by show s2.reads + 2 * 2 + 1 ≤ 100 * (i + 1 + 1); omega, IG.same rfl rfl⟩)
      have hg0 : 0 < gk := by omega
      clear RF LC bD I2 IG TG l2 o2 fz2 r2
      go_wp2
      go_roundg (gk - 1)
      case measure => omega
      case rel => exact N.out _ _ (by push_cast; rfl)
    · have WL := Lib.hid (fun wz (h : Sl.Sl q d ⟨0, 2, true, i, i % 2⟩ wz) => Sl.write_long q d _ (mkB (List.replicate 87 0)) wz h (by show 1 ≤ 2; omega) (by show 2 ≤ 64; omega) (by rw [mkB_size]; show 43 * 2 < (List.replicate 87 (0 : UInt8)).length; rw [List.length_replicate]; omega))
      have mk := make87
      have tx := text87
      have LE := Lib.hid (hs.lw.call ((Below.refl _ _).alloc (Nat.le_refl _) (.cells (Lib.byteCells (List.replicate 87 0)).toArray 5)))
      clear hs HT
      generalize (Lib.byteCells (List.replicate 87 0)).toArray = MC at *
      generalize mkB (List.replicate 87 0) = TX at *
      rcases hend with ⟨hil, rfl⟩ | hil
      · have il : ((12 : Nat) : Int) < (len : Int) := by omega
        go_wp2_with fail
        (with_reducible refine (WL.out _ LE.out.sl).mono ?_)
        rintro e wE ⟨rfl, rfl⟩
        have FIN := Lib.hid LE.out.bel
        clear LE WL mk tx
        go_wp2
        go_ret
        exact ⟨rfl, FIN.out⟩
      · have il : (len : Int) ≤ (i : Int) := by omega
        go_wp2_with fail
        (with_reducible refine (WL.out _ LE.out.sl).mono ?_)
        rintro e wE ⟨rfl, rfl⟩
        have FIN := Lib.hid LE.out.bel
        clear LE WL mk tx
        go_wp2
        go_ret
        exact ⟨rfl, FIN.out⟩

set_option maxRecDepth 100000 in
set_option maxHeartbeats 1600000 in
theorem lifted (os : Os) (started : os.Started) (H : Type) (enc : TypeId × Value → H) :
    ReturnsInHanded {} Try.checked os 4 .any (Rows.slotsTurnSpec.pre6 enc Try.prog Try.f4 Rows.slotsTurnRow.domain false) (Rows.slotsTurnSpec.post enc Try.prog Try.f4 false true false false) := by
  refine returnsInHanded_of_change (C := Try.checked) own started (by kernel_rfl) Try.func4
    (ChangeSpec.witness6 (enc := enc) (C := Try.checked) false ⟨#[], #[.slice none 0 0], []⟩ 8 (by kernel_rfl) (by kernel_rfl) (by kernel_rfl) (by kernel_rfl)) ?_
  intro W base args ds gs before hval0 hW hcnd _
  have hval : ∀ (j : Nat) t v, Try.f4.params[j]? = some t → args[j]? = some v → Value.okWide Try.prog W .any base t v := hval0
  have hW' := hW
  obtain ⟨p, q, hA0, hV, rfl, hfz, hnd⟩ := hW
  have hA : DataW.TrodAll enc Try.prog W 0 (fun _ => true) true Try.f4.params.toList args.toList ds p := hA0
  rw [Try.params4] at hA hval
  obtain ⟨v0, vs0, d0, ds0, p0, q0, hargs, rfl, rfl, h0, r0⟩ := trodAll_cons hA
  obtain ⟨rfl, rfl, rfl⟩ := trodAll_nil r0
  obtain rfl : args = #[v0] := by cases args; simp_all
  obtain ⟨rfl, rfl⟩ := trodVars_none hV
  have lt0 : ∀ x ∈ p0, x.block < W.heap.size := by obtain ⟨m, hm⟩ := h0; exact DataW.trod_lt m _ _ _ hm
  obtain ⟨ao, len, cap, rfl, le, tx⟩ := Sl.open_texts (hval 0 43 v0 rfl rfl) h0
  clear hA0 hval0
  refine (walk _ _ _ W le tx).mono fun e W' ⟨he, bel⟩ => ?_
  subst he
  exact ⟨_, rfl, _, _, _, [], _, [], hW', trodAll_mk1 (shut_bool Try.underlying4 _), (trodAll_cons_mk (Below.trod laidOut (by kernel_rfl) (of_decide_eq_true (by kernel_rfl)) h0 bel lt0) trodAll_mk0), rfl, bel.frame _, fun h => by cases h⟩

theorem proved : Rows.SlotsTurnSaid :=
  OpenClaim.holds_of_wide 4 Try.f4 rfl rfl rfl rfl rfl rfl rfl ⟨rfl, rfl, rfl, rfl, rfl⟩ rfl rfl rfl rfl rfl (by kernel_rfl) Try.func4 (by kernel_rfl)
    (of_decide_eq_true (by kernel_rfl)) (by unfold Func.isWrapper; first | (rw [if_pos (by decide +kernel)]; kernel_rfl) | (rw [if_neg (by decide +kernel)]; exact ⟨rfl, rfl⟩))
    (fun os started H enc _ => lifted os started H enc)
#print axioms proved
end Go.Proofs.Ytgfpnjidpdjpaaa.slotsTurn
