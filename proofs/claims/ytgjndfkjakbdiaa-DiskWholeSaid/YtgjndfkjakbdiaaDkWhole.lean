/- horariumlaw05.DiskWhole answers true at every row of numbers and either flag, and leaves its arguments as they were: a crash that lets each write become whole is as a flush; one that loses all is as if nothing was written since. No condition. -/
import Derived.Test.YtgjndfkjakbdiaaDkT
import Derived.Deep.DeepCutAuto
import Derived.Deep.RegionHeld3
import Derived.BigQuiet
namespace Go.Proofs.Ytgjndfkjakbdiaa.diskWhole
open Go.ChangeShapes Go.WideShapes Go.ChangeAt Go.RowKit Go.Joins
set_option linter.unusedVariables false
set_option linter.unusedSimpArgs false
open Dk
/-- the second disk's writes: those of the first, or none -/
def other : Bool → List (Nat × List UInt8) → List (Nat × List UInt8) | true, _ => [] | false, O => O
structure In (B a b : Nat) (lost : Bool) (w : World) (i : Nat) (O : List (Nat × List UInt8)) (v : Value) (wx : World) : Prop where
  two : Two B a b ⟨(newR 4).sec, O, 0, 0⟩ ⟨(newR 4).sec, other lost O, 0, 0⟩ wx
  len : O.length = i
  row : FRow B wx v i
  below : Below B w wx
def WhRel (B a b : Nat) (lost : Bool) (w : World) (m : Nat) (s8 s9 s10 : Value) (wx : World) : Prop := ∃ (i : Nat) (O : List (Nat × List UInt8)), i + m = 12 ∧ s9 = .int .i64 (i : Int) ∧ s10 = .int .i64 (i : Int) ∧ In B a b lost w i O s8 wx
/-- what is left: two disks that lie the same, without open writes -/
def ReRel (B a b : Nat) (S : List (List UInt8)) (w : World) (m : Nat) (s13 : Value) (wx : World) : Prop := ∃ k : Nat, k + m = 4 ∧ s13 = .int .i64 (k : Int) ∧ Two B a b ⟨S, [], 0, k⟩ ⟨S, [], 0, k⟩ wx ∧ Below B w wx
theorem new4 : newR 4 = ⟨(newR 4).sec, [], 0, 0⟩ := rfl

set_option maxRecDepth 100000 in
set_option maxHeartbeats 8000000 in
theorem walk_false (ap : Option Addr) (np cp : Nat) (f : Nat → Int) (w : World) (hp : np ≤ 9223372036854775807) (hv : Vals ap np (fun i => .int .i64 (f i)) w) :
    Calls Try.prog 5 #[.slice ap np cp, .bool false] w fun e w' => e = .returned (.bool true) ∧ Below w.heap.size w w' := by
  go_enter Try.func5, Try.ntmps5
  go_wp2_with fail
  (with_reducible refine (awake_any _).mono ?_)
  rintro e w1 ⟨rfl, b1⟩
  have NW : Hid (∀ w : World, Calls Try.prog 10 #[.int .i64 4] w fun e w' => e = .returned (ptr (w.heap.size + 1)) ∧ Dk w.heap.size (w.heap.size + 1) (newR 4) w' ∧ Below w.heap.size w w') := Lib.hid (fun w => new_yes 4 w (by omega) (by omega))
  go_wp2_with fail
  (with_reducible refine (NW.out _).mono ?_)
  rintro e w2 ⟨rfl, k2, b2⟩
  generalize w1.heap.size + 1 = a at *
  go_wp2_with fail
  (with_reducible refine (NW.out _).mono ?_)
  rintro e w3 ⟨rfl, k3, b3⟩
  generalize w2.heap.size + 1 = b at *
  have l2 := b1.trans (b2.mono b1.size)
  have T0 : Hid (Two w.heap.size a b ⟨(newR 4).sec, [], 0, 0⟩ ⟨(newR 4).sec, other false [], 0, 0⟩ w3) := Lib.hid (two_new (k2.mono b1.size) k3 (Nat.le_refl _) l2.size b3)
  have l3 := Lib.hid (l2.trans (b3.mono l2.size))
  clear NW b1 b2 b3 k2 k3 l2
  have HV := Lib.hid hv
  clear hv
  go_wp2_with fail
  go_loopg [8, 9, 10] 12 (WhRel w.heap.size a b false w)
  case atStart => exact ⟨0, [], by omega, rfl, rfl, ⟨T0.out, rfl, World.ownsRow_nil _ _ _ _, l3.out⟩⟩
  case round =>
    clear T0 l3
    obtain ⟨i, O, hi, rfl, rfl, hin⟩ := hrel
    have hend : Hid (Below w.heap.size w wr) := Lib.hid hin.below
    have hOl := hin.len
    rcases (show (i < np ∧ i < 12) ∨ ¬ (i < np ∧ i < 12) by omega) with ⟨hip, hlt⟩ | hex
    · have hg0 : 0 < gk := by omega
      obtain ⟨ba, off, rfl, hba, hca⟩ := HV.out (by omega)
      have hc : wr.cell? ⟨ba, off + i, none⟩ = some (.int .i64 (f i)) := by rw [hend.out.cell (p := ⟨ba, off + i, none⟩) hba]; exact hca i hip
      obtain ⟨q, ha, ha4⟩ := four (f i)
      generalize f i = z at *
      have FC : Hid (∀ w : World, Calls Try.prog 12 #[.int .u8 (1 + (i : Int))] w fun e w' => e = .returned (.string (mkB (List.replicate 64 (UInt8.ofNat (i + 1))))) ∧ Below w.heap.size w w') := Lib.hid (fun w => by
        have := fill_any (i + 1) w (by omega)
        rwa [show ((i + 1 : Nat) : Int) = 1 + (i : Int) by omega] at this)
      have KW := Lib.hid (fun (s : DS) (b : Nat) w' (k' : Dk w.heap.size b s w') (h4 : s.sec.length = 4) (hf : s.fail = 0) (ho : s.opn.length ≤ 12) => wr_calm w.heap.size b s q (mkB (List.replicate 64 (UInt8.ofNat (i + 1)))) w' k' (by omega) (by rw [mkB_size]; simp) hf (by omega))
      have tl : (mkB (List.replicate 64 (UInt8.ofNat (i + 1)))).data.toList.length = 64 := by rw [mkB_data]; simp
      have HI := Lib.hid hin
      have hm : (1 + (i : Int)) % 256 = 1 + (i : Int) := by omega
      have hip2 : (i : Int) < (np : Int) := by omega
      have hlt2 : (i : Int) < 12 := by omega
      generalize mkB (List.replicate 64 (UInt8.ofNat (i + 1))) = T at *
      have HOL := Lib.hid hOl
      have HII := Lib.hid hi
      clear hin hca hOl hi
      go_wp2_with fail
      (with_reducible refine (FC.out _).mono ?_)
      rintro e w3 ⟨rfl, b3⟩
      have t3 := HI.out.two.call b3
      have r3 := HI.out.row.call b3
      have l3 := HI.out.below.trans (b3.mono HI.out.two.fst.le)
      have hc3 : w3.cell? ⟨ba, off + i, none⟩ = some (.int .i64 z) := by rw [b3.cell (p := ⟨ba, off + i, none⟩) (lt_of_cell hc)]; exact hc
      have T3 := Lib.hid (And.intro t3 (And.intro r3 l3))
      clear t3 r3 l3 b3 hc
      go_wp2_with fail
      (with_reducible refine (KW.out _ _ _ T3.out.1.fst (by simp [newR]) rfl (by show O.length ≤ 12; rw [HOL.out]; omega)).mono ?_)
      rintro e w4 ⟨rfl, k4, m4⟩
      have t4 := T3.out.1.left k4 m4
      have r4 := T3.out.2.1.disk T3.out.1.fst m4
      have l4 := T3.out.2.2.trans (T3.out.1.fst.below m4)
      have hc4 : w4.cell? ⟨ba, off + i, none⟩ = some (.int .i64 z) := by rw [l4.cell (p := ⟨ba, off + i, none⟩) hba, ← T3.out.2.2.cell (p := ⟨ba, off + i, none⟩) hba]; exact hc3
      have T4 := Lib.hid (And.intro t4 (And.intro r4 l4))
      clear t4 r4 l4 k4 m4 T3 hc3
      have hoo := Lib.hid (show (DS.mk (newR 4).sec (other false O) 0 0).opn.length ≤ 12 from by show O.length ≤ 12; rw [HOL.out]; omega)
      go_wp2_with fail
      (with_reducible refine (KW.out _ _ _ T4.out.1.snd (by simp [newR]) rfl hoo.out).mono ?_)
      rintro e w5 ⟨rfl, k5, m5⟩
      have t5 := T4.out.1.right k5 m5
      have r5 := T4.out.2.1.disk T4.out.1.snd m5
      have l5 := T4.out.2.2.trans (T4.out.1.snd.below m5)
      have T5 : Hid (Two w.heap.size a b ⟨(newR 4).sec, O ++ [(q, T.data.toList)], 0, 0⟩ ⟨(newR 4).sec, other false (O ++ [(q, T.data.toList)]), 0, 0⟩ w5 ∧ FRow w.heap.size w5 _ i ∧ Below w.heap.size w w5) := Lib.hid ⟨t5, r5, l5⟩
      clear t5 r5 l5 k5 m5 T4 hc4 KW FC
      obtain ⟨v', w6, hap, r6, e6, b6, z6⟩ := frow_append w.heap.size w5 _ i T5.out.2.1 (by omega) T5.out.1.fst.le
      have T6 : Hid (In w.heap.size a b false w (i + 1) (O ++ [(q, T.data.toList)]) v' w6) := Lib.hid (by
        have hk : ∀ k, (Own w5 a k ∨ Own w5 b k) → w6.heap[k]? = w5.heap[k]? := fun k hk => by
          rcases hk with hk | hk
          · exact e6 k (T5.out.1.fst.ownLt hk).2 (fun e => T5.out.2.1.off T5.out.1.fst e hk)
          · exact e6 k (T5.out.1.snd.ownLt hk).2 (fun e => T5.out.2.1.off T5.out.1.snd e hk)
        obtain ⟨⟨ga, va, da⟩, ⟨gb, vb, db⟩, ap⟩ := T5.out.1
        exact ⟨⟨⟨ga, va, da.of_blocks fun k h => hk k (.inl h)⟩, ⟨gb, vb, db.of_blocks fun k h => hk k (.inr h)⟩, fun k ka kb => ap k (ka.of_block (hk a (.inl (.inl rfl)))) (kb.of_block (hk b (.inr (.inl rfl))))⟩, by rw [List.length_append, HOL.out]; rfl, r6, T5.out.2.2.trans b6⟩)
      clear r6 e6 b6 z6 T5 HI
      go_wp2_with (at_builtin; refine Lib.wpList_append_run _ rfl _ _ _ _ rfl _ _ rfl rfl _ _ hap ?_)
      go_roundg (gk - 1)
      case measure => omega
      case rel => exact ⟨i + 1, _, by have := HII.out; omega, by go_num, by go_num, T6.out⟩
    · have HI := Lib.hid hin
      have hi12 : i ≤ 12 := by omega
      have HOL := Lib.hid hOl
      clear hin hend hOl
      have PC := Lib.hid (fun (w' : World) (n : Nat) (k' : Dk w.heap.size b ⟨(newR 4).sec, other false O, 0, 0⟩ w') => fl_calm w.heap.size b _ w' k' rfl (by show O.length ≤ _; rw [HOL.out]; omega))
      obtain ⟨ao, fc, hs8, hF, hoff⟩ := HI.out.row.fats
      have CR := crash_any w.heap.size a ⟨(newR 4).sec, O, 0, 0⟩ ao (List.replicate i (1, 0)) fc wr HI.out.two.fst hF (fun _ k off e hk => HI.out.row.off HI.out.two.fst (hoff k off e) hk) (by show O.length ≤ _; rw [HOL.out]; omega) (by simp; omega)
      have hcr := crash_ones ⟨(newR 4).sec, O, 0, 0⟩
      rw [show (DS.mk (newR 4).sec O 0 0).opn.length = i from HOL.out] at hcr
      rw [hcr] at CR
      clear hcr hF hoff
      rw [List.length_replicate] at hs8 CR
      subst hs8
      replace CR := Lib.hid CR
      rcases (show (i < np ∧ ¬ i < 12) ∨ ¬ i < np by omega) with ⟨x1, x2⟩ | x1
      · have y1 : (i : Int) < (np : Int) := by omega
        have y2 : (12 : Int) ≤ (i : Int) := by omega
        clear hex x1 x2
        go_wp2_with fail
        (with_reducible refine CR.out.mono ?_)
        rintro e w3 ⟨rfl, k3, m3⟩
        have t3 := HI.out.two.left k3 m3
        have T3 := Lib.hid (And.intro t3 (HI.out.below.trans (HI.out.two.fst.below m3)))
        clear t3 k3 m3 CR HI
        go_wp2_with fail
        (with_reducible refine (PC.out _ 0 T3.out.1.snd).mono ?_)
        rintro e w4 ⟨rfl, k4, m4⟩
        have T4 : Hid (Two w.heap.size a b ⟨(flushedS ⟨(newR 4).sec, O, 0, 0⟩), [], 0, 0⟩ ⟨(flushedS ⟨(newR 4).sec, O, 0, 0⟩), [], 0, 0⟩ w4 ∧ Below w.heap.size w w4) := Lib.hid ⟨T3.out.1.right k4 m4, T3.out.2.trans (T3.out.1.snd.below m4)⟩
        clear k4 m4 T3 PC
        generalize hSS : (flushedS ⟨(newR 4).sec, O, 0, 0⟩) = S at *
        have h4 : S.length = 4 := by rw [← hSS]; unfold flushedS; rw [laid_length]; simp [newR]
        clear hSS
        go_wp2_with fail
        go_loopg [13] 4 (ReRel w.heap.size a b S w)
        case atStart => exact ⟨0, by omega, rfl, T4.out⟩
        case round =>
          clear T4
          obtain ⟨k, hk, rfl, ht, hb⟩ := hrel
          have H := Lib.hid (And.intro ht hb)
          clear ht hb
          rcases Nat.lt_or_ge k 4 with hk4 | hk4
          · have RA := Lib.hid (fun w' (k' : Dk w.heap.size a ⟨S, [], 0, k⟩ w') => rd_calm w.heap.size a _ k w' k' (by show k < S.length; omega) rfl (by show 0 ≤ _; omega) (by show k ≤ _; omega))
            have RB := Lib.hid (fun w' (k' : Dk w.heap.size b ⟨S, [], 0, k⟩ w') => rd_calm w.heap.size b _ k w' k' (by show k < S.length; omega) rfl (by show 0 ≤ _; omega) (by show k ≤ _; omega))
            have tt : ((mkB (newestOf ⟨S, [], 0, k⟩ k)).toList == (mkB (newestOf ⟨S, [], 0, k⟩ k)).toList) = true := by simp
            have tu : ((mkB (newestOf ⟨S, [], 0, k⟩ k)).toList != (mkB (newestOf ⟨S, [], 0, k⟩ k)).toList) = false := by simp
            generalize mkB (newestOf ⟨S, [], 0, k⟩ k) = X at *
            have k4i : (k : Int) < 4 := by omega
            go_wp2_with fail
            (with_reducible refine (RA.out _ H.out.1.fst).mono ?_)
            rintro e w5 ⟨rfl, k5, m5⟩
            have T5 := Lib.hid (And.intro (H.out.1.left k5 m5) (H.out.2.trans (H.out.1.fst.below m5)))
            clear k5 m5 H RA
            go_wp2_with fail
            (with_reducible refine (RB.out _ T5.out.1.snd).mono ?_)
            rintro e w6 ⟨rfl, k6, m6⟩
            have T6 := Lib.hid (And.intro (T5.out.1.right k6 m6) (T5.out.2.trans (T5.out.1.snd.below m6)))
            clear k6 m6 T5 RB
            go_wp2
            go_roundg (gk - 1)
            case measure => omega
            case rel => exact ⟨k + 1, by omega, by go_num, T6.out⟩
          · have k4i : (4 : Int) ≤ (k : Int) := by omega
            go_wp2
            go_ret
            exact ⟨rfl, H.out.2⟩
      · have y1 : (np : Int) ≤ (i : Int) := by omega
        clear hex x1 
        go_wp2_with fail
        (with_reducible refine CR.out.mono ?_)
        rintro e w3 ⟨rfl, k3, m3⟩
        have t3 := HI.out.two.left k3 m3
        have T3 := Lib.hid (And.intro t3 (HI.out.below.trans (HI.out.two.fst.below m3)))
        clear t3 k3 m3 CR HI
        go_wp2_with fail
        (with_reducible refine (PC.out _ 0 T3.out.1.snd).mono ?_)
        rintro e w4 ⟨rfl, k4, m4⟩
        have T4 : Hid (Two w.heap.size a b ⟨(flushedS ⟨(newR 4).sec, O, 0, 0⟩), [], 0, 0⟩ ⟨(flushedS ⟨(newR 4).sec, O, 0, 0⟩), [], 0, 0⟩ w4 ∧ Below w.heap.size w w4) := Lib.hid ⟨T3.out.1.right k4 m4, T3.out.2.trans (T3.out.1.snd.below m4)⟩
        clear k4 m4 T3 PC
        generalize hSS : (flushedS ⟨(newR 4).sec, O, 0, 0⟩) = S at *
        have h4 : S.length = 4 := by rw [← hSS]; unfold flushedS; rw [laid_length]; simp [newR]
        clear hSS
        go_wp2_with fail
        go_loopg [13] 4 (ReRel w.heap.size a b S w)
        case atStart => exact ⟨0, by omega, rfl, T4.out⟩
        case round =>
          clear T4
          obtain ⟨k, hk, rfl, ht, hb⟩ := hrel
          have H := Lib.hid (And.intro ht hb)
          clear ht hb
          rcases Nat.lt_or_ge k 4 with hk4 | hk4
          · have RA := Lib.hid (fun w' (k' : Dk w.heap.size a ⟨S, [], 0, k⟩ w') => rd_calm w.heap.size a _ k w' k' (by show k < S.length; omega) rfl (by show 0 ≤ _; omega) (by show k ≤ _; omega))
            have RB := Lib.hid (fun w' (k' : Dk w.heap.size b ⟨S, [], 0, k⟩ w') => rd_calm w.heap.size b _ k w' k' (by show k < S.length; omega) rfl (by show 0 ≤ _; omega) (by show k ≤ _; omega))
            have tt : ((mkB (newestOf ⟨S, [], 0, k⟩ k)).toList == (mkB (newestOf ⟨S, [], 0, k⟩ k)).toList) = true := by simp
            have tu : ((mkB (newestOf ⟨S, [], 0, k⟩ k)).toList != (mkB (newestOf ⟨S, [], 0, k⟩ k)).toList) = false := by simp
            generalize mkB (newestOf ⟨S, [], 0, k⟩ k) = X at *
            have k4i : (k : Int) < 4 := by omega
            go_wp2_with fail
            (with_reducible refine (RA.out _ H.out.1.fst).mono ?_)
            rintro e w5 ⟨rfl, k5, m5⟩
            have T5 := Lib.hid (And.intro (H.out.1.left k5 m5) (H.out.2.trans (H.out.1.fst.below m5)))
            clear k5 m5 H RA
            go_wp2_with fail
            (with_reducible refine (RB.out _ T5.out.1.snd).mono ?_)
            rintro e w6 ⟨rfl, k6, m6⟩
            have T6 := Lib.hid (And.intro (T5.out.1.right k6 m6) (T5.out.2.trans (T5.out.1.snd.below m6)))
            clear k6 m6 T5 RB
            go_wp2
            go_roundg (gk - 1)
            case measure => omega
            case rel => exact ⟨k + 1, by omega, by go_num, T6.out⟩
          · have k4i : (4 : Int) ≤ (k : Int) := by omega
            go_wp2
            go_ret
            exact ⟨rfl, H.out.2⟩
set_option maxRecDepth 100000 in
set_option maxHeartbeats 8000000 in
theorem walk_true (ap : Option Addr) (np cp : Nat) (f : Nat → Int) (w : World) (hp : np ≤ 9223372036854775807) (hv : Vals ap np (fun i => .int .i64 (f i)) w) :
    Calls Try.prog 5 #[.slice ap np cp, .bool true] w fun e w' => e = .returned (.bool true) ∧ Below w.heap.size w w' := by
  go_enter Try.func5, Try.ntmps5
  go_wp2_with fail
  (with_reducible refine (awake_any _).mono ?_)
  rintro e w1 ⟨rfl, b1⟩
  have NW : Hid (∀ w : World, Calls Try.prog 10 #[.int .i64 4] w fun e w' => e = .returned (ptr (w.heap.size + 1)) ∧ Dk w.heap.size (w.heap.size + 1) (newR 4) w' ∧ Below w.heap.size w w') := Lib.hid (fun w => new_yes 4 w (by omega) (by omega))
  go_wp2_with fail
  (with_reducible refine (NW.out _).mono ?_)
  rintro e w2 ⟨rfl, k2, b2⟩
  generalize w1.heap.size + 1 = a at *
  go_wp2_with fail
  (with_reducible refine (NW.out _).mono ?_)
  rintro e w3 ⟨rfl, k3, b3⟩
  generalize w2.heap.size + 1 = b at *
  have l2 := b1.trans (b2.mono b1.size)
  have T0 : Hid (Two w.heap.size a b ⟨(newR 4).sec, [], 0, 0⟩ ⟨(newR 4).sec, other true [], 0, 0⟩ w3) := Lib.hid (two_new (k2.mono b1.size) k3 (Nat.le_refl _) l2.size b3)
  have l3 := Lib.hid (l2.trans (b3.mono l2.size))
  clear NW b1 b2 b3 k2 k3 l2
  have HV := Lib.hid hv
  clear hv
  go_wp2_with fail
  go_loopg [8, 9, 10] 12 (WhRel w.heap.size a b true w)
  case atStart => exact ⟨0, [], by omega, rfl, rfl, ⟨T0.out, rfl, World.ownsRow_nil _ _ _ _, l3.out⟩⟩
  case round =>
    clear T0 l3
    obtain ⟨i, O, hi, rfl, rfl, hin⟩ := hrel
    have hend : Hid (Below w.heap.size w wr) := Lib.hid hin.below
    have hOl := hin.len
    rcases (show (i < np ∧ i < 12) ∨ ¬ (i < np ∧ i < 12) by omega) with ⟨hip, hlt⟩ | hex
    · have hg0 : 0 < gk := by omega
      obtain ⟨ba, off, rfl, hba, hca⟩ := HV.out (by omega)
      have hc : wr.cell? ⟨ba, off + i, none⟩ = some (.int .i64 (f i)) := by rw [hend.out.cell (p := ⟨ba, off + i, none⟩) hba]; exact hca i hip
      obtain ⟨q, ha, ha4⟩ := four (f i)
      generalize f i = z at *
      have FC : Hid (∀ w : World, Calls Try.prog 12 #[.int .u8 (1 + (i : Int))] w fun e w' => e = .returned (.string (mkB (List.replicate 64 (UInt8.ofNat (i + 1))))) ∧ Below w.heap.size w w') := Lib.hid (fun w => by
        have := fill_any (i + 1) w (by omega)
        rwa [show ((i + 1 : Nat) : Int) = 1 + (i : Int) by omega] at this)
      have KW := Lib.hid (fun (s : DS) (b : Nat) w' (k' : Dk w.heap.size b s w') (h4 : s.sec.length = 4) (hf : s.fail = 0) (ho : s.opn.length ≤ 12) => wr_calm w.heap.size b s q (mkB (List.replicate 64 (UInt8.ofNat (i + 1)))) w' k' (by omega) (by rw [mkB_size]; simp) hf (by omega))
      have tl : (mkB (List.replicate 64 (UInt8.ofNat (i + 1)))).data.toList.length = 64 := by rw [mkB_data]; simp
      have HI := Lib.hid hin
      have hm : (1 + (i : Int)) % 256 = 1 + (i : Int) := by omega
      have hip2 : (i : Int) < (np : Int) := by omega
      have hlt2 : (i : Int) < 12 := by omega
      generalize mkB (List.replicate 64 (UInt8.ofNat (i + 1))) = T at *
      have HOL := Lib.hid hOl
      have HII := Lib.hid hi
      clear hin hca hOl hi
      go_wp2_with fail
      (with_reducible refine (FC.out _).mono ?_)
      rintro e w3 ⟨rfl, b3⟩
      have t3 := HI.out.two.call b3
      have r3 := HI.out.row.call b3
      have l3 := HI.out.below.trans (b3.mono HI.out.two.fst.le)
      have hc3 : w3.cell? ⟨ba, off + i, none⟩ = some (.int .i64 z) := by rw [b3.cell (p := ⟨ba, off + i, none⟩) (lt_of_cell hc)]; exact hc
      have T3 := Lib.hid (And.intro t3 (And.intro r3 l3))
      clear t3 r3 l3 b3 hc
      go_wp2_with fail
      (with_reducible refine (KW.out _ _ _ T3.out.1.fst (by simp [newR]) rfl (by show O.length ≤ 12; rw [HOL.out]; omega)).mono ?_)
      rintro e w4 ⟨rfl, k4, m4⟩
      have t4 := T3.out.1.left k4 m4
      have r4 := T3.out.2.1.disk T3.out.1.fst m4
      have l4 := T3.out.2.2.trans (T3.out.1.fst.below m4)
      have hc4 : w4.cell? ⟨ba, off + i, none⟩ = some (.int .i64 z) := by rw [l4.cell (p := ⟨ba, off + i, none⟩) hba, ← T3.out.2.2.cell (p := ⟨ba, off + i, none⟩) hba]; exact hc3
      have T4 := Lib.hid (And.intro t4 (And.intro r4 l4))
      clear t4 r4 l4 k4 m4 T3 hc3
      have T5 : Hid (Two w.heap.size a b ⟨(newR 4).sec, O ++ [(q, T.data.toList)], 0, 0⟩ ⟨(newR 4).sec, other true (O ++ [(q, T.data.toList)]), 0, 0⟩ w4 ∧ FRow w.heap.size w4 _ i ∧ Below w.heap.size w w4) := Lib.hid T4.out
      clear T4 hc4 KW FC
      obtain ⟨w5, hw5⟩ : ∃ w5, w5 = w4 := ⟨_, rfl⟩
      subst hw5
      obtain ⟨v', w6, hap, r6, e6, b6, z6⟩ := frow_append w.heap.size w5 _ i T5.out.2.1 (by omega) T5.out.1.fst.le
      have T6 : Hid (In w.heap.size a b true w (i + 1) (O ++ [(q, T.data.toList)]) v' w6) := Lib.hid (by
        have hk : ∀ k, (Own w5 a k ∨ Own w5 b k) → w6.heap[k]? = w5.heap[k]? := fun k hk => by
          rcases hk with hk | hk
          · exact e6 k (T5.out.1.fst.ownLt hk).2 (fun e => T5.out.2.1.off T5.out.1.fst e hk)
          · exact e6 k (T5.out.1.snd.ownLt hk).2 (fun e => T5.out.2.1.off T5.out.1.snd e hk)
        obtain ⟨⟨ga, va, da⟩, ⟨gb, vb, db⟩, ap⟩ := T5.out.1
        exact ⟨⟨⟨ga, va, da.of_blocks fun k h => hk k (.inl h)⟩, ⟨gb, vb, db.of_blocks fun k h => hk k (.inr h)⟩, fun k ka kb => ap k (ka.of_block (hk a (.inl (.inl rfl)))) (kb.of_block (hk b (.inr (.inl rfl))))⟩, by rw [List.length_append, HOL.out]; rfl, r6, T5.out.2.2.trans b6⟩)
      clear r6 e6 b6 z6 T5 HI
      go_wp2_with (at_builtin; refine Lib.wpList_append_run _ rfl _ _ _ _ rfl _ _ rfl rfl _ _ hap ?_)
      go_roundg (gk - 1)
      case measure => omega
      case rel => exact ⟨i + 1, _, by have := HII.out; omega, by go_num, by go_num, T6.out⟩
    · have HI := Lib.hid hin
      have hi12 : i ≤ 12 := by omega
      have HOL := Lib.hid hOl
      clear hin hend hOl
      have PC := Lib.hid (fun (w' : World) (n : Nat) (k' : Dk w.heap.size b ⟨(newR 4).sec, other true O, 0, 0⟩ w') => fl_calm w.heap.size b _ w' k' rfl (by show 0 ≤ _; omega))
      have CR : Hid (Calls Try.prog 19 #[ptr a, .slice none 0 0] wr fun e w' => e = .returned (.int .i64 (i : Int)) ∧ Dk w.heap.size a ⟨(newR 4).sec, [], 0, 0⟩ w' ∧ Moved a wr w') := Lib.hid (by
        have := crash_any w.heap.size a ⟨(newR 4).sec, O, 0, 0⟩ none [] 0 wr HI.out.two.fst (fats_nil _) (fun _ => off_nil _ _) (by show O.length ≤ _; rw [HOL.out]; omega) (by simp)
        rw [crash_none] at this
        rw [show (DS.mk (newR 4).sec O 0 0).opn.length = i from HOL.out] at this
        exact this)
      rcases (show (i < np ∧ ¬ i < 12) ∨ ¬ i < np by omega) with ⟨x1, x2⟩ | x1
      · have y1 : (i : Int) < (np : Int) := by omega
        have y2 : (12 : Int) ≤ (i : Int) := by omega
        clear hex x1 x2
        go_wp2_with fail
        (with_reducible refine CR.out.mono ?_)
        rintro e w3 ⟨rfl, k3, m3⟩
        have t3 := HI.out.two.left k3 m3
        have T3 := Lib.hid (And.intro t3 (HI.out.below.trans (HI.out.two.fst.below m3)))
        clear t3 k3 m3 CR HI
        go_wp2_with fail
        (with_reducible refine (PC.out _ 0 T3.out.1.snd).mono ?_)
        rintro e w4 ⟨rfl, k4, m4⟩
        have T4 : Hid (Two w.heap.size a b ⟨(newR 4).sec, [], 0, 0⟩ ⟨(newR 4).sec, [], 0, 0⟩ w4 ∧ Below w.heap.size w w4) := Lib.hid ⟨T3.out.1.right k4 m4, T3.out.2.trans (T3.out.1.snd.below m4)⟩
        clear k4 m4 T3 PC
        generalize hSS : (newR 4).sec = S at *
        have h4 : S.length = 4 := by rw [← hSS]; simp [newR]
        clear hSS
        go_wp2_with fail
        go_loopg [13] 4 (ReRel w.heap.size a b S w)
        case atStart => exact ⟨0, by omega, rfl, T4.out⟩
        case round =>
          clear T4
          obtain ⟨k, hk, rfl, ht, hb⟩ := hrel
          have H := Lib.hid (And.intro ht hb)
          clear ht hb
          rcases Nat.lt_or_ge k 4 with hk4 | hk4
          · have RA := Lib.hid (fun w' (k' : Dk w.heap.size a ⟨S, [], 0, k⟩ w') => rd_calm w.heap.size a _ k w' k' (by show k < S.length; omega) rfl (by show 0 ≤ _; omega) (by show k ≤ _; omega))
            have RB := Lib.hid (fun w' (k' : Dk w.heap.size b ⟨S, [], 0, k⟩ w') => rd_calm w.heap.size b _ k w' k' (by show k < S.length; omega) rfl (by show 0 ≤ _; omega) (by show k ≤ _; omega))
            have tt : ((mkB (newestOf ⟨S, [], 0, k⟩ k)).toList == (mkB (newestOf ⟨S, [], 0, k⟩ k)).toList) = true := by simp
            have tu : ((mkB (newestOf ⟨S, [], 0, k⟩ k)).toList != (mkB (newestOf ⟨S, [], 0, k⟩ k)).toList) = false := by simp
            generalize mkB (newestOf ⟨S, [], 0, k⟩ k) = X at *
            have k4i : (k : Int) < 4 := by omega
            go_wp2_with fail
            (with_reducible refine (RA.out _ H.out.1.fst).mono ?_)
            rintro e w5 ⟨rfl, k5, m5⟩
            have T5 := Lib.hid (And.intro (H.out.1.left k5 m5) (H.out.2.trans (H.out.1.fst.below m5)))
            clear k5 m5 H RA
            go_wp2_with fail
            (with_reducible refine (RB.out _ T5.out.1.snd).mono ?_)
            rintro e w6 ⟨rfl, k6, m6⟩
            have T6 := Lib.hid (And.intro (T5.out.1.right k6 m6) (T5.out.2.trans (T5.out.1.snd.below m6)))
            clear k6 m6 T5 RB
            go_wp2
            go_roundg (gk - 1)
            case measure => omega
            case rel => exact ⟨k + 1, by omega, by go_num, T6.out⟩
          · have k4i : (4 : Int) ≤ (k : Int) := by omega
            go_wp2
            go_ret
            exact ⟨rfl, H.out.2⟩
      · have y1 : (np : Int) ≤ (i : Int) := by omega
        clear hex x1 
        go_wp2_with fail
        (with_reducible refine CR.out.mono ?_)
        rintro e w3 ⟨rfl, k3, m3⟩
        have t3 := HI.out.two.left k3 m3
        have T3 := Lib.hid (And.intro t3 (HI.out.below.trans (HI.out.two.fst.below m3)))
        clear t3 k3 m3 CR HI
        go_wp2_with fail
        (with_reducible refine (PC.out _ 0 T3.out.1.snd).mono ?_)
        rintro e w4 ⟨rfl, k4, m4⟩
        have T4 : Hid (Two w.heap.size a b ⟨(newR 4).sec, [], 0, 0⟩ ⟨(newR 4).sec, [], 0, 0⟩ w4 ∧ Below w.heap.size w w4) := Lib.hid ⟨T3.out.1.right k4 m4, T3.out.2.trans (T3.out.1.snd.below m4)⟩
        clear k4 m4 T3 PC
        generalize hSS : (newR 4).sec = S at *
        have h4 : S.length = 4 := by rw [← hSS]; simp [newR]
        clear hSS
        go_wp2_with fail
        go_loopg [13] 4 (ReRel w.heap.size a b S w)
        case atStart => exact ⟨0, by omega, rfl, T4.out⟩
        case round =>
          clear T4
          obtain ⟨k, hk, rfl, ht, hb⟩ := hrel
          have H := Lib.hid (And.intro ht hb)
          clear ht hb
          rcases Nat.lt_or_ge k 4 with hk4 | hk4
          · have RA := Lib.hid (fun w' (k' : Dk w.heap.size a ⟨S, [], 0, k⟩ w') => rd_calm w.heap.size a _ k w' k' (by show k < S.length; omega) rfl (by show 0 ≤ _; omega) (by show k ≤ _; omega))
            have RB := Lib.hid (fun w' (k' : Dk w.heap.size b ⟨S, [], 0, k⟩ w') => rd_calm w.heap.size b _ k w' k' (by show k < S.length; omega) rfl (by show 0 ≤ _; omega) (by show k ≤ _; omega))
            have tt : ((mkB (newestOf ⟨S, [], 0, k⟩ k)).toList == (mkB (newestOf ⟨S, [], 0, k⟩ k)).toList) = true := by simp
            have tu : ((mkB (newestOf ⟨S, [], 0, k⟩ k)).toList != (mkB (newestOf ⟨S, [], 0, k⟩ k)).toList) = false := by simp
            generalize mkB (newestOf ⟨S, [], 0, k⟩ k) = X at *
            have k4i : (k : Int) < 4 := by omega
            go_wp2_with fail
            (with_reducible refine (RA.out _ H.out.1.fst).mono ?_)
            rintro e w5 ⟨rfl, k5, m5⟩
            have T5 := Lib.hid (And.intro (H.out.1.left k5 m5) (H.out.2.trans (H.out.1.fst.below m5)))
            clear k5 m5 H RA
            go_wp2_with fail
            (with_reducible refine (RB.out _ T5.out.1.snd).mono ?_)
            rintro e w6 ⟨rfl, k6, m6⟩
            have T6 := Lib.hid (And.intro (T5.out.1.right k6 m6) (T5.out.2.trans (T5.out.1.snd.below m6)))
            clear k6 m6 T5 RB
            go_wp2
            go_roundg (gk - 1)
            case measure => omega
            case rel => exact ⟨k + 1, by omega, by go_num, T6.out⟩
          · have k4i : (4 : Int) ≤ (k : Int) := by omega
            go_wp2
            go_ret
            exact ⟨rfl, H.out.2⟩
theorem walk (ap : Option Addr) (np cp : Nat) (f : Nat → Int) (lost : Bool) (w : World) (hp : np ≤ 9223372036854775807) (hv : Vals ap np (fun i => .int .i64 (f i)) w) :
    Calls Try.prog 5 #[.slice ap np cp, .bool lost] w fun e w' => e = .returned (.bool true) ∧ Below w.heap.size w w' := by
  cases lost
  · exact walk_false ap np cp f w hp hv
  · exact walk_true ap np cp f w hp hv

set_option maxRecDepth 100000 in
set_option maxHeartbeats 1600000 in
theorem lifted (os : Os) (started : os.Started) (H : Type) (enc : TypeId × Value → H) :
    ReturnsInHanded {} Try.checked os 5 .any (Rows.diskWholeSpec.pre6 enc Try.prog Try.f5 Rows.diskWholeRow.domain false) (Rows.diskWholeSpec.post enc Try.prog Try.f5 false true false false) := by
  refine returnsInHanded_of_change (C := Try.checked) own started (by kernel_rfl) Try.func5
    (ChangeSpec.witness6 (enc := enc) (C := Try.checked) false ⟨#[], #[.slice none 0 0, .bool false], []⟩ 8 (by kernel_rfl) (by kernel_rfl) (by kernel_rfl) (by kernel_rfl)) ?_
  intro W base args ds gs before hval0 hW hcnd _
  have hval : ∀ (j : Nat) t v, Try.f5.params[j]? = some t → args[j]? = some v → Value.okWide Try.prog W .any base t v := hval0
  have hW' := hW
  obtain ⟨p, q, hA0, hV, rfl, hfz, hnd⟩ := hW
  have hA : DataW.TrodAll enc Try.prog W 0 (fun _ => true) true Try.f5.params.toList args.toList ds p := hA0
  rw [Try.params5] at hA hval
  obtain ⟨v0, vs0, d0, ds0, p0, q0, hargs, rfl, rfl, h0, r0⟩ := trodAll_cons hA
  obtain ⟨v1, vs1, d1, ds1, p1, q1, rfl, rfl, rfl, h1, r1⟩ := trodAll_cons r0
  obtain ⟨rfl, rfl, rfl⟩ := trodAll_nil r1
  obtain rfl : args = #[v0, v1] := by cases args; simp_all
  obtain ⟨rfl, rfl⟩ := trodVars_none hV
  have lt0 : ∀ x ∈ p0, x.block < W.heap.size := by obtain ⟨m, hm⟩ := h0; exact DataW.trod_lt m _ _ _ hm
  obtain ⟨aop, np, capp, fp, rfl, lep, inp, vap⟩ := open_row (hval 0 45 v0 rfl rfl) h0
  have lt1 : ∀ x ∈ p1, x.block < W.heap.size := by obtain ⟨m, hm⟩ := h1; exact DataW.trod_lt m _ _ _ hm
  obtain ⟨lost, e1, -, -⟩ := open_bool Try.underlying4 (hval 1 4 v1 rfl rfl) h1
  subst e1
  clear hA0 hval0
  refine (walk _ _ _ _ lost W lep vap).mono fun e W' ⟨he, bel⟩ => ?_
  subst he
  exact ⟨_, rfl, _, _, _, [], _, [], hW', trodAll_mk1 (shut_bool Try.underlying4 _), (trodAll_cons_mk (Below.trod laidOut (by kernel_rfl) (of_decide_eq_true (by kernel_rfl)) h0 bel lt0) (trodAll_cons_mk (Below.trod laidOut (by kernel_rfl) (of_decide_eq_true (by kernel_rfl)) h1 bel lt1) trodAll_mk0)), rfl, bel.frame _, fun h => by cases h⟩

theorem proved : Rows.DiskWholeSaid :=
  OpenClaim.holds_of_wide 5 Try.f5 rfl rfl rfl rfl rfl rfl rfl ⟨rfl, rfl, rfl, rfl, rfl⟩ rfl rfl rfl rfl rfl (by kernel_rfl) Try.func5 (by kernel_rfl)
    (of_decide_eq_true (by kernel_rfl)) (by unfold Func.isWrapper; first | (rw [if_pos (by decide +kernel)]; kernel_rfl) | (rw [if_neg (by decide +kernel)]; exact ⟨rfl, rfl⟩))
    (fun os started H enc _ => lifted os started H enc)
#print axioms proved
end Go.Proofs.Ytgjndfkjakbdiaa.diskWhole
