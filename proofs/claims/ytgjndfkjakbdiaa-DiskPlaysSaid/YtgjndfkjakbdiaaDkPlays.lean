/- horariumlaw05.DiskPlays answers true at every number and every script of steps, and leaves its arguments as they were: a disk goes on, step by step, as the document's own does. No condition. -/
import Derived.Test.YtgjndfkjakbdiaaDrP
import Derived.Deep.CutBlock
import Derived.Deep.DeepCutAuto
import Derived.Deep.RegionHeld3
import Derived.BigQuiet
namespace Go.Proofs.Ytgjndfkjakbdiaa.diskPlays
open Go.ChangeShapes Go.WideShapes Go.ChangeAt Go.RowKit Go.Joins
set_option linter.unusedVariables false
set_option linter.unusedSimpArgs false
open Dk
def PlRel (B d r many : Nat) (w : World) (m : Nat) (s9 : Value) (wx : World) : Prop := ∃ (i : Nat) (s : DS), i + m = 60 ∧ s9 = .int .i64 (i : Int) ∧ Pr B d r s s w wx ∧ Small s i many
def AtRel (W : World) (s11 s12 : Value) (wx : World) : Prop := ∃ (z : Int) (T : ByteArray), s11 = .int .i64 z ∧ s12 = .string T ∧ Dk.In64 z ∧ wx = W
def SwRel (B d r ob many i : Nat) (C : Array Value) (w : World) (s13 : Value) (wx : World) : Prop := ∃ s : DS, s13 = .bool true ∧ Pl B d r ob C s s w wx ∧ Small s (i + 1) many

set_option maxRecDepth 100000 in
set_option maxHeartbeats 8000000 in
theorem walk (n : Int) (ao : Option Addr) (len cap : Nat) (w : World) (hn : Dk.In64 n) (hl : len ≤ 9223372036854775807) (hv : Ops ao len w) :
    Calls Try.prog 3 #[.int .i64 n, .slice ao len cap] w fun e w' => e = .returned (.bool true) ∧ Below w.heap.size w w' := by
  have tb := tm n 6 (by omega)
  obtain ⟨many, hk⟩ : ∃ k : Nat, 1 + n.tmod 6 % 6 = (k : Int) := ⟨(1 + n.tmod 6 % 6).toNat, by omega⟩
  have hk1 : 1 ≤ many := by omega
  have hk2 : many ≤ 6 := by omega
  obtain ⟨tb1, tb2⟩ := tb
  obtain ⟨hn0, hn1⟩ := hn
  go_enter Try.func3, Try.ntmps3
  go_wp2_with fail
  (with_reducible refine (awake_any _).mono ?_)
  rintro e w1 ⟨rfl, b1⟩
  have NW := Lib.hid (new_yes many w1 (by omega) (by omega))
  go_wp2_with fail
  (with_reducible refine NW.out.mono ?_)
  rintro e w2 ⟨rfl, k2, b2⟩
  generalize w1.heap.size + 1 = d at *
  have NR := Lib.hid (new_rf many w2 (by omega))
  go_wp2_with fail
  (with_reducible refine NR.out.mono ?_)
  rintro e w3 ⟨rfl, k3, b3⟩
  have l2 := b1.trans (b2.mono b1.size)
  have P0 : Hid (PlRel w.heap.size d w2.heap.size many w 60 (.int .i64 0) w3) := Lib.hid ⟨0, newR many, rfl, rfl, ⟨(k2.mono b1.size).call b3, k3.mono l2.size, fun k ka kb => by
      have h1 := (k2.ownLt (ka.of_block (b3.block d k2.lt))).2
      have h2 := (k3.ownLt kb).1
      omega, l2.trans (b3.mono l2.size)⟩, ⟨by simp [newR], by simp [newR], by simp [newR], by simp [newR]⟩⟩
  generalize w2.heap.size = r at *
  clear NW NR b1 b2 b3 k2 k3 l2 hk tb1 tb2 hn0 hn1
  have HV := Lib.hid hv
  clear hv
  go_wp2_with fail
  go_loopg [9] 60 (PlRel w.heap.size d r many w)
  case atStart => exact P0.out
  case round =>
    clear P0
    obtain ⟨i, s, hi, rfl, pr, sm⟩ := hrel
    rcases (show (i < len ∧ i < 60) ∨ ¬ (i < len ∧ i < 60) by omega) with ⟨hip, hlt⟩ | hex
    · have hg0 : 0 < gk := by omega
      obtain ⟨ba, off, rfl, hba, hca⟩ := HV.out (by omega)
      obtain ⟨k, a, c, raw, fl, t, nn, fo, fs, fc, hop⟩ := hca i hip
      have RR := Lib.hid (show wr.rangeAt ba (off + i * 8) (opC k a c raw fl t nn (.slice fo fs.length fc)) from fun j v hv => by
        rw [pr.below.cell (p := ⟨ba, off + i * 8 + j, none⟩) hba]; exact hop.at_ j v hv)
      have hz : bits .and .i64 k 7 = k % 8 := i64_and7 k
      obtain ⟨z8, hz8⟩ : ∃ z8 : Int, bits .and .i64 k 7 = z8 := ⟨_, rfl⟩
      have z8b : 0 ≤ z8 ∧ z8 < 8 := by omega
      have P1 : Hid (Pl w.heap.size d r wr.heap.size (opC k a c raw fl t nn (.slice fo fs.length fc)).toArray s s w (wr.alloc (.cells (opC k a c raw fl t nn (.slice fo fs.length fc)).toArray 30))) := Lib.hid ⟨pr.call ((Below.refl _ _).alloc (Nat.le_refl _) _), heap_alloc_new _ _⟩
      have FC := Lib.hid (fun w => fill_byte c w)
      have ta := tm a 8 (by omega)
      have ia := hop.ia
      have il : (i : Int) < (len : Int) := by omega
      have il2 : (i : Int) < 60 := by omega
      have HI := Lib.hid hi
      have m1 : ∀ j v, (opC k a c raw fl t nn (.slice fo fs.length fc))[j]? = some v → (wr.alloc (.cells (opC k a c raw fl t nn (.slice fo fs.length fc)).toArray 30)).cell? ⟨wr.heap.size, j, none⟩ = some v := fun j v hv => by
        rw [P1.out.cell j]; simpa using hv
      have c1 := m1 1 _ rfl
      have c2 := m1 2 _ rfl
      have LC := Lib.hid (show (opC k a c raw fl t nn (.slice fo fs.length fc)).length = 8 from rfl)
      have OC := Lib.hid (show ((opC k a c raw fl t nn (.slice fo fs.length fc)).toArray.all (·.oneCell')) = true from all_oneCell_toArray (by intro v hv; simp [opC] at hv; rcases hv with rfl | rfl | rfl | rfl | rfl | rfl | rfl | rfl <;> rfl))
      obtain ⟨OPC, hOPC⟩ : ∃ OPC, OPC = opC k a c raw fl t nn (.slice fo fs.length fc) := ⟨_, rfl⟩
      rw [← hOPC] at RR P1 c1 c2 LC OC
      have HOPC := Lib.hid hOPC
      have sc : (storeCells ⟨wr.heap.size, 0, none⟩ OPC 0).run Try.prog (wr.alloc (.cells #[.int .i64 0, .int .i64 0, .int .u8 0, .bool false, .bool false, .string ⟨#[]⟩, .int .i64 0, .slice none 0 0] 30)) = .ok () (wr.alloc (.cells OPC.toArray 30)) := by
        have := run_storeCells_new (P := Try.prog) wr 30 #[.int .i64 0, .int .i64 0, .int .u8 0, .bool false, .bool false, .string ⟨#[]⟩, .int .i64 0, .slice none 0 0] OPC.toArray (by rw [List.size_toArray, LC.out]; kernel_rfl) (by show 8 = OPC.toArray.size; rw [List.size_toArray, LC.out]) OC.out
        simpa using this
      have lc8 := LC.out
      clear hca pr m1 hOPC hi hz
      obtain ⟨ta1, ta2⟩ := ta
      obtain ⟨ia1, ia2⟩ := ia
      go_wp2_with (refine wpList_load_mid rfl 30 (.tmp 42) rfl ba (off + i * 8) rfl OPC _ RR.out Try.underlying30 rfl (by rw [LC.out]; kernel_rfl) ?_)
      (with_reducible refine (FC.out _).mono ?_)
      rintro e w4 ⟨rfl, b4⟩
      have P4 := Lib.hid (P1.out.call b4)
      clear b4 FC P1 RR sc lc8 c1 c2 OC LC
      generalize wr.heap.size = ob at *
      rw [HOPC.out] at P4
      clear HOPC
      have c1 := P4.out.cell 1
      have c3 := P4.out.cell 3
      have c5 := P4.out.cell 5
      simp only [opC, List.getElem?_toArray, List.getElem?_cons_succ, List.getElem?_cons_zero] at c1 c3 c5
      generalize mkB (List.replicate 64 c) = T0 at *
      go_upto_if 54 with (fail)
      go_cut [11, 12] (AtRel w4)
      case first =>
        cases raw
        · go_wp2_with fail
          go_meet
          exact ⟨_, _, rfl, rfl, by unfold Dk.In64; omega, rfl⟩
        · go_wp2_with fail
          go_meet
          exact ⟨_, _, rfl, rfl, ⟨ia1, ia2⟩, rfl⟩
      case rest =>
        obtain ⟨zz, T, rfl, rfl, izz, hw4⟩ := hcut
        have PL : Hid (Pl w.heap.size d r ob (opC k a c raw fl t nn (.slice fo fs.length fc)).toArray s s w wc) := Lib.hid (by rw [hw4]; exact P4.out)
        clear hw4 P4 c1 c3 c5 ta1 ta2 ia1 ia2
        have c0 := PL.out.cell 0
        simp only [opC, List.getElem?_toArray, List.getElem?_cons_succ, List.getElem?_cons_zero] at c0
        go_upto_block 2 with (fail)
        clear c0 hz8
        go_cut [13] (SwRel w.heap.size d r ob many i (opC k a c raw fl t nn (.slice fo fs.length fc)).toArray w)
        case first =>
          have : z8 = 0 ∨ z8 = 1 ∨ z8 = 2 ∨ z8 = 3 ∨ z8 = 4 ∨ z8 = 5 ∨ z8 = 6 ∨ z8 = 7 := by omega
          clear z8b
          rcases this with rfl | rfl | rfl | rfl | rfl | rfl | rfl | rfl
          · have WA := Lib.hid (fun w' (k : Dk w.heap.size d s w') => write_any w.heap.size d s zz T w' k (by have := sm.opn; omega) sm.fail)
            have WB := Lib.hid (fun w' (k : Rk w.heap.size r s w') => write_rf w.heap.size r s zz T w' k (by have := sm.opn; omega) sm.fail)
            have SM := Lib.hid (sm.write zz T.data.toList)
            have tt : (((writeR s zz T.data.toList).2 : Int) == ((writeR s zz T.data.toList).2 : Int)) = true := by simp
            generalize (writeR s zz T.data.toList).1 = s' at *
            generalize ((writeR s zz T.data.toList).2 : Int) = er at *
            clear sm
            go_wp2_with fail
            (with_reducible refine (WA.out _ PL.out.pr.dk).mono ?_)
            rintro e w5 ⟨rfl, k5, m5⟩
            have P5 := Lib.hid (PL.out.left k5 m5)
            clear k5 m5 PL WA
            go_wp2_with fail
            (with_reducible refine (WB.out _ P5.out.pr.rk).mono ?_)
            rintro e w6 ⟨rfl, k6, m6⟩
            have P6 := Lib.hid (P5.out.right k6 m6)
            clear k6 m6 P5 WB
            go_wp2_with fail
            go_meet
            exact ⟨s', rfl, P6.out, SM.out⟩
          · have WA := Lib.hid (fun w' (k : Dk w.heap.size d s w') => write_any w.heap.size d s zz T w' k (by have := sm.opn; omega) sm.fail)
            have WB := Lib.hid (fun w' (k : Rk w.heap.size r s w') => write_rf w.heap.size r s zz T w' k (by have := sm.opn; omega) sm.fail)
            have SM := Lib.hid (sm.write zz T.data.toList)
            have tt : (((writeR s zz T.data.toList).2 : Int) == ((writeR s zz T.data.toList).2 : Int)) = true := by simp
            generalize (writeR s zz T.data.toList).1 = s' at *
            generalize ((writeR s zz T.data.toList).2 : Int) = er at *
            clear sm
            go_wp2_with fail
            (with_reducible refine (WA.out _ PL.out.pr.dk).mono ?_)
            rintro e w5 ⟨rfl, k5, m5⟩
            have P5 := Lib.hid (PL.out.left k5 m5)
            clear k5 m5 PL WA
            go_wp2_with fail
            (with_reducible refine (WB.out _ P5.out.pr.rk).mono ?_)
            rintro e w6 ⟨rfl, k6, m6⟩
            have P6 := Lib.hid (P5.out.right k6 m6)
            clear k6 m6 P5 WB
            go_wp2_with fail
            go_meet
            exact ⟨s', rfl, P6.out, SM.out⟩
          · have WA := Lib.hid (fun w' (k : Dk w.heap.size d s w') => write_any w.heap.size d s zz T w' k (by have := sm.opn; omega) sm.fail)
            have WB := Lib.hid (fun w' (k : Rk w.heap.size r s w') => write_rf w.heap.size r s zz T w' k (by have := sm.opn; omega) sm.fail)
            have SM := Lib.hid (sm.write zz T.data.toList)
            have tt : (((writeR s zz T.data.toList).2 : Int) == ((writeR s zz T.data.toList).2 : Int)) = true := by simp
            generalize (writeR s zz T.data.toList).1 = s' at *
            generalize ((writeR s zz T.data.toList).2 : Int) = er at *
            clear sm
            go_wp2_with fail
            (with_reducible refine (WA.out _ PL.out.pr.dk).mono ?_)
            rintro e w5 ⟨rfl, k5, m5⟩
            have P5 := Lib.hid (PL.out.left k5 m5)
            clear k5 m5 PL WA
            go_wp2_with fail
            (with_reducible refine (WB.out _ P5.out.pr.rk).mono ?_)
            rintro e w6 ⟨rfl, k6, m6⟩
            have P6 := Lib.hid (P5.out.right k6 m6)
            clear k6 m6 P5 WB
            go_wp2_with fail
            go_meet
            exact ⟨s', rfl, P6.out, SM.out⟩
          · have WA := Lib.hid (fun w' (k : Dk w.heap.size d s w') => read_any w.heap.size d s zz w' k (by have := sm.reads; omega) (by have := sm.opn; omega) sm.fail)
            have WB := Lib.hid (fun w' (k : Rk w.heap.size r s w') => read_rf w.heap.size r s zz w' k (by have := sm.reads; omega) (by have := sm.opn; omega) sm.fail)
            have SM := Lib.hid (sm.read zz)
            have tt : (((readR s zz).2.2 : Int) == ((readR s zz).2.2 : Int)) = true := by simp
            have tu : ((mkB (readR s zz).2.1).toList == (mkB (readR s zz).2.1).toList) = true := by simp
            generalize (readR s zz).1 = s' at *
            generalize ((readR s zz).2.2 : Int) = er at *
            generalize mkB (readR s zz).2.1 = X at *
            clear sm
            go_wp2_with fail
            (with_reducible refine (WA.out _ PL.out.pr.dk).mono ?_)
            rintro e w5 ⟨rfl, k5, m5⟩
            have P5 := Lib.hid (PL.out.left k5 m5)
            clear k5 m5 PL WA
            go_wp2_with fail
            (with_reducible refine (WB.out _ P5.out.pr.rk).mono ?_)
            rintro e w6 ⟨rfl, k6, m6⟩
            have P6 := Lib.hid (P5.out.right k6 m6)
            clear k6 m6 P5 WB
            go_wp2_with fail
            go_meet
            exact ⟨s', rfl, P6.out, SM.out⟩
          · have WA := Lib.hid (fun w' (k : Dk w.heap.size d s w') => read_any w.heap.size d s zz w' k (by have := sm.reads; omega) (by have := sm.opn; omega) sm.fail)
            have WB := Lib.hid (fun w' (k : Rk w.heap.size r s w') => read_rf w.heap.size r s zz w' k (by have := sm.reads; omega) (by have := sm.opn; omega) sm.fail)
            have SM := Lib.hid (sm.read zz)
            have tt : (((readR s zz).2.2 : Int) == ((readR s zz).2.2 : Int)) = true := by simp
            have tu : ((mkB (readR s zz).2.1).toList == (mkB (readR s zz).2.1).toList) = true := by simp
            generalize (readR s zz).1 = s' at *
            generalize ((readR s zz).2.2 : Int) = er at *
            generalize mkB (readR s zz).2.1 = X at *
            clear sm
            go_wp2_with fail
            (with_reducible refine (WA.out _ PL.out.pr.dk).mono ?_)
            rintro e w5 ⟨rfl, k5, m5⟩
            have P5 := Lib.hid (PL.out.left k5 m5)
            clear k5 m5 PL WA
            go_wp2_with fail
            (with_reducible refine (WB.out _ P5.out.pr.rk).mono ?_)
            rintro e w6 ⟨rfl, k6, m6⟩
            have P6 := Lib.hid (P5.out.right k6 m6)
            clear k6 m6 P5 WB
            go_wp2_with fail
            go_meet
            exact ⟨s', rfl, P6.out, SM.out⟩
          · have WA := Lib.hid (fun w' (k : Dk w.heap.size d s w') => flush_any w.heap.size d s w' k (by have := sm.opn; omega) sm.fail)
            have WB := Lib.hid (fun w' (k : Rk w.heap.size r s w') => flush_rf w.heap.size r s w' k (by have := sm.opn; omega) sm.fail)
            have SM := Lib.hid sm.flush
            have tt : (((flushR s).2 : Int) == ((flushR s).2 : Int)) = true := by simp
            generalize (flushR s).1 = s' at *
            generalize ((flushR s).2 : Int) = er at *
            clear sm
            go_wp2_with fail
            (with_reducible refine (WA.out _ PL.out.pr.dk).mono ?_)
            rintro e w5 ⟨rfl, k5, m5⟩
            have P5 := Lib.hid (PL.out.left k5 m5)
            clear k5 m5 PL WA
            go_wp2_with fail
            (with_reducible refine (WB.out _ P5.out.pr.rk).mono ?_)
            rintro e w6 ⟨rfl, k6, m6⟩
            have P6 := Lib.hid (P5.out.right k6 m6)
            clear k6 m6 P5 WB
            go_wp2_with fail
            go_meet
            exact ⟨s', rfl, P6.out, SM.out⟩
          · have c4 := PL.out.cell 4
            have c6 := PL.out.cell 6
            simp only [opC, List.getElem?_toArray, List.getElem?_cons_succ, List.getElem?_cons_zero] at c4 c6
            cases fl
            · have SM := Lib.hid sm.idle
              clear sm
              go_wp2_with fail
              go_meet
              exact ⟨s, rfl, PL.out, SM.out⟩
            · have WA := Lib.hid (fun w' (k : Dk w.heap.size d s w') => fail_any w.heap.size d s nn w' k (by have := hop.i_n.2; omega))
              have WB := Lib.hid (fun w' (k : Rk w.heap.size r s w') => fail_rf w.heap.size r s nn w' k (by have := hop.i_n.2; omega))
              have SM := Lib.hid (sm.failed hop.i_n)
              generalize failR s nn = s' at *
              clear sm
              go_wp2_with fail
              (with_reducible refine (WA.out _ PL.out.pr.dk).mono ?_)
              rintro e w5 ⟨rfl, k5, m5⟩
              have P5 := Lib.hid (PL.out.left k5 m5)
              have c6' := P5.out.cell 6
              simp only [opC, List.getElem?_toArray, List.getElem?_cons_succ, List.getElem?_cons_zero] at c6'
              clear k5 m5 PL WA c4 c6
              go_wp2_with fail
              (with_reducible refine (WB.out _ P5.out.pr.rk).mono ?_)
              rintro e w6 ⟨rfl, k6, m6⟩
              have P6 := Lib.hid (P5.out.right k6 m6)
              clear k6 m6 P5 WB c6'
              go_wp2_with fail
              go_meet
              exact ⟨s', rfl, P6.out, SM.out⟩
          · have c4 := PL.out.cell 4
            simp only [opC, List.getElem?_toArray, List.getElem?_cons_succ, List.getElem?_cons_zero] at c4
            cases fl
            · have SM := Lib.hid sm.idle
              clear sm
              go_wp2_with fail
              go_meet
              exact ⟨s, rfl, PL.out, SM.out⟩
            · have FW : Hid (∀ sd sr w', Pl w.heap.size d r ob (opC k a c raw true t nn (.slice fo fs.length fc)).toArray sd sr w w' → Fats fo fs w' ∧ (0 < fs.length → Off fo d w') ∧ (0 < fs.length → Off fo r w'))   := Lib.hid (fun sd sr w' h => by
                refine ⟨hop.fats.of_blocks h.pr.below.size (fun k off e hk => h.pr.below.block k hk), fun h0 k off e hk => ?_, fun h0 k off e hk => ?_⟩
                · obtain ⟨b, o, e2, hb, -⟩ := hop.fats.2 h0
                  rw [e] at e2
                  simp at e2
                  have := (h.pr.dk.ownLt hk).1
                  omega
                · obtain ⟨b, o, e2, hb, -⟩ := hop.fats.2 h0
                  rw [e] at e2
                  simp at e2
                  have := (h.pr.rk.ownLt hk).1
                  omega)
              have WA := Lib.hid (fun w' (h : Pl w.heap.size d r ob (opC k a c raw true t nn (.slice fo fs.length fc)).toArray s s w w') => crash_any w.heap.size d s fo fs fc w' h.pr.dk (FW.out _ _ _ h).1 (FW.out _ _ _ h).2.1 (by have := sm.opn; omega) hop.len)
              have WB := Lib.hid (fun sd w' (h : Pl w.heap.size d r ob (opC k a c raw true t nn (.slice fo fs.length fc)).toArray sd s w w') => crash_rf w.heap.size r s fo fs fc w' h.pr.rk (FW.out _ _ _ h).1 (FW.out _ _ _ h).2.2 (by have := sm.opn; omega) hop.len)
              have SM := Lib.hid (sm.crash fs)
              have tt : (((crashR s fs).2 : Int) == ((crashR s fs).2 : Int)) = true := by simp
              generalize (crashR s fs).1 = s' at *
              generalize ((crashR s fs).2 : Int) = er at *
              have PD := Lib.hid PL.out.drew
              have c7 : ∀ sd sr w', Pl w.heap.size d r ob (opC k a c raw true t nn (.slice fo fs.length fc)).toArray sd sr w w' → w'.cell? ⟨ob, 7, none⟩ = some (.slice fo fs.length fc) := fun sd sr w' h => by
                have := h.cell 7
                simpa [opC] using this
              have C7 := Lib.hid c7
              clear sm c7
              go_wp2_with fail
              go_region_held3 (fun w' => w'.cell? ⟨ob, 7, none⟩ = some (.slice fo fs.length fc)) (first | exact C7.out _ _ _ PD.out | exact C7.out _ _ _ PL.out | assumption)
                (first
                  | (go_at_call 19; (with_reducible refine (WA.out _ PD.out).mono ?_); rintro e w5 ⟨rfl, k5, m5⟩; (have P5 := PD.out.left k5 m5); (have q5 := C7.out _ _ _ P5); (clear k5 m5))
                  | (go_at_call 20; (with_reducible refine (WB.out _ _ P5).mono ?_); rintro e w6 ⟨rfl, k6, m6⟩; (have P6 := P5.right k6 m6); (have q6 := C7.out _ _ _ P6); (clear k6 m6))
                  | fail)
              have P7 := Lib.hid P6
              clear P5 P6 q5 q6 PL PD WA WB C7 FW c4
              go_wp2_with fail
              go_meet
              exact ⟨s', rfl, P7.out, SM.out⟩
        case rest =>
          clear PL sm
          obtain ⟨s2, rfl, pl, sm2⟩ := hcut
          have OPN := Lib.hid (fun n => open_any w.heap.size d s2 (wc.drewN n) (pl.pr.drewN n).dk)
          have RDS := Lib.hid (fun n => reads_any w.heap.size d s2 (wc.drewN n) (pl.pr.drewN n).dk)
          have LEN := Lib.hid (fun n => len_any w.heap.size d s2 (wc.drewN n) (pl.pr.drewN n).dk)
          rw [sm2.sec] at LEN
          obtain ⟨vS, vL, rk⟩ := pl.pr.rk
          obtain ⟨pL, capL, rfl, -, -⟩ := own_form rk.rowL
          have z1 := rk.c1
          have z3 := rk.c3
          have PR := Lib.hid pl.pr
          have SM := Lib.hid sm2
          have y1 : ((s2.opn.length : Int) != (s2.opn.length : Int)) = false := by simp
          have y2 : ((s2.reads : Int) != (s2.reads : Int)) = false := by simp
          have y3 : ((many : Int) != (many : Int)) = false := by simp
          clear rk pl sm2
          generalize (s2.opn.length) = oL at *
          generalize (s2.reads : Int) = rL at *
          go_wp2_with fail
          go_quiet ((first | (go_at_call 23; exact Calls.quiet_of_same (OPN.out _)) | (go_at_call 24; exact Calls.quiet_of_same (RDS.out _)) | (go_at_call 25; exact Calls.quiet_of_same (LEN.out _))))
          have PN := Lib.hid (PR.out.drewN nq)
          clear PR OPN RDS LEN z1 z3 y1 y2 y3
          generalize wc.drewN nq = W9 at *
          go_wp2
          go_roundg (gk - 1)
          case measure => omega
          case rel => exact ⟨i + 1, s2, by have := HI.out; omega, by go_num, PN.out, SM.out⟩
    · have HP := Lib.hid pr.below
      clear pr sm
      have hx1 : (len : Int) ≤ (i : Int) ∨ ((i : Int) < (len : Int) ∧ (60 : Int) ≤ (i : Int)) := by omega
      clear hex
      rcases hx1 with hx1 | ⟨hx1, hx2⟩
      all_goals
        go_wp2
        go_ret
        exact ⟨rfl, HP.out⟩

set_option maxRecDepth 100000 in
set_option maxHeartbeats 1600000 in
theorem lifted (os : Os) (started : os.Started) (H : Type) (enc : TypeId × Value → H) :
    ReturnsInHanded {} Try.checked os 3 .any (Rows.diskPlaysSpec.pre6 enc Try.prog Try.f3 Rows.diskPlaysRow.domain false) (Rows.diskPlaysSpec.post enc Try.prog Try.f3 false true false false) := by
  refine returnsInHanded_of_change (C := Try.checked) own started (by kernel_rfl) Try.func3
    (ChangeSpec.witness6 (enc := enc) (C := Try.checked) false ⟨#[], #[.int .i64 0, .slice none 0 0], []⟩ 8 (by kernel_rfl) (by kernel_rfl) (by kernel_rfl) (by kernel_rfl)) ?_
  intro W base args ds gs before hval0 hW hcnd _
  have hval : ∀ (j : Nat) t v, Try.f3.params[j]? = some t → args[j]? = some v → Value.okWide Try.prog W .any base t v := hval0
  have hW' := hW
  obtain ⟨p, q, hA0, hV, rfl, hfz, hnd⟩ := hW
  have hA : DataW.TrodAll enc Try.prog W 0 (fun _ => true) true Try.f3.params.toList args.toList ds p := hA0
  rw [Try.params3] at hA hval
  obtain ⟨v0, vs0, d0, ds0, p0, q0, hargs, rfl, rfl, h0, r0⟩ := trodAll_cons hA
  obtain ⟨v1, vs1, d1, ds1, p1, q1, rfl, rfl, rfl, h1, r1⟩ := trodAll_cons r0
  obtain ⟨rfl, rfl, rfl⟩ := trodAll_nil r1
  obtain rfl : args = #[v0, v1] := by cases args; simp_all
  obtain ⟨rfl, rfl⟩ := trodVars_none hV
  have lt0 : ∀ x ∈ p0, x.block < W.heap.size := by obtain ⟨m, hm⟩ := h0; exact DataW.trod_lt m _ _ _ hm
  obtain ⟨n, e0, -, -, wfn⟩ := open_int Try.underlying3 (hval 0 3 v0 rfl rfl) h0
  subst e0
  have lt1 : ∀ x ∈ p1, x.block < W.heap.size := by obtain ⟨m, hm⟩ := h1; exact DataW.trod_lt m _ _ _ hm
  obtain ⟨aop, np, capp, rfl, lep, vap⟩ := open_ops (hval 1 22 v1 rfl rfl) h1
  clear hA0 hval0
  refine (walk n _ _ _ W (in64_wf wfn) lep vap).mono fun e W' ⟨he, bel⟩ => ?_
  subst he
  exact ⟨_, rfl, _, _, _, [], _, [], hW', trodAll_mk1 (shut_bool Try.underlying4 _), (trodAll_cons_mk (Below.trod laidOut (by kernel_rfl) (of_decide_eq_true (by kernel_rfl)) h0 bel lt0) (trodAll_cons_mk (Below.trod laidOut (by kernel_rfl) (of_decide_eq_true (by kernel_rfl)) h1 bel lt1) trodAll_mk0)), rfl, bel.frame _, fun h => by cases h⟩

theorem proved : Rows.DiskPlaysSaid :=
  OpenClaim.holds_of_wide 3 Try.f3 rfl rfl rfl rfl rfl rfl rfl ⟨rfl, rfl, rfl, rfl, rfl⟩ rfl rfl rfl rfl rfl (by kernel_rfl) Try.func3 (by kernel_rfl)
    (of_decide_eq_true (by kernel_rfl)) (by unfold Func.isWrapper; first | (rw [if_pos (by decide +kernel)]; kernel_rfl) | (rw [if_neg (by decide +kernel)]; exact ⟨rfl, rfl⟩))
    (fun os started H enc _ => lifted os started H enc)
#print axioms proved
end Go.Proofs.Ytgjndfkjakbdiaa.diskPlays
