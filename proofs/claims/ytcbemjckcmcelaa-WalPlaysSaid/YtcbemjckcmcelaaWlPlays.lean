/- horariumlaw07.WalPlays answers true at every number and every script of steps: a log goes on, step by step, as the document's own does. No condition. -/
import Derived.Test.YtcbemjckcmcelaaWrE
import Derived.Deep.CutBlock
import Derived.Test.YtcbemjckcmcelaaMWd
import Derived.Test.YtcbemjckcmcelaaMDc
import Derived.Deep.DeepCutAuto
import Derived.Deep.RegionHeld3
import Derived.BigQuiet
namespace Go.Proofs.Ytcbemjckcmcelaa.walPlays
open Go.ChangeShapes Go.WideShapes Go.ChangeAt Go.RowKit Go.Joins
set_option maxRecDepth 100000
set_option linter.unusedVariables false
set_option linter.unusedSimpArgs false
open Dk (own laidOut in64_wf ptr DS)
open Sl (Mv)
open Wl (Lg WS Inv rw_ Ep)
open Wl (Wb Wp SmW)
theorem short50 (l : List UInt8) (w : World) :
    Calls Try.prog 24 #[.string (mkB l), .int .i64 50] w fun e w' => e = .returned (.string (mkB (l.take 50))) ∧ w' = w := Wl.short_any l 50 w (by omega)
def PlRel (B d q r x many : Nat) (w : World) (m : Nat) (s11 : Value) (wx : World) : Prop := ∃ (i : Nat) (s : DS) (t : WS), i + m = 40 ∧ s11 = .int .i64 (i : Int) ∧ Wp B d q r x s s t t w wx ∧ SmW s t i many
/-- the step's epoch, near or not -/
def EpRel (B d q r x ob : Nat) (k nn : Int) (tx : ByteArray) (near cr : Bool) (v : Value) (s : DS) (t : WS) (w : World) (s12 : Value) (wx : World) : Prop := ∃ e2 : Nat, s12 = ptr ob ∧ e2 < 18446744073709551616 ∧ Wb B d q r x ob (Wl.opW k nn tx e2 near cr v) s s t t w wx
def SwRel (B d q r x ob many i : Nat) (C : List Value) (w : World) (s13 : Value) (wx : World) : Prop := ∃ (s : DS) (t : WS), s13 = .bool true ∧ Wb B d q r x ob C s s t t w wx ∧ SmW s t (i + 1) many
theorem and3 (e : Nat) : ∃ e2 : Nat, bits .and .u64 (e : Int) 3 = (e2 : Int) ∧ e2 < 18446744073709551616 := by
  have hm : (BitVec.ofInt 64 3).toNat = 2 ^ 2 - 1 := by decide
  have key : (BitVec.ofInt 64 (e : Int) &&& BitVec.ofInt 64 3).toNat = ((e : Int) % ((2 ^ 64 : Nat) : Int)).toNat % 2 ^ 2 := by
    rw [BitVec.toNat_and, BitVec.toNat_ofInt, hm, Nat.and_two_pow_sub_one_eq_mod]
  refine ⟨((e : Int) % ((2 ^ 64 : Nat) : Int)).toNat % 2 ^ 2, ?_, by omega⟩
  show IntKind.u64.wrap ((BitVec.ofInt 64 (e : Int) &&& BitVec.ofInt 64 3).toNat : Nat) = _
  rw [key]
  exact IntWalk.u64_in _ (by omega)

set_option maxRecDepth 100000 in
set_option maxHeartbeats 8000000 in
theorem walk (n : Int) (ao : Option Addr) (len cap : Nat) (w : World) (hn : Dk.In64 n) (hl : len ≤ 9223372036854775807) (hv : Wl.Steps ao len w) :
    Calls Try.prog 3 #[.int .i64 n, .slice ao len cap] w fun e w' => e = .returned (.bool true) ∧ Below w.heap.size w w' := by
  have h7 := Dk.i64_and7 n
  obtain ⟨many, hm⟩ : ∃ m : Nat, 1 + bits .and .i64 n 7 = (m : Int) := ⟨(1 + n % 8).toNat, by rw [h7]; omega⟩
  have m1 : 1 ≤ many := by omega
  have m2 : many ≤ 8 := by omega
  clear h7
  have mi : (many : Int) ≤ 8 := by omega
  have mj : 1 ≤ (many : Int) := by omega
  have AW := Lib.hid (fun w => Wl.awake_any w)
  have HV := Lib.hid hv
  clear hv
  go_enter Try.func3, Try.ntmps3
  go_wp2_with fail
  (with_reducible refine (AW.out _).mono ?_)
  rintro e w1 ⟨rfl, b1⟩
  clear AW
  have ND := Lib.hid (Dk.new_yes (many + 2) w1 (by omega) (by omega))
  have hmm : ((many + 2 : Nat) : Int) = (many : Int) + 2 := by omega
  rw [hmm] at ND
  go_wp2_with fail
  (with_reducible refine ND.out.mono ?_)
  rintro e w2 ⟨rfl, k2, b2⟩
  generalize w1.heap.size + 1 = d at *
  have NL : Hid (Calls Try.prog 11 #[ptr d, .int .i64 1, .int .i64 (many : Int)] w2 _) := Lib.hid (Wl.new_yes w1.heap.size d (Dk.newR (many + 2)) 1 many w2 k2 m1 (by simp [Dk.newR]; omega))
  go_wp2_with fail
  (with_reducible refine NL.out.mono ?_)
  rintro e w3 ⟨rfl, l3, b3⟩
  have NR := Lib.hid (Dk.new_rf (many + 2) w3 (by omega))
  rw [hmm] at NR
  clear NL ND
  go_wp2_with fail
  (with_reducible refine NR.out.mono ?_)
  rintro e w4 ⟨rfl, k4, b4⟩
  have NX : Hid (Calls Try.prog 13 #[ptr w3.heap.size, .int .i64 1, .int .i64 (many : Int)] w4 _) := Lib.hid (Wl.new_r w3.heap.size 1 many w4)
  clear NR
  go_wp2_with fail
  (with_reducible refine NX.out.mono ?_)
  rintro e w5 ⟨rfl, l5, b5⟩
  clear NX
  have z2 := b2.size
  have z3 := b3.size
  have z4 := b4.size
  have l2 := b1.trans (b2.mono b1.size)
  have l3' := l2.trans (b3.mono l2.size)
  have l4 := l3'.trans (b4.mono l3'.size)
  have P0 : Hid (PlRel w.heap.size d w2.heap.size w3.heap.size w4.heap.size many w 40 (.int .i64 0) w5) := Lib.hid ⟨0, Dk.newR (many + 2), ⟨1, many, none⟩, rfl, rfl, ⟨(((k2.mono b1.size).call b3).call b4).call b5, (l3.call b4).call b5, (k4.mono l3'.size).call b5, l5, fun j ka kb => by
      have h1 := (k2.ownLt ((ka.of_block ((b5.block d (by have := k2.lt; omega)).trans (b4.block d (by have := k2.lt; omega)))).of_block (b3.block d k2.lt))).2
      have h2 := (k4.ownLt (kb.of_block (b5.block _ k4.lt))).1
      omega, l2.size, l4.size, l4.trans (b5.mono l4.size)⟩, ⟨by simp [Dk.newR], by simp [Dk.newR], by simp [Dk.newR], by simp [Dk.newR], rfl, rfl, fun e c h => by cases h⟩⟩
  generalize w2.heap.size = q at *
  generalize w3.heap.size = r at *
  generalize w4.heap.size = x at *
  clear b1 b2 b3 b4 b5 k2 k4 l2 l3 l3' l4 l5 z2 z3 z4 hm hn hmm
  go_wp2_with fail
  go_loopg [11] 40 (PlRel w.heap.size d q r x many w)
  case atStart => exact P0.out
  case round =>
    clear P0
    obtain ⟨i, s, t, hi, rfl, pr, sm⟩ := hrel
    rcases (show (i < len ∧ i < 40) ∨ ¬ (i < len ∧ i < 40) by omega) with ⟨hip, hlt⟩ | hex
    · have hg0 : 0 < gk := by omega
      obtain ⟨ba, off, rfl, hba, hca⟩ := HV.out (by omega)
      obtain ⟨k, nn, tx, e, near, cr, fo, fs, fc, hop⟩ := hca i hip
      have RR := Lib.hid (show wr.rangeAt ba (off + i * 7) (Wl.opW k nn tx e near cr (.slice fo fs.length fc)) from fun j v hv => by
        rw [pr.below.cell (p := ⟨ba, off + i * 7 + j, none⟩) hba]; exact hop.at_ j v hv)
      have hz : bits .and .i64 k 7 = k % 8 := Dk.i64_and7 k
      obtain ⟨z8, hz8⟩ : ∃ z8 : Int, bits .and .i64 k 7 = z8 := ⟨_, rfl⟩
      have z8b : 0 ≤ z8 ∧ z8 < 8 := by omega
      have P1 : Hid (Wb w.heap.size d q r x wr.heap.size (Wl.opW k nn tx e near cr (.slice fo fs.length fc)) s s t t w (wr.alloc (.cells ((Wl.opW k nn tx e near cr (.slice fo fs.length fc))).toArray 35))) := Lib.hid ⟨pr.call ((Below.refl _ _).alloc (Nat.le_refl _) _), heap_alloc_new _ _⟩
      have OB : w.heap.size ≤ wr.heap.size := pr.dk.le
      have FT := Lib.hid (And.intro hop.fats hop.len)
      have he := hop.ie
      have il : (i : Int) < (len : Int) := by omega
      have il2 : (i : Int) < 40 := by omega
      have HI := Lib.hid hi
      have LC := Lib.hid (show ((Wl.opW k nn tx e near cr (.slice fo fs.length fc))).length = 7 from rfl)
      have OC := Lib.hid (show (((Wl.opW k nn tx e near cr (.slice fo fs.length fc))).toArray.all (·.oneCell')) = true from all_oneCell_toArray (by intro v hv; simp [Wl.opW] at hv; rcases hv with rfl | rfl | rfl | rfl | rfl | rfl | rfl <;> rfl))
      obtain ⟨OPC, hOPC⟩ : ∃ OPC, OPC = (Wl.opW k nn tx e near cr (.slice fo fs.length fc)) := ⟨_, rfl⟩
      rw [← hOPC] at RR P1 LC OC
      have HOPC := Lib.hid hOPC
      have sc : (storeCells ⟨wr.heap.size, 0, none⟩ OPC 0).run Try.prog (wr.alloc (.cells #[.int .i64 0, .int .i64 0, .string ⟨#[]⟩, .int .u64 0, .bool false, .bool false, .slice none 0 0] 35)) = .ok () (wr.alloc (.cells OPC.toArray 35)) := by
        have := run_storeCells_new (P := Try.prog) wr 35 #[.int .i64 0, .int .i64 0, .string ⟨#[]⟩, .int .u64 0, .bool false, .bool false, .slice none 0 0] OPC.toArray (by rw [List.size_toArray, LC.out]; kernel_rfl) (by show 7 = OPC.toArray.size; rw [List.size_toArray, LC.out]) OC.out
        simpa using this
      have lc8 := LC.out
      have n4 : (wr.alloc (.cells OPC.toArray 35)).cell? ⟨wr.heap.size, 4, none⟩ = some (.bool near) := by rw [P1.out.cell 4, HOPC.out]; rfl
      clear hca pr hOPC hi hz hop
      go_upto_if 55 with (refine wpList_load_mid rfl 35 (.tmp 52) rfl ba (off + i * 7) rfl OPC _ RR.out Try.underlying35 rfl (by rw [LC.out]; kernel_rfl) ?_)
      generalize hW : wr.alloc (.cells OPC.toArray 35) = W1 at *
      generalize wr.heap.size = ob at *
      clear hW RR sc lc8 OC LC
      rw [HOPC.out] at P1
      clear HOPC
      go_cut [12] (EpRel w.heap.size d q r x ob k nn tx near cr (.slice fo fs.length fc) s t w)
      case first =>
        cases near
        · go_wp2_with fail
          go_meet
          exact ⟨e, rfl, he, P1.out⟩
        · obtain ⟨e2, h2, he2⟩ := and3 e
          have c3 := P1.out.cell 3
          have f3 := P1.out.fz 3
          simp only [Wl.opW, List.getElem?_cons_succ, List.getElem?_cons_zero] at c3
          have FIN := Lib.hid (P1.out.setE OB e2)
          go_wp2_with fail
          go_meet
          exact ⟨e2, rfl, he2, FIN.out⟩
      case rest =>
        obtain ⟨e2, rfl, he2, pl⟩ := hcut
        have PL := Lib.hid pl
        clear pl P1 n4 he
        have c0 := PL.out.cell 0
        simp only [Wl.opW, List.getElem?_cons_succ, List.getElem?_cons_zero] at c0
        go_upto_block 2 with (fail)
        clear c0 hz8
        go_cut [13] (SwRel w.heap.size d q r x ob many i (Wl.opW k nn tx e2 near cr (.slice fo fs.length fc)) w)
        case first =>
          have : z8 = 0 ∨ z8 = 1 ∨ z8 = 2 ∨ z8 = 3 ∨ z8 = 4 ∨ z8 = 5 ∨ z8 = 6 ∨ z8 = 7 := by omega
          clear z8b
          rcases this with rfl | rfl | rfl | rfl | rfl | rfl | rfl | rfl
          · obtain ⟨T, hT⟩ : ∃ T, tx = mkB T := ⟨tx.data.toList, (mkB_of tx).symm⟩
            have SH := Lib.hid (fun w => short50 T w)
            rw [← hT] at SH
            have p50 : (T.take 50).length ≤ 100 := by simp; omega
            have WA := Lib.hid (fun w' (h : Wb w.heap.size d q r x ob (Wl.opW k nn tx e2 near cr (.slice fo fs.length fc)) s s t t w w') => Wl.append_p (T.take 50) w' h sm m1 (by omega) p50)
            have WC := Lib.hid (fun sd td w' (h : Wb w.heap.size d q r x ob (Wl.opW k nn tx e2 near cr (.slice fo fs.length fc)) sd s td t w w') => Wl.append_d (T.take 50) w' h sm m1 (by omega) p50)
            have SM := Lib.hid (sm.app (T.take 50))
            have tt : (((Wl.appR s t (T.take 50)).2.2 : Int) == ((Wl.appR s t (T.take 50)).2.2 : Int)) = true := by simp
            have C2 : Hid (∀ sd sr td tr w', Wb w.heap.size d q r x ob (Wl.opW k nn tx e2 near cr (.slice fo fs.length fc)) sd sr td tr w w' → w'.cell? ⟨ob, 2, none⟩ = some (.string tx)) := Lib.hid (fun sd sr td tr w' h => by rw [h.cell 2]; rfl)
            generalize (Wl.appR s t (T.take 50)).1 = s' at *
            generalize (Wl.appR s t (T.take 50)).2.1 = st' at *
            generalize ((Wl.appR s t (T.take 50)).2.2 : Int) = er at *
            generalize mkB (T.take 50) = TX at *
            have PD := Lib.hid PL.out.drew
            clear sm p50 hT
            go_wp2_with fail
            go_region_held3 (fun w' => w'.cell? ⟨ob, 2, none⟩ = some (.string tx)) (first | exact C2.out _ _ _ _ _ PD.out | exact C2.out _ _ _ _ _ PL.out | assumption)
              (first
                | (go_at_call 25; (with_reducible refine (WC.out _ _ _ P5).mono ?_); rintro e w6 ⟨rfl, P6⟩; (have q6 := C2.out _ _ _ _ _ P6))
                | (go_at_call 24; (with_reducible refine (SH.out _).mono ?_); rintro e w5 ⟨rfl, rfl⟩)
                | (go_at_call 23; (with_reducible refine (WA.out _ PD.out).mono ?_); rintro e w5 ⟨rfl, P5⟩; (have q5 := C2.out _ _ _ _ _ P5))
                | fail)
            have P7 := Lib.hid P6
            clear P5 P6 q5 q6 PL PD WA WC C2 SH
            go_wp2_with fail
            go_meet
            exact ⟨s', ⟨t.at_, t.n, st'⟩, rfl, P7.out, SM.out⟩
          · obtain ⟨T, hT⟩ : ∃ T, tx = mkB T := ⟨tx.data.toList, (mkB_of tx).symm⟩
            have SH := Lib.hid (fun w => short50 T w)
            rw [← hT] at SH
            have p50 : (T.take 50).length ≤ 100 := by simp; omega
            have WA := Lib.hid (fun w' (h : Wb w.heap.size d q r x ob (Wl.opW k nn tx e2 near cr (.slice fo fs.length fc)) s s t t w w') => Wl.append_p (T.take 50) w' h sm m1 (by omega) p50)
            have WC := Lib.hid (fun sd td w' (h : Wb w.heap.size d q r x ob (Wl.opW k nn tx e2 near cr (.slice fo fs.length fc)) sd s td t w w') => Wl.append_d (T.take 50) w' h sm m1 (by omega) p50)
            have SM := Lib.hid (sm.app (T.take 50))
            have tt : (((Wl.appR s t (T.take 50)).2.2 : Int) == ((Wl.appR s t (T.take 50)).2.2 : Int)) = true := by simp
            have C2 : Hid (∀ sd sr td tr w', Wb w.heap.size d q r x ob (Wl.opW k nn tx e2 near cr (.slice fo fs.length fc)) sd sr td tr w w' → w'.cell? ⟨ob, 2, none⟩ = some (.string tx)) := Lib.hid (fun sd sr td tr w' h => by rw [h.cell 2]; rfl)
            generalize (Wl.appR s t (T.take 50)).1 = s' at *
            generalize (Wl.appR s t (T.take 50)).2.1 = st' at *
            generalize ((Wl.appR s t (T.take 50)).2.2 : Int) = er at *
            generalize mkB (T.take 50) = TX at *
            have PD := Lib.hid PL.out.drew
            clear sm p50 hT
            go_wp2_with fail
            go_region_held3 (fun w' => w'.cell? ⟨ob, 2, none⟩ = some (.string tx)) (first | exact C2.out _ _ _ _ _ PD.out | exact C2.out _ _ _ _ _ PL.out | assumption)
              (first
                | (go_at_call 25; (with_reducible refine (WC.out _ _ _ P5).mono ?_); rintro e w6 ⟨rfl, P6⟩; (have q6 := C2.out _ _ _ _ _ P6))
                | (go_at_call 24; (with_reducible refine (SH.out _).mono ?_); rintro e w5 ⟨rfl, rfl⟩)
                | (go_at_call 23; (with_reducible refine (WA.out _ PD.out).mono ?_); rintro e w5 ⟨rfl, P5⟩; (have q5 := C2.out _ _ _ _ _ P5))
                | fail)
            have P7 := Lib.hid P6
            clear P5 P6 q5 q6 PL PD WA WC C2 SH
            go_wp2_with fail
            go_meet
            exact ⟨s', ⟨t.at_, t.n, st'⟩, rfl, P7.out, SM.out⟩
          · obtain ⟨T, hT⟩ : ∃ T, tx = mkB T := ⟨tx.data.toList, (mkB_of tx).symm⟩
            have SH := Lib.hid (fun w => short50 T w)
            rw [← hT] at SH
            have p50 : (T.take 50).length ≤ 100 := by simp; omega
            have WA := Lib.hid (fun w' (h : Wb w.heap.size d q r x ob (Wl.opW k nn tx e2 near cr (.slice fo fs.length fc)) s s t t w w') => Wl.append_p (T.take 50) w' h sm m1 (by omega) p50)
            have WC := Lib.hid (fun sd td w' (h : Wb w.heap.size d q r x ob (Wl.opW k nn tx e2 near cr (.slice fo fs.length fc)) sd s td t w w') => Wl.append_d (T.take 50) w' h sm m1 (by omega) p50)
            have SM := Lib.hid (sm.app (T.take 50))
            have tt : (((Wl.appR s t (T.take 50)).2.2 : Int) == ((Wl.appR s t (T.take 50)).2.2 : Int)) = true := by simp
            have C2 : Hid (∀ sd sr td tr w', Wb w.heap.size d q r x ob (Wl.opW k nn tx e2 near cr (.slice fo fs.length fc)) sd sr td tr w w' → w'.cell? ⟨ob, 2, none⟩ = some (.string tx)) := Lib.hid (fun sd sr td tr w' h => by rw [h.cell 2]; rfl)
            generalize (Wl.appR s t (T.take 50)).1 = s' at *
            generalize (Wl.appR s t (T.take 50)).2.1 = st' at *
            generalize ((Wl.appR s t (T.take 50)).2.2 : Int) = er at *
            generalize mkB (T.take 50) = TX at *
            have PD := Lib.hid PL.out.drew
            clear sm p50 hT
            go_wp2_with fail
            go_region_held3 (fun w' => w'.cell? ⟨ob, 2, none⟩ = some (.string tx)) (first | exact C2.out _ _ _ _ _ PD.out | exact C2.out _ _ _ _ _ PL.out | assumption)
              (first
                | (go_at_call 25; (with_reducible refine (WC.out _ _ _ P5).mono ?_); rintro e w6 ⟨rfl, P6⟩; (have q6 := C2.out _ _ _ _ _ P6))
                | (go_at_call 24; (with_reducible refine (SH.out _).mono ?_); rintro e w5 ⟨rfl, rfl⟩)
                | (go_at_call 23; (with_reducible refine (WA.out _ PD.out).mono ?_); rintro e w5 ⟨rfl, P5⟩; (have q5 := C2.out _ _ _ _ _ P5))
                | fail)
            have P7 := Lib.hid P6
            clear P5 P6 q5 q6 PL PD WA WC C2 SH
            go_wp2_with fail
            go_meet
            exact ⟨s', ⟨t.at_, t.n, st'⟩, rfl, P7.out, SM.out⟩
          · obtain ⟨T, hT⟩ : ∃ T, tx = mkB T := ⟨tx.data.toList, (mkB_of tx).symm⟩
            have SH := Lib.hid (fun w => short50 T w)
            rw [← hT] at SH
            have p50 : (T.take 50).length ≤ 100 := by simp; omega
            have WA := Lib.hid (fun w' (h : Wb w.heap.size d q r x ob (Wl.opW k nn tx e2 near cr (.slice fo fs.length fc)) s s t t w w') => Wl.append_p (T.take 50) w' h sm m1 (by omega) p50)
            have WC := Lib.hid (fun sd td w' (h : Wb w.heap.size d q r x ob (Wl.opW k nn tx e2 near cr (.slice fo fs.length fc)) sd s td t w w') => Wl.append_d (T.take 50) w' h sm m1 (by omega) p50)
            have SM := Lib.hid (sm.app (T.take 50))
            have tt : (((Wl.appR s t (T.take 50)).2.2 : Int) == ((Wl.appR s t (T.take 50)).2.2 : Int)) = true := by simp
            have C2 : Hid (∀ sd sr td tr w', Wb w.heap.size d q r x ob (Wl.opW k nn tx e2 near cr (.slice fo fs.length fc)) sd sr td tr w w' → w'.cell? ⟨ob, 2, none⟩ = some (.string tx)) := Lib.hid (fun sd sr td tr w' h => by rw [h.cell 2]; rfl)
            generalize (Wl.appR s t (T.take 50)).1 = s' at *
            generalize (Wl.appR s t (T.take 50)).2.1 = st' at *
            generalize ((Wl.appR s t (T.take 50)).2.2 : Int) = er at *
            generalize mkB (T.take 50) = TX at *
            have PD := Lib.hid PL.out.drew
            clear sm p50 hT
            go_wp2_with fail
            go_region_held3 (fun w' => w'.cell? ⟨ob, 2, none⟩ = some (.string tx)) (first | exact C2.out _ _ _ _ _ PD.out | exact C2.out _ _ _ _ _ PL.out | assumption)
              (first
                | (go_at_call 25; (with_reducible refine (WC.out _ _ _ P5).mono ?_); rintro e w6 ⟨rfl, P6⟩; (have q6 := C2.out _ _ _ _ _ P6))
                | (go_at_call 24; (with_reducible refine (SH.out _).mono ?_); rintro e w5 ⟨rfl, rfl⟩)
                | (go_at_call 23; (with_reducible refine (WA.out _ PD.out).mono ?_); rintro e w5 ⟨rfl, P5⟩; (have q5 := C2.out _ _ _ _ _ P5))
                | fail)
            have P7 := Lib.hid P6
            clear P5 P6 q5 q6 PL PD WA WC C2 SH
            go_wp2_with fail
            go_meet
            exact ⟨s', ⟨t.at_, t.n, st'⟩, rfl, P7.out, SM.out⟩
          · have WA := Lib.hid (fun w' (h : Wb w.heap.size d q r x ob (Wl.opW k nn tx e2 near cr (.slice fo fs.length fc)) s s t t w w') => Wl.scan_p e2 w' h sm m1 (by omega))
            have WC := Lib.hid (fun sd td v ds w' (h : Wb w.heap.size d q r x ob (Wl.opW k nn tx e2 near cr (.slice fo fs.length fc)) sd s td t w w') fr => Wl.scan_d e2 v ds w' h sm m1 (by omega) fr)
            have SM := Lib.hid (sm.scan m2 e2 he2)
            have tt : (((Wl.scanE s t e2).2.2.2 : Int) == ((Wl.scanE s t e2).2.2.2 : Int)) = true := by simp
            have dl : (Wl.scanE s t e2).2.2.1.length ≤ 100000 := by
              unfold Wl.scanE
              split
              · simp
              · have := Wl.scanR_told s t.at_ t.n e2; have := sm.n; simp only; omega
            generalize (Wl.scanE s t e2).1 = s' at *
            generalize (Wl.scanE s t e2).2.1 = st' at *
            generalize (Wl.scanE s t e2).2.2.1 = ds at *
            generalize ((Wl.scanE s t e2).2.2.2 : Int) = er at *
            have DL := Lib.hid dl
            have c3 := PL.out.cell 3
            simp only [Wl.opW, List.getElem?_cons_succ, List.getElem?_cons_zero] at c3
            clear sm dl
            go_wp2_with fail
            (with_reducible refine (WA.out _ PL.out).mono ?_)
            rintro e w5 ⟨v5, rfl, fr5, k5⟩
            have P5 := Lib.hid k5
            have FR := Lib.hid fr5
            clear k5 fr5 PL WA c3
            have c3 := P5.out.cell 3
            simp only [Wl.opW, List.getElem?_cons_succ, List.getElem?_cons_zero] at c3
            go_wp2_with fail
            (with_reducible refine (WC.out _ _ _ _ _ P5.out FR.out).mono ?_)
            rintro e w6 ⟨u6, A6, D6, rfl, sv, su, k6⟩
            have P6 := Lib.hid k6
            have SA := Lib.hid (Wl.same_any _ _ _ _ ds w6 sv su DL.out)
            clear k6 P5 FR WC c3 sv su DL
            go_wp2_with fail
            (with_reducible refine SA.out.mono ?_)
            rintro e w7 ⟨rfl, b7⟩
            have P7 := Lib.hid (P6.out.call b7)
            clear b7 SA P6
            go_wp2_with fail
            go_meet
            exact ⟨s', ⟨t.at_, t.n, st'⟩, rfl, P7.out, SM.out⟩
          · have WA := Lib.hid (fun w' (h : Wb w.heap.size d q r x ob (Wl.opW k nn tx e2 near cr (.slice fo fs.length fc)) s s t t w w') => Wl.start_p e2 w' h (sm.fit m1).n1)
            have WC := Lib.hid (fun sd td w' (h : Wb w.heap.size d q r x ob (Wl.opW k nn tx e2 near cr (.slice fo fs.length fc)) sd s td t w w') => Wl.start_d e2 w' h)
            have SM := Lib.hid (sm.start e2 he2)
            have tt : (((Wl.startE t e2).2 : Int) == ((Wl.startE t e2).2 : Int)) = true := by simp
            have C3 : Hid (∀ sd sr td tr w', Wb w.heap.size d q r x ob (Wl.opW k nn tx e2 near cr (.slice fo fs.length fc)) sd sr td tr w w' → w'.cell? ⟨ob, 3, none⟩ = some (.int .u64 (e2 : Int))) := Lib.hid (fun sd sr td tr w' h => by rw [h.cell 3]; rfl)
            generalize (Wl.startE t e2).1 = st' at *
            generalize ((Wl.startE t e2).2 : Int) = er at *
            have PD := Lib.hid PL.out.drew
            clear sm
            go_wp2_with fail
            go_region_held3 (fun w' => w'.cell? ⟨ob, 3, none⟩ = some (.int .u64 (e2 : Int))) (first | exact C3.out _ _ _ _ _ PD.out | exact C3.out _ _ _ _ _ PL.out | assumption)
              (first
                | (go_at_call 17; (with_reducible refine (WA.out _ PD.out).mono ?_); rintro e w5 ⟨rfl, P5⟩; (have q5 := C3.out _ _ _ _ _ P5))
                | (go_at_call 18; (with_reducible refine (WC.out _ _ _ P5).mono ?_); rintro e w6 ⟨rfl, P6⟩; (have q6 := C3.out _ _ _ _ _ P6))
                | fail)
            have P7 := Lib.hid P6
            clear P5 P6 q5 q6 PL PD WA WC C3
            go_wp2_with fail
            go_meet
            exact ⟨s, ⟨t.at_, t.n, st'⟩, rfl, P7.out, SM.out⟩
          · obtain ⟨f, hf7, hf8⟩ := Dk.four nn
            have WA := Lib.hid (fun w' (h : Wb w.heap.size d q r x ob (Wl.opW k nn tx e2 near cr (.slice fo fs.length fc)) s s t t w w') => Wl.fail_p f w' h (by omega))
            have WC := Lib.hid (fun sd td w' (h : Wb w.heap.size d q r x ob (Wl.opW k nn tx e2 near cr (.slice fo fs.length fc)) sd s td t w w') => Wl.fail_d f w' h (by omega))
            have SM := Lib.hid (sm.failed (n := f) (by omega))
            have c1 := PL.out.cell 1
            simp only [Wl.opW, List.getElem?_cons_succ, List.getElem?_cons_zero] at c1
            generalize Dk.failR s (f : Int) = s' at *
            clear sm
            go_wp2_with fail
            (with_reducible refine (WA.out _ PL.out).mono ?_)
            rintro e w5 ⟨rfl, k5⟩
            have P5 := Lib.hid k5
            clear k5 PL WA c1
            have c1 := P5.out.cell 1
            simp only [Wl.opW, List.getElem?_cons_succ, List.getElem?_cons_zero] at c1
            go_wp2_with fail
            (with_reducible refine (WC.out _ _ _ P5.out).mono ?_)
            rintro e w6 ⟨rfl, k6⟩
            have P6 := Lib.hid k6
            clear k6 P5 WC c1
            go_wp2_with fail
            go_meet
            exact ⟨s', t, rfl, P6.out, SM.out⟩
          · have c5 := PL.out.cell 5
            simp only [Wl.opW, List.getElem?_cons_succ, List.getElem?_cons_zero] at c5
            cases cr
            · have SM := Lib.hid sm.idle
              clear sm
              go_wp2_with fail
              go_meet
              exact ⟨s, t, rfl, PL.out, SM.out⟩
            · have WA := Lib.hid (fun w' (h : Wb w.heap.size d q r x ob (Wl.opW k nn tx e2 near true (.slice fo fs.length fc)) s s t t w w') => Wl.crash_p fo fs fc w' h sm (by omega) FT.out.1 FT.out.2)
              have WC := Lib.hid (fun sd td w' (h : Wb w.heap.size d q r x ob (Wl.opW k nn tx e2 near true (.slice fo fs.length fc)) sd s td t w w') => Wl.crash_d fo fs fc w' h sm (by omega) FT.out.1 FT.out.2)
              have SM := Lib.hid (sm.crash fs)
              have tt : (((Dk.crashR s fs).2 : Int) == ((Dk.crashR s fs).2 : Int)) = true := by simp
              have C6 : Hid (∀ sd sr td tr w', Wb w.heap.size d q r x ob (Wl.opW k nn tx e2 near true (.slice fo fs.length fc)) sd sr td tr w w' → w'.cell? ⟨ob, 6, none⟩ = some (.slice fo fs.length fc)) := Lib.hid (fun sd sr td tr w' h => by rw [h.cell 6]; rfl)
              generalize (Dk.crashR s fs).1 = s' at *
              generalize ((Dk.crashR s fs).2 : Int) = er at *
              have PD := Lib.hid PL.out.drew
              clear sm
              go_wp2_with fail
              go_region_held3 (fun w' => w'.cell? ⟨ob, 6, none⟩ = some (.slice fo fs.length fc)) (first | exact C6.out _ _ _ _ _ PD.out | exact C6.out _ _ _ _ _ PL.out | assumption)
                (first
                  | (go_at_call 21; (with_reducible refine (WA.out _ PD.out).mono ?_); rintro e w5 ⟨rfl, P5⟩; (have q5 := C6.out _ _ _ _ _ P5))
                  | (go_at_call 22; (with_reducible refine (WC.out _ _ _ P5).mono ?_); rintro e w6 ⟨rfl, P6⟩; (have q6 := C6.out _ _ _ _ _ P6))
                  | fail)
              have P7 := Lib.hid P6
              clear P5 P6 q5 q6 PL PD WA WC C6 c5
              go_wp2_with fail
              go_meet
              exact ⟨s', t, rfl, P7.out, SM.out⟩
        case rest =>
          clear PL sm
          obtain ⟨s2, t2, rfl, pl, sm2⟩ := hcut
          obtain ⟨pL, capL, ws⟩ := pl.pr.seen
          have PR := Lib.hid ws
          have LP := Lib.hid (fun w' (h : Wp w.heap.size d q r x s2 s2 t2 t2 w w') => Wl.left_p w' h sm2 m1 m2)
          have LD := Lib.hid (fun w' (h : Wp w.heap.size d q r x s2 s2 t2 t2 w w') => Wl.left_d w' h sm2 m2)
          have NP := Lib.hid (fun w' (h : Wp w.heap.size d q r x s2 s2 t2 t2 w w') => Wl.len_p w' h (sm2.fit m1).n1)
          have MD := Lib.hid (fun w' (h : Wp w.heap.size d q r x s2 s2 t2 t2 w w') => Wl.many_d w' h)
          have OP := Lib.hid (fun w' (h : Wp w.heap.size d q r x s2 s2 t2 t2 w w') => Wl.open_p w' h)
          have RP := Lib.hid (fun w' (h : Wp w.heap.size d q r x s2 s2 t2 t2 w w') => Wl.reads_p w' h)
          have SM := Lib.hid sm2
          have y1 : ((s2.opn.length : Int) != (s2.opn.length : Int)) = false := by simp
          have y2 : ((s2.reads : Int) != (s2.reads : Int)) = false := by simp
          have y3 : ((Wl.leftOf t2.n t2.st : Int) != (Wl.leftOf t2.n t2.st : Int)) = false := by simp
          have y4 : ((Wl.lenOf t2.st : Int) != (Wl.lenOf t2.st : Int)) = false := by simp
          clear pl sm2 ws
          generalize (s2.opn.length) = oL at *
          generalize (s2.reads : Int) = rL at *
          generalize (Wl.leftOf t2.n t2.st : Int) = lF at *
          generalize (Wl.lenOf t2.st : Int) = lN at *
          go_wp2_with fail
          have PD := Lib.hid PR.out.drew
          have pa := PD.out.c1
          have pb := PD.out.c3
          go_region_held3 (fun w' => w'.cell? ⟨r, 1, none⟩ = some (.slice pL oL capL) ∧ w'.cell? ⟨r, 3, none⟩ = some (.int .i64 rL)) (first | exact ⟨PD.out.c1, PD.out.c3⟩ | assumption | exact ⟨by assumption, by assumption⟩)
            (first
              | (go_at_call 26; (with_reducible refine (LP.out _ (PD.out).wp).mono ?_); rintro e v1 ⟨rfl, b1⟩; (have P1 := (PD.out).call b1); (have qa1 := P1.c1); (have qb1 := P1.c3); (clear b1))
              | (go_at_call 27; (with_reducible refine (LD.out _ (P1).wp).mono ?_); rintro e v2 ⟨rfl, b2⟩; (have P2 := (P1).call b2); (have qa2 := P2.c1); (have qb2 := P2.c3); (clear b2))
              | (go_at_call 28; (with_reducible refine (NP.out _ (P2).wp).mono ?_); rintro e v3 ⟨rfl, b3⟩; (have P3 := (P2).call b3); (have qa3 := P3.c1); (have qb3 := P3.c3); (clear b3))
              | (go_at_call 29; (with_reducible refine (MD.out _ (P3).wp).mono ?_); rintro e v4 ⟨rfl, b4⟩; (have P4 := (P3).call b4); (have qa4 := P4.c1); (have qb4 := P4.c3); (clear b4))
              | (go_at_call 30; (with_reducible refine (OP.out _ (P4).wp).mono ?_); rintro e v5 ⟨rfl, b5⟩; (have P5 := (P4).call b5); (have qa5 := P5.c1); (have qb5 := P5.c3); (clear b5))
              | (go_at_call 31; (with_reducible refine (RP.out _ (P5).wp).mono ?_); rintro e v6 ⟨rfl, b6⟩; (have P6 := (P5).call b6); (have qa6 := P6.c1); (have qb6 := P6.c3); (clear b6))
              | fail)
          have PN := Lib.hid P6.wp
          clear P1 P2 P3 P4 P5 P6 qa1 qa2 qa3 qa4 qa5 qa6 qb1 qb2 qb3 qb4 qb5 qb6 PR PD pa pb LP LD NP MD OP RP
          go_wp2
          go_roundg (gk - 1)
          case measure => omega
          case rel => exact ⟨i + 1, s2, t2, by have := HI.out; omega, by go_num, PN.out, SM.out⟩
    · have HP := Lib.hid pr.below
      clear pr sm
      have hx1 : (len : Int) ≤ (i : Int) ∨ ((i : Int) < (len : Int) ∧ (40 : Int) ≤ (i : Int)) := by omega
      clear hex
      rcases hx1 with hx1 | ⟨hx1, hx2⟩
      all_goals
        go_wp2
        go_ret
        exact ⟨rfl, HP.out⟩

set_option maxRecDepth 100000 in
set_option maxHeartbeats 1600000 in
theorem lifted (os : Os) (started : os.Started) (H : Type) (enc : TypeId × Value → H) :
    ReturnsInHanded {} Try.checked os 3 .any (Rows.walPlaysSpec.pre6 enc Try.prog Try.f3 Rows.walPlaysRow.domain false) (Rows.walPlaysSpec.post enc Try.prog Try.f3 false true false false) := by
  refine returnsInHanded_of_change (C := Try.checked) own started (by kernel_rfl) Try.func3
    (ChangeSpec.witness6 (enc := enc) (C := Try.checked) false ⟨#[], #[.int .i64 0, .slice none 0 0], []⟩ 8 (by kernel_rfl) (by kernel_rfl) (by kernel_rfl) (by kernel_rfl)) ?_
  intro W base args ds gs before hval0 hW hcnd _
  have hval : ∀ (j : Nat) t v, Try.f3.params[j]? = some t → args[j]? = some v → Value.okWide Try.prog W .any base t v := hval0
  have hW' := hW
  obtain ⟨p, q, hA0, hV, rfl, hfz, hnd⟩ := hW
  have hA : DataW.TrodAll enc Try.prog W 0 (fun _ => true) true Try.f3.params.toList args.toList ds p := hA0
  rw [Try.params3] at hA hval
  obtain ⟨v0, vs0, d0, ds0, p0, q0, hargs, rfl, rfl, h0, r0⟩ := trodAll_cons hA
  obtain ⟨v1, vs1, d1, ds1, p1, q1, rfl, rfl, rfl, h1, r1⟩ := trodAll_cons r0
  obtain ⟨rfl, rfl, rfl⟩ := trodAll_nil r1
  obtain rfl : args = #[v0, v1] := by cases args; simp_all
  obtain ⟨rfl, rfl⟩ := trodVars_none hV
  have lt0 : ∀ x ∈ p0, x.block < W.heap.size := by obtain ⟨m, hm⟩ := h0; exact DataW.trod_lt m _ _ _ hm
  obtain ⟨n, e0, -, -, wfn⟩ := open_int Try.underlying3 (hval 0 3 v0 rfl rfl) h0
  subst e0
  have lt1 : ∀ x ∈ p1, x.block < W.heap.size := by obtain ⟨m, hm⟩ := h1; exact DataW.trod_lt m _ _ _ hm
  obtain ⟨ao, len, cap, rfl, le, tr⟩ := Wl.open_steps (hval 1 22 v1 rfl rfl) h1
  clear hA0 hval0
  refine (walk n _ _ _ W (in64_wf wfn) le tr).mono fun e W' ⟨he, bel⟩ => ?_
  subst he
  exact ⟨_, rfl, _, _, _, [], _, [], hW', trodAll_mk1 (shut_bool Try.underlying4 _), (trodAll_cons_mk (Below.trod laidOut (by kernel_rfl) (of_decide_eq_true (by kernel_rfl)) h0 bel lt0) (trodAll_cons_mk (Below.trod laidOut (by kernel_rfl) (of_decide_eq_true (by kernel_rfl)) h1 bel lt1) trodAll_mk0)), rfl, bel.frame _, fun h => by cases h⟩

theorem proved : Rows.WalPlaysSaid :=
  OpenClaim.holds_of_wide 3 Try.f3 rfl rfl rfl rfl rfl rfl rfl ⟨rfl, rfl, rfl, rfl, rfl⟩ rfl rfl rfl rfl rfl (by kernel_rfl) Try.func3 (by kernel_rfl)
    (of_decide_eq_true (by kernel_rfl)) (by unfold Func.isWrapper; first | (rw [if_pos (by decide +kernel)]; kernel_rfl) | (rw [if_neg (by decide +kernel)]; exact ⟨rfl, rfl⟩))
    (fun os started H enc _ => lifted os started H enc)
#print axioms proved
end Go.Proofs.Ytcbemjckcmcelaa.walPlays
