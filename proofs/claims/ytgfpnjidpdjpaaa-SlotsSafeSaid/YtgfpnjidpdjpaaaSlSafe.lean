/- horariumlaw06.SlotsSafe answers true at every number and every row of tries: whatever a crash does to a Write, or a fault, Read tells the snapshot that was told ahead of it, or the new one; and of a Write that was told as done the new one. No condition. -/
import Derived.Test.YtgfpnjidpdjpaaaSlS
import Derived.Test.YtgfpnjidpdjpaaaSlR
import Derived.Test.YtgfpnjidpdjpaaaDkG
import Derived.Deep.DeepCutAuto
import Derived.Deep.RegionHeld3
import Derived.BigQuiet
namespace Go.Proofs.Ytgfpnjidpdjpaaa.slotsSafe
open Go.ChangeShapes Go.WideShapes Go.ChangeAt Go.RowKit Go.Joins
set_option maxRecDepth 100000
set_option linter.unusedVariables false
set_option linter.unusedSimpArgs false
open Dk (own laidOut in64_wf ptr DS)
open Sl (Lw Few snapV InvD gotR newR SS)
/-- between two tries -/
structure Sf (B d n i : Nat) (s : DS) (nx : Nat) (told : Option (Nat × List UInt8)) (w wx : World) : Prop where
  dk : Dk.Dk B d s wx
  len : s.sec.length = 2 * n
  opn : s.opn = []
  fail : s.fail = 0
  reads : s.reads ≤ 1000
  inv : InvD s 0 n nx i told
  bel : Below B w wx
def SfRel (B d n : Nat) (w : World) (m : Nat) (s8 s9 s10 : Value) (wx : World) : Prop :=
  ∃ i s nx told, i + m = 10 ∧ s10 = .int .i64 (i : Int) ∧ s8 = .string (mkB (Option.getD told (0, [])).2) ∧ s9 = .bool (Option.isSome told) ∧ Sf B d n i s nx told w wx
/-- a try in its block -/
def ObAt (w : World) (p : Nat) (t : ByteArray) (n : Int) (v : Value) : Prop := w.heap[p]? = some (.cells #[.string t, .int .i64 n, v] 28 (0, 0))
theorem ObAt.c0 {w : World} {p : Nat} {t : ByteArray} {n : Int} {v : Value} (h : ObAt w p t n v) : w.cell? ⟨p, 0, none⟩ = some (.string t) := by rw [Lib.cell_of_heap h]; rfl
theorem ObAt.c1 {w : World} {p : Nat} {t : ByteArray} {n : Int} {v : Value} (h : ObAt w p t n v) : w.cell? ⟨p, 1, none⟩ = some (.int .i64 n) := by rw [Lib.cell_of_heap h]; rfl
theorem ObAt.c2 {w : World} {p : Nat} {t : ByteArray} {n : Int} {v : Value} (h : ObAt w p t n v) : w.cell? ⟨p, 2, none⟩ = some v := by rw [Lib.cell_of_heap h]; rfl
theorem ObAt.call {w w' : World} {p : Nat} {t : ByteArray} {n : Int} {v : Value} (h : ObAt w p t n v) (hb : Below w.heap.size w w') : ObAt w' p t n v := by unfold ObAt at *; rw [hb.block p (Dk.lt_of_heap h)]; exact h
theorem ObAt.mv {B b q : Nat} {s : DS} {w w' : World} {p : Nat} {t : ByteArray} {n : Int} {v : Value} (h : ObAt w p t n v) (d : Dk.Dk B b s w) (m : Sl.Mv b q w w') (hq : p ≠ q) : ObAt w' p t n v := m.keep d h hq (by decide) (by decide) (by decide)
theorem slots0 (B b : Nat) (s : DS) (k : Nat) (w : World) (h : Dk.Dk B b s w) (h1 : 1 ≤ k) (h2 : k ≤ 64) (h3 : 2 * k ≤ s.sec.length) :
    Calls Try.prog 9 #[ptr b, .int .i64 0, .int .i64 (k : Int)] w fun e w' => e = .returned (ptr w.heap.size) ∧ Sl.Sl w.heap.size b ⟨0, k, false, 0, 0⟩ w' ∧ Below w.heap.size w w' := Sl.new_yes B b s 0 k w h h1 h2 (by omega)
/-- what a Write and a crash behind it make of a disk with two slots: the error that was told, and what is told then -/
structure Tried (s : DS) (n nx M f : Nat) (data : List UInt8) (fs : List (Int × Int)) (told : Option (Nat × List UInt8)) (ok : Bool) (nx' : Nat) (told' : Option (Nat × List UInt8)) : Prop where
  flag : (Sl.putR ⟨s.sec, s.opn, f, s.reads⟩ (0 + nx * n) n data (M + 1)).2 = ok
  inv : InvD (Dk.crashR (Sl.putR ⟨s.sec, s.opn, f, s.reads⟩ (0 + nx * n) n data (M + 1)).1 fs).1 0 n nx' (M + 1) told'
  len : (Dk.crashR (Sl.putR ⟨s.sec, s.opn, f, s.reads⟩ (0 + nx * n) n data (M + 1)).1 fs).1.sec.length = s.sec.length
  few : (Sl.putR ⟨s.sec, s.opn, f, s.reads⟩ (0 + nx * n) n data (M + 1)).1.opn.length ≤ 100
  is : told' = some (M + 1, data) ∨ (ok = false ∧ told' = told)
theorem tried (s : DS) (n nx M f : Nat) (data : List UInt8) (fs : List (Int × Int)) (told : Option (Nat × List UInt8)) (ok : s.Ok) (hs : s.opn = []) (hl : s.sec.length = 2 * n) (hi : InvD s 0 n nx M told) (h1 : 1 ≤ n) (h2 : n ≤ 64) (hM : M + 1 < 256) (hd : data.length ≤ 43 * n) :
    ∃ okb nx' told', Tried s n nx M f data fs told okb nx' told' := by
  by_cases hf : 1 ≤ f ∧ f ≤ n + 1
  · have e : Sl.putR ⟨s.sec, s.opn, f, s.reads⟩ (0 + nx * n) n data (M + 1) = (⟨s.sec, s.opn ++ Sl.wrs (0 + nx * n) data (M + 1) (f - 1), 0, s.reads⟩, false) := by
      unfold Sl.putR; rw [if_pos hf]
    have ln : (Dk.crashR ⟨s.sec, s.opn ++ Sl.wrs (0 + nx * n) data (M + 1) (f - 1), 0, s.reads⟩ fs).1.sec.length = s.sec.length := by
      show (Dk.crashedS _ _).length = _
      unfold Dk.crashedS; rw [Dk.laid_length]
    have fw : (DS.mk s.sec (s.opn ++ Sl.wrs (0 + nx * n) data (M + 1) (f - 1)) 0 s.reads).opn.length ≤ 100 := by
      show (s.opn ++ Sl.wrs _ _ _ _).length ≤ _
      rw [hs, List.nil_append, Sl.wrs_length]; omega
    rcases hi.crash (data := data) (E := M + 1) (m := f - 1) hs h1 h2 (by omega) (by omega) hM hd (by omega) 0 s.reads fs with h | h
    · exact ⟨false, _, _, by rw [e], by rw [e]; exact h, by rw [e]; exact ln, by rw [e]; exact fw, .inl rfl⟩
    · exact ⟨false, _, _, by rw [e], by rw [e]; exact h, by rw [e]; exact ln, by rw [e]; exact fw, .inr ⟨rfl, rfl⟩⟩
  · have e : Sl.putR ⟨s.sec, s.opn, f, s.reads⟩ (0 + nx * n) n data (M + 1) = (⟨Dk.flushedS ⟨s.sec, s.opn ++ Sl.wrs (0 + nx * n) data (M + 1) n, 0, s.reads⟩, [], f - (n + 1), s.reads⟩, true) := by
      unfold Sl.putR; rw [if_neg hf]
    have h := hi.done (data := data) (E := M + 1) (f' := f - (n + 1)) ok h1 h2 (by omega) (by omega) hM hd
    refine ⟨true, _, _, by rw [e], by rw [e]; exact h.same rfl rfl, ?_, by rw [e]; simp, .inl rfl⟩
    rw [e]
    show (Dk.laid (Dk.flushedS _) ([] : List (Nat × List UInt8)) (Dk.keptAt fs) 0).length = _
    rw [Dk.laid_length]
    unfold Dk.flushedS; rw [Dk.laid_length]

set_option maxRecDepth 100000 in
set_option maxHeartbeats 8000000 in
theorem walk (k : Int) (ao : Option Addr) (len cap : Nat) (w : World) (hn : Dk.In64 k) (hl : len ≤ 9223372036854775807) (hT : Sl.Tries ao len w) :
    Calls Try.prog 3 #[.int .i64 k, .slice ao len cap] w fun e w' => e = .returned (.bool true) ∧ Below w.heap.size w w' := by
  obtain ⟨a, ha, ha4⟩ := Dk.four k
  obtain ⟨n, hnn⟩ : ∃ n : Nat, n = 1 + a := ⟨_, rfl⟩
  have hk : 1 + bits .and .i64 k 3 = (n : Int) := by rw [ha, hnn]; push_cast; rfl
  have n1 : 1 ≤ n := by omega
  have n2 : n ≤ 4 := by omega
  have n1i : 1 ≤ (n : Int) := by omega
  have n2i : (n : Int) ≤ 4 := by omega
  have AW := Lib.hid (fun w => Sl.awake_any w)
  have ND := Lib.hid (fun w => Dk.new_yes (2 * n) w (by omega) (by omega))
  rw [show ((2 * n : Nat) : Int) = 2 * (n : Int) by push_cast; rfl] at ND
  have HT := Lib.hid hT
  clear ha hT hnn ha4
  go_enter Try.func3, Try.ntmps3
  go_wp2_with fail
  (with_reducible refine (AW.out _).mono ?_)
  rintro e w1 ⟨rfl, b1⟩
  clear AW
  go_wp2_with fail
  (with_reducible refine (ND.out _).mono ?_)
  rintro e w2 ⟨rfl, d2, b2⟩
  have S0 : Hid (Sf w.heap.size (w1.heap.size + 1) n 0 (Dk.newR (2 * n)) 0 none w w2) := Lib.hid ⟨d2.mono b1.size, by simp [Dk.newR], rfl, rfl, by simp [Dk.newR], Sl.invD_new (2 * n) 0 n n1 (by omega), b1.trans (b2.mono b1.size)⟩
  clear ND d2 b1 b2
  generalize w1.heap.size + 1 = d at *
  go_wp2_with fail
  go_loopg [8, 9, 10] 10 (SfRel w.heap.size d n w)
  case atStart => exact ⟨0, _, 0, none, rfl, rfl, rfl, rfl, S0.out⟩
  case round =>
    clear S0
    obtain ⟨i, s, nx, told, hi, rfl, rfl, rfl, hs⟩ := hrel
    rcases (show (i < len ∧ i < 10) ∨ (i < len ∧ i = 10) ∨ len ≤ i by omega) with ⟨hil, hi10⟩ | ⟨hil, hi10⟩ | hil
    · obtain ⟨tb, off, rfl, htb, hcs⟩ := HT.out (by omega)
      obtain ⟨tx, fl, fo, fs, fc, tr⟩ := hcs i hil
      have r0 : wr.cell? ⟨tb, off + i * 3, none⟩ = some (.string tx) := by rw [hs.bel.cell (p := ⟨tb, off + i * 3, none⟩) htb]; exact tr.c0
      have r1 : wr.cell? ⟨tb, off + i * 3 + 1, none⟩ = some (.int .i64 fl) := by rw [hs.bel.cell (p := ⟨tb, off + i * 3 + 1, none⟩) htb]; exact tr.c1
      have r2 : wr.cell? ⟨tb, off + i * 3 + 2, none⟩ = some (.slice fo fs.length fc) := by rw [hs.bel.cell (p := ⟨tb, off + i * 3 + 2, none⟩) htb]; exact tr.c2
      have FT := Lib.hid (And.intro tr.fats tr.len)
      have ifl := tr.i_n
      have hwr : wr.heap.size ≤ wr.heap.size := Nat.le_refl _
      have il : (i : Int) < (len : Int) := by omega
      have il10 : (i : Int) < 10 := by omega
      have SF := Lib.hid hs
      clear tr hcs hs HT
      have O1 : Hid (ObAt (wr.alloc (.cells #[.string tx, .int .i64 fl, .slice fo fs.length fc] 28)) wr.heap.size tx fl (.slice fo fs.length fc)) := Lib.hid (heap_alloc_new _ _)
      have D1 := Lib.hid (And.intro (SF.out.dk.call ((Below.refl _ _).alloc (Nat.le_refl _) (.cells #[.string tx, .int .i64 fl, .slice fo fs.length fc] 28))) (SF.out.bel.alloc SF.out.dk.le (.cells #[.string tx, .int .i64 fl, .slice fo fs.length fc] 28)))
      have NS := Lib.hid (slots0 w.heap.size d s n _ D1.out.1 n1 (by omega) (by rw [SF.out.len]; omega))
      go_wp2_with fail
      (with_reducible refine NS.out.mono ?_)
      rintro e w3 ⟨rfl, s3, b3⟩
      have L3 := Lib.hid (Sl.lw_new D1.out.1 D1.out.2 s3 b3)
      have O3 := Lib.hid (O1.out.call b3)
      have oq : wr.heap.size ≠ (wr.alloc (.cells #[.string tx, .int .i64 fl, .slice fo fs.length fc] 28)).heap.size := by simp
      clear NS D1 O1 s3 b3 r0 r1 r2
      generalize (wr.alloc (.cells #[.string tx, .int .i64 fl, .slice fo fs.length fc] 28)).heap.size = q at *
      generalize wr.heap.size = ob at *
      obtain ⟨T, rfl⟩ : ∃ T, tx = mkB T := ⟨tx.data.toList, (mkB_of tx).symm⟩
      have ok1 := SF.out.dk.ok
      have few1 : Few ⟨0, n, false, 0, 0⟩ s := ⟨n1, by show n ≤ 64; omega, by show 0 + 2 * n ≤ s.sec.length; rw [SF.out.len]; omega, by rw [SF.out.opn]; simp, by have := SF.out.reads; omega, SF.out.fail⟩
      have RD := Lib.hid (Sl.read_t w.heap.size d q _ s nx i told w w3 L3.out few1 SF.out.inv)
      have NW := SF.out.inv.newest (t := ⟨0, n, false, 0, 0⟩)
      clear few1
      generalize newR ⟨0, n, false, 0, 0⟩ s = M at *
      have sv : snapV told = .agg #[.int .u64 ((told.getD (0, [])).1 : Int), .string (mkB (told.getD (0, [])).2)] := rfl
      rw [sv] at RD
      clear sv
      generalize hHB : mkB (told.getD (0, [])).2 = HB at *
      have tt : (HB.toList == HB.toList) = true := by simp
      have tu : (HB.toList != HB.toList) = false := by simp
      go_wp2_with fail
      (with_reducible refine RD.out.mono ?_)
      rintro e w4 ⟨rfl, L4, m4⟩
      have O4 := Lib.hid ((O3.out.mv L3.out.dk m4 oq).call ((Below.refl _ _).alloc (Nat.le_refl _) (.cells #[.int .u64 ((told.getD (0, [])).1 : Int), .string HB] 33)))
      have L5 := Lib.hid (L4.call ((Below.refl _ _).alloc (Nat.le_refl _) (.cells #[.int .u64 ((told.getD (0, [])).1 : Int), .string HB] 33)))
      clear RD L3 L4 O3 m4
      have bb : (told.isSome != told.isSome) = false := by simp
      have o0 := O4.out.c0
      have o1 := O4.out.c1
      have SH := Lib.hid (fun w => Sl.short_any T (43 * n) w (by omega))
      rw [show ((43 * n : Nat) : Int) = 43 * (n : Int) by push_cast; rfl] at SH
      generalize ((told.getD (0, [])).1 : Int) = TE at *
      have x0 : ∀ x, (w4.alloc (.cells #[.int .u64 TE, .string HB] 33)).cell? ⟨w4.heap.size, 1, none⟩ = some x → x = .string HB := fun x hx => by
        rw [Lib.cell_of_heap (heap_alloc_new _ _)] at hx; simpa using hx.symm
      clear x0
      obtain ⟨data, hdata⟩ : ∃ data, data = T.take (43 * n) := ⟨_, rfl⟩
      have hdl : data.length ≤ 43 * n := by rw [hdata, List.length_take]; omega
      rw [← hdata] at SH
      generalize hDB : mkB data = DB at *
      go_upto_region 18 with (fail)
      generalize (w4.alloc (.cells #[.int .u64 TE, .string HB] 33)) = w5 at *
      go_wp2_with fail
      (with_reducible refine (SH.out _).mono ?_)
      rintro e w5' ⟨rfl, rfl⟩
      clear SH
      obtain ⟨f, hf7, hf8⟩ : ∃ f : Nat, bits .and .i64 fl 7 = (f : Int) ∧ f < 8 := ⟨(fl % 8).toNat, by rw [Dk.i64_and7]; omega, by omega⟩
      have FA := Lib.hid (Dk.fail_any w.heap.size d _ (f : Int) w5' L5.out.dk (by omega))
      go_wp2_with fail
      (with_reducible refine FA.out.mono ?_)
      rintro e w6 ⟨rfl, d6, m6⟩
      have L6 : Hid (Lw w.heap.size d q ⟨0, n, true, M, nx⟩ ⟨(gotR s n).sec, (gotR s n).opn, f, (gotR s n).reads⟩ w w6) := Lib.hid (L5.out.disk (by have := d6; unfold Dk.failR at this; rw [Int.toNat_natCast] at this; exact this) m6)
      have O6 := Lib.hid (O4.out.mv L5.out.dk (.of_moved m6) oq)
      have ok6 := L5.out.dk.ok
      clear FA d6 m6 L5 O4 o0 o1
      have I6 : InvD (gotR s n) 0 n nx M told := NW.1.got n
      obtain ⟨okb, nx2, told2, TR0⟩ := tried (gotR s n) n nx M f data fs told ok6 SF.out.opn SF.out.len I6 n1 (by omega) (by omega) hdl
      have TR := Lib.hid TR0
      have WA := Lib.hid (Sl.write_any w.heap.size d q ⟨0, n, true, M, nx⟩ ⟨(gotR s n).sec, (gotR s n).opn, f, (gotR s n).reads⟩ data w6 L6.out.dk L6.out.sl n1 (by show n ≤ 64; omega) I6.x1 (by have := (Sl.rooms (a := 0) (k := n) I6.x1 (show 0 + 2 * n ≤ s.sec.length by rw [SF.out.len]; omega)).1; exact this) rfl (by show M < _; omega) (by omega) hdl (by show s.opn.length ≤ _; rw [SF.out.opn]; simp) (by show f < _; omega))
      dsimp only at WA
      rw [TR0.flag, hDB] at WA
      have IV := Lib.hid TR0.inv
      have TI := TR0.is
      have FEW := Lib.hid (fun t' => (show Few ⟨0, n, (Sl.wroteT ⟨0, n, true, M, nx⟩ okb).rd, M + 1, t'⟩ (Dk.crashR (Sl.putR ⟨(gotR s n).sec, (gotR s n).opn, f, (gotR s n).reads⟩ (0 + nx * n) n data (M + 1)).1 fs).1 from ⟨n1, by show n ≤ 64; omega, by rw [TR0.len]; show 0 + 2 * n ≤ s.sec.length; rw [SF.out.len]; omega, by simp [Dk.crashR], by simp [Dk.crashR], rfl⟩))
      have hg0 : 0 < gk := by omega
      have dt : (DB.toList == DB.toList) = true := by simp
      have du : (DB.toList != DB.toList) = false := by simp
      have MLE : M ≤ i := NW.2
      clear TR0 I6 ok6 ok1 NW
      rcases TI with rfl | ⟨rfl, rfl⟩
      · cases okb with
        | true =>
          have WV : Sl.wroteV ⟨0, n, true, M, nx⟩ true = .tuple #[.int .u64 ((M + 1 : Nat) : Int), .int .i64 0] := rfl
          have ME : ((M + 1 : Nat) : Int) ≤ 20 := by omega
          rw [WV] at WA
          clear WV
          generalize ((M + 1 : Nat) : Int) = MI at *
          go_wp2_with fail
          (with_reducible refine WA.out.mono ?_)
          rintro e w7 ⟨rfl, d7, s7, m7⟩
          have O7 := Lib.hid (O6.out.mv L6.out.dk m7 oq)
          have L7 := Lib.hid (L6.out.go d7 s7 m7)
          clear WA d7 s7 m7 L6 O6
          have fc7 : Dk.Fats fo fs w7 := FT.out.1.of_blocks L7.out.bel.size (fun k off e hk => L7.out.bel.block k hk)
          have of7 : 0 < fs.length → Dk.Off fo d w7 := fun h0 k off e h => by (obtain ⟨b9, off9, e9, hb9, _⟩ := FT.out.1.2 h0; rw [e9] at e; cases e; have := (L7.out.dk.ownLt h).1; omega)
          have CR := Lib.hid (Dk.crash_any w.heap.size d _ fo fs fc w7 L7.out.dk fc7 of7 (by have := TR.out.few; omega) FT.out.2)
          have o2 := O7.out.c2
          clear fc7 of7 O7
          go_wp2_with fail
          (with_reducible refine CR.out.mono ?_)
          rintro e w8 ⟨rfl, d8, m8⟩
          have L8 := Lib.hid (L7.out.disk d8 m8)
          clear CR d8 m8 L7 o2
          have RD := Lib.hid (Sl.read_t w.heap.size d q _ _ nx2 (M + 1) (some (M + 1, data)) w w8 L8.out (FEW.out _) IV.out)
          clear L8
          have sv : snapV (some (M + 1, data)) = .agg #[.int .u64 (((M + 1 : Nat) : Int) : Int), .string DB] := by rw [← hDB]; rfl
          rw [sv] at RD
          clear sv
          generalize ((M + 1 : Nat) : Int) = MJ at *
          have si : (some (M + 1, data)).isSome = true := rfl
          rw [si] at RD
          clear si
          go_wp2_with fail
          (with_reducible refine RD.out.mono ?_)
          rintro e w9 ⟨rfl, L9, _⟩
          clear RD
          have N : Hid (∀ x, x = ((i + 1 : Nat) : Int) → SfRel w.heap.size d n w (gk - 1) (.string DB) (.bool true) (.int .i64 x) (w9.alloc (.cells #[.int .u64 MJ, .string DB] 33))) := Lib.hid (fun x hx => by
            subst hx
            have LA := L9.call ((Below.refl _ _).alloc (Nat.le_refl _) (.cells #[.int .u64 MJ, .string DB] 33))
            refine ⟨i + 1, _, nx2, some (M + 1, data), by omega, rfl, by rw [← hDB]; rfl, rfl, LA.dk, ?_, rfl, ?_, ?_, ((IV.out.got n).mono (by omega)), LA.bel⟩
            · show (Dk.crashR _ _).1.sec.length = _; rw [TR.out.len]; exact SF.out.len
            · show 0 - 2 * n = 0; omega
            · show 0 + 2 * n ≤ 1000; omega)
          clear L9
          go_wp2
          go_roundg (gk - 1)
          case measure => omega
          case rel => exact N.out _ (by push_cast; rfl)
        | false =>
          have WV : Sl.wroteV ⟨0, n, true, M, nx⟩ false = .tuple #[.int .u64 0, .int .i64 18] := rfl
          rw [WV] at WA
          clear WV
          go_wp2_with fail
          (with_reducible refine WA.out.mono ?_)
          rintro e w7 ⟨rfl, d7, s7, m7⟩
          have O7 := Lib.hid (O6.out.mv L6.out.dk m7 oq)
          have L7 := Lib.hid (L6.out.go d7 s7 m7)
          clear WA d7 s7 m7 L6 O6
          have fc7 : Dk.Fats fo fs w7 := FT.out.1.of_blocks L7.out.bel.size (fun k off e hk => L7.out.bel.block k hk)
          have of7 : 0 < fs.length → Dk.Off fo d w7 := fun h0 k off e h => by (obtain ⟨b9, off9, e9, hb9, _⟩ := FT.out.1.2 h0; rw [e9] at e; cases e; have := (L7.out.dk.ownLt h).1; omega)
          have CR := Lib.hid (Dk.crash_any w.heap.size d _ fo fs fc w7 L7.out.dk fc7 of7 (by have := TR.out.few; omega) FT.out.2)
          have o2 := O7.out.c2
          clear fc7 of7 O7
          go_wp2_with fail
          (with_reducible refine CR.out.mono ?_)
          rintro e w8 ⟨rfl, d8, m8⟩
          have L8 := Lib.hid (L7.out.disk d8 m8)
          clear CR d8 m8 L7 o2
          have RD := Lib.hid (Sl.read_t w.heap.size d q _ _ nx2 (M + 1) (some (M + 1, data)) w w8 L8.out (FEW.out _) IV.out)
          clear L8
          have sv : snapV (some (M + 1, data)) = .agg #[.int .u64 (((M + 1 : Nat) : Int) : Int), .string DB] := by rw [← hDB]; rfl
          rw [sv] at RD
          clear sv
          generalize ((M + 1 : Nat) : Int) = MJ at *
          have si : (some (M + 1, data)).isSome = true := rfl
          rw [si] at RD
          clear si
          go_wp2_with fail
          (with_reducible refine RD.out.mono ?_)
          rintro e w9 ⟨rfl, L9, _⟩
          clear RD
          have N : Hid (∀ x, x = ((i + 1 : Nat) : Int) → SfRel w.heap.size d n w (gk - 1) (.string DB) (.bool true) (.int .i64 x) (w9.alloc (.cells #[.int .u64 MJ, .string DB] 33))) := Lib.hid (fun x hx => by
            subst hx
            have LA := L9.call ((Below.refl _ _).alloc (Nat.le_refl _) (.cells #[.int .u64 MJ, .string DB] 33))
            refine ⟨i + 1, _, nx2, some (M + 1, data), by omega, rfl, by rw [← hDB]; rfl, rfl, LA.dk, ?_, rfl, ?_, ?_, ((IV.out.got n).mono (by omega)), LA.bel⟩
            · show (Dk.crashR _ _).1.sec.length = _; rw [TR.out.len]; exact SF.out.len
            · show 0 - 2 * n = 0; omega
            · show 0 + 2 * n ≤ 1000; omega)
          clear L9
          go_wp2
          go_roundg (gk - 1)
          case measure => omega
          case rel => exact N.out _ (by push_cast; rfl)
      · cases told2 with
        | none =>
          have WV : Sl.wroteV ⟨0, n, true, M, nx⟩ false = .tuple #[.int .u64 0, .int .i64 18] := rfl
          rw [WV] at WA
          clear WV
          go_wp2_with fail
          (with_reducible refine WA.out.mono ?_)
          rintro e w7 ⟨rfl, d7, s7, m7⟩
          have O7 := Lib.hid (O6.out.mv L6.out.dk m7 oq)
          have L7 := Lib.hid (L6.out.go d7 s7 m7)
          clear WA d7 s7 m7 L6 O6
          have fc7 : Dk.Fats fo fs w7 := FT.out.1.of_blocks L7.out.bel.size (fun k off e hk => L7.out.bel.block k hk)
          have of7 : 0 < fs.length → Dk.Off fo d w7 := fun h0 k off e h => by (obtain ⟨b9, off9, e9, hb9, _⟩ := FT.out.1.2 h0; rw [e9] at e; cases e; have := (L7.out.dk.ownLt h).1; omega)
          have CR := Lib.hid (Dk.crash_any w.heap.size d _ fo fs fc w7 L7.out.dk fc7 of7 (by have := TR.out.few; omega) FT.out.2)
          have o2 := O7.out.c2
          clear fc7 of7 O7
          go_wp2_with fail
          (with_reducible refine CR.out.mono ?_)
          rintro e w8 ⟨rfl, d8, m8⟩
          have L8 := Lib.hid (L7.out.disk d8 m8)
          clear CR d8 m8 L7 o2
          have RD := Lib.hid (Sl.read_t w.heap.size d q _ _ nx2 (M + 1) ((none : Option (Nat × List UInt8))) w w8 L8.out (FEW.out _) IV.out)
          clear L8
          have sv : snapV ((none : Option (Nat × List UInt8))) = .agg #[.int .u64 (((Option.getD ((none : Option (Nat × List UInt8))) (0, [])).1 : Int) : Int), .string HB] := by rw [← hHB]; rfl
          rw [sv] at RD
          clear sv
          generalize ((Option.getD ((none : Option (Nat × List UInt8))) (0, [])).1 : Int) = MJ at *
          have si : Option.isSome ((none : Option (Nat × List UInt8))) = false := rfl
          rw [si] at RD
          clear si
          go_wp2_with fail
          (with_reducible refine RD.out.mono ?_)
          rintro e w9 ⟨rfl, L9, _⟩
          clear RD
          have N : Hid (∀ x, x = ((i + 1 : Nat) : Int) → SfRel w.heap.size d n w (gk - 1) (.string HB) (.bool false) (.int .i64 x) (w9.alloc (.cells #[.int .u64 MJ, .string HB] 33))) := Lib.hid (fun x hx => by
            subst hx
            have LA := L9.call ((Below.refl _ _).alloc (Nat.le_refl _) (.cells #[.int .u64 MJ, .string HB] 33))
            refine ⟨i + 1, _, nx2, (none : Option (Nat × List UInt8)), by omega, rfl, by rw [← hHB], rfl, LA.dk, ?_, rfl, ?_, ?_, ((IV.out.got n).mono (by omega)), LA.bel⟩
            · show (Dk.crashR _ _).1.sec.length = _; rw [TR.out.len]; exact SF.out.len
            · show 0 - 2 * n = 0; omega
            · show 0 + 2 * n ≤ 1000; omega)
          clear L9
          go_wp2
          go_roundg (gk - 1)
          case measure => omega
          case rel => exact N.out _ (by push_cast; rfl)
        | some c =>
          by_cases hEQ : HB = DB
          · skip
            obtain rfl := hEQ
            clear dt du
            have WV : Sl.wroteV ⟨0, n, true, M, nx⟩ false = .tuple #[.int .u64 0, .int .i64 18] := rfl
            rw [WV] at WA
            clear WV
            go_wp2_with fail
            (with_reducible refine WA.out.mono ?_)
            rintro e w7 ⟨rfl, d7, s7, m7⟩
            have O7 := Lib.hid (O6.out.mv L6.out.dk m7 oq)
            have L7 := Lib.hid (L6.out.go d7 s7 m7)
            clear WA d7 s7 m7 L6 O6
            have fc7 : Dk.Fats fo fs w7 := FT.out.1.of_blocks L7.out.bel.size (fun k off e hk => L7.out.bel.block k hk)
            have of7 : 0 < fs.length → Dk.Off fo d w7 := fun h0 k off e h => by (obtain ⟨b9, off9, e9, hb9, _⟩ := FT.out.1.2 h0; rw [e9] at e; cases e; have := (L7.out.dk.ownLt h).1; omega)
            have CR := Lib.hid (Dk.crash_any w.heap.size d _ fo fs fc w7 L7.out.dk fc7 of7 (by have := TR.out.few; omega) FT.out.2)
            have o2 := O7.out.c2
            clear fc7 of7 O7
            go_wp2_with fail
            (with_reducible refine CR.out.mono ?_)
            rintro e w8 ⟨rfl, d8, m8⟩
            have L8 := Lib.hid (L7.out.disk d8 m8)
            clear CR d8 m8 L7 o2
            have RD := Lib.hid (Sl.read_t w.heap.size d q _ _ nx2 (M + 1) (some c) w w8 L8.out (FEW.out _) IV.out)
            clear L8
            have sv : snapV (some c) = .agg #[.int .u64 (((Option.getD (some c) (0, [])).1 : Int) : Int), .string HB] := by rw [← hHB]; rfl
            rw [sv] at RD
            clear sv
            generalize ((Option.getD (some c) (0, [])).1 : Int) = MJ at *
            have si : Option.isSome (some c) = true := rfl
            rw [si] at RD
            clear si
            go_wp2_with fail
            (with_reducible refine RD.out.mono ?_)
            rintro e w9 ⟨rfl, L9, _⟩
            clear RD
            have N : Hid (∀ x, x = ((i + 1 : Nat) : Int) → SfRel w.heap.size d n w (gk - 1) (.string HB) (.bool true) (.int .i64 x) (w9.alloc (.cells #[.int .u64 MJ, .string HB] 33))) := Lib.hid (fun x hx => by
              subst hx
              have LA := L9.call ((Below.refl _ _).alloc (Nat.le_refl _) (.cells #[.int .u64 MJ, .string HB] 33))
              refine ⟨i + 1, _, nx2, some c, by omega, rfl, by rw [← hHB], rfl, LA.dk, ?_, rfl, ?_, ?_, ((IV.out.got n).mono (by omega)), LA.bel⟩
              · show (Dk.crashR _ _).1.sec.length = _; rw [TR.out.len]; exact SF.out.len
              · show 0 - 2 * n = 0; omega
              · show 0 + 2 * n ≤ 1000; omega)
            clear L9
            go_wp2
            go_roundg (gk - 1)
            case measure => omega
            case rel => exact N.out _ (by push_cast; rfl)
          · skip
            have ne1 : (HB.toList == DB.toList) = false := by (simp only [beq_eq_false_iff_ne, ne_eq]; intro e; apply hEQ; rw [← mkB_of HB, ← mkB_of DB, ← ByteArray.toList_eq, ← ByteArray.toList_eq, e])
            have ne2 : ¬ HB = DB := hEQ
            have WV : Sl.wroteV ⟨0, n, true, M, nx⟩ false = .tuple #[.int .u64 0, .int .i64 18] := rfl
            rw [WV] at WA
            clear WV
            go_wp2_with fail
            (with_reducible refine WA.out.mono ?_)
            rintro e w7 ⟨rfl, d7, s7, m7⟩
            have O7 := Lib.hid (O6.out.mv L6.out.dk m7 oq)
            have L7 := Lib.hid (L6.out.go d7 s7 m7)
            clear WA d7 s7 m7 L6 O6
            have fc7 : Dk.Fats fo fs w7 := FT.out.1.of_blocks L7.out.bel.size (fun k off e hk => L7.out.bel.block k hk)
            have of7 : 0 < fs.length → Dk.Off fo d w7 := fun h0 k off e h => by (obtain ⟨b9, off9, e9, hb9, _⟩ := FT.out.1.2 h0; rw [e9] at e; cases e; have := (L7.out.dk.ownLt h).1; omega)
            have CR := Lib.hid (Dk.crash_any w.heap.size d _ fo fs fc w7 L7.out.dk fc7 of7 (by have := TR.out.few; omega) FT.out.2)
            have o2 := O7.out.c2
            clear fc7 of7 O7
            go_wp2_with fail
            (with_reducible refine CR.out.mono ?_)
            rintro e w8 ⟨rfl, d8, m8⟩
            have L8 := Lib.hid (L7.out.disk d8 m8)
            clear CR d8 m8 L7 o2
            have RD := Lib.hid (Sl.read_t w.heap.size d q _ _ nx2 (M + 1) (some c) w w8 L8.out (FEW.out _) IV.out)
            clear L8
            have sv : snapV (some c) = .agg #[.int .u64 (((Option.getD (some c) (0, [])).1 : Int) : Int), .string HB] := by rw [← hHB]; rfl
            rw [sv] at RD
            clear sv
            generalize ((Option.getD (some c) (0, [])).1 : Int) = MJ at *
            have si : Option.isSome (some c) = true := rfl
            rw [si] at RD
            clear si
            go_wp2_with fail
            (with_reducible refine RD.out.mono ?_)
            rintro e w9 ⟨rfl, L9, _⟩
            clear RD
            have N : Hid (∀ x, x = ((i + 1 : Nat) : Int) → SfRel w.heap.size d n w (gk - 1) (.string HB) (.bool true) (.int .i64 x) (w9.alloc (.cells #[.int .u64 MJ, .string HB] 33))) := Lib.hid (fun x hx => by
              subst hx
              have LA := L9.call ((Below.refl _ _).alloc (Nat.le_refl _) (.cells #[.int .u64 MJ, .string HB] 33))
              refine ⟨i + 1, _, nx2, some c, by omega, rfl, by rw [← hHB], rfl, LA.dk, ?_, rfl, ?_, ?_, ((IV.out.got n).mono (by omega)), LA.bel⟩
              · show (Dk.crashR _ _).1.sec.length = _; rw [TR.out.len]; exact SF.out.len
              · show 0 - 2 * n = 0; omega
              · show 0 + 2 * n ≤ 1000; omega)
            clear L9
            go_wp2
            go_roundg (gk - 1)
            case measure => omega
            case rel => exact N.out _ (by push_cast; rfl)
    · subst hi10
      have FIN := Lib.hid hs.bel
      clear hs HT
      have il : ((10 : Nat) : Int) < (len : Int) := by omega
      go_wp2
      go_ret
      exact ⟨rfl, FIN.out⟩
    · have FIN := Lib.hid hs.bel
      have il : (len : Int) ≤ (i : Int) := by omega
      clear hs HT
      go_wp2
      go_ret
      exact ⟨rfl, FIN.out⟩

set_option maxRecDepth 100000 in
set_option maxHeartbeats 1600000 in
theorem lifted (os : Os) (started : os.Started) (H : Type) (enc : TypeId × Value → H) :
    ReturnsInHanded {} Try.checked os 3 .any (Rows.slotsSafeSpec.pre6 enc Try.prog Try.f3 Rows.slotsSafeRow.domain false) (Rows.slotsSafeSpec.post enc Try.prog Try.f3 false true false false) := by
  refine returnsInHanded_of_change (C := Try.checked) own started (by kernel_rfl) Try.func3
    (ChangeSpec.witness6 (enc := enc) (C := Try.checked) false ⟨#[], #[.int .i64 0, .slice none 0 0], []⟩ 8 (by kernel_rfl) (by kernel_rfl) (by kernel_rfl) (by kernel_rfl)) ?_
  intro W base args ds gs before hval0 hW hcnd _
  have hval : ∀ (j : Nat) t v, Try.f3.params[j]? = some t → args[j]? = some v → Value.okWide Try.prog W .any base t v := hval0
  have hW' := hW
  obtain ⟨p, q, hA0, hV, rfl, hfz, hnd⟩ := hW
  have hA : DataW.TrodAll enc Try.prog W 0 (fun _ => true) true Try.f3.params.toList args.toList ds p := hA0
  rw [Try.params3] at hA hval
  obtain ⟨v0, vs0, d0, ds0, p0, q0, hargs, rfl, rfl, h0, r0⟩ := trodAll_cons hA
  obtain ⟨v1, vs1, d1, ds1, p1, q1, rfl, rfl, rfl, h1, r1⟩ := trodAll_cons r0
  obtain ⟨rfl, rfl, rfl⟩ := trodAll_nil r1
  obtain rfl : args = #[v0, v1] := by cases args; simp_all
  obtain ⟨rfl, rfl⟩ := trodVars_none hV
  have lt0 : ∀ x ∈ p0, x.block < W.heap.size := by obtain ⟨m, hm⟩ := h0; exact DataW.trod_lt m _ _ _ hm
  obtain ⟨k, e0, -, -, wfk⟩ := open_int Try.underlying3 (hval 0 3 v0 rfl rfl) h0
  subst e0
  have lt1 : ∀ x ∈ p1, x.block < W.heap.size := by obtain ⟨m, hm⟩ := h1; exact DataW.trod_lt m _ _ _ hm
  obtain ⟨ao, len, cap, rfl, le, tr⟩ := Sl.open_tries (hval 1 22 v1 rfl rfl) h1
  clear hA0 hval0
  refine (walk k _ _ _ W (in64_wf wfk) le tr).mono fun e W' ⟨he, bel⟩ => ?_
  subst he
  exact ⟨_, rfl, _, _, _, [], _, [], hW', trodAll_mk1 (shut_bool Try.underlying4 _), (trodAll_cons_mk (Below.trod laidOut (by kernel_rfl) (of_decide_eq_true (by kernel_rfl)) h0 bel lt0) (trodAll_cons_mk (Below.trod laidOut (by kernel_rfl) (of_decide_eq_true (by kernel_rfl)) h1 bel lt1) trodAll_mk0)), rfl, bel.frame _, fun h => by cases h⟩

theorem proved : Rows.SlotsSafeSaid :=
  OpenClaim.holds_of_wide 3 Try.f3 rfl rfl rfl rfl rfl rfl rfl ⟨rfl, rfl, rfl, rfl, rfl⟩ rfl rfl rfl rfl rfl (by kernel_rfl) Try.func3 (by kernel_rfl)
    (of_decide_eq_true (by kernel_rfl)) (by unfold Func.isWrapper; first | (rw [if_pos (by decide +kernel)]; kernel_rfl) | (rw [if_neg (by decide +kernel)]; exact ⟨rfl, rfl⟩))
    (fun os started H enc _ => lifted os started H enc)
#print axioms proved
end Go.Proofs.Ytgfpnjidpdjpaaa.slotsSafe
