/- horariumlaw08.JournalSafe answers true at every row of tries: whatever crashes and faults do, Open tells all that was told as done, and perhaps that which was under way; opened twice it tells the same. No condition. -/
import Derived.Test.YtmccoejliaakoaaJnS
import Derived.Test.YtmccoejliaakoaaMDc
import Derived.Deep.DeepCutAuto
import Derived.Deep.RegionHeld3
import Derived.Deep.CutBlock
import Derived.BigQuiet
namespace Go.Proofs.Ytmccoejliaakoaa.journalSafe
open Go.ChangeShapes Go.WideShapes Go.ChangeAt Go.RowKit Go.Joins
set_option maxRecDepth 100000
set_option linter.unusedVariables false
set_option linter.unusedSimpArgs false
open Dk (own laidOut in64_wf ptr DS)
open Jn (JL JI Kp noFound FdAt)
open Jn (Jn ObAt Me Oc Rs Okay)
theorem short43 (l : List UInt8) (w : World) :
    Calls Try.prog 12 #[.string (mkB l), .int .i64 43] w fun e w' => e = .returned (.string (mkB (l.take 43))) ∧ w' = w := Jn.short_any l 43 w (by omega)
theorem short86 (l : List UInt8) (w : World) :
    Calls Try.prog 12 #[.string (mkB l), .int .i64 86] w fun e w' => e = .returned (.string (mkB (l.take 86))) ∧ w' = w := Jn.short_any l 86 w (by omega)
/-- what stands at a round's head -/
structure Sf (B d j l q p7 nx N E r : Nat) (dat : List UInt8) (ops S : List (List UInt8)) (v : Value) (w wx : World) : Prop where
  jl : JL B d j l q 2 6 nx N E dat ops S 0 r w wx
  fd : FdAt wx p7 (mkB dat) v
  st : Strs B wx v ops
  pb : B ≤ p7
theorem Sf.call {B d j l q p7 nx N E r : Nat} {dat : List UInt8} {ops S : List (List UInt8)} {v : Value} {w wx w' : World} (h : Sf B d j l q p7 nx N E r dat ops S v w wx) (hb : Below wx.heap.size wx w') : Sf B d j l q p7 nx N E r dat ops S v w w' :=
  ⟨h.jl.call hb, h.fd.kp (.below hb), h.st.call hb, h.pb⟩
def SfRel (B d p7 : Nat) (w : World) (g : Nat) (s5 s8 : Value) (wx : World) : Prop :=
  ∃ (i j l q nx N E r : Nat) (dat : List UInt8) (ops S : List (List UInt8)) (v : Value), i + g = 14 ∧ s5 = ptr j ∧ s8 = .int .i64 (i : Int) ∧ N ≤ 1 + i ∧ r ≤ 20 * i + 4 ∧ Sf B d j l q p7 nx N E r dat ops S v w wx
def TrRel (B d ob p7 p10 i r : Nat) (sn cr tw : Bool) (T : List UInt8) (fl : Int) (fv : Value) (dat : List UInt8) (ops : List (List UInt8)) (v : Value) (w : World) (s11 : Value) (wx : World) : Prop :=
  ∃ (err : Nat) (s1 : DS) (datN : List UInt8) (opsN : List (List UInt8)) (vN : Value), s11 = .int .i64 (err : Int) ∧ Dk.Dk B d s1 wx ∧ Below B w wx ∧ s1.reads = r ∧ opsN.length ≤ 1000 ∧ Oc (2 + i) err sn dat ops datN opsN s1 ∧ Me B ob p7 p10 sn cr tw T fl fv dat ops v datN opsN vN wx
def CrRel (B d ob p7 p10 i r : Nat) (sn cr tw : Bool) (T : List UInt8) (fl : Int) (fv : Value) (dat : List UInt8) (ops : List (List UInt8)) (v : Value) (err : Nat) (datN : List UInt8) (opsN : List (List UInt8)) (vN : Value) (w : World) (s11 : Value) (wx : World) : Prop :=
  ∃ (s2 : DS) (dat2 : List UInt8) (ops2 S2 : List (List UInt8)) (nx N E r2 : Nat), s11 = .int .i64 (err : Int) ∧ r2 ≤ r ∧ Rs B d (2 + i) err sn dat ops datN opsN dat2 ops2 S2 nx N E r2 s2 w wx ∧ Me B ob p7 p10 sn cr tw T fl fv dat ops v datN opsN vN wx
def TwRel (B d ob p7 p10 i r : Nat) (sn cr tw : Bool) (T : List UInt8) (fl : Int) (fv : Value) (dat : List UInt8) (ops : List (List UInt8)) (v : Value) (p14 E : Nat) (datN : List UInt8) (opsN : List (List UInt8)) (vN : Value) (dat2 : List UInt8) (ops2 S2 : List (List UInt8)) (v2 : Value) (w : World) (s13 : Value) (wx : World) : Prop :=
  ∃ (j l q nx N r3 : Nat), s13 = ptr j ∧ N ≤ 2 + i ∧ r3 ≤ r + 20 ∧ JL B d j l q 2 6 nx N E dat2 ops2 S2 0 r3 w wx ∧ Me B ob p7 p10 sn cr tw T fl fv dat ops v datN opsN vN wx ∧ FdAt wx p14 (mkB dat2) v2 ∧ Strs B wx v2 ops2

set_option maxRecDepth 100000 in
set_option maxHeartbeats 8000000 in
theorem walk (ao : Option Addr) (len cap : Nat) (w : World) (hl : len ≤ 9223372036854775807) (hT : Jn.Tries ao len w) :
    Calls Try.prog 3 #[.slice ao len cap] w fun e w' => e = .returned (.bool true) ∧ Below w.heap.size w w' := by
  have AW := Lib.hid (fun w => Jn.awake_any w)
  have HT := Lib.hid hT
  clear hT
  go_enter Try.func3, Try.ntmps3
  go_wp2_with fail
  (with_reducible refine (AW.out _).mono ?_)
  rintro e w1 ⟨rfl, b1⟩
  have ND : Hid (Calls Try.prog 9 #[.int .i64 10] w1 fun e w' => e = .returned (ptr (w1.heap.size + 1)) ∧ Dk.Dk w.heap.size (w1.heap.size + 1) ⟨List.replicate (2 * 2 + 6) (List.replicate 64 0), [], 0, 0⟩ w' ∧ Below w.heap.size w w') := Lib.hid (Jn.disk_t 10 w w1 b1 (by omega) (by omega))
  generalize w1.heap.size + 1 = d at *
  clear AW b1
  go_wp2_with fail
  (with_reducible refine ND.out.mono ?_)
  rintro e w2 ⟨rfl, d2, b2⟩
  have FO : Hid (Calls Try.prog 10 #[ptr d, .int .i64 2, .string ⟨#[98, 101, 103, 105, 110]⟩] w2 fun x w' => ∃ j l q S, x = .returned (.tuple #[ptr j, .int .i64 0]) ∧ JL w.heap.size d j l q 2 6 1 1 1 [98, 101, 103, 105, 110] [] S 0 4 w w' ∧ Kp w2 w') := Lib.hid (Jn.format_t w.heap.size d 2 6 0 [98, 101, 103, 105, 110] w w2 d2 b2 (by omega) (by omega) (by omega) (by omega) (by omega) (by simp) (by simp))
  clear ND d2 b2
  go_wp2_with fail
  (with_reducible refine FO.out.mono ?_)
  rintro e w3 ⟨j, l, q, S3, rfl, J3, -⟩
  have T3 : Hid (Sf w.heap.size d j l q w3.heap.size 1 1 1 4 [98, 101, 103, 105, 110] [] S3 (.slice none 0 0) w (w3.alloc (.cells #[.string ⟨#[98, 101, 103, 105, 110]⟩, .slice none 0 0] 32))) := Lib.hid ⟨J3.call ((Below.refl _ _).alloc (Nat.le_refl _) _), Jn.fdAt_new w3 ⟨#[98, 101, 103, 105, 110]⟩ (.slice none 0 0), strs_nil _ _, J3.jn.dk.le⟩
  clear FO J3
  go_wp2_with fail
  generalize w3.alloc (.cells #[.string ⟨#[98, 101, 103, 105, 110]⟩, .slice none 0 0] 32) = W3 at *
  generalize w3.heap.size = p7 at *
  go_loopg [5, 8] 14 (SfRel w.heap.size d p7 w)
  case atStart => exact ⟨0, j, l, q, 1, 1, 1, 4, _, [], S3, _, rfl, rfl, rfl, by omega, by omega, T3.out⟩
  case round =>
    clear T3
    obtain ⟨i, j, l, q, nx, N, E, r, dat, ops, S, v, hi, rfl, rfl, hN, hr, hs⟩ := hrel
    have HS := Lib.hid hs
    clear hs
    rcases (show (i < len ∧ i < 14) ∨ (i < len ∧ i = 14) ∨ len ≤ i by omega) with ⟨hil, hi10⟩ | ⟨hil, hi10⟩ | hil
    · obtain ⟨tb, off, rfl, htb, hcs⟩ := HT.out (by omega)
      obtain ⟨sn, cr, tw, tx, fl, fo, fs, fc, tr⟩ := hcs i hil
      obtain ⟨T, rfl⟩ : ∃ T, tx = mkB T := ⟨tx.data.toList, (mkB_of tx).symm⟩
      have hs := HS.out.jl.jn.bel
      have r0 : wr.cell? ⟨tb, off + i * 6, none⟩ = some (.bool sn) := by rw [hs.cell (p := ⟨tb, off + i * 6, none⟩) htb]; exact tr.c0
      have r1 : wr.cell? ⟨tb, off + i * 6 + 1, none⟩ = some (.bool cr) := by rw [hs.cell (p := ⟨tb, off + i * 6 + 1, none⟩) htb]; exact tr.c1
      have r2 : wr.cell? ⟨tb, off + i * 6 + 2, none⟩ = some (.bool tw) := by rw [hs.cell (p := ⟨tb, off + i * 6 + 2, none⟩) htb]; exact tr.c2
      have r3 : wr.cell? ⟨tb, off + i * 6 + 3, none⟩ = some (.string (mkB T)) := by rw [hs.cell (p := ⟨tb, off + i * 6 + 3, none⟩) htb]; exact tr.c3
      have r4 : wr.cell? ⟨tb, off + i * 6 + 4, none⟩ = some (.int .i64 fl) := by rw [hs.cell (p := ⟨tb, off + i * 6 + 4, none⟩) htb]; exact tr.c4
      have r5 : wr.cell? ⟨tb, off + i * 6 + 5, none⟩ = some (.slice fo fs.length fc) := by rw [hs.cell (p := ⟨tb, off + i * 6 + 5, none⟩) htb]; exact tr.c5
      have il : (i : Int) < (len : Int) := by omega
      have il20 : (i : Int) < 14 := by omega
      have HI := Lib.hid hi
      have FT := Lib.hid (And.intro tr.fats tr.len)
      have h8 := Dk.i64_and7 fl
      obtain ⟨f, hf7⟩ : ∃ f : Nat, bits .and .i64 fl 7 = (f : Int) := ⟨(fl % 8).toNat, by rw [h8]; omega⟩
      have hf8 : f < 8 := by omega
      clear tr hcs hs HT hi h8
      obtain ⟨va, vc, hv⟩ := Wl.strs_form HS.out.st
      subst hv
      have bA := (Below.refl wr.heap.size wr).alloc (Nat.le_refl _) (.cells #[.bool sn, .bool cr, .bool tw, .string (mkB T), .int .i64 fl, .slice fo fs.length fc] 35)
      have sz : (wr.alloc (.cells #[.bool sn, .bool cr, .bool tw, .string (mkB T), .int .i64 fl, .slice fo fs.length fc] 35)).heap.size = wr.heap.size + 1 := by simp
      have bB := (Below.refl (wr.alloc (.cells #[.bool sn, .bool cr, .bool tw, .string (mkB T), .int .i64 fl, .slice fo fs.length fc] 35)).heap.size (wr.alloc (.cells #[.bool sn, .bool cr, .bool tw, .string (mkB T), .int .i64 fl, .slice fo fs.length fc] 35))).alloc (Nat.le_refl _) (.cells #[.string (mkB dat), .slice va ops.length vc] 32)
      have nx10 := Jn.fdAt_new (wr.alloc (.cells #[.bool sn, .bool cr, .bool tw, .string (mkB T), .int .i64 fl, .slice fo fs.length fc] 35)) (mkB dat) (.slice va ops.length vc)
      rw [sz] at nx10
      have z0 := (HS.out.call bA).fd.c0
      have z1 := (HS.out.call bA).fd.c1
      have S2 := (HS.out.call bA).call bB
      have M2 := Lib.hid (show Me w.heap.size wr.heap.size p7 (wr.heap.size + 1) sn cr tw T fl (.slice fo fs.length fc) dat ops (.slice va ops.length vc) dat ops (.slice va ops.length vc) _ from ⟨(Jn.obAt_new wr sn cr tw (mkB T) fl (.slice fo fs.length fc)).kp (.below bB), S2.fd, S2.st, nx10, S2.st⟩)
      have NE := Lib.hid (show p7 ≠ wr.heap.size + 1 from by have := HS.out.fd.lt; omega)
      have PB := Lib.hid (show w.heap.size ≤ p7 ∧ w.heap.size ≤ wr.heap.size + 1 from ⟨HS.out.pb, by have := HS.out.jl.jn.dk.le; omega⟩)
      have J2 := Lib.hid S2.jl
      have FA := Lib.hid (Dk.fail_any w.heap.size d _ (f : Int) _ J2.out.jn.dk (by omega))
      have o4 := M2.out.ob.c4
      clear HS bA bB nx10 S2 sz
      go_wp2_with fail
      generalize (wr.alloc (.cells #[.bool sn, .bool cr, .bool tw, .string (mkB T), .int .i64 fl, .slice fo fs.length fc] 35)).alloc (.cells #[.string (mkB dat), .slice va ops.length vc] 32) = W2 at *
      generalize hp10 : wr.heap.size + 1 = p10 at *
      generalize wr.heap.size = ob at *
      (with_reducible refine FA.out.mono ?_)
      rintro e w3 ⟨rfl, d3, m3⟩
      have kp3 := Kp.moved J2.out.jn.dk m3
      have M3 := Lib.hid (M2.out.kp kp3)
      have J3 : Hid (JL w.heap.size d j l q 2 6 nx N E dat ops S f r w w3) := Lib.hid ⟨J2.out.jn.goD (by have := d3; unfold Dk.failR at this; rw [Int.toNat_natCast] at this; exact this) m3, J2.out.ji⟩
      clear FA d3 m3 kp3 J2 M2 o4 r0 r1 r2 r3 r4 r5 z0 z1 hf7 hp10
      have o0 := M3.out.ob.c0
      go_upto_if 55 with (fail)
      generalize hv : (Value.slice va ops.length vc) = v at *
      go_cut [11] (TrRel w.heap.size d ob p7 p10 i r sn cr tw T fl (.slice fo fs.length fc) dat ops v w)
      case first =>
        subst hv
        cases sn
        · have SH := Lib.hid (fun w => short43 T w)
          have p43 : (T.take 43).length ≤ 43 := by simp; omega
          have o3 := M3.out.ob.c3
          have z1 := M3.out.had.c1
          have few := J3.out.ji.few
          generalize T.take 43 = p at *
          go_wp2_with fail
          (with_reducible refine (SH.out _).mono ?_)
          rintro e w4 ⟨rfl, rfl⟩
          clear SH o3
          have bA := (Below.refl w4.heap.size w4).alloc (Nat.le_refl _) (.cells #[] 9)
          have z2 := (M3.out.kp (.below bA)).had.c1
          obtain ⟨v5, w5, hp1, s5, b5, q5, k5, n5⟩ := Wl.strs_all w4.heap.size _ _ _ [] ops (Wl.strs_empty w4) (Wl.urow_of (M3.out.hst.call bA)) bA.size (by simp; omega)
          rw [List.nil_append] at s5
          have B5 := bA.trans b5
          obtain ⟨v6, w6, hp2, s6, b6, q6, k6, n6, -⟩ := Sl.strs_push w4.heap.size w5 v5 ops p s5 B5.size (by omega)
          have B6 := B5.trans b6
          obtain ⟨vb, vd, rfl⟩ := Wl.strs_form s5
          obtain ⟨ve, vf, hv6⟩ := Wl.strs_form s6
          rw [List.length_append, List.length_singleton] at hv6
          subst hv6
          have M6 := M3.out.kp (.below B6)
          have J6 := J3.out.call B6
          have BL : w.heap.size ≤ w4.heap.size := J3.out.jn.dk.le
          have st6 := Sl.strs_mono s6 BL
          have M7 := Lib.hid (M6.set1 NE.out st6)
          have J7 := Lib.hid (show JL w.heap.size d j l q 2 6 nx N E dat ops S f r w _ from ⟨J6.jn.setNew M6.nxt (by decide) PB.out.2 1 (.slice ve (ops.length + 1) vf), J6.ji⟩)
          have AP := Lib.hid (Jn.app_f w.heap.size d j l q nx N E f r dat p ops S w _ J7.out (by omega) p43 (by omega))
          have x1 := M6.nxt.c1
          have xz := M6.nxt.fz 1
          have HN := Lib.hid hN
          clear bA s5 b5 q5 k5 n5 B5 s6 b6 q6 k6 n6 B6 M6 J6 BL st6 J3 M3 o0 hN
          go_wp2_with (first | (at_builtin; refine Lib.wpList_append_run _ rfl _ _ _ _ rfl _ _ rfl rfl _ _ hp1 ?_) | (at_builtin; refine Lib.wpList_append_run _ rfl _ _ _ _ rfl _ _ rfl rfl _ _ hp2 ?_) | fail)
          (with_reducible refine AP.out.mono ?_)
          rintro e w8 ⟨err, s8, rfl, d8, b8, k8, r8, oc8⟩
          have N8 := Lib.hid (show TrRel w.heap.size d ob p7 p10 i r false cr tw T fl (.slice fo fs.length fc) dat ops (.slice va ops.length vc) w (.int .i64 (err : Int)) w8 from ⟨err, s8, dat, ops ++ [p], _, rfl, d8, b8, r8, by simp; omega, oc8.mono (by have := HN.out; omega), M7.out.kp k8⟩)
          clear AP d8 b8 k8 r8 oc8 M7 J7 x1 xz z1 z2
          go_wp2_with fail
          go_meet
          exact N8.out
        · have SH := Lib.hid (fun w => short86 T w)
          have p86 : (T.take 86).length ≤ 86 := by simp; omega
          have o3 := M3.out.ob.c3
          have x0 := M3.out.nxt.c0
          have x1 := M3.out.nxt.c1
          have y0 := M3.out.nxt.fz 0
          have y1 := M3.out.nxt.fz 1
          generalize T.take 86 = p at *
          go_wp2_with fail
          (with_reducible refine (SH.out _).mono ?_)
          rintro e w4 ⟨rfl, rfl⟩
          clear SH o3
          have M7 := Lib.hid (M3.out.set2 NE.out p)
          have R7 := Jn.ret_two J3.out.jn M3.out.nxt (Kp.below J3.out.jn.bel) PB.out.2 (Nat.le_refl _) (mkB p) (.slice none 0 0)
          have AP := Lib.hid (Jn.snap_f w.heap.size d j l q nx N E f r dat p ops S w _ ⟨R7.1, J3.out.ji⟩ (by omega) p86 (by omega))
          have u0 := M7.out.nxt.c0
          have HN := Lib.hid hN
          clear J3 M3 o0 hN R7
          go_wp2_with fail
          (with_reducible refine AP.out.mono ?_)
          rintro e w8 ⟨err, s8, rfl, d8, b8, k8, r8, oc8⟩
          have N8 := Lib.hid (show TrRel w.heap.size d ob p7 p10 i r true cr tw T fl (.slice fo fs.length fc) dat ops (.slice va ops.length vc) w (.int .i64 (err : Int)) w8 from ⟨err, s8, p, [], _, rfl, d8, b8, r8, by simp, oc8.mono (by have := HN.out; omega), M7.out.kp k8⟩)
          clear AP d8 b8 k8 r8 oc8 M7 x0 x1 y0 y1 u0
          go_wp2_with fail
          go_meet
          exact N8.out
      case rest =>
        obtain ⟨err, s1, datN, opsN, vN, rfl, d1, b1, rr1, on1, oc, me⟩ := hcut
        have ON := Lib.hid on1
        have FEW := Lib.hid J3.out.ji.few
        have DK := Lib.hid d1
        have OC := Lib.hid oc
        have M4 := Lib.hid me
        have BL := Lib.hid b1
        have FZ := Lib.hid (Dk.fail_any w.heap.size d s1 0 wc d1 (by omega))
        have RR := Lib.hid rr1
        clear oc me b1 d1 rr1 on1 M3 J3 o0
        go_wp2_with fail
        (with_reducible refine FZ.out.mono ?_)
        rintro e w5 ⟨rfl, d5, m5⟩
        have kp5 := Kp.moved DK.out m5
        have M5 := Lib.hid (M4.out.kp kp5)
        have D5 : Hid (Dk.Dk w.heap.size d ⟨s1.sec, s1.opn, 0, s1.reads⟩ w5 ∧ Below w.heap.size w w5) := Lib.hid ⟨by have := d5; unfold Dk.failR at this; exact this, BL.out.trans ((Sl.Mv.of_moved (q := w.heap.size) m5).belowD DK.out (Nat.le_refl _))⟩
        have o1 := M5.out.ob.c1
        clear FZ M4 BL DK kp5 d5 m5
        go_upto_if 81 with (fail)
        go_cut [11] (CrRel w.heap.size d ob p7 p10 i r sn cr tw T fl (.slice fo fs.length fc) dat ops v err datN opsN vN w)
        case first =>
          cases cr
          · obtain ⟨dat2, ops2, S2, nx2, N2, E2, rs⟩ := Jn.rs_flush OC.out D5.out.1 D5.out.2
            have N6 := Lib.hid (show CrRel w.heap.size d ob p7 p10 i r sn false tw T fl (.slice fo fs.length fc) dat ops v err datN opsN vN w (.int .i64 (err : Int)) w5 from ⟨_, dat2, ops2, S2, nx2, N2, E2, _, rfl, by rw [RR.out]; exact Nat.le_refl _, rs, M5.out⟩)
            clear rs D5 M5 OC
            go_wp2_with fail
            go_meet
            exact N6.out
          · have o5 := M5.out.ob.c5
            have fc7 : Dk.Fats fo fs w5 := FT.out.1.of_blocks D5.out.2.size (fun k off e hk => D5.out.2.block k hk)
            have of7 : 0 < fs.length → Dk.Off fo d w5 := fun h0 k off e h => by (obtain ⟨b9, off9, e9, hb9, _⟩ := FT.out.1.2 h0; rw [e9] at e; cases e; have := (D5.out.1.ownLt h).1; omega)
            have CR := Lib.hid (Dk.crash_any w.heap.size d ⟨s1.sec, s1.opn, 0, s1.reads⟩ fo fs fc w5 D5.out.1 fc7 of7 (by show s1.opn.length ≤ 1000000; have := OC.out.opn; omega) FT.out.2)
            clear fc7 of7
            go_wp2_with fail
            (with_reducible refine CR.out.mono ?_)
            rintro e w6 ⟨rfl, d6, m6⟩
            obtain ⟨dat2, ops2, S2, nx2, N2, E2, rs⟩ := Jn.rs_crash fs OC.out d6 (D5.out.2.trans ((Sl.Mv.of_moved (q := w.heap.size) m6).belowD D5.out.1 (Nat.le_refl _)))
            have N6 := Lib.hid (show CrRel w.heap.size d ob p7 p10 i r sn true tw T fl (.slice fo fs.length fc) dat ops v err datN opsN vN w (.int .i64 (err : Int)) w6 from ⟨_, dat2, ops2, S2, nx2, N2, E2, 0, rfl, Nat.zero_le _, rs, M5.out.kp (Kp.moved D5.out.1 m6)⟩)
            clear rs D5 M5 OC CR d6 m6 o5 o1
            go_wp2_with fail
            go_meet
            exact N6.out
        case rest =>
          obtain ⟨s2, dat2, ops2, S2, nx2, N2, E2, r2, rfl, hr2, rs, me⟩ := hcut
          have M6 := Lib.hid me
          have OKH := Lib.hid rs.ok
          have OP := Lib.hid (rs.open (by omega) (by omega))
          have R2 := Lib.hid (show r2 ≤ r ∧ ops2.length ≤ 6 from ⟨hr2, rs.ji.few⟩)
          clear rs me M5 D5 OC RR o1 hr2
          go_wp2_with fail
          (with_reducible refine OP.out.mono ?_)
          rintro e w7 ⟨j7, l7, q7, v7, N7, rfl, st7, hN7, J7, k7⟩
          obtain ⟨vb, vd, rfl⟩ := Wl.strs_form st7
          have bA := (Below.refl w7.heap.size w7).alloc (Nat.le_refl _) (.cells #[.string (mkB dat2), .slice vb ops2.length vd] 32)
          have M8 := Lib.hid ((M6.out.kp k7).kp (.below bA))
          have J8 := Lib.hid (J7.call bA)
          have G8 := Lib.hid (And.intro (Jn.fdAt_new w7 (mkB dat2) (.slice vb ops2.length vd)) (st7.call bA))
          have HN7 := Lib.hid hN7
          have o2 := M8.out.ob.c2
          clear OP M6 st7 J7 k7 bA hN7
          go_upto_if 99 with (fail)
          generalize w7.alloc (.cells #[.string (mkB dat2), .slice vb ops2.length vd] 32) = W8 at *
          generalize w7.heap.size = p14 at *
          go_cut [13] (TwRel w.heap.size d ob p7 p10 i r sn cr tw T fl (.slice fo fs.length fc) dat ops v p14 E2 datN opsN vN dat2 ops2 S2 (.slice vb ops2.length vd) w)
          case first =>
            have rn := Wl.readsN_le (k := ops2.length) (n := 6) R2.out.2
            have hr2 := R2.out.1
            cases tw
            · have N9 := Lib.hid (show TwRel w.heap.size d ob p7 p10 i r sn cr false T fl (.slice fo fs.length fc) dat ops v p14 E2 datN opsN vN dat2 ops2 S2 (.slice vb ops2.length vd) w (ptr j7) W8 from ⟨j7, l7, q7, nx2, N7, _, rfl, HN7.out, by omega, J8.out, M8.out, G8.out⟩)
              clear J8 M8 G8 HN7 R2 rn hr2
              go_wp2_with fail
              go_meet
              exact N9.out
            · have OP2 := Lib.hid (J8.out.open (by have := HN7.out; omega) (by omega))
              go_wp2_with fail
              (with_reducible refine OP2.out.mono ?_)
              rintro e w9 ⟨j9, l9, q9, v9, N9, rfl, st9, hN9, J9, k9⟩
              obtain ⟨ve, vf, rfl⟩ := Wl.strs_form st9
              have bB := (Below.refl w9.heap.size w9).alloc (Nat.le_refl _) (.cells #[.string (mkB dat2), .slice ve ops2.length vf] 32)
              have M10 := Lib.hid ((M8.out.kp k9).kp (.below bB))
              have J10 := Lib.hid (J9.call bB)
              have G10 := Lib.hid (And.intro ((G8.out.1.kp k9).kp (.below bB)) ((k9.strs G8.out.2).call bB))
              have H10 := Jn.fdAt_new w9 (mkB dat2) (.slice ve ops2.length vf)
              have l6 := R2.out.2
              have SM := Jn.same_any _ _ dat2 dat2 _ _ ops2 ops2 _ (st9.call bB) G10.out.2 (by omega) (by omega)
              have ED : decide (dat2 = dat2 ∧ ops2 = ops2) = true := by simp
              rw [ED] at SM
              have SM' := Lib.hid SM
              have x0 := G10.out.1.c0
              have x1 := G10.out.1.c1
              have u0 := H10.c0
              have u1 := H10.c1
              have HB := Lib.hid (show N9 ≤ 2 + i ∧ r2 + 2 * 2 + Wl.readsN ops2.length 6 + 2 * 2 + Wl.readsN ops2.length 6 ≤ r + 20 from ⟨by have := HN7.out; omega, by omega⟩)
              clear OP2 st9 J9 k9 bB H10 SM ED J8 M8 G8 hN9 rn hr2 l6
              go_wp2_with fail
              (with_reducible refine SM'.out.mono ?_)
              rintro e w11 ⟨rfl, b11⟩
              have N11 := Lib.hid (show TwRel w.heap.size d ob p7 p10 i r sn cr true T fl (.slice fo fs.length fc) dat ops v p14 E2 datN opsN vN dat2 ops2 S2 (.slice vb ops2.length vd) w (ptr j9) w11 from ⟨j9, l9, q9, nx2, N9, _, rfl, HB.out.1, HB.out.2, J10.out.call b11, M10.out.kp (.below b11), G10.out.1.kp (.below b11), G10.out.2.call b11⟩)
              clear SM' J10 M10 G10 b11 x0 x1 u0 u1
              go_wp2_with fail
              go_meet
              exact N11.out
          case rest =>
            obtain ⟨j3, l3, q3, nx3, N3, r3, rfl, hN3, hr3, jl3, me3, fd3, st3⟩ := hcut
            obtain ⟨bo, hbo⟩ : ∃ bo, bo = decide (dat2 = dat ∧ ops2 = ops) := ⟨_, rfl⟩
            obtain ⟨bn, hbn⟩ : ∃ bn, bn = decide (dat2 = datN ∧ ops2 = opsN) := ⟨_, rfl⟩
            have CS : (err = 0 ∧ bn = true) ∨ (err = 18 ∧ bn = true) ∨ (err = 18 ∧ bo = true) ∨ (err = 22 ∧ bo = true ∧ sn = false ∧ ops.length = 6) := by
              rcases OKH.out with ⟨h1, h2, h3⟩ | ⟨h1, h2, h3⟩ | ⟨h1, h2, h3⟩ | ⟨h1, h2, h3, h4, h5⟩
              · exact .inl ⟨h1, by rw [hbn]; simp [h2, h3]⟩
              · exact .inr (.inl ⟨h1, by rw [hbn]; simp [h2, h3]⟩)
              · exact .inr (.inr (.inl ⟨h1, by rw [hbo]; simp [h2, h3]⟩))
              · exact .inr (.inr (.inr ⟨h1, by rw [hbo]; simp [h2, h3], h4, h5⟩))
            have SM1 := Jn.same_any _ _ dat2 dat _ _ ops2 ops wc st3 me3.hst (by have := R2.out.2; omega) (by have := FEW.out; omega)
            rw [← hbo] at SM1
            obtain ⟨va', vc', hva⟩ := Wl.strs_form me3.hst
            obtain ⟨ve, vf, hve⟩ := Wl.strs_form me3.nst
            subst hva
            subst hve
            have SM1' := Lib.hid SM1
            have ME3 := Lib.hid (And.intro jl3 (And.intro me3 (And.intro fd3 st3)))
            have x0 := fd3.c0
            have x1 := fd3.c1
            have y0 := me3.had.c0
            have y1 := me3.had.c1
            have HR3 := Lib.hid (And.intro hN3 hr3)
            clear SM1 jl3 me3 fd3 st3 hbo OKH M8 J8 G8 HN7 o2 hN3 hr3
            go_wp2_with fail
            (with_reducible refine SM1'.out.mono ?_)
            rintro e w12 ⟨rfl, b12⟩
            have M12 := Lib.hid (And.intro (ME3.out.1.call b12) (And.intro (ME3.out.2.1.kp (.below b12)) (And.intro (ME3.out.2.2.1.kp (.below b12)) (ME3.out.2.2.2.call b12))))
            have SM2 := Jn.same_any _ _ dat2 datN _ _ ops2 opsN w12 M12.out.2.2.2 M12.out.2.1.nst (by have := R2.out.2; omega) (by have := ON.out; omega)
            rw [← hbn] at SM2
            have SM2' := Lib.hid SM2
            clear SM1' SM2 ME3 b12 x0 x1 y0 y1 hbn
            have x0 := M12.out.2.2.1.c0
            have x1 := M12.out.2.2.1.c1
            have y0 := M12.out.2.1.nxt.c0
            have y1 := M12.out.2.1.nxt.c1
            go_wp2_with fail
            (with_reducible refine SM2'.out.mono ?_)
            rintro e w13 ⟨rfl, b13⟩
            have M13 := Lib.hid (And.intro (M12.out.1.call b13) (And.intro (M12.out.2.1.kp (.below b13)) (And.intro (M12.out.2.2.1.kp (.below b13)) (M12.out.2.2.2.call b13))))
            clear SM2' M12 b13 x0 x1 y0 y1
            have x0 := M13.out.2.2.1.c0
            have x1 := M13.out.2.2.1.c1
            have y0 := M13.out.2.1.had.c0
            have y1 := M13.out.2.1.had.c1
            have g0 := M13.out.2.1.had.fz 0
            have g1 := M13.out.2.1.had.fz 1
            have o0 := M13.out.2.1.ob.c0
            have R14 := Jn.ret_two M13.out.1.jn M13.out.2.1.had (Kp.below M13.out.1.jn.bel) PB.out.1 (Nat.le_refl _) (mkB dat2) (.slice vb ops2.length vd)
            have N14 := Lib.hid (show Sf w.heap.size d j3 l3 q3 p7 nx3 N3 E2 r3 dat2 ops2 S2 (.slice vb ops2.length vd) w _ from ⟨⟨R14.1, M13.out.1.ji⟩, R14.2.1, Jn.strs_two M13.out.2.2.2 M13.out.2.1.had (mkB dat2) (.slice vb ops2.length vd), PB.out.1⟩)
            have hg0 : 0 < gk := by have := HI.out; omega
            have HR := Lib.hid hr
            clear R14 M13 R2 FEW ON hN hr
            rcases CS with ⟨he, rfl⟩ | ⟨he, rfl⟩ | ⟨he, rfl⟩ | ⟨he, rfl, rfl, h6⟩
            · have e0 : ((err : Int) == 0) = true := by simp; omega
              have e1 : ((err : Int) == 18) = false := by simp; omega
              have e2 : ((err : Int) == 22) = false := by simp; omega
              have e3 : ((err : Int) != 0) = false := by simp; omega
              clear he
              go_wp2_with fail
              go_roundg (gk - 1)
              case measure => omega
              case rel => exact ⟨i + 1, j3, l3, q3, nx3, N3, E2, r3, dat2, ops2, S2, _, by have := HI.out; omega, rfl, by go_num, by have := HR3.out.1; omega, by have := HR3.out.2; have := HR.out; omega, N14.out⟩
            · have e0 : ((err : Int) == 0) = false := by simp; omega
              have e1 : ((err : Int) == 18) = true := by simp; omega
              have e2 : ((err : Int) == 22) = false := by simp; omega
              have e3 : ((err : Int) != 0) = true := by simp; omega
              have e4 : ((err : Int) != 18) = false := by simp; omega
              clear he
              go_wp2_with fail
              go_roundg (gk - 1)
              case measure => omega
              case rel => exact ⟨i + 1, j3, l3, q3, nx3, N3, E2, r3, dat2, ops2, S2, _, by have := HI.out; omega, rfl, by go_num, by have := HR3.out.1; omega, by have := HR3.out.2; have := HR.out; omega, N14.out⟩
            · have e0 : ((err : Int) == 0) = false := by simp; omega
              have e1 : ((err : Int) == 18) = true := by simp; omega
              have e2 : ((err : Int) == 22) = false := by simp; omega
              have e3 : ((err : Int) != 0) = true := by simp; omega
              have e4 : ((err : Int) != 18) = false := by simp; omega
              cases bn
              all_goals
                clear he
                go_wp2_with fail
                go_roundg (gk - 1)
                case measure => omega
                case rel => exact ⟨i + 1, j3, l3, q3, nx3, N3, E2, r3, dat2, ops2, S2, _, by have := HI.out; omega, rfl, by go_num, by have := HR3.out.1; omega, by have := HR3.out.2; have := HR.out; omega, N14.out⟩
            · have e0 : ((err : Int) == 0) = false := by simp; omega
              have e1 : ((err : Int) == 18) = false := by simp; omega
              have e2 : ((err : Int) == 22) = true := by simp; omega
              have e3 : ((err : Int) != 0) = true := by simp; omega
              have e4 : ((err : Int) != 18) = true := by simp; omega
              have e5 : ((err : Int) != 22) = false := by simp; omega
              have e6 : ((ops.length : Int) != 6) = false := by simp; omega
              clear he
              go_wp2_with fail
              go_roundg (gk - 1)
              case measure => omega
              case rel => exact ⟨i + 1, j3, l3, q3, nx3, N3, E2, r3, dat2, ops2, S2, _, by have := HI.out; omega, rfl, by go_num, by have := HR3.out.1; omega, by have := HR3.out.2; have := HR.out; omega, N14.out⟩
    · have il : (i : Int) < (len : Int) := by omega
      have il20 : (14 : Int) ≤ (i : Int) := by omega
      have BE := Lib.hid HS.out.jl.jn.bel
      clear HS
      go_wp2
      try simp only [Exit.noGoto]
      go_ret
      exact ⟨rfl, BE.out⟩
    · have il : (len : Int) ≤ (i : Int) := by omega
      have BE := Lib.hid HS.out.jl.jn.bel
      clear HS
      go_wp2
      try simp only [Exit.noGoto]
      go_ret
      exact ⟨rfl, BE.out⟩

set_option maxRecDepth 100000 in
set_option maxHeartbeats 1600000 in
theorem lifted (os : Os) (started : os.Started) (H : Type) (enc : TypeId × Value → H) :
    ReturnsInHanded {} Try.checked os 3 .any (Rows.journalSafeSpec.pre6 enc Try.prog Try.f3 Rows.journalSafeRow.domain false) (Rows.journalSafeSpec.post enc Try.prog Try.f3 false true false false) := by
  refine returnsInHanded_of_change (C := Try.checked) own started (by kernel_rfl) Try.func3
    (ChangeSpec.witness6 (enc := enc) (C := Try.checked) false ⟨#[], #[.slice none 0 0], []⟩ 8 (by kernel_rfl) (by kernel_rfl) (by kernel_rfl) (by kernel_rfl)) ?_
  intro W base args ds gs before hval0 hW hcnd _
  have hval : ∀ (j : Nat) t v, Try.f3.params[j]? = some t → args[j]? = some v → Value.okWide Try.prog W .any base t v := hval0
  have hW' := hW
  obtain ⟨p, q, hA0, hV, rfl, hfz, hnd⟩ := hW
  have hA : DataW.TrodAll enc Try.prog W 0 (fun _ => true) true Try.f3.params.toList args.toList ds p := hA0
  rw [Try.params3] at hA hval
  obtain ⟨v0, vs0, d0, ds0, p0, q0, hargs, rfl, rfl, h0, r0⟩ := trodAll_cons hA
  obtain ⟨rfl, rfl, rfl⟩ := trodAll_nil r0
  obtain rfl : args = #[v0] := by cases args; simp_all
  obtain ⟨rfl, rfl⟩ := trodVars_none hV
  have lt0 : ∀ x ∈ p0, x.block < W.heap.size := by obtain ⟨m, hm⟩ := h0; exact DataW.trod_lt m _ _ _ hm
  obtain ⟨ao, len, cap, rfl, hl, hT⟩ := Jn.open_tries (hval 0 22 v0 rfl rfl) h0
  clear hA0 hval0
  refine (walk ao len cap W hl hT).mono fun e W' ⟨he, bel⟩ => ?_
  subst he
  exact ⟨_, rfl, _, _, _, [], _, [], hW', trodAll_mk1 (shut_bool Try.underlying4 _), (trodAll_cons_mk (Below.trod laidOut (by kernel_rfl) (of_decide_eq_true (by kernel_rfl)) h0 bel lt0) trodAll_mk0), rfl, bel.frame _, fun h => by cases h⟩

theorem proved : Rows.JournalSafeSaid :=
  OpenClaim.holds_of_wide 3 Try.f3 rfl rfl rfl rfl rfl rfl rfl ⟨rfl, rfl, rfl, rfl, rfl⟩ rfl rfl rfl rfl rfl (by kernel_rfl) Try.func3 (by kernel_rfl)
    (of_decide_eq_true (by kernel_rfl)) (by unfold Func.isWrapper; first | (rw [if_pos (by decide +kernel)]; kernel_rfl) | (rw [if_neg (by decide +kernel)]; exact ⟨rfl, rfl⟩))
    (fun os started H enc _ => lifted os started H enc)
#print axioms proved
end Go.Proofs.Ytmccoejliaakoaa.journalSafe
