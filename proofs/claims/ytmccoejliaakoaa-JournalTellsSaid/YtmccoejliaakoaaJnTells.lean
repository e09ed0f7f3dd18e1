/- horariumlaw08.JournalTells answers true at every row of tries: without faults a journal has the last snapshot, and all that was put behind it; Left tells how much more there may be. No condition. -/
import Derived.Test.YtmccoejliaakoaaJnT
import Derived.Test.YtmccoejliaakoaaJnH
import Derived.Test.YtmccoejliaakoaaMDc
import Derived.Deep.DeepCutAuto
import Derived.Deep.RegionHeld3
import Derived.Deep.CutBlock
import Derived.BigQuiet
namespace Go.Proofs.Ytmccoejliaakoaa.journalTells
open Go.ChangeShapes Go.WideShapes Go.ChangeAt Go.RowKit Go.Joins
set_option maxRecDepth 100000
set_option linter.unusedVariables false
set_option linter.unusedSimpArgs false
open Dk (own laidOut in64_wf ptr DS)
open Jn (JL JI Kp noFound FdAt)
open Jn (Jn ObAt)
theorem short43 (l : List UInt8) (w : World) :
    Calls Try.prog 12 #[.string (mkB l), .int .i64 43] w fun e w' => e = .returned (.string (mkB (l.take 43))) ∧ w' = w := Jn.short_any l 43 w (by omega)
theorem short86 (l : List UInt8) (w : World) :
    Calls Try.prog 12 #[.string (mkB l), .int .i64 86] w fun e w' => e = .returned (.string (mkB (l.take 86))) ∧ w' = w := Jn.short_any l 86 w (by omega)
/-- what stands beside the loop -/
structure Tl (B d j l q p7 nx E : Nat) (dat : List UInt8) (ops S : List (List UInt8)) (v : Value) (w wx : World) : Prop where
  jl : JL B d j l q 2 5 nx E E dat ops S 0 4 w wx
  fd : FdAt wx p7 (mkB dat) v
  st : Strs B wx v ops
  pb : B ≤ p7
theorem Tl.call {B d j l q p7 nx E : Nat} {dat : List UInt8} {ops S : List (List UInt8)} {v : Value} {w wx w' : World} (h : Tl B d j l q p7 nx E dat ops S v w wx) (hb : Below wx.heap.size wx w') : Tl B d j l q p7 nx E dat ops S v w w' :=
  ⟨h.jl.call hb, h.fd.kp (.below hb), h.st.call hb, h.pb⟩
def TlRel (B d j l q p7 : Nat) (w : World) (g : Nat) (s8 s9 : Value) (wx : World) : Prop :=
  ∃ (i E nx : Nat) (dat : List UInt8) (ops S : List (List UInt8)) (v : Value), i + g = 20 ∧ s8 = .int .u64 (E : Int) ∧ s9 = .int .i64 (i : Int) ∧ E ≤ 1 + i ∧ Tl B d j l q p7 nx E dat ops S v w wx
def TmRel (B d j l q p7 i : Nat) (w : World) (s8 : Value) (wx : World) : Prop :=
  ∃ (E nx : Nat) (dat : List UInt8) (ops S : List (List UInt8)) (v : Value), s8 = .int .u64 (E : Int) ∧ E ≤ 2 + i ∧ Tl B d j l q p7 nx E dat ops S v w wx

set_option maxRecDepth 100000 in
set_option maxHeartbeats 8000000 in
theorem walk (ao : Option Addr) (len cap : Nat) (w : World) (hl : len ≤ 9223372036854775807) (hT : Jn.Tries ao len w) :
    Calls Try.prog 4 #[.slice ao len cap] w fun e w' => e = .returned (.bool true) ∧ Below w.heap.size w w' := by
  have AW := Lib.hid (fun w => Jn.awake_any w)
  have HT := Lib.hid hT
  clear hT
  go_enter Try.func4, Try.ntmps4
  go_wp2_with fail
  (with_reducible refine (AW.out _).mono ?_)
  rintro e w1 ⟨rfl, b1⟩
  have ND : Hid (Calls Try.prog 9 #[.int .i64 9] w1 fun e w' => e = .returned (ptr (w1.heap.size + 1)) ∧ Dk.Dk w.heap.size (w1.heap.size + 1) ⟨List.replicate (2 * 2 + 5) (List.replicate 64 0), [], 0, 0⟩ w' ∧ Below w.heap.size w w') := Lib.hid (Jn.disk_t 9 w w1 b1 (by omega) (by omega))
  generalize w1.heap.size + 1 = d at *
  clear AW b1
  go_wp2_with fail
  (with_reducible refine ND.out.mono ?_)
  rintro e w2 ⟨rfl, d2, b2⟩
  have FO : Hid (Calls Try.prog 10 #[ptr d, .int .i64 2, .string ⟨#[]⟩] w2 fun x w' => ∃ j l q S, x = .returned (.tuple #[ptr j, .int .i64 0]) ∧ JL w.heap.size d j l q 2 5 1 1 1 [] [] S 0 4 w w' ∧ Kp w2 w') := Lib.hid (Jn.format_t w.heap.size d 2 5 0 [] w w2 d2 b2 (by omega) (by omega) (by omega) (by omega) (by omega) (by simp) (by simp))
  clear ND d2 b2
  go_wp2_with fail
  (with_reducible refine FO.out.mono ?_)
  rintro e w3 ⟨j, l, q, S3, rfl, J3, -⟩
  have T3 : Hid (Tl w.heap.size d j l q w3.heap.size 1 1 [] [] S3 (.slice none 0 0) w (w3.alloc (.cells #[.string ⟨#[]⟩, .slice none 0 0] 32))) := Lib.hid ⟨J3.call ((Below.refl _ _).alloc (Nat.le_refl _) _), Jn.fdAt_new w3 ⟨#[]⟩ (.slice none 0 0), strs_nil _ _, J3.jn.dk.le⟩
  clear FO J3
  have EP := Lib.hid (Jn.epoch_any _ T3.out.jl.jn.jn)
  go_wp2_with fail
  generalize w3.alloc (.cells #[.string ⟨#[]⟩, .slice none 0 0] 32) = W3 at *
  generalize w3.heap.size = p7 at *
  (with_reducible refine EP.out.mono ?_)
  rintro e w4 ⟨rfl, rfl⟩
  clear EP
  go_wp2_with fail
  go_loopg [8, 9] 20 (TlRel w.heap.size d j l q p7 w)
  case atStart => exact ⟨0, 1, 1, [], [], S3, _, rfl, rfl, rfl, by omega, T3.out⟩
  case round =>
    clear T3
    obtain ⟨i, E, nx, dat, ops, S, v, hi, rfl, rfl, hE, hs⟩ := hrel
    have HS := Lib.hid hs
    clear hs
    rcases (show (i < len ∧ i < 20) ∨ (i < len ∧ i = 20) ∨ len ≤ i by omega) with ⟨hil, hi10⟩ | ⟨hil, hi10⟩ | hil
    · obtain ⟨tb, off, rfl, htb, hcs⟩ := HT.out (by omega)
      obtain ⟨sn, cr, tw, tx, fl, fo, fs, fc, tr⟩ := hcs i hil
      obtain ⟨T, rfl⟩ : ∃ T, tx = mkB T := ⟨tx.data.toList, (mkB_of tx).symm⟩
      have hs := HS.out.jl.jn.bel
      have r0 : wr.cell? ⟨tb, off + i * 6, none⟩ = some (.bool sn) := by rw [hs.cell (p := ⟨tb, off + i * 6, none⟩) htb]; exact tr.c0
      have r1 : wr.cell? ⟨tb, off + i * 6 + 1, none⟩ = some (.bool cr) := by rw [hs.cell (p := ⟨tb, off + i * 6 + 1, none⟩) htb]; exact tr.c1
      have r2 : wr.cell? ⟨tb, off + i * 6 + 2, none⟩ = some (.bool tw) := by rw [hs.cell (p := ⟨tb, off + i * 6 + 2, none⟩) htb]; exact tr.c2
      have r3 : wr.cell? ⟨tb, off + i * 6 + 3, none⟩ = some (.string (mkB T)) := by rw [hs.cell (p := ⟨tb, off + i * 6 + 3, none⟩) htb]; exact tr.c3
      have r4 : wr.cell? ⟨tb, off + i * 6 + 4, none⟩ = some (.int .i64 fl) := by rw [hs.cell (p := ⟨tb, off + i * 6 + 4, none⟩) htb]; exact tr.c4
      have r5 : wr.cell? ⟨tb, off + i * 6 + 5, none⟩ = some (.slice fo fs.length fc) := by rw [hs.cell (p := ⟨tb, off + i * 6 + 5, none⟩) htb]; exact tr.c5
      have il : (i : Int) < (len : Int) := by omega
      have il20 : (i : Int) < 20 := by omega
      have HI := Lib.hid hi
      clear tr hcs hs HT hi
      have O1 := Lib.hid (Jn.obAt_new wr sn cr tw (mkB T) fl (.slice fo fs.length fc))
      have T1 := Lib.hid (HS.out.call ((Below.refl _ _).alloc (Nat.le_refl _) (.cells #[.bool sn, .bool cr, .bool tw, .string (mkB T), .int .i64 fl, .slice fo fs.length fc] 35)))
      have o0 := O1.out.c0
      clear HS
      go_upto_if 46 with (fail)
      generalize (wr.alloc (.cells #[.bool sn, .bool cr, .bool tw, .string (mkB T), .int .i64 fl, .slice fo fs.length fc] 35)) = W1 at *
      generalize wr.heap.size = ob at *
      clear r0 r1 r2 r3 r4 r5
      have o3 := O1.out.c3
      go_cut [8] (TmRel w.heap.size d j l q p7 i w)
      case first =>
        cases sn
        · have SH := Lib.hid (fun w => short43 T w)
          have p43 : (T.take 43).length ≤ 43 := by simp; omega
          generalize T.take 43 = p at *
          go_wp2_with fail
          (with_reducible refine (SH.out _).mono ?_)
          rintro e w5 ⟨rfl, rfl⟩
          clear SH o3
          have fw := T1.out.jl.ji.few
          rcases Nat.lt_or_ge ops.length 5 with hlt | hge
          · have AP := Lib.hid (Jn.append_t w.heap.size d j l q 2 5 nx E E 4 dat p ops S w w5 T1.out.jl (by omega) p43 hlt)
            go_wp2_with fail
            (with_reducible refine AP.out.mono ?_)
            rintro e w6 ⟨rfl, S6, J6, k6⟩
            have F6 := T1.out.fd.kp k6
            have V6 := k6.strs T1.out.st
            obtain ⟨va, vc, hv⟩ := Wl.strs_form T1.out.st
            rw [hv] at F6 V6
            obtain ⟨v', w', hap, s7, b7, z7, k7, -, -⟩ := Sl.strs_push w.heap.size w6 _ _ p V6 J6.jn.dk.le (by omega)
            have f1 := F6.c1
            have F7 : FdAt w' p7 (mkB dat) (.slice va ops.length vc) := (k7 _ _ _ _ F6 (by decide)).trans F6
            have J7 := J6.jn.rest k7 b7
            have g1 := F7.c1
            have g2 := F7.fz 1
            obtain ⟨vb, vd, rfl⟩ := Wl.strs_form s7
            generalize hVL : (Value.slice vb (ops ++ [p]).length vd) = VL at *
            obtain ⟨LL, hLL⟩ : ∃ LL, LL = (ops ++ [p]).length := ⟨_, rfl⟩
            rw [← hLL] at hVL
            have N := Lib.hid (show Tl w.heap.size d j l q p7 nx E dat (ops ++ [p]) S6 VL w (w'.setCell ⟨p7, 1, none⟩ VL) from ⟨⟨J7.setNew F7 (by decide) T1.out.pb 1 VL, J6.ji⟩, F7.set1 VL, Sl.strs_of s7 (fun g hg => Below.heap_setCell w' ⟨p7, 1, none⟩ VL g (fun e => by
              obtain ⟨cur, hc⟩ := Sl.strs_block s7 hg
              have F7' := F7
              unfold Jn.FdAt at F7'
              have e' : g = p7 := e
              rw [← e', hc] at F7'
              simp only [Option.some.injEq, Obj.cells.injEq] at F7'
              exact absurd F7'.2.1 (by decide))), T1.out.pb⟩)
            have ln : ((ops.length : Int) == 5) = false := by simp; omega
            have HE := Lib.hid hE
            clear AP J6 k6 V6 s7 b7 z7 k7 J7 F6 F7 T1 O1 hE o0 hLL
            subst hVL
            go_wp2_with (at_builtin; refine Lib.wpList_append_run _ rfl _ _ _ _ rfl _ _ rfl rfl _ _ hap ?_)
            go_meet
            exact ⟨E, nx, dat, ops ++ [p], S6, _, rfl, by have := HE.out; omega, N.out⟩
          · have AP := Lib.hid (Jn.append_full w.heap.size d j l q 2 5 nx E E 4 dat p ops S w w5 T1.out.jl (by omega) p43 (by omega))
            go_wp2_with fail
            (with_reducible refine AP.out.mono ?_)
            rintro e w6 ⟨rfl, J6, k6⟩
            have N := Lib.hid (show Tl w.heap.size d j l q p7 nx E dat ops S v w w6 from ⟨J6, T1.out.fd.kp k6, k6.strs T1.out.st, T1.out.pb⟩)
            obtain ⟨va, vc, hv⟩ := Wl.strs_form N.out.st
            have f1 := N.out.fd.c1
            rw [hv] at f1
            have ln : ((ops.length : Int) == 5) = true := by simp; omega
            have HE := Lib.hid hE
            clear AP J6 k6 T1 O1 hE o0
            go_wp2_with fail
            go_meet
            exact ⟨E, nx, dat, ops, S, v, rfl, by have := HE.out; omega, N.out⟩
        · have SH := Lib.hid (fun w => short86 T w)
          have p86 : (T.take 86).length ≤ 86 := by simp; omega
          generalize T.take 86 = p at *
          have f0 := T1.out.fd.c0
          have f1 := T1.out.fd.c1
          have z0 := T1.out.fd.fz 0
          have z1 := T1.out.fd.fz 1
          go_wp2_with fail
          (with_reducible refine (SH.out _).mono ?_)
          rintro e w5 ⟨rfl, rfl⟩
          have R5 := Lib.hid (Jn.ret_two T1.out.jl.jn T1.out.fd (Kp.below T1.out.jl.jn.bel) T1.out.pb (Nat.le_refl _) (mkB p) (.slice none 0 0))
          have SN := Lib.hid (Jn.snapshot_t w.heap.size d j l q 2 5 nx E E 4 dat p ops S w _ ⟨R5.out.1, T1.out.jl.ji⟩ (by omega) (by omega) (by omega))
          have x0 := R5.out.2.1.c0
          have PB := Lib.hid T1.out.pb
          have HE := Lib.hid hE
          have eb : (E : Int) ≤ 21 := by omega
          have e0 : 0 ≤ (E : Int) := by omega
          clear SH o3 T1 O1 hE o0
          go_wp2_with fail
          (with_reducible refine SN.out.mono ?_)
          rintro e w7 ⟨rfl, S7, J7, k7⟩
          have N7 := Lib.hid (show Tl w.heap.size d j l q p7 (1 - nx) (E + 1) p [] S7 (.slice none 0 0) w w7 from ⟨J7, R5.out.2.1.kp k7, strs_nil _ _, PB.out⟩)
          have EP := Jn.epoch_any w7 J7.jn.jn
          have ee : ((E + 1 : Nat) : Int) = (E : Int) + 1 := by push_cast; rfl
          rw [ee] at EP
          have EP' := Lib.hid EP
          have EE := Lib.hid ee
          clear SN R5 EP J7 k7 ee x0 f0 f1 z0 z1
          go_wp2_with fail
          (with_reducible refine EP'.out.mono ?_)
          rintro e w8 ⟨rfl, rfl⟩
          clear EP'
          go_wp2_with fail
          go_meet
          exact ⟨E + 1, 1 - nx, p, [], S7, _, by rw [EE.out], by have := HE.out; omega, N7.out⟩
      case rest =>
        obtain ⟨E2, nx2, dat2, ops2, S2, v2, rfl, hE2, tl⟩ := hcut
        obtain ⟨va, vc, rfl⟩ := Wl.strs_form tl.st
        have PT := Lib.hid tl
        have fw := tl.jl.ji.few
        clear tl T1 O1 o0 o3
        have GD := Lib.hid (fun w' (h : Tl w.heap.size d j l q p7 nx2 E2 dat2 ops2 S2 (.slice va ops2.length vc) w w') => Jn.good_any w' h.jl.jn.jn)
        have LF0 := fun w' (h : Tl w.heap.size d j l q p7 nx2 E2 dat2 ops2 S2 (.slice va ops2.length vc) w w') => Jn.left_good w' h.jl.jn.jn h.jl.jn.wl (by show 1 ≤ 5; omega) (by show 5 ≤ 1024; omega) (by show ops2.length ≤ 5; exact fw)
        have EF : ((Wl.leftOf 5 (some (E2, ops2.length)) : Nat) : Int) = 5 - (ops2.length : Int) := by show ((5 - ops2.length : Nat) : Int) = _; omega
        dsimp only at LF0
        rw [EF] at LF0
        have LF := Lib.hid LF0
        have y1 : (5 - (ops2.length : Int) != 5 - (ops2.length : Int)) = false := by simp
        have y2 : IntKind.i64.wrap (5 - (ops2.length : Int)) = 5 - (ops2.length : Int) := IntWalk.i64_in _ (by omega)
        have hg0 : 0 < gk := by have := HI.out; omega
        have HE2 := Lib.hid hE2
        have l0 : 0 ≤ (ops2.length : Int) := by omega
        have l5 : (ops2.length : Int) ≤ 5 := by omega
        clear LF0 EF hE2 fw
        go_wp2_with fail
        have PD := Lib.hid (PT.out.call (Below.refl _ _).drew)
        go_region_held3 (fun w' => w'.cell? ⟨p7, 1, none⟩ = some (.slice va ops2.length vc)) (first | exact PD.out.fd.c1 | assumption | fail) (first
          | (go_at_call 19; (with_reducible refine (GD.out _ PD.out).mono ?_); rintro e v1 ⟨rfl, rfl⟩; (have q1 := PD.out.fd.c1))
          | (go_at_call 20; (with_reducible refine (LF.out _ PD.out).mono ?_); rintro e v2 ⟨rfl, b2⟩; (have P2 := PD.out.call b2); (have q2 := P2.fd.c1))
          | fail)
        have N := Lib.hid P2
        clear P2 q1 q2 PD GD LF PT b2
        go_wp2
        go_roundg (gk - 1)
        case measure => omega
        case rel => exact ⟨i + 1, E2, nx2, dat2, ops2, S2, _, by have := HI.out; omega, rfl, by go_num, by have := HE2.out; omega, N.out⟩
    · have il : (i : Int) < (len : Int) := by omega
      have il20 : (20 : Int) ≤ (i : Int) := by omega
      have OP : Hid (Calls Try.prog 16 #[ptr d, .int .i64 2] wr _) := Lib.hid (Jn.open_c w.heap.size d 2 5 nx E E 4 dat ops S w wr HS.out.jl.jn.dk HS.out.jl.jn.bel HS.out.jl.ji (by omega) (by omega))
      have fw := HS.out.jl.ji.few
      go_wp2_with fail
      (with_reducible refine OP.out.mono ?_)
      rintro e w5 ⟨j', l', q', v', N', rfl, st5, -, J5, k5⟩
      obtain ⟨va, vc, rfl⟩ := Wl.strs_form st5
      obtain ⟨vb, vd, rfl⟩ := Wl.strs_form HS.out.st
      have bA := (Below.refl w5.heap.size w5).alloc (Nat.le_refl _) (.cells #[.string (mkB dat), .slice va ops.length vc] 32)
      have F6 := (HS.out.fd.kp k5).kp (.below bA)
      have G6 := Jn.fdAt_new w5 (mkB dat) (.slice va ops.length vc)
      have SM := Jn.same_any _ _ dat dat _ _ ops ops _ (st5.call bA) ((k5.strs HS.out.st).call bA) (by omega) (by omega)
      have ED : decide (dat = dat ∧ ops = ops) = true := by simp
      rw [ED] at SM
      have SM' := Lib.hid SM
      have B6 := Lib.hid (J5.jn.bel.trans (bA.mono J5.jn.dk.le))
      have B7 := Lib.hid (J5.jn.dk.call bA).le
      have x0 := F6.c0
      have x1 := F6.c1
      have u0 := G6.c0
      have u1 := G6.c1
      clear OP st5 J5 k5 bA F6 G6 SM ED HS
      go_wp2_with fail
      (with_reducible refine SM'.out.mono ?_)
      rintro e w7 ⟨rfl, b7⟩
      have FIN := Lib.hid (B6.out.trans (b7.mono B7.out))
      clear SM' b7 x0 x1 u0 u1
      go_wp2
      try simp only [Exit.noGoto]
      go_ret
      exact ⟨rfl, FIN.out⟩
    · have il : (len : Int) ≤ (i : Int) := by omega
      have OP : Hid (Calls Try.prog 16 #[ptr d, .int .i64 2] wr _) := Lib.hid (Jn.open_c w.heap.size d 2 5 nx E E 4 dat ops S w wr HS.out.jl.jn.dk HS.out.jl.jn.bel HS.out.jl.ji (by omega) (by omega))
      have fw := HS.out.jl.ji.few
      go_wp2_with fail
      (with_reducible refine OP.out.mono ?_)
      rintro e w5 ⟨j', l', q', v', N', rfl, st5, -, J5, k5⟩
      obtain ⟨va, vc, rfl⟩ := Wl.strs_form st5
      obtain ⟨vb, vd, rfl⟩ := Wl.strs_form HS.out.st
      have bA := (Below.refl w5.heap.size w5).alloc (Nat.le_refl _) (.cells #[.string (mkB dat), .slice va ops.length vc] 32)
      have F6 := (HS.out.fd.kp k5).kp (.below bA)
      have G6 := Jn.fdAt_new w5 (mkB dat) (.slice va ops.length vc)
      have SM := Jn.same_any _ _ dat dat _ _ ops ops _ (st5.call bA) ((k5.strs HS.out.st).call bA) (by omega) (by omega)
      have ED : decide (dat = dat ∧ ops = ops) = true := by simp
      rw [ED] at SM
      have SM' := Lib.hid SM
      have B6 := Lib.hid (J5.jn.bel.trans (bA.mono J5.jn.dk.le))
      have B7 := Lib.hid (J5.jn.dk.call bA).le
      have x0 := F6.c0
      have x1 := F6.c1
      have u0 := G6.c0
      have u1 := G6.c1
      clear OP st5 J5 k5 bA F6 G6 SM ED HS
      go_wp2_with fail
      (with_reducible refine SM'.out.mono ?_)
      rintro e w7 ⟨rfl, b7⟩
      have FIN := Lib.hid (B6.out.trans (b7.mono B7.out))
      clear SM' b7 x0 x1 u0 u1
      go_wp2
      try simp only [Exit.noGoto]
      go_ret
      exact ⟨rfl, FIN.out⟩

set_option maxRecDepth 100000 in
set_option maxHeartbeats 1600000 in
theorem lifted (os : Os) (started : os.Started) (H : Type) (enc : TypeId × Value → H) :
    ReturnsInHanded {} Try.checked os 4 .any (Rows.journalTellsSpec.pre6 enc Try.prog Try.f4 Rows.journalTellsRow.domain false) (Rows.journalTellsSpec.post enc Try.prog Try.f4 false true false false) := by
  refine returnsInHanded_of_change (C := Try.checked) own started (by kernel_rfl) Try.func4
    (ChangeSpec.witness6 (enc := enc) (C := Try.checked) false ⟨#[], #[.slice none 0 0], []⟩ 8 (by kernel_rfl) (by kernel_rfl) (by kernel_rfl) (by kernel_rfl)) ?_
  intro W base args ds gs before hval0 hW hcnd _
  have hval : ∀ (j : Nat) t v, Try.f4.params[j]? = some t → args[j]? = some v → Value.okWide Try.prog W .any base t v := hval0
  have hW' := hW
  obtain ⟨p, q, hA0, hV, rfl, hfz, hnd⟩ := hW
  have hA : DataW.TrodAll enc Try.prog W 0 (fun _ => true) true Try.f4.params.toList args.toList ds p := hA0
  rw [Try.params4] at hA hval
  obtain ⟨v0, vs0, d0, ds0, p0, q0, hargs, rfl, rfl, h0, r0⟩ := trodAll_cons hA
  obtain ⟨rfl, rfl, rfl⟩ := trodAll_nil r0
  obtain rfl : args = #[v0] := by cases args; simp_all
  obtain ⟨rfl, rfl⟩ := trodVars_none hV
  have lt0 : ∀ x ∈ p0, x.block < W.heap.size := by obtain ⟨m, hm⟩ := h0; exact DataW.trod_lt m _ _ _ hm
  obtain ⟨ao, len, cap, rfl, hl, hT⟩ := Jn.open_tries (hval 0 22 v0 rfl rfl) h0
  clear hA0 hval0
  refine (walk ao len cap W hl hT).mono fun e W' ⟨he, bel⟩ => ?_
  subst he
  exact ⟨_, rfl, _, _, _, [], _, [], hW', trodAll_mk1 (shut_bool Try.underlying4 _), (trodAll_cons_mk (Below.trod laidOut (by kernel_rfl) (of_decide_eq_true (by kernel_rfl)) h0 bel lt0) trodAll_mk0), rfl, bel.frame _, fun h => by cases h⟩

theorem proved : Rows.JournalTellsSaid :=
  OpenClaim.holds_of_wide 4 Try.f4 rfl rfl rfl rfl rfl rfl rfl ⟨rfl, rfl, rfl, rfl, rfl⟩ rfl rfl rfl rfl rfl (by kernel_rfl) Try.func4 (by kernel_rfl)
    (of_decide_eq_true (by kernel_rfl)) (by unfold Func.isWrapper; first | (rw [if_pos (by decide +kernel)]; kernel_rfl) | (rw [if_neg (by decide +kernel)]; exact ⟨rfl, rfl⟩))
    (fun os started H enc _ => lifted os started H enc)
#print axioms proved
end Go.Proofs.Ytmccoejliaakoaa.journalTells
