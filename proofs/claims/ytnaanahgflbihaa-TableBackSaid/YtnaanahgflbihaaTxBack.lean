/- horariumlaw14.TableBack answers true at every row of ops and every op. No condition. -/
import Derived.Test.YtnaanahgflbihaaTbQ
import Derived.Test.YtnaanahgflbihaaTbS
import Derived.Test.YtnaanahgflbihaaOcG
import Derived.Test.YtnaanahgflbihaaTbT
import Derived.Test.YtnaanahgflbihaaTbX
namespace Go.Proofs.Ytnaanahgflbihaa.tableBack
open Go.ChangeShapes Go.WideShapes Go.ChangeAt Go.RowKit Go.Joins
open Oc
set_option maxRecDepth 100000
set_option linter.unusedVariables false
set_option linter.unusedSimpArgs false
open Tb
open Ox (Od)
open Ge (Seen)

set_option maxRecDepth 100000 in
set_option maxHeartbeats 16000000 in
theorem walk (l : List Od) (lo : Option Addr) (lc : Nat) (o : Od) (w : World) (hl2 : l.length ≤ 9223372036854775807) (hO : Seen ocs 10 lo l w) :
    Calls Try.prog 7 #[.slice lo l.length lc, o.v] w fun e w' => e = .returned (.bool true) ∧ Below w.heap.size w w' := by
  have AW := Lib.hid awake_any
  have MA : Hid (∀ W, Below w.heap.size w W → Calls Try.prog 14 #[.slice lo l.length lc] W fun e w' => ∃ v, e = .returned v ∧ Tb.Told v (madeT l) w' ∧ Below W.heap.size W w') := Lib.hid (fun W hb => made_any l lo lc W (hO.below hb (Nat.le_refl _)) hl2)
  have HC : Hid (chkT (madeT l) = true) := Lib.hid (made_chk l)
  have ML : Hid ((madeT l).rows.length ≤ 16) := Lib.hid (chkT_iff.1 (made_chk l)).2.2.1
  have NE := Lib.hid (near_any o)
  have MATH := Lib.hid (fun h1 h2 => back_math (t := madeT l) (o := nearR o) h1 h2)
  have BT : Hid (bytesT (madeT l) = (mkB (encT (madeT l)), 0)) := Lib.hid (if_pos (made_chk l))
  have RT : Hid (readT (encT (madeT l)) = (madeT l, 0)) := Lib.hid (by unfold readT; rw [readR_enc (made_chk l)])
  have RA := Lib.hid (fun W => readt_any (encT (madeT l)) W (Nat.le_trans (encT_len (made_chk l)) (by decide)))
  rw [RT.out] at RA
  have H0 := Lib.hid ((bos_nil w).new o.cs 29)
  generalize encT (madeT l) = en at *
  generalize madeT l = M at *
  generalize nearR o = y at *
  generalize l.length = n at *
  obtain ⟨r, mo⟩ := M
  obtain ⟨k, ⟨i, c, d, tt, tm⟩, s, oi, oc, om⟩ := o
  obtain ⟨yk, ⟨yi, yc, yd, yt, ym⟩, ys, yid, ycc, ymo⟩ := y
  unfold Od.v Od.cs at *
  simp only at *
  clear hl2 hO RT
  go_enter Try.func7, Try.ntmps7
  go_wp2_with fail
  (with_reducible refine (AW.out _).mono ?_)
  rintro e w1 ⟨rfl, b1⟩
  have HX := Lib.hid (H0.out.call b1)
  clear b1 AW H0
  go_wp2_with fail
  (with_reducible refine (MA.out _ HX.out.bl).mono ?_)
  rintro e w2 ⟨v, rfl, ⟨ao, cap, rfl, sl⟩, b2⟩
  simp only at sl
  have HX := Lib.hid ((HX.out.call b2).new #[.slice ao r.length cap, .int .i64 mo] 24)
  have SX := Lib.hid (sl.call ((Below.refl _ _).alloc (Nat.le_refl _) (.cells #[.slice ao r.length cap, .int .i64 mo] 24)))
  clear b2 sl MA
  have BA := Lib.hid (bytes_any ⟨r, mo⟩ ao cap _ SX.out.seen (by have := ML.out; simp only at this ⊢; omega))
  rw [BT.out] at BA
  obtain ⟨t0, t1⟩ := cell2 (HX.out.cell 0 rfl)
  unfold tv at *
  simp only at BA
  go_wp2_with fail
  (with_reducible refine BA.out.mono ?_)
  rintro e w3 ⟨rfl, b3⟩
  have HX := Lib.hid (HX.out.call b3)
  have SX := Lib.hid (SX.out.call b3)
  clear b3 BA t0 t1 BT
  go_wp2_with fail
  (with_reducible refine (RA.out _).mono ?_)
  rintro e w4 ⟨v, rfl, ⟨xo, xcap, rfl, sx⟩, b4⟩
  simp only at sx
  have BZ : Below w4.heap.size w4 (w4.alloc (.cells #[.slice xo r.length xcap, .int .i64 mo] 24)) := (Below.refl _ _).alloc (Nat.le_refl _) _
  have HX := Lib.hid ((HX.out.call b4).new #[.slice xo r.length xcap, .int .i64 mo] 24)
  have SX := Lib.hid ((SX.out.call b4).call BZ)
  have SR := Lib.hid (sx.call BZ)
  clear b4 sx BZ RA
  have SA := Lib.hid (same_any ⟨r, mo⟩ ⟨r, mo⟩ xo ao xcap cap _ SR.out.seen SX.out.seen (by have := ML.out; simp only at this ⊢; omega) (by have := ML.out; simp only at this ⊢; omega))
  rw [same_self] at SA
  unfold tv at *
  simp only at SA
  obtain ⟨z0, z1⟩ := cell2 (HX.out.cell 0 rfl)
  obtain ⟨t0, t1⟩ := cell2 (HX.out.cell 1 rfl)
  go_wp2_with fail
  (with_reducible refine SA.out.mono ?_)
  rintro e w5 ⟨rfl, b5⟩
  have HX := Lib.hid (HX.out.call b5)
  have SX := Lib.hid (SX.out.call b5)
  clear b5 SA SR t0 t1 z0 z1
  obtain ⟨o0, o1, o2, o3, o4, o5, o6, o7, o8, o9⟩ := cell10 (HX.out.cell 2 rfl)
  go_wp2_with fail
  (with_reducible refine (NE.out _).mono ?_)
  rintro e w6 ⟨rfl, b6⟩
  have HX := Lib.hid ((HX.out.call b6).new #[.int .i64 yk, .int .i64 yi, .int .i64 yc, .int .i64 yd, .int .i64 yt, .int .i64 ym, .bool ys, .int .i64 yid, .int .i64 ycc, .int .i64 ymo] 29)
  have SX := Lib.hid ((SX.out.call b6).call ((Below.refl _ _).alloc (Nat.le_refl _) (.cells #[.int .i64 yk, .int .i64 yi, .int .i64 yc, .int .i64 yd, .int .i64 yt, .int .i64 ym, .bool ys, .int .i64 yid, .int .i64 ycc, .int .i64 ymo] 29)))
  clear b6 NE o0 o1 o2 o3 o4 o5 o6 o7 o8 o9
  obtain ⟨o0, o1, o2, o3, o4, o5, o6, o7, o8, o9⟩ := cell10 (HX.out.cell 0 rfl)
  obtain ⟨t0, t1⟩ := cell2 (HX.out.cell 2 rfl)
  have AC := Lib.hid (apply_any ⟨r, mo⟩ ⟨yk, ⟨yi, yc, yd, yt, ym⟩, ys, yid, ycc, ymo⟩ ao cap _ SX.out.seen (by have := ML.out; simp only at this ⊢; omega))
  unfold tv Od.v Od.cs at AC
  simp only at AC
  by_cases hk : yk = 1
  · obtain rfl := hk
    have MATH := Lib.hid (MATH.out rfl)
    generalize applyR ⟨r, mo⟩ ⟨1, ⟨yi, yc, yd, yt, ym⟩, ys, yid, ycc, ymo⟩ = R at *
    obtain ⟨⟨q, qm⟩, R2⟩ := R
    simp only at MATH AC
    go_wp2_with fail
    (with_reducible refine AC.out.mono ?_)
    rintro e w7 ⟨v, rfl, ⟨a7, c7, rfl, s7⟩, b7⟩
    simp only at s7
    have BZ : Below w7.heap.size w7 (w7.alloc (.cells #[.slice a7 q.length c7, .int .i64 qm] 24)) := (Below.refl _ _).alloc (Nat.le_refl _) _
    have HX := Lib.hid ((HX.out.call b7).new #[.slice a7 q.length c7, .int .i64 qm] 24)
    have SX := Lib.hid ((SX.out.call b7).call BZ)
    have SQ := Lib.hid (s7.call BZ)
    clear b7 s7 BZ AC o0 o1 o2 o3 o4 o5 o6 o7 o8 o9 t0 t1
    unfold tv
    by_cases hR : R2 = 0
    · have MM := MATH.out trivial hR
      obtain rfl := hR
      obtain ⟨m1, m2, m3, m4⟩ := MM
      have FI := Lib.hid (find_any ⟨q, qm⟩ yi a7 c7 _ SQ.out.seen m1)
      have QL : Hid (q.length ≤ 16) := Lib.hid (chkT_iff.1 m1).2.2.1
      simp only at FI
      generalize findR q yi = fr at *
      obtain ⟨fx, fb⟩ := fr
      simp only at m3 FI
      obtain rfl := m3
      unfold tv Rw.v at FI
      have M1 := Lib.hid m1
      have M2 := Lib.hid m2
      have M4 := Lib.hid m4
      clear m1 m2 m4 MATH
      obtain ⟨o0, o1, o2, o3, o4, o5, o6, o7, o8, o9⟩ := cell10 (HX.out.cell 1 rfl)
      obtain ⟨t0, t1⟩ := cell2 (HX.out.cell 0 rfl)
      go_wp2_with fail
      (with_reducible refine FI.out.mono ?_)
      rintro e w8 ⟨rfl, b8⟩
      have BZ : Below w8.heap.size w8 (w8.alloc (.cells #[.int .i64 fx.t.id, .int .i64 fx.t.c, .int .i64 fx.t.d, .int .i64 fx.t.t, .int .i64 fx.t.m, .bool fx.s] 57)) := (Below.refl _ _).alloc (Nat.le_refl _) _
      have HX := Lib.hid ((HX.out.call b8).call BZ)
      have SX := Lib.hid ((SX.out.call b8).call BZ)
      have SQ := Lib.hid ((SQ.out.call b8).call BZ)
      clear b8 BZ FI o0 o1 o2 o3 o4 o5 o6 o7 o8 o9 t0 t1
      obtain ⟨o0, o1, o2, o3, o4, o5, o6, o7, o8, o9⟩ := cell10 (HX.out.cell 1 rfl)
      obtain ⟨t0, t1⟩ := cell2 (HX.out.cell 0 rfl)
      have AC := Lib.hid (apply_any ⟨q, qm⟩ ⟨2, ⟨0, 0, 0, 0, 0⟩, false, yi, 0, 0⟩ a7 c7 _ SQ.out.seen (by have := QL.out; simp only at this ⊢; omega))
      rw [M4.out] at AC
      unfold tv Od.v Od.cs at AC
      simp only at AC
      go_wp2_with fail
      (with_reducible refine AC.out.mono ?_)
      rintro e w9 ⟨v, rfl, ⟨a9, c9, rfl, s9⟩, b9⟩
      simp only at s9
      have BZ : Below w9.heap.size w9 (w9.alloc (.cells #[.slice a9 r.length c9, .int .i64 mo] 24)) := (Below.refl _ _).alloc (Nat.le_refl _) _
      have HX := Lib.hid ((HX.out.call b9).new #[.slice a9 r.length c9, .int .i64 mo] 24)
      have SX := Lib.hid ((SX.out.call b9).call BZ)
      have SQ := Lib.hid ((SQ.out.call b9).call BZ)
      have SZ := Lib.hid (s9.call BZ)
      clear b9 s9 BZ AC o0 o1 o2 o3 o4 o5 o6 o7 o8 o9 t0 t1
      unfold tv
      have SA := Lib.hid (same_any ⟨r, mo⟩ ⟨r, mo⟩ a9 ao c9 cap _ SZ.out.seen SX.out.seen (by have := ML.out; simp only at this ⊢; omega) (by have := ML.out; simp only at this ⊢; omega))
      rw [same_self] at SA
      have CA := Lib.hid (fun W (h : Seen Rw.cs 6 a7 q W) => check_any ⟨q, qm⟩ a7 c7 W h (by have := QL.out; simp only at this ⊢; omega))
      rw [M1.out] at CA
      unfold tv at *
      simp only at SA CA
      have LQ : ((q.length : Nat) : Int) = (r.length : Int) + 1 := by have := M2.out; omega
      have LQ2 : IntKind.i64.wrap ((r.length : Int) + 1) = (r.length : Int) + 1 := IntWalk.i64_in _ (by have := ML.out; omega)
      obtain ⟨z0, z1⟩ := cell2 (HX.out.cell 0 rfl)
      obtain ⟨t0, t1⟩ := cell2 (HX.out.cell 4 rfl)
      go_wp2_with fail
      (with_reducible refine SA.out.mono ?_)
      rintro e wa ⟨rfl, ba⟩
      have HX := Lib.hid (HX.out.call ba)
      have SQ := Lib.hid (SQ.out.call ba)
      clear ba SA SX SZ z0 z1 t0 t1
      obtain ⟨y0, y1⟩ := cell2 (HX.out.cell 1 rfl)
      obtain ⟨t0, t1⟩ := cell2 (HX.out.cell 4 rfl)
      go_wp2_with fail
      (with_reducible refine (CA.out _ SQ.out.seen).mono ?_)
      rintro e wb ⟨rfl, bb⟩
      have HX := Lib.hid (HX.out.call bb)
      clear bb CA SQ y0 y1 t0 t1
      obtain ⟨y0, y1⟩ := cell2 (HX.out.cell 1 rfl)
      obtain ⟨t0, t1⟩ := cell2 (HX.out.cell 4 rfl)
      have LE : (((q.length : Nat) : Int) == (r.length : Int) + 1) = true := by rw [LQ]; simp
      have M2 := Lib.hid M2.out
      generalize q.length = qn at *
      have Z := Lib.hid HX.out.bl
      go_wp2
      go_ret
      exact ⟨rfl, Z.out⟩
    · have hR2 : (R2 != 0) = true := by simp [hR]
      clear MATH SX SQ
      have Z := Lib.hid HX.out.bl
      go_wp2
      go_ret
      exact ⟨rfl, Z.out⟩
  · have hk2 : (yk != 1) = true := by simp [hk]
    clear AC MATH SX
    have Z := Lib.hid HX.out.bl
    go_wp2
    go_ret
    exact ⟨rfl, Z.out⟩

set_option maxRecDepth 100000 in
set_option maxHeartbeats 1600000 in
theorem lifted (os : Os) (started : os.Started) (H : Type) (enc : TypeId × Value → H) :
    ReturnsInHanded {} Try.checked os 7 .any (Rows.tableBackSpec.pre6 enc Try.prog Try.f7 Rows.tableBackRow.domain false) (Rows.tableBackSpec.post enc Try.prog Try.f7 false true false false) := by
  refine returnsInHanded_of_change (C := Try.checked) own started (by kernel_rfl) Try.func7
    (ChangeSpec.witness6 (enc := enc) (C := Try.checked) false ⟨#[], #[.slice none 0 0, .agg #[.int .i64 0, .int .i64 0, .int .i64 0, .int .i64 0, .int .i64 0, .int .i64 0, .bool false, .int .i64 0, .int .i64 0, .int .i64 0]], []⟩ 8 (by kernel_rfl) (by kernel_rfl) (by kernel_rfl) (by kernel_rfl)) ?_
  intro W base args ds gs before hval0 hW hcnd _
  have hval : ∀ (j : Nat) t v, Try.f7.params[j]? = some t → args[j]? = some v → Value.okWide Try.prog W .any base t v := hval0
  have hW' := hW
  obtain ⟨p, q, hA0, hV, rfl, hfz, hnd⟩ := hW
  have hA : DataW.TrodAll enc Try.prog W 0 (fun _ => true) true Try.f7.params.toList args.toList ds p := hA0
  rw [Try.params7] at hA hval
  obtain ⟨v0, vs0, d0, ds0, p0, q0, hargs, rfl, rfl, h0, r0⟩ := trodAll_cons hA
  obtain ⟨v1, vs1, d1, ds1, p1, q1, rfl, rfl, rfl, h1, r1⟩ := trodAll_cons r0
  obtain ⟨rfl, rfl, rfl⟩ := trodAll_nil r1
  obtain rfl : args = #[v0, v1] := by cases args; simp_all
  obtain ⟨rfl, rfl⟩ := trodVars_none hV
  have lt0 : ∀ x ∈ p0, x.block < W.heap.size := by obtain ⟨m, hm⟩ := h0; exact DataW.trod_lt m _ _ _ hm
  obtain ⟨lo, l, lc, rfl, ll, lm, ls⟩ := open_ops (hval 0 25 v0 rfl rfl) h0
  have lt1 : ∀ x ∈ p1, x.block < W.heap.size := by obtain ⟨m, hm⟩ := h1; exact DataW.trod_lt m _ _ _ hm
  obtain ⟨o, rfl, oko⟩ := Ox.open_op (hval 1 29 v1 rfl rfl) h1
  clear hA0 hval0
  refine (walk l lo lc o W ll ls).mono fun e W' ⟨he, bel⟩ => ?_
  subst he
  exact ⟨_, rfl, _, _, _, [], _, [], hW', trodAll_mk1 (shut_bool Try.underlying4 _), (trodAll_cons_mk (Below.trod laidOut (by kernel_rfl) (of_decide_eq_true (by kernel_rfl)) h0 bel lt0) (trodAll_cons_mk (Below.trod laidOut (by kernel_rfl) (of_decide_eq_true (by kernel_rfl)) h1 bel lt1) trodAll_mk0)), rfl, bel.frame _, fun h => by cases h⟩

theorem proved : Rows.TableBackSaid :=
  OpenClaim.holds_of_wide 7 Try.f7 rfl rfl rfl rfl rfl rfl rfl ⟨rfl, rfl, rfl, rfl, rfl⟩ rfl rfl rfl rfl rfl (by kernel_rfl) Try.func7 (by kernel_rfl)
    (of_decide_eq_true (by kernel_rfl)) (by unfold Func.isWrapper; first | (rw [if_pos (by decide +kernel)]; kernel_rfl) | (rw [if_neg (by decide +kernel)]; exact ⟨rfl, rfl⟩))
    (fun os started H enc _ => lifted os started H enc)
#print axioms proved
end Go.Proofs.Ytnaanahgflbihaa.tableBack
