/- horariumlaw14.TableReplay answers true at every row of ops: ops that were applied one by one, as bytes, are replayed to the same table. No condition. -/
import Derived.Test.YtnaanahgflbihaaTbQ
import Derived.Test.YtnaanahgflbihaaTbS
import Derived.Test.YtnaanahgflbihaaOcG
import Derived.Test.YtnaanahgflbihaaTbU
import Derived.Test.YtnaanahgflbihaaTbZ
import Derived.Test.YtnaanahgflbihaaOpH
namespace Go.Proofs.Ytnaanahgflbihaa.tableReplay
open Go.ChangeShapes Go.WideShapes Go.ChangeAt Go.RowKit Go.Joins
open Oc
set_option maxRecDepth 100000
set_option linter.unusedVariables false
set_option linter.unusedSimpArgs false
open Tb
open Ox (Od)
open Ge (Seen)
open Ge (Row)
open Ox (bytesR encO encO_len chkR)
theorem row_seen {B : Nat} {w : World} {ao : Option Addr} {k cap : Nat} {xs : List (List UInt8)} (h : Row xcs 1 9 B w (.slice ao k cap) xs) : Seen xcs 1 ao xs w ∧ k = xs.length := by
  obtain ⟨a, c, e, -, hs, -⟩ := Ge.Row.form xcs_len h
  cases e
  exact ⟨hs, rfl⟩
def ReqRel (l : List Od) (p : Nat) (w : World) (g : Nat) (s t : Value) (wx : World) : Prop :=
  ∃ (i : Nat) (v : Value) (xs : List (List UInt8)) (M : Tb.Tb) (ao : Option Addr) (cap : Nat), i + g = min l.length 20 ∧ v = s ∧ t = .int .i64 (i : Int) ∧ Row xcs 1 9 w.heap.size wx v xs ∧ Only v wx ∧ xs.length ≤ i ∧ (∀ x ∈ xs, x.length ≤ 1000) ∧ Bos [(p, #[.slice ao M.rows.length cap, .int .i64 M.mode], 24)] w wx ∧ Sl (.slice ao M.rows.length cap) M.rows wx ao cap ∧ replayR tb0 xs = (M, xs.length) ∧ chkT M = true

set_option maxRecDepth 100000 in
set_option maxHeartbeats 16000000 in
theorem walk (l : List Od) (lo : Option Addr) (lc : Nat) (w : World) (hl2 : l.length ≤ 9223372036854775807) (hO : Seen ocs 10 lo l w) :
    Calls Try.prog 9 #[.slice lo l.length lc] w fun e w' => e = .returned (.bool true) ∧ Below w.heap.size w w' := by
  have AW := Lib.hid awake_any
  have SO := Lib.hid hO
  have HM := Lib.hid hl2
  clear hl2 hO
  go_enter Try.func9, Try.ntmps9
  go_wp2_with fail
  (with_reducible refine (AW.out _).mono ?_)
  rintro e w1 ⟨rfl, b1⟩
  have HX := Lib.hid ((show Bos [] w w1 from ⟨by simp, by simp, b1⟩).new #[.slice none 0 0, .int .i64 0] 24)
  clear b1 AW
  go_wp2_with fail
  go_loopg [5, 6] (min l.length 20) (ReqRel l w1.heap.size w)
  case atStart => exact ⟨0, _, [], tb0, none, 0, by omega, rfl, rfl, Ge.row_nil _ _, only_nil _, by simp, by simp, HX.out, ⟨rfl, Nat.le_refl _, fun _ => rfl, Ge.seen_nil _ _⟩, rfl, chk_tb0⟩
  case round =>
    obtain ⟨i, v, xs, M, ao, cap, hi, rfl, rfl, hr, ho, hn, hx, hB, hs, hq, hc⟩ := hrel
    obtain ⟨xo, xcap, rfl, -, -, -⟩ := Ge.Row.form xcs_len hr
    have HB := Lib.hid hB
    have RX := Lib.hid hr
    have OX := Lib.hid ho
    have HI := Lib.hid hi
    have XN := Lib.hid hn
    have XL := Lib.hid hx
    have SX := Lib.hid hs
    have HQ := Lib.hid hq
    have HC := Lib.hid hc
    have ML : Hid (M.rows.length ≤ 16) := Lib.hid (chkT_iff.1 hc).2.2.1
    have xle : xs.length ≤ 20 := by omega
    clear HX hB hr hn hx ho hs hq hc
    by_cases hlt : i < l.length ∧ i < 20
    · obtain ⟨h1, h2⟩ := hlt
      have hg0 : 0 < gk := by omega
      have i1 : (i : Int) < (l.length : Int) := by omega
      have i2 : (i : Int) < 20 := by omega
      have hx := List.getElem?_eq_getElem h1
      obtain ⟨bb, off, rfl, hop⟩ := seen_op SO.out hx
      have NE := Lib.hid (near_any l[i])
      have AP : Hid (∀ W, Seen Rw.cs 6 ao M.rows W → Calls Try.prog 27 #[tv ao M.rows.length cap M.mode, (nearR l[i]).v] W fun e w' => ∃ v, e = .returned (.tuple #[v, .int .i64 (applyR M (nearR l[i])).2]) ∧ Tb.Told v (applyR M (nearR l[i])).1 w' ∧ Below W.heap.size W w') := Lib.hid (fun W h => apply_any M (nearR l[i]) ao cap W h (by have := ML.out; omega))
      have YES : Hid ((applyR M (nearR l[i])).2 = 0 → chkT (applyR M (nearR l[i])).1 = true ∧ replayR tb0 (xs ++ [encO (nearR l[i])]) = ((applyR M (nearR l[i])).1, xs.length + 1) ∧ bytesR (nearR l[i]) = (mkB (encO (nearR l[i])), 0) ∧ (encO (nearR l[i])).length ≤ 43) := Lib.hid (fun h => ⟨(apply_chk h).1, replay_snoc HQ.out h, (by unfold bytesR; rw [if_pos (apply_chk h).2.2]), encO_len (apply_chk h).2.2⟩)
      have RB := Lib.hid (Ox.rbytes_any (nearR l[i]))
      obtain ⟨c0, c1, c2, c3, c4, c5, c6, c7, c8, c9⟩ := hop _ HB.out.bl
      generalize applyR M (nearR l[i]) = R at *
      generalize encO (nearR l[i]) = E at *
      generalize bytesR (nearR l[i]) = BB at *
      generalize nearR l[i] = y at *
      generalize l[i] = x at *
      obtain ⟨R1, R2⟩ := R
      obtain ⟨xk, ⟨xi, xc, xd, xt, xm⟩, xsv, xid, xcc, xmo⟩ := x
      obtain ⟨yk, ⟨yi, yc, yd, yt, ym⟩, ys, yid, ycc, ymo⟩ := y
      unfold tv Od.v Od.cs at *
      (try simp only at *)
      clear hop hx hi h1 h2
      go_wp2_with fail
      (with_reducible refine (NE.out _).mono ?_)
      rintro e w2 ⟨rfl, b2⟩
      have bz : Below w2.heap.size w2 (w2.alloc (.cells #[.int .i64 yk, .int .i64 yi, .int .i64 yc, .int .i64 yd, .int .i64 yt, .int .i64 ym, .bool ys, .int .i64 yid, .int .i64 ycc, .int .i64 ymo] 29)) := (Below.refl _ _).alloc (Nat.le_refl _) _
      have HB := Lib.hid ((HB.out.call b2).new #[.int .i64 yk, .int .i64 yi, .int .i64 yc, .int .i64 yd, .int .i64 yt, .int .i64 ym, .bool ys, .int .i64 yid, .int .i64 ycc, .int .i64 ymo] 29)
      have RX := Lib.hid ((RX.out.call b2).call bz)
      have OX := Lib.hid ((OX.out.call b2).call bz)
      have SX := Lib.hid ((SX.out.call b2).call bz)
      clear b2 bz NE c0 c1 c2 c3 c4 c5 c6 c7 c8 c9
      obtain ⟨o0, o1, o2, o3, o4, o5, o6, o7, o8, o9⟩ := cell10 (HB.out.cell 0 rfl)
      obtain ⟨t0, t1⟩ := cell2 (HB.out.cell 1 rfl)
      go_wp2_with fail
      (with_reducible refine (AP.out _ SX.out.seen).mono ?_)
      rintro e w3 ⟨v, rfl, ⟨a2, c2, rfl, s2⟩, b3⟩
      (try simp only at s2)
      have bz : Below w3.heap.size w3 (w3.alloc (.cells #[.slice a2 R1.rows.length c2, .int .i64 R1.mode] 24)) := (Below.refl _ _).alloc (Nat.le_refl _) _
      have HB := Lib.hid ((HB.out.call b3).new #[.slice a2 R1.rows.length c2, .int .i64 R1.mode] 24)
      have RX := Lib.hid ((RX.out.call b3).call bz)
      have OX := Lib.hid ((OX.out.call b3).call bz)
      have SX := Lib.hid ((SX.out.call b3).call bz)
      have SN := Lib.hid (s2.call bz)
      clear b3 s2 bz AP o0 o1 o2 o3 o4 o5 o6 o7 o8 o9 t0 t1
      unfold tv
      by_cases hR : R2 = 0
      · have hR1 : (R2 == 0) = true := by simp [hR]
        obtain ⟨yc1, yc2, yc3, yc4⟩ := YES.out hR
        subst yc3
        have YC := Lib.hid yc1
        have YQ := Lib.hid yc2
        have YL := Lib.hid yc4
        clear yc1 yc2 yc4 YES hR HC HQ
        obtain ⟨o0, o1, o2, o3, o4, o5, o6, o7, o8, o9⟩ := cell10 (HB.out.cell 1 rfl)
        go_wp2_with fail
        (with_reducible refine (RB.out _).mono ?_)
        rintro e W ⟨rfl, b4⟩
        have HB := Lib.hid (HB.out.call b4)
        have RX := Lib.hid (RX.out.call b4)
        have OX := Lib.hid (OX.out.call b4)
        have SN := Lib.hid (SN.out.call b4)
        clear b4 RB SX o0 o1 o2 o3 o4 o5 o6 o7 o8 o9
        obtain ⟨v5, w5, ap5, r5, h5, ox5, s5⟩ := app_text E HB.out (by
          intro z hz
          simp only [List.mem_cons, List.not_mem_nil, or_false] at hz
          rcases hz with rfl | rfl | rfl <;> first | exact (by decide : (24 : Nat) ≠ 9) | exact (by decide : (29 : Nat) ≠ 9)) RX.out OX.out (by omega)
        have S5 := Lib.hid (s5 _ _ _ _ SN.out)
        have R5 := Lib.hid r5
        have H5 := Lib.hid h5
        have O5 := Lib.hid ox5
        have L5 : Hid (∀ z ∈ xs ++ [E], z.length ≤ 1000) := Lib.hid (fun z hz => by
          rcases List.mem_append.1 hz with hz | hz
          · exact XL.out z hz
          · rw [List.mem_singleton.1 hz]; have := YL.out; omega)
        clear r5 h5 ox5 s5 HB RX OX SN XL
        obtain ⟨y0, y1⟩ := cell2 (H5.out.cell 0 rfl)
        obtain ⟨p0, p1⟩ := cell2 (H5.out.cell 2 rfl)
        have pf := H5.out.fz 2 rfl
        have HF := Lib.hid ((H5.out.set 2 rfl 0 (.slice a2 R1.rows.length c2)).set 2 rfl 1 (.int .i64 R1.mode))
        have SF := Lib.hid ((S5.out.set H5.out 2 rfl (by simp) 0 (.slice a2 R1.rows.length c2)).set (H5.out.set 2 rfl 0 (.slice a2 R1.rows.length c2)) 2 rfl (by simp) 1 (.int .i64 R1.mode))
        have hp5 := H5.out.at_ _ (List.mem_of_getElem? (show _ = some _ from (rfl : [_, _, _][2]? = _)))
        simp only at hp5
        have ne5 : v5.ownBlock ≠ some w1.heap.size := row_neT R5.out hp5.1 (by decide)
        have kb : ∀ k, v5.ownBlock = some k → ((w5.setCell ⟨w1.heap.size, 0, none⟩ (.slice a2 R1.rows.length c2)).setCell ⟨w1.heap.size, 1, none⟩ (.int .i64 R1.mode)).heap[k]? = w5.heap[k]? := fun k hk => by
          have hne : k ≠ w1.heap.size := fun e => ne5 (by rw [hk, e])
          rw [Below.heap_setCell _ _ _ _ hne, Below.heap_setCell _ _ _ _ hne]
        have RF := Lib.hid (R5.out.of_blocks kb)
        have OF : Hid (Only v5 ((w5.setCell ⟨w1.heap.size, 0, none⟩ (.slice a2 R1.rows.length c2)).setCell ⟨w1.heap.size, 1, none⟩ (.int .i64 R1.mode))) := Lib.hid (fun g e => by
          obtain ⟨cur, T, fz, q1, q2⟩ := O5.out g e
          exact ⟨cur, T, fz, (kb g e).trans q1, q2⟩)
        clear hp5 ne5 kb R5 O5 S5 H5
        generalize mkB E = Z at *
        go_wp2_with (at_builtin; refine Lib.wpList_append_run _ rfl _ _ _ _ rfl _ _ rfl rfl _ _ ap5 ?_)
        go_roundg (gk - 1)
        case measure => omega
        case rel => exact ⟨i + 1, _, _, R1, a2, c2, by have := HI.out; omega, rfl, by go_num, RF.out, OF.out, by have := XN.out; rw [List.length_append, List.length_singleton]; omega, L5.out, HF.out.sub (List.Sublist.cons _ (List.sublist_cons_self _ _)), SF.out, by rw [YQ.out]; simp, YC.out⟩
      · have hR1 : (R2 == 0) = false := by simp [hR]
        clear YES hR RB SN
        go_wp2
        go_roundg (gk - 1)
        case measure => omega
        case rel => exact ⟨i + 1, _, xs, M, ao, cap, by have := HI.out; omega, rfl, by go_num, RX.out, OX.out, by have := XN.out; omega, XL.out, HB.out.sub (List.Sublist.cons _ (List.sublist_cons_self _ _)), SX.out, HQ.out, HC.out⟩
    · have hge : (l.length : Int) ≤ (i : Int) ∨ ((i : Int) < (l.length : Int) ∧ (20 : Int) ≤ (i : Int)) := by omega
      have RP := Lib.hid (replay_any tb0 xs none xo 0 xcap wr ⟨rfl, Nat.le_refl _, fun _ => rfl, Ge.seen_nil _ _⟩ (by simp [tb0]) (row_seen RX.out).1 (by omega) (fun x hx => Nat.le_trans (XL.out x hx) (by decide)))
      rw [HQ.out] at RP
      have CA := Lib.hid (fun W (h : Seen Rw.cs 6 ao M.rows W) => check_any M ao cap W h (by have := ML.out; omega))
      rw [HC.out] at CA
      have SA := Lib.hid (fun a3 c3 W (h3 : Seen Rw.cs 6 a3 M.rows W) (h : Seen Rw.cs 6 ao M.rows W) => same_any M M a3 ao c3 cap W h3 h (by have := ML.out; omega) (by have := ML.out; omega))
      rw [same_self] at SA
      generalize xs.length = xn at *
      obtain ⟨Mr, mm⟩ := M
      unfold tv tb0 at *
      simp only [List.length_nil] at RP CA SA
      clear hi hlt HI XN XL SO HM xle HQ HC OX
      rcases hge with hge | ⟨hge1, hge2⟩ <;>
      · go_wp2_with fail
        (with_reducible refine RP.out.mono ?_)
        rintro e w3 ⟨v, rfl, ⟨a3, c3, rfl, s3⟩, b3⟩
        (try simp only at s3)
        have bz : Below w3.heap.size w3 (w3.alloc (.cells #[.slice a3 Mr.length c3, .int .i64 mm] 24)) := (Below.refl _ _).alloc (Nat.le_refl _) _
        have HB := Lib.hid ((HB.out.call b3).new #[.slice a3 Mr.length c3, .int .i64 mm] 24)
        have SX := Lib.hid ((SX.out.call b3).call bz)
        have S3 := Lib.hid (s3.call bz)
        clear b3 s3 bz RP RX
        unfold tv
        obtain ⟨y0, y1⟩ := cell2 (HB.out.cell 0 rfl)
        obtain ⟨t0, t1⟩ := cell2 (HB.out.cell 1 rfl)
        go_wp2_with fail
        (with_reducible refine (SA.out _ _ _ S3.out.seen SX.out.seen).mono ?_)
        rintro e w4 ⟨rfl, b4⟩
        have HB := Lib.hid (HB.out.call b4)
        have SX := Lib.hid (SX.out.call b4)
        clear b4 SA S3 y0 y1 t0 t1
        obtain ⟨t0, t1⟩ := cell2 (HB.out.cell 1 rfl)
        go_wp2_with fail
        (with_reducible refine (CA.out _ SX.out.seen).mono ?_)
        rintro e w5 ⟨rfl, b5⟩
        have Z := Lib.hid (HB.out.call b5).bl
        clear b5 CA SX HB t0 t1
        go_wp2
        go_ret
        exact ⟨rfl, Z.out⟩

set_option maxRecDepth 100000 in
set_option maxHeartbeats 1600000 in
theorem lifted (os : Os) (started : os.Started) (H : Type) (enc : TypeId × Value → H) :
    ReturnsInHanded {} Try.checked os 9 .any (Rows.tableReplaySpec.pre6 enc Try.prog Try.f9 Rows.tableReplayRow.domain false) (Rows.tableReplaySpec.post enc Try.prog Try.f9 false true false false) := by
  refine returnsInHanded_of_change (C := Try.checked) own started (by kernel_rfl) Try.func9
    (ChangeSpec.witness6 (enc := enc) (C := Try.checked) false ⟨#[], #[.slice none 0 0], []⟩ 8 (by kernel_rfl) (by kernel_rfl) (by kernel_rfl) (by kernel_rfl)) ?_
  intro W base args ds gs before hval0 hW hcnd _
  have hval : ∀ (j : Nat) t v, Try.f9.params[j]? = some t → args[j]? = some v → Value.okWide Try.prog W .any base t v := hval0
  have hW' := hW
  obtain ⟨p, q, hA0, hV, rfl, hfz, hnd⟩ := hW
  have hA : DataW.TrodAll enc Try.prog W 0 (fun _ => true) true Try.f9.params.toList args.toList ds p := hA0
  rw [Try.params9] at hA hval
  obtain ⟨v0, vs0, d0, ds0, p0, q0, hargs, rfl, rfl, h0, r0⟩ := trodAll_cons hA
  obtain ⟨rfl, rfl, rfl⟩ := trodAll_nil r0
  obtain rfl : args = #[v0] := by cases args; simp_all
  obtain ⟨rfl, rfl⟩ := trodVars_none hV
  have lt0 : ∀ x ∈ p0, x.block < W.heap.size := by obtain ⟨m, hm⟩ := h0; exact DataW.trod_lt m _ _ _ hm
  obtain ⟨lo, l, lc, rfl, ll, lm, ls⟩ := open_ops (hval 0 25 v0 rfl rfl) h0
  clear hA0 hval0
  refine (walk l lo lc W ll ls).mono fun e W' ⟨he, bel⟩ => ?_
  subst he
  exact ⟨_, rfl, _, _, _, [], _, [], hW', trodAll_mk1 (shut_bool Try.underlying4 _), (trodAll_cons_mk (Below.trod laidOut (by kernel_rfl) (of_decide_eq_true (by kernel_rfl)) h0 bel lt0) trodAll_mk0), rfl, bel.frame _, fun h => by cases h⟩

theorem proved : Rows.TableReplaySaid :=
  OpenClaim.holds_of_wide 9 Try.f9 rfl rfl rfl rfl rfl rfl rfl ⟨rfl, rfl, rfl, rfl, rfl⟩ rfl rfl rfl rfl rfl (by kernel_rfl) Try.func9 (by kernel_rfl)
    (of_decide_eq_true (by kernel_rfl)) (by unfold Func.isWrapper; first | (rw [if_pos (by decide +kernel)]; kernel_rfl) | (rw [if_neg (by decide +kernel)]; exact ⟨rfl, rfl⟩))
    (fun os started H enc _ => lifted os started H enc)
#print axioms proved
end Go.Proofs.Ytnaanahgflbihaa.tableReplay
