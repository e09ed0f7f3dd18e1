/- horariumlaw14.TableReplays answers true at every two rows of ops and every two numbers: texts are replayed as the document replays them. No condition. -/
import Derived.Test.YtnaanahgflbihaaTbQ
import Derived.Test.YtnaanahgflbihaaTbS
import Derived.Test.YtnaanahgflbihaaOcG
import Derived.Test.YtnaanahgflbihaaTbY
import Derived.Test.YtnaanahgflbihaaTbZ
import Derived.Test.YtnaanahgflbihaaOpY
import Derived.Deep.DeepCutAuto
import Derived.BigQuiet
namespace Go.Proofs.Ytnaanahgflbihaa.tableReplays
open Go.ChangeShapes Go.WideShapes Go.ChangeAt Go.RowKit Go.Joins
open Oc
set_option maxRecDepth 100000
set_option linter.unusedVariables false
set_option linter.unusedSimpArgs false
open Tb
open Ox (Od)
open Ge (Seen)
open Ge (Row)
open Pm (I64)
open Ox (Byt bytes_of byt_new bytesR bytesR_yes encO encO_len chkR)
theorem row_seen {B : Nat} {w : World} {ao : Option Addr} {k cap : Nat} {xs : List (List UInt8)} (h : Row xcs 1 9 B w (.slice ao k cap) xs) : Seen xcs 1 ao xs w ∧ k = xs.length := by
  obtain ⟨a, c, e, -, hs, -⟩ := Ge.Row.form xcs_len h
  cases e
  exact ⟨hs, rfl⟩
theorem replay_chk : ∀ {xs : List (List UInt8)} {t : Tb}, chkT t = true → chkT (replayR t xs).1 = true := by
  intro xs
  induction xs with
  | nil => intro t h; exact h
  | cons x xs ih =>
    intro t h
    cases hr : Ox.readR x with
    | none => rw [replay_no hr]; exact h
    | some o =>
      by_cases ha : (applyR t o).2 = 0
      · rw [replay_yes hr ha]; exact ih (apply_chk ha).1
      · rw [replay_not hr ha]; exact h
def RpRel (m : List Od) (a b : Int) (w : World) (g : Nat) (s t : Value) (wx : World) : Prop :=
  ∃ (i : Nat) (v : Value) (xs : List (List UInt8)), i + g = min m.length 10 ∧ v = s ∧ t = .int .i64 (i : Int) ∧ Row xcs 1 9 w.heap.size wx v xs ∧ xs.length = i ∧ (∀ x ∈ xs, x.length ≤ 1000) ∧ Bos [(w.heap.size, #[.int .i64 a, .int .i64 b], 36)] w wx

set_option maxRecDepth 100000 in
set_option maxHeartbeats 16000000 in
theorem walk (l m : List Od) (lo mo : Option Addr) (lc mc : Nat) (a b : Int) (w : World) (hl2 : l.length ≤ 9223372036854775807) (hO : Seen ocs 10 lo l w) (hm2 : m.length ≤ 9223372036854775807) (hM : Seen ocs 10 mo m w) (hb : I64 b) :
    Calls Try.prog 6 #[.slice lo l.length lc, .slice mo m.length mc, .agg #[.int .i64 a, .int .i64 b]] w fun e w' => e = .returned (.bool true) ∧ Below w.heap.size w w' := by
  have AW := Lib.hid awake_any
  have MA : Hid (∀ W, Below w.heap.size w W → Calls Try.prog 14 #[.slice lo l.length lc] W fun e w' => ∃ v, e = .returned v ∧ Tb.Told v (madeT l) w' ∧ Below W.heap.size W w') := Lib.hid (fun W hb => made_any l lo lc W (hO.below hb (Nat.le_refl _)) hl2)
  have HC : Hid (chkT (madeT l) = true) := Lib.hid (made_chk l)
  have SO := Lib.hid hM
  have NB : Hid (∀ y ∈ ([(w.heap.size, #[.int .i64 a, .int .i64 b], 36)] : List (Nat × Array Value × Nat)), y.2.2 ≠ 9) := Lib.hid (by
    intro y hy
    rw [List.mem_singleton.1 hy]
    exact (by decide : (36 : Nat) ≠ 9))
  have H0 := Lib.hid ((bos_nil w).new #[.int .i64 a, .int .i64 b] 36)
  have HM := Lib.hid hm2
  obtain ⟨z, hz⟩ : ∃ z : Int, bits .and .i64 a 15 = z := ⟨_, rfl⟩
  generalize madeT l = M at *
  generalize l.length = n at *
  clear hl2 hO hM hm2
  go_enter Try.func6, Try.ntmps6
  go_wp2_with fail
  (with_reducible refine (AW.out _).mono ?_)
  rintro e w1 ⟨rfl, b1⟩
  have HX := Lib.hid (H0.out.call b1)
  clear b1 AW H0
  go_wp2_with fail
  go_loopg [8, 9] (min m.length 10) (RpRel m a b w)
  case atStart => exact ⟨0, _, [], by omega, rfl, rfl, Ge.row_nil _ _, rfl, by simp, HX.out⟩
  case round =>
    obtain ⟨i, v, xs, hi, rfl, rfl, hr, hn, hx, hB⟩ := hrel
    obtain ⟨xo, xcap, rfl, -, -, -⟩ := Ge.Row.form xcs_len hr
    have HB := Lib.hid hB
    have RX := Lib.hid hr
    have HI := Lib.hid hi
    have XN := Lib.hid hn
    have XL := Lib.hid hx
    have xle : xs.length ≤ 10 := by omega
    clear HX hB hr hn hx
    by_cases hlt : i < m.length ∧ i < 10
    · obtain ⟨h1, h2⟩ := hlt
      have hg0 : 0 < gk := by omega
      have i1 : (i : Int) < (m.length : Int) := by omega
      have i2 : (i : Int) < 10 := by omega
      have hx := List.getElem?_eq_getElem h1
      obtain ⟨bb, off, rfl, hop⟩ := seen_op SO.out hx
      have NE := Lib.hid (near_any m[i])
      have RB := Lib.hid (Ox.rbytes_any (nearR m[i]))
      have BZ : ∃ E : List UInt8, (bytesR (nearR m[i])).1 = mkB E ∧ E.length ≤ 43 := by
        cases hc : chkR (nearR m[i]) with
        | false => exact ⟨[], by unfold bytesR; rw [hc]; rfl, by simp⟩
        | true => exact ⟨encO (nearR m[i]), by rw [bytesR_yes hc], encO_len hc⟩
      obtain ⟨c0, c1, c2, c3, c4, c5, c6, c7, c8, c9⟩ := hop _ HB.out.bl
      generalize bytesR (nearR m[i]) = BB at *
      generalize nearR m[i] = y at *
      generalize m[i] = x at *
      obtain ⟨E, hE, hE43⟩ := BZ
      obtain ⟨B1, B2⟩ := BB
      simp only at hE
      subst hE
      obtain ⟨xk, ⟨xi, xc, xd, xt, xm⟩, xsv, xid, xcc, xmo⟩ := x
      obtain ⟨yk, ⟨yi, yc, yd, yt, ym⟩, ys, yid, ycc, ymo⟩ := y
      unfold Od.v Od.cs at *
      (try simp only at *)
      clear hop hx hi h1 h2
      go_wp2_with fail
      (with_reducible refine (NE.out _).mono ?_)
      rintro e w2 ⟨rfl, b2⟩
      have HB := Lib.hid (HB.out.call b2)
      have RX := Lib.hid (RX.out.call b2)
      clear b2 NE c0 c1 c2 c3 c4 c5 c6 c7 c8 c9
      go_wp2_with fail
      (with_reducible refine (RB.out _).mono ?_)
      rintro e W ⟨rfl, b3⟩
      have HB := Lib.hid (HB.out.call b3)
      have RX := Lib.hid (RX.out.call b3)
      clear b3 RB
      obtain ⟨q0, q1⟩ := cell2 (HB.out.cell 0 rfl)
      have mE := mkB_size E
      by_cases hc : (i : Int) = z ∧ 0 < E.length
      · obtain ⟨hiz, he0⟩ := hc
        have t1 : ((i : Int) == z) = true := by simp [hiz]
        obtain ⟨k, hk⟩ : ∃ k, E.length = k + 1 := ⟨E.length - 1, by omega⟩
        have zX : (mkB E).size = k + 1 := by rw [mE, hk]
        have DX : Hid ((mkB E).data.toList = E) := Lib.hid (mkB_data _)
        clear mE hiz he0
        generalize mkB E = X at *
        have cv := bytes_of X
        simp only [zX] at cv
        obtain ⟨y, hy⟩ : ∃ y : Nat, b % 256 = (y : Int) := ⟨(b % 256).toNat, by omega⟩
        have hyw : IntKind.u8.wrap b = (y : Int) := by rw [IntKind.wrap_u8]; exact hy
        have wy : y < 256 := by omega
        have lk : k < E.length := by omega
        obtain ⟨d, hd⟩ : ∃ d, E[k] = d := ⟨_, rfl⟩
        have hx : bits .xor .u8 (d.toNat : Int) (y : Int) = ((d.toNat ^^^ y : Nat) : Int) := u8_xor_nat _ _ d.toNat_lt wy
        have hxl : d.toNat ^^^ y < 256 := Nat.xor_lt_two_pow (n := 8) d.toNat_lt wy
        have g1 : IntKind.i64.wrap (k : Int) = (k : Int) := IntWalk.i64_in _ (by omega)
        have g2 : (k : Int) ≤ 42 := by omega
        have Y0 : Hid (Byt (W.alloc (Obj.cells (bytesRow X (grownCap W (k + 1) 0 5)) 5 ((bytesRow X (grownCap W (k + 1) 0 5)).size, (bytesRow X (grownCap W (k + 1) 0 5)).size + 1))).drew W.heap.size E) := Lib.hid (by rw [← DX.out]; exact byt_new W X _ _ _ rfl)
        have D5 : Hid (Below W.heap.size W (W.alloc (Obj.cells (bytesRow X (grownCap W (k + 1) 0 5)) 5 ((bytesRow X (grownCap W (k + 1) 0 5)).size, (bytesRow X (grownCap W (k + 1) 0 5)).size + 1))).drew) := Lib.hid ((Below.refl _ _).drew.alloc (Nat.le_refl _) _)
        have LK := Lib.hid hk
        clear hk
        go_upto_region 9 with (fail)
        generalize (W.alloc (Obj.cells (bytesRow X (grownCap W (k + 1) 0 5)) 5 ((bytesRow X (grownCap W (k + 1) 0 5)).size, (bytesRow X (grownCap W (k + 1) 0 5)).size + 1))).drew = wm at *
        generalize grownCap W (k + 1) 0 5 = cap at *
        have GG : Hid (Below W.heap.size W (wm.setCell ⟨W.heap.size, k, none⟩ (.int .u8 ((d.toNat ^^^ y : Nat) : Int))).drew) := Lib.hid (D5.out.setCell (Nat.le_refl _) _).drew
        have HN := Lib.hid (HB.out.call D5.out)
        have HB := Lib.hid (HB.out.call GG.out)
        have RX := Lib.hid (RX.out.call GG.out)
        generalize W.heap.size = g at *
        clear cv q0 q1 D5 GG
        have cl := (Y0.out k lk).1
        have cf := (Y0.out k lk).2
        rw [hd] at cl
        obtain ⟨q0, q1⟩ := cell2 (HN.out.cell 0 rfl)
        have Y1 : Hid (Byt (wm.setCell ⟨g, k, none⟩ (.int .u8 ((d.toNat ^^^ y : Nat) : Int))).drew g (E.set k (UInt8.ofNat (d.toNat ^^^ y)))) := Lib.hid ((Y0.out.set lk (by rw [UInt8.toNat_ofNat', Nat.mod_eq_of_lt hxl])).of_block rfl)
        have tx := Y1.out.text cap (k + 1) (by rw [List.length_set]; exact LK.out.symm)
        generalize d.toNat ^^^ y = cy at *
        generalize (d.toNat : Int) = cn at *
        generalize hES : E.set k (UInt8.ofNat cy) = ES at *
        have eL : ES.length ≤ 43 := by rw [← hES, List.length_set]; exact hE43
        clear Y0 Y1 DX hxl hd HN hES lk
        go_wp2_with fail
        go_region
        generalize (wm.setCell ⟨g, k, none⟩ (.int .u8 (cy : Int))).drew = wk at *
        clear cl cf q0 q1 hx
        obtain ⟨v5, w5, ap5, r5, h5⟩ := app_el elX ES #[.string (mkB ES)] rfl HB.out NB.out RX.out (by omega)
        have R5 := Lib.hid r5
        have H5 := Lib.hid h5
        have L5 : Hid (∀ z ∈ xs ++ [ES], z.length ≤ 1000) := Lib.hid (fun z hz => by
          rcases List.mem_append.1 hz with hz | hz
          · exact XL.out z hz
          · rw [List.mem_singleton.1 hz]; (try rw [List.length_set]); omega)
        clear r5 h5 HB RX
        generalize mkB ES = Z at *
        go_wp2_with (at_builtin; refine Lib.wpList_append_run _ rfl _ _ _ _ rfl _ _ rfl rfl _ _ ap5 ?_)
        go_roundg (gk - 1)
        case measure => omega
        case rel => exact ⟨i + 1, _, _, by have := HI.out; omega, rfl, by go_num, R5.out, by rw [List.length_append, XN.out]; rfl, L5.out, H5.out⟩
      · have two : (((i : Int) == z) = false) ∨ (((i : Int) == z) = true ∧ (mkB E).size = 0) := by
          by_cases he : (i : Int) = z
          · exact .inr ⟨by simp [he], by rw [mE]; omega⟩
          · exact .inl (by simp [he])
        clear hc mE
        rcases two with h0 | ⟨h0, h1⟩
        · obtain ⟨v5, w5, ap5, r5, h5⟩ := app_el elX E #[.string (mkB E)] rfl HB.out NB.out RX.out (by omega)
          have R5 := Lib.hid r5
          have H5 := Lib.hid h5
          have L5 : Hid (∀ z ∈ xs ++ [E], z.length ≤ 1000) := Lib.hid (fun z hz => by
            rcases List.mem_append.1 hz with hz | hz
            · exact XL.out z hz
            · rw [List.mem_singleton.1 hz]; (try rw [List.length_set]); omega)
          clear r5 h5 HB RX
          generalize mkB E = Z at *
          go_wp2_with (at_builtin; refine Lib.wpList_append_run _ rfl _ _ _ _ rfl _ _ rfl rfl _ _ ap5 ?_)
          go_roundg (gk - 1)
          case measure => omega
          case rel => exact ⟨i + 1, _, _, by have := HI.out; omega, rfl, by go_num, R5.out, by rw [List.length_append, XN.out]; rfl, L5.out, H5.out⟩
        · obtain ⟨v5, w5, ap5, r5, h5⟩ := app_el elX E #[.string (mkB E)] rfl HB.out NB.out RX.out (by omega)
          have R5 := Lib.hid r5
          have H5 := Lib.hid h5
          have L5 : Hid (∀ z ∈ xs ++ [E], z.length ≤ 1000) := Lib.hid (fun z hz => by
            rcases List.mem_append.1 hz with hz | hz
            · exact XL.out z hz
            · rw [List.mem_singleton.1 hz]; (try rw [List.length_set]); omega)
          clear r5 h5 HB RX
          generalize mkB E = Z at *
          go_wp2_with (at_builtin; refine Lib.wpList_append_run _ rfl _ _ _ _ rfl _ _ rfl rfl _ _ ap5 ?_)
          go_roundg (gk - 1)
          case measure => omega
          case rel => exact ⟨i + 1, _, _, by have := HI.out; omega, rfl, by go_num, R5.out, by rw [List.length_append, XN.out]; rfl, L5.out, H5.out⟩
    · have hge : (m.length : Int) ≤ (i : Int) ∨ ((i : Int) < (m.length : Int) ∧ (10 : Int) ≤ (i : Int)) := by omega
      have ST := Lib.hid (fun W (h : Row xcs 1 9 w.heap.size W (.slice xo xs.length xcap) xs) => (row_seen h).1)
      have LM : Hid (M.rows.length ≤ 1000) := Lib.hid (by have := (chkT_iff.1 HC.out).2.2.1; omega)
      have RP := Lib.hid (fun W ao cap (h : Sl (.slice ao M.rows.length cap) M.rows W ao cap) (h2 : Seen xcs 1 xo xs W) => replay_any M xs ao xo cap xcap W h LM.out h2 (by omega) (fun x hx => Nat.le_trans (XL.out x hx) (by decide)))
      have RQ := Lib.hid (fun W ao cap (h : Sl (.slice ao M.rows.length cap) M.rows W ao cap) (h2 : Seen xcs 1 xo xs W) => rreplay_any M xs ao xo cap xcap W h HC.out h2 (by omega) (fun x hx => Nat.le_trans (XL.out x hx) (by decide)))
      have RL : Hid ((replayR M xs).1.rows.length ≤ 1000) := Lib.hid (by have := (chkT_iff.1 (replay_chk (xs := xs) HC.out)).2.2.1; omega)
      generalize replayR M xs = R at *
      obtain ⟨R1, R2⟩ := R
      generalize xs.length = xn at *
      obtain ⟨R, rm⟩ := R1
      obtain ⟨Mr, mm⟩ := M
      (try simp only at RP RQ RL LM)
      clear hi hlt HI XN XL NB SO HM xle
      unfold tv at *
      (try simp only at *)
      rcases hge with hge | ⟨hge1, hge2⟩ <;>
      · go_wp2_with fail
        (with_reducible refine (MA.out _ HB.out.bl).mono ?_)
        rintro e w2 ⟨v, rfl, ⟨ao, cap, rfl, sl⟩, b2⟩
        (try simp only at sl)
        have HB := Lib.hid (HB.out.call b2)
        have RX := Lib.hid (RX.out.call b2)
        have SL := Lib.hid sl
        clear b2 sl
        unfold tv
        go_wp2_with fail
        (with_reducible refine (RP.out _ _ _ SL.out (ST.out _ RX.out)).mono ?_)
        rintro e w3 ⟨v, rfl, ⟨a3, c3, rfl, s3⟩, b3⟩
        (try simp only at s3)
        have bz : Below w3.heap.size w3 (w3.alloc (.cells #[.slice a3 R.length c3, .int .i64 rm] 24)) := (Below.refl _ _).alloc (Nat.le_refl _) _
        have HB := Lib.hid ((HB.out.call b3).new #[.slice a3 R.length c3, .int .i64 rm] 24)
        have RX := Lib.hid ((RX.out.call b3).call bz)
        have S3 := Lib.hid (s3.call bz)
        clear b3 s3 bz SL RP
        unfold tv
        go_wp2_with fail
        (with_reducible refine (MA.out _ HB.out.bl).mono ?_)
        rintro e w4 ⟨v, rfl, ⟨ao, cap, rfl, sl⟩, b4⟩
        (try simp only at sl)
        have HB := Lib.hid (HB.out.call b4)
        have RX := Lib.hid (RX.out.call b4)
        have S3 := Lib.hid (S3.out.call b4)
        have SL := Lib.hid sl
        clear b4 sl MA
        unfold tv
        go_wp2_with fail
        (with_reducible refine (RQ.out _ _ _ SL.out (ST.out _ RX.out)).mono ?_)
        rintro e w5 ⟨v, rfl, ⟨a5, c5, rfl, s5⟩, b5⟩
        (try simp only at s5)
        have bz : Below w5.heap.size w5 (w5.alloc (.cells #[.slice a5 R.length c5, .int .i64 rm] 24)) := (Below.refl _ _).alloc (Nat.le_refl _) _
        have HB := Lib.hid ((HB.out.call b5).new #[.slice a5 R.length c5, .int .i64 rm] 24)
        have SA := Lib.hid (rsame_any ⟨R, rm⟩ ⟨R, rm⟩ a3 a5 c3 c5 _ ((S3.out.call b5).call bz).seen (s5.call bz).seen RL.out RL.out)
        rw [same_self] at SA
        clear b5 s5 bz SL RQ S3 RX ST
        unfold tv at *
        simp only at SA
        obtain ⟨y0, y1⟩ := cell2 (HB.out.cell 0 rfl)
        obtain ⟨x0, x1⟩ := cell2 (HB.out.cell 1 rfl)
        go_wp2_with fail
        (with_reducible refine SA.out.mono ?_)
        rintro e w6 ⟨rfl, b6⟩
        have Z := Lib.hid (HB.out.call b6).bl
        clear b6 SA HB x0 x1 y0 y1
        go_wp2
        go_ret
        exact ⟨rfl, Z.out⟩

set_option maxRecDepth 100000 in
set_option maxHeartbeats 1600000 in
theorem lifted (os : Os) (started : os.Started) (H : Type) (enc : TypeId × Value → H) :
    ReturnsInHanded {} Try.checked os 6 .any (Rows.tableReplaysSpec.pre6 enc Try.prog Try.f6 Rows.tableReplaysRow.domain false) (Rows.tableReplaysSpec.post enc Try.prog Try.f6 false true false false) := by
  refine returnsInHanded_of_change (C := Try.checked) own started (by kernel_rfl) Try.func6
    (ChangeSpec.witness6 (enc := enc) (C := Try.checked) false ⟨#[], #[.slice none 0 0, .slice none 0 0, .agg #[.int .i64 0, .int .i64 0]], []⟩ 8 (by kernel_rfl) (by kernel_rfl) (by kernel_rfl) (by kernel_rfl)) ?_
  intro W base args ds gs before hval0 hW hcnd _
  have hval : ∀ (j : Nat) t v, Try.f6.params[j]? = some t → args[j]? = some v → Value.okWide Try.prog W .any base t v := hval0
  have hW' := hW
  obtain ⟨p, q, hA0, hV, rfl, hfz, hnd⟩ := hW
  have hA : DataW.TrodAll enc Try.prog W 0 (fun _ => true) true Try.f6.params.toList args.toList ds p := hA0
  rw [Try.params6] at hA hval
  obtain ⟨v0, vs0, d0, ds0, p0, q0, hargs, rfl, rfl, h0, r0⟩ := trodAll_cons hA
  obtain ⟨v1, vs1, d1, ds1, p1, q1, rfl, rfl, rfl, h1, r1⟩ := trodAll_cons r0
  obtain ⟨v2, vs2, d2, ds2, p2, q2, rfl, rfl, rfl, h2, r2⟩ := trodAll_cons r1
  obtain ⟨rfl, rfl, rfl⟩ := trodAll_nil r2
  obtain rfl : args = #[v0, v1, v2] := by cases args; simp_all
  obtain ⟨rfl, rfl⟩ := trodVars_none hV
  have lt0 : ∀ x ∈ p0, x.block < W.heap.size := by obtain ⟨m, hm⟩ := h0; exact DataW.trod_lt m _ _ _ hm
  obtain ⟨lo, l, lc, rfl, ll, lm, ls⟩ := open_ops (hval 0 25 v0 rfl rfl) h0
  have lt1 : ∀ x ∈ p1, x.block < W.heap.size := by obtain ⟨m, hm⟩ := h1; exact DataW.trod_lt m _ _ _ hm
  obtain ⟨mo, m, mc, rfl, ml, mm, ms⟩ := open_ops (hval 1 25 v1 rfl rfl) h1
  have lt2 : ∀ x ∈ p2, x.block < W.heap.size := by obtain ⟨m, hm⟩ := h2; exact DataW.trod_lt m _ _ _ hm
  obtain ⟨qa, qb, rfl, okqa, okqb⟩ := open_two (hval 2 36 v2 rfl rfl) h2
  clear hA0 hval0
  refine (walk l m lo mo lc mc qa qb W ll ls ml ms okqb).mono fun e W' ⟨he, bel⟩ => ?_
  subst he
  exact ⟨_, rfl, _, _, _, [], _, [], hW', trodAll_mk1 (shut_bool Try.underlying4 _), (trodAll_cons_mk (Below.trod laidOut (by kernel_rfl) (of_decide_eq_true (by kernel_rfl)) h0 bel lt0) (trodAll_cons_mk (Below.trod laidOut (by kernel_rfl) (of_decide_eq_true (by kernel_rfl)) h1 bel lt1) (trodAll_cons_mk (Below.trod laidOut (by kernel_rfl) (of_decide_eq_true (by kernel_rfl)) h2 bel lt2) trodAll_mk0))), rfl, bel.frame _, fun h => by cases h⟩

theorem proved : Rows.TableReplaysSaid :=
  OpenClaim.holds_of_wide 6 Try.f6 rfl rfl rfl rfl rfl rfl rfl ⟨rfl, rfl, rfl, rfl, rfl⟩ rfl rfl rfl rfl rfl (by kernel_rfl) Try.func6 (by kernel_rfl)
    (of_decide_eq_true (by kernel_rfl)) (by unfold Func.isWrapper; first | (rw [if_pos (by decide +kernel)]; kernel_rfl) | (rw [if_neg (by decide +kernel)]; exact ⟨rfl, rfl⟩))
    (fun os started H enc _ => lifted os started H enc)
#print axioms proved
end Go.Proofs.Ytnaanahgflbihaa.tableReplays
