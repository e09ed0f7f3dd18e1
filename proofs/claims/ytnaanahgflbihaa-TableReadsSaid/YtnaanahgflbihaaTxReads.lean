/- horariumlaw14.TableReads answers true at every row of ops, every text and every three numbers: any bytes are read as a table, or not, as the document reads them. No condition. -/
import Derived.Test.YtnaanahgflbihaaTbQ
import Derived.Test.YtnaanahgflbihaaTbS
import Derived.Test.YtnaanahgflbihaaOcG
import Derived.Test.YtnaanahgflbihaaTbDr
import Derived.Test.YtnaanahgflbihaaOpY
import Derived.Test.YtnaanahgflbihaaOpW
import Derived.Deep.DeepCutAuto
import Derived.BigQuiet
namespace Go.Proofs.Ytnaanahgflbihaa.tableReads
open Go.ChangeShapes Go.WideShapes Go.ChangeAt Go.RowKit Go.Joins
open Oc
set_option maxRecDepth 100000
set_option linter.unusedVariables false
set_option linter.unusedSimpArgs false
open Tb
open Ox (Od)
open Ge (Seen)
open Pm (I64)
open Ox (Byt bytes_of byt_new rem_pos)
theorem short_any (s : ByteArray) (n : Nat) (w : World) (hn : n < 1000) :
    Calls Try.prog 19 #[.string s, .int .i64 (n : Int)] w fun e w' => e = .returned (.string (cut s n)) ∧ w' = w := by
  by_cases h : n < s.size
  · have e : cut s n = s.extract 0 n := if_pos h
    rw [e]; clear e
    go_enter Try.func19, Try.ntmps19
    go_wp2
    go_ret
    exact ⟨rfl, rfl⟩
  · have e : cut s n = s := if_neg h
    rw [e]; clear e
    have h' : s.size ≤ n := by omega
    clear h
    go_enter Try.func19, Try.ntmps19
    go_wp2
    go_ret
    exact ⟨rfl, rfl⟩
theorem readT_len (l : List UInt8) : (readT l).1.rows.length ≤ 16 := by
  unfold readT
  cases h : readR l with
  | none => simp [tb0]
  | some t => exact (chkT_iff.1 (readR_some h).1).2.2.1
theorem encT_pos (t : Tb.Tb) : 0 < (encT t).length := by
  unfold encT
  have : 0 < (encInt t.mode).length := by unfold encInt enc; simp
  simp only [List.length_append]
  omega
def CutRel (w : World) (s1 : Value) (wx : World) : Prop := ∃ T : ByteArray, s1 = .string T ∧ T.size ≤ 1000000 ∧ Below w.heap.size w wx

set_option maxRecDepth 100000 in
set_option maxHeartbeats 16000000 in
theorem walk (l : List Od) (lo : Option Addr) (lc : Nat) (s : ByteArray) (a b c : Int) (w : World) (hl2 : l.length ≤ 9223372036854775807) (hO : Seen ocs 10 lo l w) (ha : I64 a) (hb : I64 b) :
    Calls Try.prog 5 #[.slice lo l.length lc, .string s, .agg #[.int .i64 a, .int .i64 b, .int .i64 c]] w fun e w' => e = .returned (.bool true) ∧ Below w.heap.size w w' := by
  have S2 : Hid (∀ w : World, Calls Try.prog 19 #[.string s, .int .i64 60] w fun e w' => e = .returned (.string (cut s 60)) ∧ w' = w) := Lib.hid (fun w => short_any s 60 w (by omega))
  have z0 := cut_size s 60
  generalize cut s 60 = s0 at *
  have AW := Lib.hid awake_any
  have MA : Hid (∀ W, Below w.heap.size w W → Calls Try.prog 14 #[.slice lo l.length lc] W fun e w' => ∃ v, e = .returned v ∧ Tb.Told v (madeT l) w' ∧ Below W.heap.size W w') := Lib.hid (fun W hb => made_any l lo lc W (hO.below hb (Nat.le_refl _)) hl2)
  have ML : (madeT l).rows.length ≤ 1000 := by have := (chkT_iff.1 (made_chk l)).2.2.1; omega
  have BT : bytesT (madeT l) = (mkB (encT (madeT l)), 0) := if_pos (made_chk l)
  have RB := Lib.hid (fun W ao cap (h : Seen Rw.cs 6 ao (madeT l).rows W) => rbytest_any (madeT l) ao cap W h ML)
  rw [BT] at RB
  have e0 := encT_pos (madeT l)
  have e1 := encT_len (made_chk l)
  have H0 := Lib.hid ((bos_nil w).new #[.int .i64 a, .int .i64 b, .int .i64 c] 41)
  clear BT ML
  generalize encT (madeT l) = E at *
  generalize madeT l = M at *
  generalize l.length = n at *
  obtain ⟨Mr, mm⟩ := M
  unfold tv at *
  (try simp only at *)
  clear hl2 hO
  obtain ⟨z, hz⟩ : ∃ z : Int, bits .and .i64 a 3 = z := ⟨_, rfl⟩
  go_enter Try.func5, Try.ntmps5
  go_wp2_with fail
  (with_reducible refine (AW.out _).mono ?_)
  rintro r w1 ⟨rfl, b1⟩
  have HA := Lib.hid (H0.out.call b1)
  clear b1 H0 AW
  go_wp2_with fail
  (with_reducible refine (S2.out _).mono ?_)
  rintro r w2 ⟨rfl, rfl⟩
  have q0 : w2.cell? ⟨w.heap.size, 0, none⟩ = some (.int .i64 a) := (HA.out.cell 0 rfl 0).trans rfl
  clear S2
  go_upto_if 23 with (fail)
  go_cut [1] (CutRel w)
  case first =>
    by_cases hz0 : z = 0
    · have t1 : (z != 0) = false := by simp [hz0]
      clear hz0
      go_wp2_with fail
      go_meet
      exact ⟨_, rfl, by omega, HA.out.bl⟩
    · have t1 : (z != 0) = true := by simp [hz0]
      clear hz0
      go_wp2_with fail
      (with_reducible refine (MA.out _ HA.out.bl).mono ?_)
      rintro r w3 ⟨v, rfl, ⟨ao, cap, rfl, sl⟩, b3⟩
      (try simp only at sl)
      have H3 := Lib.hid (HA.out.call b3)
      have SL := Lib.hid sl
      clear b3 MA HA q0 sl
      unfold tv
      obtain ⟨Ln, hLn⟩ : ∃ Ln, Ln = E.length := ⟨_, rfl⟩
      rw [← hLn] at e0 e1
      obtain ⟨k, hk, hk', hk3, hq1, hq2⟩ := rem_pos b Ln (by omega)
      obtain ⟨q, hq⟩ : ∃ q : Int, b.tmod Ln = q := ⟨_, rfl⟩
      rw [hq] at hk hk' hq1 hq2
      have zX : (mkB E).size = Ln := by rw [mkB_size, hLn]
      have dX : (mkB E).data.toList = E := mkB_data _
      generalize mkB E = X at *
      have cv := bytes_of X
      simp only [zX] at cv
      have DX := Lib.hid dX
      obtain ⟨y, hy⟩ : ∃ y : Nat, c % 256 = (y : Int) := ⟨(c % 256).toNat, by omega⟩
      have hyw : IntKind.u8.wrap c = (y : Int) := by rw [IntKind.wrap_u8]; exact hy
      have wy : y < 256 := by omega
      have lk : k < E.length := by omega
      obtain ⟨d, hd⟩ : ∃ d, E[k] = d := ⟨_, rfl⟩
      have hx : bits .xor .u8 (d.toNat : Int) (y : Int) = ((d.toNat ^^^ y : Nat) : Int) := u8_xor_nat _ _ d.toNat_lt wy
      have hxl : d.toNat ^^^ y < 256 := Nat.xor_lt_two_pow (n := 8) d.toNat_lt wy
      have g1 : 0 < (Ln : Int) := by omega
      have g2 : (Ln : Int) ≤ 356 := by omega
      have g3 : ((Ln : Int) == 0) = false := by simp; omega
      have g4 : ¬ (Ln : Int) = 0 := by omega
      have g5 : IntKind.i64.wrap (q + (Ln : Int)) = q + (Ln : Int) := IntWalk.i64_in _ (by omega)
      have g6 : IntKind.i64.wrap q = q := IntWalk.i64_in _ (by omega)
      have g7 : IntKind.i64.wrap (k : Int) = (k : Int) := IntWalk.i64_in _ (by omega)
      have HLN := Lib.hid hLn
      clear dX hLn e0 e1
      go_wp2_with fail
      (with_reducible refine (RB.out _ _ _ SL.out.seen).mono ?_)
      rintro r W ⟨rfl, b4⟩
      have H4 := Lib.hid (H3.out.call b4)
      have q0 : W.cell? ⟨w.heap.size, 0, none⟩ = some (.int .i64 a) := (H4.out.cell 0 rfl 0).trans rfl
      have q1 : W.cell? ⟨w.heap.size, 1, none⟩ = some (.int .i64 b) := (H4.out.cell 0 rfl 1).trans rfl
      clear b4 RB H3 SL
      have ba : Below W.heap.size W (W.alloc (Obj.cells (bytesRow X (grownCap W Ln 0 5)) 5 ((bytesRow X (grownCap W Ln 0 5)).size, (bytesRow X (grownCap W Ln 0 5)).size + 1))).drew := (Below.refl _ _).drew.alloc (Nat.le_refl _) _
      have Y0 : Hid (Byt (W.alloc (Obj.cells (bytesRow X (grownCap W Ln 0 5)) 5 ((bytesRow X (grownCap W Ln 0 5)).size, (bytesRow X (grownCap W Ln 0 5)).size + 1))).drew W.heap.size E) := Lib.hid (by rw [← DX.out]; exact byt_new W X _ _ _ rfl)
      have D5 := Lib.hid (H4.out.call ba)
      have q1' : (W.alloc (Obj.cells (bytesRow X (grownCap W Ln 0 5)) 5 ((bytesRow X (grownCap W Ln 0 5)).size, (bytesRow X (grownCap W Ln 0 5)).size + 1))).drew.cell? ⟨w.heap.size, 1, none⟩ = some (.int .i64 b) := (D5.out.cell 0 rfl 1).trans rfl
      have BA := Lib.hid ba
      clear ba
      go_upto_region 8 with (fail)
      generalize (W.alloc (Obj.cells (bytesRow X (grownCap W Ln 0 5)) 5 ((bytesRow X (grownCap W Ln 0 5)).size, (bytesRow X (grownCap W Ln 0 5)).size + 1))).drew = wm at *
      generalize grownCap W Ln 0 5 = cap' at *
      have GG : Hid (Below W.heap.size W (wm.setCell ⟨W.heap.size, k, none⟩ (.int .u8 ((d.toNat ^^^ y : Nat) : Int))).drew) := Lib.hid (BA.out.setCell (Nat.le_refl _) _).drew
      have D6 := Lib.hid (H4.out.call GG.out)
      generalize W.heap.size = g at *
      clear cv H4 q1 q1' q0 BA GG
      have cl := (Y0.out k lk).1
      have cf := (Y0.out k lk).2
      rw [hd] at cl
      have q0 : wm.cell? ⟨w.heap.size, 0, none⟩ = some (.int .i64 a) := (D5.out.cell 0 rfl 0).trans rfl
      have q2 : wm.cell? ⟨w.heap.size, 2, none⟩ = some (.int .i64 c) := (D5.out.cell 0 rfl 2).trans rfl
      have ki : (k : Int) < (Ln : Int) := hk3
      have Y1 : Hid (Byt (wm.setCell ⟨g, k, none⟩ (.int .u8 ((d.toNat ^^^ y : Nat) : Int))).drew g (E.set k (UInt8.ofNat (d.toNat ^^^ y)))) := Lib.hid ((Y0.out.set lk (by rw [UInt8.toNat_ofNat', Nat.mod_eq_of_lt hxl])).of_block rfl)
      have tx := Y1.out.text cap' Ln (by rw [List.length_set]; exact HLN.out)
      have zN : (mkB (E.set k (UInt8.ofNat (d.toNat ^^^ y)))).size = Ln := by rw [mkB_size, List.length_set]; exact HLN.out.symm
      have zZ : ((mkB (E.set k (UInt8.ofNat (d.toNat ^^^ y)))).size : Int) = (Ln : Int) := by rw [zN]
      generalize d.toNat ^^^ y = cy at *
      generalize (d.toNat : Int) = cn at *
      generalize mkB (E.set k (UInt8.ofNat cy)) = Z at *
      clear Y0 D5 Y1 DX hxl hd
      go_wp2_with fail
      go_region
      have q0 : (wm.setCell ⟨g, k, none⟩ (.int .u8 (cy : Int))).drew.cell? ⟨w.heap.size, 0, none⟩ = some (.int .i64 a) := (D6.out.cell 0 rfl 0).trans rfl
      generalize (wm.setCell ⟨g, k, none⟩ (.int .u8 (cy : Int))).drew = wk at *
      by_cases h3 : z = 3
      · have t3 : (z == 3) = true := by simp [h3]
        clear h3 hx cl cf
        go_wp2_with fail
        go_meet
        refine ⟨_, rfl, ?_, D6.out.bl⟩
        have : (Z.extract 0 k).size ≤ k := by simp only [ByteArray.size_extract]; omega
        first | omega | (simp only [ByteArray.size_extract]; omega)
      · have t3 : (z == 3) = false := by simp [h3]
        clear h3 hx cl cf
        go_wp2_with fail
        go_meet
        exact ⟨_, rfl, by omega, D6.out.bl⟩
  case rest =>
    obtain ⟨X, rfl, hT, bl⟩ := hcut
    have HB := Lib.hid (Bos.mk (l := []) (by simp) (by simp) bl)
    clear HA q0 bl z0 hz RB e0 e1 MA
    obtain ⟨x, rfl⟩ : ∃ x, X = mkB x := ⟨X.data.toList, (mkB_of X).symm⟩
    rw [mkB_size] at hT
    have R1 := Lib.hid (fun w => readt_any x w hT)
    have R2 := Lib.hid (fun w => rreadt_any x w hT)
    have RL : Hid ((readT x).1.rows.length ≤ 1000) := Lib.hid (by have := readT_len x; omega)
    generalize readT x = R at *
    generalize mkB x = X at *
    obtain ⟨⟨R, rm⟩, re⟩ := R
    simp only at R1 R2 RL
    clear hT
    go_wp2_with fail
    (with_reducible refine (R1.out _).mono ?_)
    rintro e w3 ⟨v, rfl, ⟨a3, c3, rfl, s3⟩, b3⟩
    (try simp only at s3)
    have bz : Below w3.heap.size w3 (w3.alloc (.cells #[.slice a3 R.length c3, .int .i64 rm] 24)) := (Below.refl _ _).alloc (Nat.le_refl _) _
    have HB := Lib.hid ((HB.out.call b3).new #[.slice a3 R.length c3, .int .i64 rm] 24)
    have S3 := Lib.hid (s3.call bz)
    clear b3 s3 bz R1
    unfold tv
    go_wp2_with fail
    (with_reducible refine (R2.out _).mono ?_)
    rintro e w5 ⟨v, rfl, ⟨a5, c5, rfl, s5⟩, b5⟩
    (try simp only at s5)
    have bz : Below w5.heap.size w5 (w5.alloc (.cells #[.slice a5 R.length c5, .int .i64 rm] 24)) := (Below.refl _ _).alloc (Nat.le_refl _) _
    have HB := Lib.hid ((HB.out.call b5).new #[.slice a5 R.length c5, .int .i64 rm] 24)
    have SA := Lib.hid (rsame_any ⟨R, rm⟩ ⟨R, rm⟩ a3 a5 c3 c5 _ ((S3.out.call b5).call bz).seen (s5.call bz).seen RL.out RL.out)
    rw [same_self] at SA
    clear b5 s5 bz R2 S3
    unfold tv at *
    simp only at SA
    obtain ⟨y0, y1⟩ := cell2 (HB.out.cell 0 rfl)
    obtain ⟨x0, x1⟩ := cell2 (HB.out.cell 1 rfl)
    go_wp2_with fail
    (with_reducible refine SA.out.mono ?_)
    rintro e w6 ⟨rfl, b6⟩
    have Z := Lib.hid (HB.out.call b6).bl
    clear b6 SA HB x0 x1 y0 y1
    go_wp2
    go_ret
    exact ⟨rfl, Z.out⟩

set_option maxRecDepth 100000 in
set_option maxHeartbeats 1600000 in
theorem lifted (os : Os) (started : os.Started) (H : Type) (enc : TypeId × Value → H) :
    ReturnsInHanded {} Try.checked os 5 .any (Rows.tableReadsSpec.pre6 enc Try.prog Try.f5 Rows.tableReadsRow.domain false) (Rows.tableReadsSpec.post enc Try.prog Try.f5 false true false false) := by
  refine returnsInHanded_of_change (C := Try.checked) own started (by kernel_rfl) Try.func5
    (ChangeSpec.witness6 (enc := enc) (C := Try.checked) false ⟨#[], #[.slice none 0 0, .string ⟨#[]⟩, .agg #[.int .i64 0, .int .i64 0, .int .i64 0]], []⟩ 8 (by kernel_rfl) (by kernel_rfl) (by kernel_rfl) (by kernel_rfl)) ?_
  intro W base args ds gs before hval0 hW hcnd _
  have hval : ∀ (j : Nat) t v, Try.f5.params[j]? = some t → args[j]? = some v → Value.okWide Try.prog W .any base t v := hval0
  have hW' := hW
  obtain ⟨p, q, hA0, hV, rfl, hfz, hnd⟩ := hW
  have hA : DataW.TrodAll enc Try.prog W 0 (fun _ => true) true Try.f5.params.toList args.toList ds p := hA0
  rw [Try.params5] at hA hval
  obtain ⟨v0, vs0, d0, ds0, p0, q0, hargs, rfl, rfl, h0, r0⟩ := trodAll_cons hA
  obtain ⟨v1, vs1, d1, ds1, p1, q1, rfl, rfl, rfl, h1, r1⟩ := trodAll_cons r0
  obtain ⟨v2, vs2, d2, ds2, p2, q2, rfl, rfl, rfl, h2, r2⟩ := trodAll_cons r1
  obtain ⟨rfl, rfl, rfl⟩ := trodAll_nil r2
  obtain rfl : args = #[v0, v1, v2] := by cases args; simp_all
  obtain ⟨rfl, rfl⟩ := trodVars_none hV
  have lt0 : ∀ x ∈ p0, x.block < W.heap.size := by obtain ⟨m, hm⟩ := h0; exact DataW.trod_lt m _ _ _ hm
  obtain ⟨lo, l, lc, rfl, ll, lm, ls⟩ := open_ops (hval 0 25 v0 rfl rfl) h0
  have lt1 : ∀ x ∈ p1, x.block < W.heap.size := by obtain ⟨m, hm⟩ := h1; exact DataW.trod_lt m _ _ _ hm
  obtain ⟨s, e1, -, -, szs⟩ := Go.ChangeMaps.open_string Try.underlying9 (hval 1 9 v1 rfl rfl) h1
  subst e1
  have lt2 : ∀ x ∈ p2, x.block < W.heap.size := by obtain ⟨m, hm⟩ := h2; exact DataW.trod_lt m _ _ _ hm
  obtain ⟨qa, qb, qc, rfl, okqa, okqb, okqc⟩ := Ox.open_three (hval 2 41 v2 rfl rfl) h2
  clear hA0 hval0
  refine (walk l lo lc s qa qb qc W ll ls okqa okqb).mono fun e W' ⟨he, bel⟩ => ?_
  subst he
  exact ⟨_, rfl, _, _, _, [], _, [], hW', trodAll_mk1 (shut_bool Try.underlying4 _), (trodAll_cons_mk (Below.trod laidOut (by kernel_rfl) (of_decide_eq_true (by kernel_rfl)) h0 bel lt0) (trodAll_cons_mk (Below.trod laidOut (by kernel_rfl) (of_decide_eq_true (by kernel_rfl)) h1 bel lt1) (trodAll_cons_mk (Below.trod laidOut (by kernel_rfl) (of_decide_eq_true (by kernel_rfl)) h2 bel lt2) trodAll_mk0))), rfl, bel.frame _, fun h => by cases h⟩

theorem proved : Rows.TableReadsSaid :=
  OpenClaim.holds_of_wide 5 Try.f5 rfl rfl rfl rfl rfl rfl rfl ⟨rfl, rfl, rfl, rfl, rfl⟩ rfl rfl rfl rfl rfl (by kernel_rfl) Try.func5 (by kernel_rfl)
    (of_decide_eq_true (by kernel_rfl)) (by unfold Func.isWrapper; first | (rw [if_pos (by decide +kernel)]; kernel_rfl) | (rw [if_neg (by decide +kernel)]; exact ⟨rfl, rfl⟩))
    (fun os started H enc _ => lifted os started H enc)
#print axioms proved
end Go.Proofs.Ytnaanahgflbihaa.tableReads
