/- horariumlaw13.OpsRead answers true at every op, every text and every three numbers: any bytes are read as an op, or not, as the document reads them. No condition. -/
import Derived.Test.YticehebgkehipaaOpY
import Derived.Test.YticehebgkehipaaOpW
import Derived.Test.YticehebgkehipaaOcG
import Derived.Deep.DeepCutAuto
import Derived.Deep.RegionHeld3
import Derived.Deep.RegionWith
import Derived.BigQuiet
namespace Go.Proofs.Yticehebgkehipaa.opsRead
open Go.ChangeShapes Go.WideShapes Go.ChangeAt Go.RowKit Go.Joins
open Oc
set_option maxRecDepth 100000
set_option linter.unusedVariables false
set_option linter.unusedSimpArgs false
open Pm Ox

def CutRel (w : World) (s1 : Value) (wx : World) : Prop := ∃ T : ByteArray, s1 = .string T ∧ T.size ≤ 1000000 ∧ Below w.heap.size w wx
set_option maxRecDepth 100000 in
set_option maxHeartbeats 8000000 in
theorem walk (o : Od) (s : ByteArray) (a b c : Int) (w : World) (ha : I64 a) (hb : I64 b) :
    Calls Try.prog 4 #[o.v, .string s, .agg #[.int .i64 a, .int .i64 b, .int .i64 c]] w fun r w' => r = .returned (.bool true) ∧ Below w.heap.size w w' := by
  have S2 : Hid (∀ w : World, Calls Try.prog 14 #[.string s, .int .i64 50] w fun e w' => e = .returned (.string (cut s 50)) ∧ w' = w) := Lib.hid (fun w => short_any s 50 w (by omega))
  have z0 := cut_size s 50
  generalize cut s 50 = s0 at *
  have AW := Lib.hid awake_any
  have RA := Lib.hid (rbare_any o)
  have RB := Lib.hid (rbytes_any (bareR o))
  have H0 := Lib.hid (ar3_new w o.cs a b c)
  have BZ : Hid ((bytesR (bareR o) = (⟨#[]⟩, 1)) ∨ ∃ (E : List UInt8), bytesR (bareR o) = (mkB E, 0) ∧ 0 < E.length ∧ E.length ≤ 43) := Lib.hid (by
    cases hc : chkR (bareR o) with
    | false => exact .inl (by unfold bytesR; rw [hc]; rfl)
    | true => exact .inr ⟨encO (bareR o), bytesR_yes hc, encO_pos hc, encO_len hc⟩)
  generalize bytesR (bareR o) = bb at *
  generalize bareR o = bo at *
  obtain ⟨k', ⟨i, cT, d', t, m⟩, sv, id, cc, mo⟩ := o
  obtain ⟨bk, ⟨bi, bc, bd, bt, bm⟩, bs, bid, bcc, bmo⟩ := bo
  simp only [Od.v, Od.cs] at *
  obtain ⟨z, hz⟩ : ∃ z : Int, bits .and .i64 a 3 = z := ⟨_, rfl⟩
  go_enter Try.func4, Try.ntmps4
  go_wp2_with fail
  (with_reducible refine (AW.out _).mono ?_)
  rintro r w1 ⟨rfl, b1⟩
  have HA := Lib.hid (H0.out.call b1)
  clear b1 H0 AW
  go_wp2_with fail
  (with_reducible refine (S2.out _).mono ?_)
  rintro r w2 ⟨rfl, rfl⟩
  have q0 := HA.out.q0
  clear S2
  go_upto_if 22 with (fail)
  go_cut [1] (CutRel w)
  case first =>
    by_cases hz0 : z = 0
    · have t1 : (z != 0) = false := by simp [hz0]
      clear hz0
      go_wp2_with fail
      go_meet
      exact ⟨_, rfl, by omega, HA.out.bl⟩
    · have t1 : (z != 0) = true := by simp [hz0]
      clear hz0
      obtain ⟨a0, a1, a2, a3, a4, a5, a6, a7, a8, a9⟩ := cons10 HA.out.oc
      go_wp2_with fail
      (with_reducible refine (RA.out _).mono ?_)
      rintro r w3 ⟨rfl, b3⟩
      have H3 := Lib.hid (HA.out.call b3)
      clear b3 RA HA q0 a0 a1 a2 a3 a4 a5 a6 a7 a8 a9
      rcases BZ.out with rfl | ⟨E, rfl, e0, e1⟩
      · have cv := bytes_of ⟨#[]⟩
        have zX : (⟨#[]⟩ : ByteArray).size = 0 := rfl
        simp only [zX] at cv
        go_wp2_with fail
        (with_reducible refine (RB.out _).mono ?_)
        rintro r W ⟨rfl, b4⟩
        have FB := Lib.hid (fun x => (((H3.out.call b4).bl.drew).alloc (by have := (H3.out.call b4).lt; simp; omega) x))
        have FC := Lib.hid (fun x => (((H3.out.call b4).bl.alloc (by have := (H3.out.call b4).lt; omega) x)).drew)
        clear b4 RB H3
        go_wp2_with fail
        go_meet
        exact ⟨_, rfl, by omega, by first | exact FB.out _ | exact FC.out _⟩
      · obtain ⟨Ln, hLn⟩ : ∃ Ln, Ln = E.length := ⟨_, rfl⟩
        rw [← hLn] at e0 e1
        obtain ⟨k, hk, hk', hk3, hq1, hq2⟩ := rem_pos b Ln (by omega)
        obtain ⟨q, hq⟩ : ∃ q : Int, b.tmod Ln = q := ⟨_, rfl⟩
        rw [hq] at hk hk' hq1 hq2
        have zX : (mkB E).size = Ln := by rw [mkB_size, hLn]
        have dX : (mkB E).data.toList = E := mkB_data _
        generalize mkB E = X at *
        have cv := bytes_of X
        simp only [zX] at cv
        have DX := Lib.hid dX
        obtain ⟨y, hy⟩ : ∃ y : Nat, c % 256 = (y : Int) := ⟨(c % 256).toNat, by omega⟩
        have hyw : IntKind.u8.wrap c = (y : Int) := by rw [IntKind.wrap_u8]; exact hy
        have wy : y < 256 := by omega
        have lk : k < E.length := by omega
        obtain ⟨d, hd⟩ : ∃ d, E[k] = d := ⟨_, rfl⟩
        have hx : bits .xor .u8 (d.toNat : Int) (y : Int) = ((d.toNat ^^^ y : Nat) : Int) := u8_xor_nat _ _ d.toNat_lt wy
        have hxl : d.toNat ^^^ y < 256 := Nat.xor_lt_two_pow (n := 8) d.toNat_lt wy
        have g1 : 0 < (Ln : Int) := by omega
        have g2 : (Ln : Int) ≤ 43 := by omega
        have g3 : ((Ln : Int) == 0) = false := by simp; omega
        have g4 : ¬ (Ln : Int) = 0 := by omega
        have g5 : IntKind.i64.wrap (q + (Ln : Int)) = q + (Ln : Int) := IntWalk.i64_in _ (by omega)
        have g6 : IntKind.i64.wrap q = q := IntWalk.i64_in _ (by omega)
        have g7 : IntKind.i64.wrap (k : Int) = (k : Int) := IntWalk.i64_in _ (by omega)
        have HLN := Lib.hid hLn
        clear dX hLn e0 e1
        go_wp2_with fail
        (with_reducible refine (RB.out _).mono ?_)
        rintro r W ⟨rfl, b4⟩
        have H4 := Lib.hid (H3.out.call b4)
        have q1 := H4.out.q1
        clear b4 RB H3 BZ
        have Y0 : Hid (Byt (W.alloc (Obj.cells (bytesRow X (grownCap W Ln 0 5)) 5 ((bytesRow X (grownCap W Ln 0 5)).size, (bytesRow X (grownCap W Ln 0 5)).size + 1))).drew W.heap.size E) := Lib.hid (by rw [← DX.out]; exact byt_new W X _ _ _ rfl)
        have D5 : Hid (Ar3 w #[.int .i64 k', .int .i64 i, .int .i64 cT, .int .i64 d', .int .i64 t, .int .i64 m, .bool sv, .int .i64 id, .int .i64 cc, .int .i64 mo] a b c (W.alloc (Obj.cells (bytesRow X (grownCap W Ln 0 5)) 5 ((bytesRow X (grownCap W Ln 0 5)).size, (bytesRow X (grownCap W Ln 0 5)).size + 1))).drew) := Lib.hid (H4.out.call ((Below.refl _ _).drew.alloc (Nat.le_refl _) _))
        have ltW := H4.out.lt
        go_upto_region 8 with (fail)
        generalize (W.alloc (Obj.cells (bytesRow X (grownCap W Ln 0 5)) 5 ((bytesRow X (grownCap W Ln 0 5)).size, (bytesRow X (grownCap W Ln 0 5)).size + 1))).drew = wm at *
        generalize grownCap W Ln 0 5 = cap at *
        generalize W.heap.size = g at *
        clear cv H4 q1
        have cl := (Y0.out k lk).1
        have cf := (Y0.out k lk).2
        rw [hd] at cl
        have q1 := D5.out.q1
        have q2 := D5.out.q2
        have ki : (k : Int) < (Ln : Int) := hk3
        have Y1 : Hid (Byt (wm.setCell ⟨g, k, none⟩ (.int .u8 ((d.toNat ^^^ y : Nat) : Int))).drew g (E.set k (UInt8.ofNat (d.toNat ^^^ y)))) := Lib.hid ((Y0.out.set lk (by rw [UInt8.toNat_ofNat', Nat.mod_eq_of_lt hxl])).of_block rfl)
        have D6 : Hid (Ar3 w #[.int .i64 k', .int .i64 i, .int .i64 cT, .int .i64 d', .int .i64 t, .int .i64 m, .bool sv, .int .i64 id, .int .i64 cc, .int .i64 mo] a b c (wm.setCell ⟨g, k, none⟩ (.int .u8 ((d.toNat ^^^ y : Nat) : Int))).drew) := Lib.hid ((D5.out.set ltW).call (Below.refl _ _).drew)
        have tx := Y1.out.text cap Ln (by rw [List.length_set]; exact HLN.out)
        have zN : (mkB (E.set k (UInt8.ofNat (d.toNat ^^^ y)))).size = Ln := by rw [mkB_size, List.length_set]; exact HLN.out.symm
        have zZ : ((mkB (E.set k (UInt8.ofNat (d.toNat ^^^ y)))).size : Int) = (Ln : Int) := by rw [zN]
        generalize d.toNat ^^^ y = cy at *
        generalize (d.toNat : Int) = cn at *
        generalize mkB (E.set k (UInt8.ofNat cy)) = Z at *
        clear Y0 D5 Y1 DX hxl hd
        go_wp2_with fail
        go_region
        have q0 := D6.out.q0
        generalize (wm.setCell ⟨g, k, none⟩ (.int .u8 (cy : Int))).drew = wk at *
        by_cases h3 : z = 3
        · have t3 : (z == 3) = true := by simp [h3]
          clear h3 hx cl cf
          go_wp2_with fail
          go_meet
          refine ⟨_, rfl, ?_, D6.out.bl⟩
          have : (Z.extract 0 k).size ≤ k := by simp only [ByteArray.size_extract]; omega
          first | omega | (simp only [ByteArray.size_extract]; omega)
        · have t3 : (z == 3) = false := by simp [h3]
          clear h3 hx cl cf
          go_wp2_with fail
          go_meet
          exact ⟨_, rfl, by omega, D6.out.bl⟩
  case rest =>
    obtain ⟨T, rfl, hT, bl⟩ := hcut
    have BL := Lib.hid bl
    clear HA q0 bl z0 hz RA RB BZ
    obtain ⟨l, rfl⟩ : ∃ l, T = mkB l := ⟨T.data.toList, (mkB_of T).symm⟩
    rw [mkB_size] at hT
    have R1 := Lib.hid (fun w => read_at l w hT)
    have R2 := Lib.hid (fun w => rread_any l w hT)
    generalize readO l = ro at *
    obtain ⟨⟨rk, ⟨ri, rc, rd, rt, rm⟩, rs, rid, rcc, rmo⟩, re⟩ := ro
    have EQ := eql_op ⟨rk, ⟨ri, rc, rd, rt, rm⟩, rs, rid, rcc, rmo⟩ ⟨rk, ⟨ri, rc, rd, rt, rm⟩, rs, rid, rcc, rmo⟩
    rw [decide_eq_true rfl] at EQ
    simp only [Od.v, Od.cs] at *
    generalize mkB l = T at *
    clear hT
    go_wp2_with fail
    (with_reducible refine (R1.out _).mono ?_)
    rintro r v1 ⟨rfl, b1⟩
    have G1 := Lib.hid (bx_at (BL.out.trans (b1.mono BL.out.size)) #[.int .i64 rk, .int .i64 ri, .int .i64 rc, .int .i64 rd, .int .i64 rt, .int .i64 rm, .bool rs, .int .i64 rid, .int .i64 rcc, .int .i64 rmo])
    clear b1 R1 BL
    go_wp2_with fail
    (with_reducible refine (R2.out _).mono ?_)
    rintro r v2 ⟨rfl, b2⟩
    have G2 := Lib.hid (b2_new (G1.out.call b2) #[.int .i64 rk, .int .i64 ri, .int .i64 rc, .int .i64 rd, .int .i64 rt, .int .i64 rm, .bool rs, .int .i64 rid, .int .i64 rcc, .int .i64 rmo])
    have n2 : v1.heap.size ≠ v2.heap.size := by have := lt_of_heap (G1.out.call b2).at_; omega
    clear b2 R2 G1
    obtain ⟨y0, y1, y2, y3, y4, y5, y6, y7, y8, y9, x0, x1, x2, x3, x4, x5, x6, x7, x8, x9⟩ := G2.out.cells
    go_wp2
    go_ret
    exact ⟨rfl, G2.out.bx.bl⟩

set_option maxRecDepth 100000 in
set_option maxHeartbeats 1600000 in
theorem lifted (os : Os) (started : os.Started) (H : Type) (enc : TypeId × Value → H) :
    ReturnsInHanded {} Try.checked os 4 .any (Rows.opsReadSpec.pre6 enc Try.prog Try.f4 Rows.opsReadRow.domain false) (Rows.opsReadSpec.post enc Try.prog Try.f4 false true false false) := by
  refine returnsInHanded_of_change (C := Try.checked) own started (by kernel_rfl) Try.func4
    (ChangeSpec.witness6 (enc := enc) (C := Try.checked) false ⟨#[], #[.agg #[.int .i64 0, .int .i64 0, .int .i64 0, .int .i64 0, .int .i64 0, .int .i64 0, .bool false, .int .i64 0, .int .i64 0, .int .i64 0], .string ⟨#[]⟩, .agg #[.int .i64 0, .int .i64 0, .int .i64 0]], []⟩ 8 (by kernel_rfl) (by kernel_rfl) (by kernel_rfl) (by kernel_rfl)) ?_
  intro W base args ds gs before hval0 hW hcnd _
  have hval : ∀ (j : Nat) t v, Try.f4.params[j]? = some t → args[j]? = some v → Value.okWide Try.prog W .any base t v := hval0
  have hW' := hW
  obtain ⟨p, q, hA0, hV, rfl, hfz, hnd⟩ := hW
  have hA : DataW.TrodAll enc Try.prog W 0 (fun _ => true) true Try.f4.params.toList args.toList ds p := hA0
  rw [Try.params4] at hA hval
  obtain ⟨v0, vs0, d0, ds0, p0, q0, hargs, rfl, rfl, h0, r0⟩ := trodAll_cons hA
  obtain ⟨v1, vs1, d1, ds1, p1, q1, rfl, rfl, rfl, h1, r1⟩ := trodAll_cons r0
  obtain ⟨v2, vs2, d2, ds2, p2, q2, rfl, rfl, rfl, h2, r2⟩ := trodAll_cons r1
  obtain ⟨rfl, rfl, rfl⟩ := trodAll_nil r2
  obtain rfl : args = #[v0, v1, v2] := by cases args; simp_all
  obtain ⟨rfl, rfl⟩ := trodVars_none hV
  have lt0 : ∀ x ∈ p0, x.block < W.heap.size := by obtain ⟨m, hm⟩ := h0; exact DataW.trod_lt m _ _ _ hm
  obtain ⟨o, rfl, oko⟩ := open_op (hval 0 25 v0 rfl rfl) h0
  have lt1 : ∀ x ∈ p1, x.block < W.heap.size := by obtain ⟨m, hm⟩ := h1; exact DataW.trod_lt m _ _ _ hm
  obtain ⟨s, e1, -, -, szs⟩ := Go.ChangeMaps.open_string Try.underlying9 (hval 1 9 v1 rfl rfl) h1
  subst e1
  have lt2 : ∀ x ∈ p2, x.block < W.heap.size := by obtain ⟨m, hm⟩ := h2; exact DataW.trod_lt m _ _ _ hm
  obtain ⟨qa, qb, qc, rfl, okqa, okqb, okqc⟩ := open_three (hval 2 31 v2 rfl rfl) h2
  clear hA0 hval0
  refine (walk o s qa qb qc W okqa okqb).mono fun e W' ⟨he, bel⟩ => ?_
  subst he
  exact ⟨_, rfl, _, _, _, [], _, [], hW', trodAll_mk1 (shut_bool Try.underlying4 _), (trodAll_cons_mk (Below.trod laidOut (by kernel_rfl) (of_decide_eq_true (by kernel_rfl)) h0 bel lt0) (trodAll_cons_mk (Below.trod laidOut (by kernel_rfl) (of_decide_eq_true (by kernel_rfl)) h1 bel lt1) (trodAll_cons_mk (Below.trod laidOut (by kernel_rfl) (of_decide_eq_true (by kernel_rfl)) h2 bel lt2) trodAll_mk0))), rfl, bel.frame _, fun h => by cases h⟩

theorem proved : Rows.OpsReadSaid :=
  OpenClaim.holds_of_wide 4 Try.f4 rfl rfl rfl rfl rfl rfl rfl ⟨rfl, rfl, rfl, rfl, rfl⟩ rfl rfl rfl rfl rfl (by kernel_rfl) Try.func4 (by kernel_rfl)
    (of_decide_eq_true (by kernel_rfl)) (by unfold Func.isWrapper; first | (rw [if_pos (by decide +kernel)]; kernel_rfl) | (rw [if_neg (by decide +kernel)]; exact ⟨rfl, rfl⟩))
    (fun os started H enc _ => lifted os started H enc)
#print axioms proved
end Go.Proofs.Yticehebgkehipaa.opsRead
