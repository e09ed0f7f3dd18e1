/- horariumlaw13.OpsBack answers true at every op and every byte: an op that was written is read; with a byte more it is none; it fits into a sector. No condition. -/
import Derived.Test.YticehebgkehipaaOpX
import Derived.Test.YticehebgkehipaaOpW
import Derived.Test.YticehebgkehipaaOcG
import Derived.Deep.DeepCutAuto
import Derived.Deep.RegionHeld3
import Derived.Deep.RegionWith
import Derived.BigQuiet
namespace Go.Proofs.Yticehebgkehipaa.opsBack
open Go.ChangeShapes Go.WideShapes Go.ChangeAt Go.RowKit Go.Joins
open Oc
set_option maxRecDepth 100000
set_option linter.unusedVariables false
set_option linter.unusedSimpArgs false
open Pm Ox

set_option maxRecDepth 100000 in
set_option maxHeartbeats 8000000 in
theorem walk (o : Od) (z : Int) (w : World) :
    Calls Try.prog 5 #[o.v, .int .u8 z] w fun e w' => e = .returned (.bool true) ∧ Below w.heap.size w w' := by
  have AW := Lib.hid awake_any
  have RA := Lib.hid (rbare_any o)
  have RC := Lib.hid (rcheck_any (bareR o))
  have CK := Lib.hid (check_any (bareR o))
  have BY := Lib.hid (bytes_any (bareR o))
  have EB := eql_op (bareR o) (bareR o)
  rw [decide_eq_true rfl] at EB
  have H0 := Lib.hid (bx_new w o.cs)
  cases hc : chkR (bareR o) with
  | false =>
    rw [hc] at RC CK
    clear BY EB hc
    generalize bareR o = b at *
    obtain ⟨k, ⟨i, c, d, t, m⟩, s, id, cc, mo⟩ := o
    obtain ⟨bk, ⟨bi, bc, bd, bt, bm⟩, bs, bid, bcc, bmo⟩ := b
    simp only [Od.v, Od.cs] at *
    obtain ⟨a0, a1, a2, a3, a4, a5, a6, a7, a8, a9⟩ := H0.out.c10
    go_enter Try.func5, Try.ntmps5
    go_wp2_with fail
    (with_reducible refine (AW.out _).mono ?_)
    rintro e w1 ⟨rfl, b1⟩
    have H1 := Lib.hid (H0.out.call b1)
    clear b1 AW H0 a0 a1 a2 a3 a4 a5 a6 a7 a8 a9
    obtain ⟨a0, a1, a2, a3, a4, a5, a6, a7, a8, a9⟩ := H1.out.c10
    go_wp2_with fail
    (with_reducible refine (RA.out _).mono ?_)
    rintro e w2 ⟨rfl, b2⟩
    have H2 := Lib.hid (bx_at (H1.out.call b2).bl #[.int .i64 bk, .int .i64 bi, .int .i64 bc, .int .i64 bd, .int .i64 bt, .int .i64 bm, .bool bs, .int .i64 bid, .int .i64 bcc, .int .i64 bmo])
    clear b2 RA H1 a0 a1 a2 a3 a4 a5 a6 a7 a8 a9
    obtain ⟨a0, a1, a2, a3, a4, a5, a6, a7, a8, a9⟩ := H2.out.c10
    go_wp2_with fail
    (with_reducible refine (RC.out _).mono ?_)
    rintro e w3 ⟨rfl, b3⟩
    have H3 := Lib.hid (H2.out.call b3)
    clear b3 RC H2 a0 a1 a2 a3 a4 a5 a6 a7 a8 a9
    obtain ⟨a0, a1, a2, a3, a4, a5, a6, a7, a8, a9⟩ := H3.out.c10
    go_wp2_with fail
    (with_reducible refine (CK.out _).mono ?_)
    rintro e w4 ⟨rfl, b4⟩
    have H4 := Lib.hid (H3.out.call b4)
    clear b4 CK H3 a0 a1 a2 a3 a4 a5 a6 a7 a8 a9
    go_wp2
    go_ret
    exact ⟨rfl, H4.out.bl⟩
  | true =>
    rw [hc] at RC
    have hl := encO_len hc
    rw [bytesR_yes hc] at BY
    have R1 := Lib.hid (fun w => read_at (encO (bareR o)) w (by omega))
    have R2 := Lib.hid (fun w => read_at (encO (bareR o) ++ [UInt8.ofNat z.toNat]) w (by rw [List.length_append]; simp; omega))
    rw [readO_enc hc] at R1
    rw [readO_more hc] at R2
    have AD := add_run (mkB (encO (bareR o))) (mkB [UInt8.ofNat z.toNat]) (mkB (encO (bareR o) ++ [UInt8.ofNat z.toNat])) (by rw [mkB_size]; omega) (by rw [mkB_size]; simp) (mkB_app _ _)
    have sz : (mkB (encO (bareR o))).size ≤ 43 := by rw [mkB_size]; exact hl
    have HC : Hid (∀ W : World, (convert 36 9 (.slice (some ⟨W.heap.size + 1, 0, none⟩) 1 1)).run Try.prog ((W.alloc (.cells (Od.cs (bareR o)) 25)).alloc (.cells #[.int .u8 z] 5)) = .ok (.string (mkB [UInt8.ofNat z.toNat])) ((W.alloc (.cells (Od.cs (bareR o)) 25)).alloc (.cells #[.int .u8 z] 5))) := Lib.hid (fun W => by
      have := one_run (W.alloc (.cells (Od.cs (bareR o)) 25)) z 5
      rwa [World.size_alloc] at this)
    clear CK hc hl
    generalize mkB (encO (bareR o) ++ [UInt8.ofNat z.toNat]) = s2 at *
    generalize mkB (encO (bareR o)) = s1 at *
    generalize mkB [UInt8.ofNat z.toNat] = sx at *
    generalize bareR o = b at *
    obtain ⟨k, ⟨i, c, d, t, m⟩, s, id, cc, mo⟩ := o
    obtain ⟨bk, ⟨bi, bc, bd, bt, bm⟩, bs, bid, bcc, bmo⟩ := b
    simp only [Od.v, Od.cs, od0, tk0] at *
    have sz1 : (s1.size : Int) ≤ 43 := by omega
    have sz2 : decide ((s1.size : Int) ≤ 43) = true := by simp; omega
    clear sz
    obtain ⟨a0, a1, a2, a3, a4, a5, a6, a7, a8, a9⟩ := H0.out.c10
    go_enter Try.func5, Try.ntmps5
    go_wp2_with fail
    (with_reducible refine (AW.out _).mono ?_)
    rintro e w1 ⟨rfl, b1⟩
    have H1 := Lib.hid (H0.out.call b1)
    clear b1 AW H0 a0 a1 a2 a3 a4 a5 a6 a7 a8 a9
    obtain ⟨a0, a1, a2, a3, a4, a5, a6, a7, a8, a9⟩ := H1.out.c10
    go_wp2_with fail
    (with_reducible refine (RA.out _).mono ?_)
    rintro e w2 ⟨rfl, b2⟩
    have H2 := Lib.hid (bx_at (H1.out.call b2).bl #[.int .i64 bk, .int .i64 bi, .int .i64 bc, .int .i64 bd, .int .i64 bt, .int .i64 bm, .bool bs, .int .i64 bid, .int .i64 bcc, .int .i64 bmo])
    clear b2 RA H1 a0 a1 a2 a3 a4 a5 a6 a7 a8 a9
    obtain ⟨a0, a1, a2, a3, a4, a5, a6, a7, a8, a9⟩ := H2.out.c10
    go_wp2_with fail
    (with_reducible refine (RC.out _).mono ?_)
    rintro e w3 ⟨rfl, b3⟩
    have H3 := Lib.hid (H2.out.call b3)
    clear b3 RC H2 a0 a1 a2 a3 a4 a5 a6 a7 a8 a9
    obtain ⟨a0, a1, a2, a3, a4, a5, a6, a7, a8, a9⟩ := H3.out.c10
    go_wp2_with fail
    (with_reducible refine (BY.out _).mono ?_)
    rintro e w4 ⟨rfl, b4⟩
    have H4 := Lib.hid (H3.out.call b4)
    clear b4 BY H3 a0 a1 a2 a3 a4 a5 a6 a7 a8 a9
    go_wp2_with fail
    (with_reducible refine (R1.out _).mono ?_)
    rintro e w5 ⟨rfl, b5⟩
    have H5 := Lib.hid ((b2_new (H4.out.call b5) #[.int .i64 bk, .int .i64 bi, .int .i64 bc, .int .i64 bd, .int .i64 bt, .int .i64 bm, .bool bs, .int .i64 bid, .int .i64 bcc, .int .i64 bmo]).alloc (.cells #[.int .u8 z] 5))
    have hc5 := HC.out w5
    clear b5 R1 H4 HC
    go_wp2_with fail
    (with_reducible refine (R2.out _).mono ?_)
    rintro e w6 ⟨rfl, b6⟩
    have H6 := Lib.hid ((H5.out.call b6).alloc (.cells #[.int .i64 0, .int .i64 0, .int .i64 0, .int .i64 0, .int .i64 0, .int .i64 0, .bool false, .int .i64 0, .int .i64 0, .int .i64 0] 25))
    have ne6 : w2.heap.size ≠ w6.heap.size := by have := lt_of_heap (H5.out.call b6).bx.at_; omega
    have ne7 : w5.heap.size ≠ w6.heap.size := by have := lt_of_heap (H5.out.call b6).at_; omega
    clear b6 R2 H5
    obtain ⟨c0, c1, c2, c3, c4, c5, c6, c7, c8, c9, d0, d1, d2, d3, d4, d5, d6, d7, d8, d9⟩ := H6.out.cells
    go_wp2
    go_ret
    exact ⟨rfl, H6.out.bx.bl⟩

set_option maxRecDepth 100000 in
set_option maxHeartbeats 1600000 in
theorem lifted (os : Os) (started : os.Started) (H : Type) (enc : TypeId × Value → H) :
    ReturnsInHanded {} Try.checked os 5 .any (Rows.opsBackSpec.pre6 enc Try.prog Try.f5 Rows.opsBackRow.domain false) (Rows.opsBackSpec.post enc Try.prog Try.f5 false true false false) := by
  refine returnsInHanded_of_change (C := Try.checked) own started (by kernel_rfl) Try.func5
    (ChangeSpec.witness6 (enc := enc) (C := Try.checked) false ⟨#[], #[.agg #[.int .i64 0, .int .i64 0, .int .i64 0, .int .i64 0, .int .i64 0, .int .i64 0, .bool false, .int .i64 0, .int .i64 0, .int .i64 0], .int .u8 0], []⟩ 8 (by kernel_rfl) (by kernel_rfl) (by kernel_rfl) (by kernel_rfl)) ?_
  intro W base args ds gs before hval0 hW hcnd _
  have hval : ∀ (j : Nat) t v, Try.f5.params[j]? = some t → args[j]? = some v → Value.okWide Try.prog W .any base t v := hval0
  have hW' := hW
  obtain ⟨p, q, hA0, hV, rfl, hfz, hnd⟩ := hW
  have hA : DataW.TrodAll enc Try.prog W 0 (fun _ => true) true Try.f5.params.toList args.toList ds p := hA0
  rw [Try.params5] at hA hval
  obtain ⟨v0, vs0, d0, ds0, p0, q0, hargs, rfl, rfl, h0, r0⟩ := trodAll_cons hA
  obtain ⟨v1, vs1, d1, ds1, p1, q1, rfl, rfl, rfl, h1, r1⟩ := trodAll_cons r0
  obtain ⟨rfl, rfl, rfl⟩ := trodAll_nil r1
  obtain rfl : args = #[v0, v1] := by cases args; simp_all
  obtain ⟨rfl, rfl⟩ := trodVars_none hV
  have lt0 : ∀ x ∈ p0, x.block < W.heap.size := by obtain ⟨m, hm⟩ := h0; exact DataW.trod_lt m _ _ _ hm
  obtain ⟨o, rfl, oko⟩ := open_op (hval 0 25 v0 rfl rfl) h0
  have lt1 : ∀ x ∈ p1, x.block < W.heap.size := by obtain ⟨m, hm⟩ := h1; exact DataW.trod_lt m _ _ _ hm
  obtain ⟨z, e1, -, -, wfz⟩ := open_int Try.underlying5 (hval 1 5 v1 rfl rfl) h1
  subst e1
  clear hA0 hval0
  refine (walk o z W).mono fun e W' ⟨he, bel⟩ => ?_
  subst he
  exact ⟨_, rfl, _, _, _, [], _, [], hW', trodAll_mk1 (shut_bool Try.underlying4 _), (trodAll_cons_mk (Below.trod laidOut (by kernel_rfl) (of_decide_eq_true (by kernel_rfl)) h0 bel lt0) (trodAll_cons_mk (Below.trod laidOut (by kernel_rfl) (of_decide_eq_true (by kernel_rfl)) h1 bel lt1) trodAll_mk0)), rfl, bel.frame _, fun h => by cases h⟩

theorem proved : Rows.OpsBackSaid :=
  OpenClaim.holds_of_wide 5 Try.f5 rfl rfl rfl rfl rfl rfl rfl ⟨rfl, rfl, rfl, rfl, rfl⟩ rfl rfl rfl rfl rfl (by kernel_rfl) Try.func5 (by kernel_rfl)
    (of_decide_eq_true (by kernel_rfl)) (by unfold Func.isWrapper; first | (rw [if_pos (by decide +kernel)]; kernel_rfl) | (rw [if_neg (by decide +kernel)]; exact ⟨rfl, rfl⟩))
    (fun os started H enc _ => lifted os started H enc)
#print axioms proved
end Go.Proofs.Yticehebgkehipaa.opsBack
