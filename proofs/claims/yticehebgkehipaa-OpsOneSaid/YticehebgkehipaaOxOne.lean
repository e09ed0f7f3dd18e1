/- horariumlaw13.OpsOne answers true at every two ops: no two ops have the same bytes. No condition. -/
import Derived.Test.YticehebgkehipaaOpX
import Derived.Test.YticehebgkehipaaOpW
import Derived.Test.YticehebgkehipaaOcG
import Derived.Deep.DeepCutAuto
import Derived.Deep.RegionHeld3
import Derived.Deep.RegionWith
import Derived.BigQuiet
namespace Go.Proofs.Yticehebgkehipaa.opsOne
open Go.ChangeShapes Go.WideShapes Go.ChangeAt Go.RowKit Go.Joins
open Oc
set_option maxRecDepth 100000
set_option linter.unusedVariables false
set_option linter.unusedSimpArgs false
open Pm Ox

set_option maxRecDepth 100000 in
set_option maxHeartbeats 8000000 in
theorem walk (o p : Od) (w : World) :
    Calls Try.prog 6 #[o.v, p.v] w fun e w' => e = .returned (.bool true) ∧ Below w.heap.size w w' := by
  have AW := Lib.hid awake_any
  have RA := Lib.hid (rbare_any o)
  have RB := Lib.hid (rbare_any p)
  have CA := Lib.hid (rcheck_any (bareR o))
  have CB := Lib.hid (rcheck_any (bareR p))
  have YA := Lib.hid (bytes_any (bareR o))
  have YB := Lib.hid (bytes_any (bareR p))
  have EQ := eql_op (bareR o) (bareR p)
  have H0 := Lib.hid (b2_new (bx_new w o.cs) p.cs)
  rw [World.size_alloc] at H0
  cases ha : chkR (bareR o) with
  | false =>
    rw [ha] at CA
    clear EQ YA YB ha
    generalize chkR (bareR p) = qb at *
    generalize bareR o = b at *
    generalize bareR p = d' at *
    obtain ⟨k, ⟨i, c, d, t, m⟩, s, id, cc, mo⟩ := o
    obtain ⟨pk, ⟨pi, pc, pd, pt, pm⟩, ps, pid, pcc, pmo⟩ := p
    obtain ⟨bk, ⟨bi, bc, bd, bt, bm⟩, bs, bid, bcc, bmo⟩ := b
    obtain ⟨dk, ⟨di, dc, dd, dt, dm⟩, ds, did, dcc, dmo⟩ := d'
    simp only [Od.v, Od.cs] at *
    cases qb <;>
    · obtain ⟨y0, y1, y2, y3, y4, y5, y6, y7, y8, y9, x0, x1, x2, x3, x4, x5, x6, x7, x8, x9⟩ := H0.out.cells
      go_enter Try.func6, Try.ntmps6
      go_wp2_with fail
      (with_reducible refine (AW.out _).mono ?_)
      rintro e w1 ⟨rfl, b1⟩
      have H1 := Lib.hid (H0.out.call b1)
      clear b1 AW H0 x0 x1 x2 x3 x4 x5 x6 x7 x8 x9 y0 y1 y2 y3 y4 y5 y6 y7 y8 y9
      obtain ⟨y0, y1, y2, y3, y4, y5, y6, y7, y8, y9, x0, x1, x2, x3, x4, x5, x6, x7, x8, x9⟩ := H1.out.cells
      go_wp2_with fail
      (with_reducible refine (RA.out _).mono ?_)
      rintro e w2 ⟨rfl, b2⟩
      have G2 := Lib.hid (bx_at (H1.out.call b2).bx.bl #[.int .i64 bk, .int .i64 bi, .int .i64 bc, .int .i64 bd, .int .i64 bt, .int .i64 bm, .bool bs, .int .i64 bid, .int .i64 bcc, .int .i64 bmo])
      have H2 := Lib.hid ((H1.out.call b2).swap.alloc (.cells #[.int .i64 bk, .int .i64 bi, .int .i64 bc, .int .i64 bd, .int .i64 bt, .int .i64 bm, .bool bs, .int .i64 bid, .int .i64 bcc, .int .i64 bmo] 25))
      have n2 : w.heap.size + 1 ≠ w2.heap.size := by have := lt_of_heap (H1.out.call b2).at_; omega
      clear b2 RA H1 x0 x1 x2 x3 x4 x5 x6 x7 x8 x9 y0 y1 y2 y3 y4 y5 y6 y7 y8 y9
      obtain ⟨x0, x1, x2, x3, x4, x5, x6, x7, x8, x9⟩ := H2.out.c10
      go_wp2_with fail
      (with_reducible refine (RB.out _).mono ?_)
      rintro e w3 ⟨rfl, b3⟩
      have H3 := Lib.hid (b2_new (G2.out.call b3) #[.int .i64 dk, .int .i64 di, .int .i64 dc, .int .i64 dd, .int .i64 dt, .int .i64 dm, .bool ds, .int .i64 did, .int .i64 dcc, .int .i64 dmo])
      clear b3 RB H2 G2 n2 x0 x1 x2 x3 x4 x5 x6 x7 x8 x9
      obtain ⟨y0, y1, y2, y3, y4, y5, y6, y7, y8, y9, x0, x1, x2, x3, x4, x5, x6, x7, x8, x9⟩ := H3.out.cells
      go_wp2_with fail
      (with_reducible refine (CA.out _).mono ?_)
      rintro e w4 ⟨rfl, b4⟩
      have H4 := Lib.hid (H3.out.call b4)
      clear b4 CA H3 x0 x1 x2 x3 x4 x5 x6 x7 x8 x9 y0 y1 y2 y3 y4 y5 y6 y7 y8 y9
      obtain ⟨y0, y1, y2, y3, y4, y5, y6, y7, y8, y9, x0, x1, x2, x3, x4, x5, x6, x7, x8, x9⟩ := H4.out.cells
      go_wp2_with fail
      (with_reducible refine (CB.out _).mono ?_)
      rintro e w5 ⟨rfl, b5⟩
      have H5 := Lib.hid (H4.out.call b5)
      clear b5 CB H4 x0 x1 x2 x3 x4 x5 x6 x7 x8 x9 y0 y1 y2 y3 y4 y5 y6 y7 y8 y9
      go_wp2
      go_ret
      exact ⟨rfl, H5.out.bx.bl⟩
  | true =>
    rw [ha] at CA
    cases hb : chkR (bareR p) with
    | false =>
      rw [hb] at CB
      clear EQ YA YB ha hb
      generalize bareR o = b at *
      generalize bareR p = d' at *
      obtain ⟨k, ⟨i, c, d, t, m⟩, s, id, cc, mo⟩ := o
      obtain ⟨pk, ⟨pi, pc, pd, pt, pm⟩, ps, pid, pcc, pmo⟩ := p
      obtain ⟨bk, ⟨bi, bc, bd, bt, bm⟩, bs, bid, bcc, bmo⟩ := b
      obtain ⟨dk, ⟨di, dc, dd, dt, dm⟩, ds, did, dcc, dmo⟩ := d'
      simp only [Od.v, Od.cs] at *
      obtain ⟨y0, y1, y2, y3, y4, y5, y6, y7, y8, y9, x0, x1, x2, x3, x4, x5, x6, x7, x8, x9⟩ := H0.out.cells
      go_enter Try.func6, Try.ntmps6
      go_wp2_with fail
      (with_reducible refine (AW.out _).mono ?_)
      rintro e w1 ⟨rfl, b1⟩
      have H1 := Lib.hid (H0.out.call b1)
      clear b1 AW H0 x0 x1 x2 x3 x4 x5 x6 x7 x8 x9 y0 y1 y2 y3 y4 y5 y6 y7 y8 y9
      obtain ⟨y0, y1, y2, y3, y4, y5, y6, y7, y8, y9, x0, x1, x2, x3, x4, x5, x6, x7, x8, x9⟩ := H1.out.cells
      go_wp2_with fail
      (with_reducible refine (RA.out _).mono ?_)
      rintro e w2 ⟨rfl, b2⟩
      have G2 := Lib.hid (bx_at (H1.out.call b2).bx.bl #[.int .i64 bk, .int .i64 bi, .int .i64 bc, .int .i64 bd, .int .i64 bt, .int .i64 bm, .bool bs, .int .i64 bid, .int .i64 bcc, .int .i64 bmo])
      have H2 := Lib.hid ((H1.out.call b2).swap.alloc (.cells #[.int .i64 bk, .int .i64 bi, .int .i64 bc, .int .i64 bd, .int .i64 bt, .int .i64 bm, .bool bs, .int .i64 bid, .int .i64 bcc, .int .i64 bmo] 25))
      have n2 : w.heap.size + 1 ≠ w2.heap.size := by have := lt_of_heap (H1.out.call b2).at_; omega
      clear b2 RA H1 x0 x1 x2 x3 x4 x5 x6 x7 x8 x9 y0 y1 y2 y3 y4 y5 y6 y7 y8 y9
      obtain ⟨x0, x1, x2, x3, x4, x5, x6, x7, x8, x9⟩ := H2.out.c10
      go_wp2_with fail
      (with_reducible refine (RB.out _).mono ?_)
      rintro e w3 ⟨rfl, b3⟩
      have H3 := Lib.hid (b2_new (G2.out.call b3) #[.int .i64 dk, .int .i64 di, .int .i64 dc, .int .i64 dd, .int .i64 dt, .int .i64 dm, .bool ds, .int .i64 did, .int .i64 dcc, .int .i64 dmo])
      clear b3 RB H2 G2 n2 x0 x1 x2 x3 x4 x5 x6 x7 x8 x9
      obtain ⟨y0, y1, y2, y3, y4, y5, y6, y7, y8, y9, x0, x1, x2, x3, x4, x5, x6, x7, x8, x9⟩ := H3.out.cells
      go_wp2_with fail
      (with_reducible refine (CA.out _).mono ?_)
      rintro e w4 ⟨rfl, b4⟩
      have H4 := Lib.hid (H3.out.call b4)
      clear b4 CA H3 x0 x1 x2 x3 x4 x5 x6 x7 x8 x9 y0 y1 y2 y3 y4 y5 y6 y7 y8 y9
      obtain ⟨y0, y1, y2, y3, y4, y5, y6, y7, y8, y9, x0, x1, x2, x3, x4, x5, x6, x7, x8, x9⟩ := H4.out.cells
      go_wp2_with fail
      (with_reducible refine (CB.out _).mono ?_)
      rintro e w5 ⟨rfl, b5⟩
      have H5 := Lib.hid (H4.out.call b5)
      clear b5 CB H4 x0 x1 x2 x3 x4 x5 x6 x7 x8 x9 y0 y1 y2 y3 y4 y5 y6 y7 y8 y9
      go_wp2
      go_ret
      exact ⟨rfl, H5.out.bx.bl⟩
    | true =>
      rw [hb] at CB
      rw [bytesR_yes ha] at YA
      rw [bytesR_yes hb] at YB
      by_cases hab : bareR o = bareR p
      · rw [decide_eq_true hab] at EQ
        rw [← hab] at EQ CB YB RB
        clear ha hb hab
        generalize mkB (encO (bareR o)) = s1 at *
        generalize bareR o = b at *
        obtain ⟨k, ⟨i, c, d, t, m⟩, s, id, cc, mo⟩ := o
        obtain ⟨pk, ⟨pi, pc, pd, pt, pm⟩, ps, pid, pcc, pmo⟩ := p
        obtain ⟨bk, ⟨bi, bc, bd, bt, bm⟩, bs, bid, bcc, bmo⟩ := b
        simp only [Od.v, Od.cs] at *
        obtain ⟨y0, y1, y2, y3, y4, y5, y6, y7, y8, y9, x0, x1, x2, x3, x4, x5, x6, x7, x8, x9⟩ := H0.out.cells
        go_enter Try.func6, Try.ntmps6
        go_wp2_with fail
        (with_reducible refine (AW.out _).mono ?_)
        rintro e w1 ⟨rfl, b1⟩
        have H1 := Lib.hid (H0.out.call b1)
        clear b1 AW H0 x0 x1 x2 x3 x4 x5 x6 x7 x8 x9 y0 y1 y2 y3 y4 y5 y6 y7 y8 y9
        obtain ⟨y0, y1, y2, y3, y4, y5, y6, y7, y8, y9, x0, x1, x2, x3, x4, x5, x6, x7, x8, x9⟩ := H1.out.cells
        go_wp2_with fail
        (with_reducible refine (RA.out _).mono ?_)
        rintro e w2 ⟨rfl, b2⟩
        have G2 := Lib.hid (bx_at (H1.out.call b2).bx.bl #[.int .i64 bk, .int .i64 bi, .int .i64 bc, .int .i64 bd, .int .i64 bt, .int .i64 bm, .bool bs, .int .i64 bid, .int .i64 bcc, .int .i64 bmo])
        have H2 := Lib.hid ((H1.out.call b2).swap.alloc (.cells #[.int .i64 bk, .int .i64 bi, .int .i64 bc, .int .i64 bd, .int .i64 bt, .int .i64 bm, .bool bs, .int .i64 bid, .int .i64 bcc, .int .i64 bmo] 25))
        have n2 : w.heap.size + 1 ≠ w2.heap.size := by have := lt_of_heap (H1.out.call b2).at_; omega
        clear b2 RA H1 x0 x1 x2 x3 x4 x5 x6 x7 x8 x9 y0 y1 y2 y3 y4 y5 y6 y7 y8 y9
        obtain ⟨x0, x1, x2, x3, x4, x5, x6, x7, x8, x9⟩ := H2.out.c10
        go_wp2_with fail
        (with_reducible refine (RB.out _).mono ?_)
        rintro e w3 ⟨rfl, b3⟩
        have H3 := Lib.hid (b2_new (G2.out.call b3) #[.int .i64 bk, .int .i64 bi, .int .i64 bc, .int .i64 bd, .int .i64 bt, .int .i64 bm, .bool bs, .int .i64 bid, .int .i64 bcc, .int .i64 bmo])
        clear b3 RB H2 G2 n2 x0 x1 x2 x3 x4 x5 x6 x7 x8 x9
        obtain ⟨y0, y1, y2, y3, y4, y5, y6, y7, y8, y9, x0, x1, x2, x3, x4, x5, x6, x7, x8, x9⟩ := H3.out.cells
        go_wp2_with fail
        (with_reducible refine (CA.out _).mono ?_)
        rintro e w4 ⟨rfl, b4⟩
        have H4 := Lib.hid (H3.out.call b4)
        clear b4 CA H3 x0 x1 x2 x3 x4 x5 x6 x7 x8 x9 y0 y1 y2 y3 y4 y5 y6 y7 y8 y9
        obtain ⟨y0, y1, y2, y3, y4, y5, y6, y7, y8, y9, x0, x1, x2, x3, x4, x5, x6, x7, x8, x9⟩ := H4.out.cells
        go_wp2_with fail
        (with_reducible refine (CB.out _).mono ?_)
        rintro e w5 ⟨rfl, b5⟩
        have H5 := Lib.hid (H4.out.call b5)
        clear b5 CB H4 x0 x1 x2 x3 x4 x5 x6 x7 x8 x9 y0 y1 y2 y3 y4 y5 y6 y7 y8 y9
        obtain ⟨y0, y1, y2, y3, y4, y5, y6, y7, y8, y9, x0, x1, x2, x3, x4, x5, x6, x7, x8, x9⟩ := H5.out.cells
        go_wp2_with fail
        (with_reducible refine (YA.out _).mono ?_)
        rintro e w6 ⟨rfl, b6⟩
        have H6 := Lib.hid (H5.out.call b6)
        clear b6 YA H5 x0 x1 x2 x3 x4 x5 x6 x7 x8 x9 y0 y1 y2 y3 y4 y5 y6 y7 y8 y9
        obtain ⟨y0, y1, y2, y3, y4, y5, y6, y7, y8, y9, x0, x1, x2, x3, x4, x5, x6, x7, x8, x9⟩ := H6.out.cells
        go_wp2_with fail
        (with_reducible refine (YB.out _).mono ?_)
        rintro e w7 ⟨rfl, b7⟩
        have H7 := Lib.hid (H6.out.call b7)
        clear b7 YB H6 x0 x1 x2 x3 x4 x5 x6 x7 x8 x9 y0 y1 y2 y3 y4 y5 y6 y7 y8 y9
        obtain ⟨y0, y1, y2, y3, y4, y5, y6, y7, y8, y9, x0, x1, x2, x3, x4, x5, x6, x7, x8, x9⟩ := H7.out.cells
        go_wp2
        go_ret
        exact ⟨rfl, H7.out.bx.bl⟩
      · rw [decide_eq_false hab] at EQ
        have ne : ((mkB (encO (bareR o))).toList == (mkB (encO (bareR p))).toList) = false := by
          rw [toList_mkB, toList_mkB]
          simpa using fun h => hab (encO_inj ha hb h)
        have ne2 : ¬ (mkB (encO (bareR o))).toList = (mkB (encO (bareR p))).toList := by simpa using ne
        clear ha hb hab
        generalize mkB (encO (bareR o)) = s1 at *
        generalize mkB (encO (bareR p)) = s2 at *
        generalize bareR o = b at *
        generalize bareR p = d' at *
        obtain ⟨k, ⟨i, c, d, t, m⟩, s, id, cc, mo⟩ := o
        obtain ⟨pk, ⟨pi, pc, pd, pt, pm⟩, ps, pid, pcc, pmo⟩ := p
        obtain ⟨bk, ⟨bi, bc, bd, bt, bm⟩, bs, bid, bcc, bmo⟩ := b
        obtain ⟨dk, ⟨di, dc, dd, dt, dm⟩, ds, did, dcc, dmo⟩ := d'
        simp only [Od.v, Od.cs] at *
        obtain ⟨y0, y1, y2, y3, y4, y5, y6, y7, y8, y9, x0, x1, x2, x3, x4, x5, x6, x7, x8, x9⟩ := H0.out.cells
        go_enter Try.func6, Try.ntmps6
        go_wp2_with fail
        (with_reducible refine (AW.out _).mono ?_)
        rintro e w1 ⟨rfl, b1⟩
        have H1 := Lib.hid (H0.out.call b1)
        clear b1 AW H0 x0 x1 x2 x3 x4 x5 x6 x7 x8 x9 y0 y1 y2 y3 y4 y5 y6 y7 y8 y9
        obtain ⟨y0, y1, y2, y3, y4, y5, y6, y7, y8, y9, x0, x1, x2, x3, x4, x5, x6, x7, x8, x9⟩ := H1.out.cells
        go_wp2_with fail
        (with_reducible refine (RA.out _).mono ?_)
        rintro e w2 ⟨rfl, b2⟩
        have G2 := Lib.hid (bx_at (H1.out.call b2).bx.bl #[.int .i64 bk, .int .i64 bi, .int .i64 bc, .int .i64 bd, .int .i64 bt, .int .i64 bm, .bool bs, .int .i64 bid, .int .i64 bcc, .int .i64 bmo])
        have H2 := Lib.hid ((H1.out.call b2).swap.alloc (.cells #[.int .i64 bk, .int .i64 bi, .int .i64 bc, .int .i64 bd, .int .i64 bt, .int .i64 bm, .bool bs, .int .i64 bid, .int .i64 bcc, .int .i64 bmo] 25))
        have n2 : w.heap.size + 1 ≠ w2.heap.size := by have := lt_of_heap (H1.out.call b2).at_; omega
        clear b2 RA H1 x0 x1 x2 x3 x4 x5 x6 x7 x8 x9 y0 y1 y2 y3 y4 y5 y6 y7 y8 y9
        obtain ⟨x0, x1, x2, x3, x4, x5, x6, x7, x8, x9⟩ := H2.out.c10
        go_wp2_with fail
        (with_reducible refine (RB.out _).mono ?_)
        rintro e w3 ⟨rfl, b3⟩
        have H3 := Lib.hid (b2_new (G2.out.call b3) #[.int .i64 dk, .int .i64 di, .int .i64 dc, .int .i64 dd, .int .i64 dt, .int .i64 dm, .bool ds, .int .i64 did, .int .i64 dcc, .int .i64 dmo])
        clear b3 RB H2 G2 n2 x0 x1 x2 x3 x4 x5 x6 x7 x8 x9
        obtain ⟨y0, y1, y2, y3, y4, y5, y6, y7, y8, y9, x0, x1, x2, x3, x4, x5, x6, x7, x8, x9⟩ := H3.out.cells
        go_wp2_with fail
        (with_reducible refine (CA.out _).mono ?_)
        rintro e w4 ⟨rfl, b4⟩
        have H4 := Lib.hid (H3.out.call b4)
        clear b4 CA H3 x0 x1 x2 x3 x4 x5 x6 x7 x8 x9 y0 y1 y2 y3 y4 y5 y6 y7 y8 y9
        obtain ⟨y0, y1, y2, y3, y4, y5, y6, y7, y8, y9, x0, x1, x2, x3, x4, x5, x6, x7, x8, x9⟩ := H4.out.cells
        go_wp2_with fail
        (with_reducible refine (CB.out _).mono ?_)
        rintro e w5 ⟨rfl, b5⟩
        have H5 := Lib.hid (H4.out.call b5)
        clear b5 CB H4 x0 x1 x2 x3 x4 x5 x6 x7 x8 x9 y0 y1 y2 y3 y4 y5 y6 y7 y8 y9
        obtain ⟨y0, y1, y2, y3, y4, y5, y6, y7, y8, y9, x0, x1, x2, x3, x4, x5, x6, x7, x8, x9⟩ := H5.out.cells
        go_wp2_with fail
        (with_reducible refine (YA.out _).mono ?_)
        rintro e w6 ⟨rfl, b6⟩
        have H6 := Lib.hid (H5.out.call b6)
        clear b6 YA H5 x0 x1 x2 x3 x4 x5 x6 x7 x8 x9 y0 y1 y2 y3 y4 y5 y6 y7 y8 y9
        obtain ⟨y0, y1, y2, y3, y4, y5, y6, y7, y8, y9, x0, x1, x2, x3, x4, x5, x6, x7, x8, x9⟩ := H6.out.cells
        go_wp2_with fail
        (with_reducible refine (YB.out _).mono ?_)
        rintro e w7 ⟨rfl, b7⟩
        have H7 := Lib.hid (H6.out.call b7)
        clear b7 YB H6 x0 x1 x2 x3 x4 x5 x6 x7 x8 x9 y0 y1 y2 y3 y4 y5 y6 y7 y8 y9
        obtain ⟨y0, y1, y2, y3, y4, y5, y6, y7, y8, y9, x0, x1, x2, x3, x4, x5, x6, x7, x8, x9⟩ := H7.out.cells
        go_wp2
        go_ret
        exact ⟨rfl, H7.out.bx.bl⟩

set_option maxRecDepth 100000 in
set_option maxHeartbeats 1600000 in
theorem lifted (os : Os) (started : os.Started) (H : Type) (enc : TypeId × Value → H) :
    ReturnsInHanded {} Try.checked os 6 .any (Rows.opsOneSpec.pre6 enc Try.prog Try.f6 Rows.opsOneRow.domain false) (Rows.opsOneSpec.post enc Try.prog Try.f6 false true false false) := by
  refine returnsInHanded_of_change (C := Try.checked) own started (by kernel_rfl) Try.func6
    (ChangeSpec.witness6 (enc := enc) (C := Try.checked) false ⟨#[], #[.agg #[.int .i64 0, .int .i64 0, .int .i64 0, .int .i64 0, .int .i64 0, .int .i64 0, .bool false, .int .i64 0, .int .i64 0, .int .i64 0], .agg #[.int .i64 0, .int .i64 0, .int .i64 0, .int .i64 0, .int .i64 0, .int .i64 0, .bool false, .int .i64 0, .int .i64 0, .int .i64 0]], []⟩ 8 (by kernel_rfl) (by kernel_rfl) (by kernel_rfl) (by kernel_rfl)) ?_
  intro W base args ds gs before hval0 hW hcnd _
  have hval : ∀ (j : Nat) t v, Try.f6.params[j]? = some t → args[j]? = some v → Value.okWide Try.prog W .any base t v := hval0
  have hW' := hW
  obtain ⟨p, q, hA0, hV, rfl, hfz, hnd⟩ := hW
  have hA : DataW.TrodAll enc Try.prog W 0 (fun _ => true) true Try.f6.params.toList args.toList ds p := hA0
  rw [Try.params6] at hA hval
  obtain ⟨v0, vs0, d0, ds0, p0, q0, hargs, rfl, rfl, h0, r0⟩ := trodAll_cons hA
  obtain ⟨v1, vs1, d1, ds1, p1, q1, rfl, rfl, rfl, h1, r1⟩ := trodAll_cons r0
  obtain ⟨rfl, rfl, rfl⟩ := trodAll_nil r1
  obtain rfl : args = #[v0, v1] := by cases args; simp_all
  obtain ⟨rfl, rfl⟩ := trodVars_none hV
  have lt0 : ∀ x ∈ p0, x.block < W.heap.size := by obtain ⟨m, hm⟩ := h0; exact DataW.trod_lt m _ _ _ hm
  obtain ⟨o, rfl, oko⟩ := open_op (hval 0 25 v0 rfl rfl) h0
  have lt1 : ∀ x ∈ p1, x.block < W.heap.size := by obtain ⟨m, hm⟩ := h1; exact DataW.trod_lt m _ _ _ hm
  obtain ⟨p, rfl, okp⟩ := open_op (hval 1 25 v1 rfl rfl) h1
  clear hA0 hval0
  refine (walk o p W).mono fun e W' ⟨he, bel⟩ => ?_
  subst he
  exact ⟨_, rfl, _, _, _, [], _, [], hW', trodAll_mk1 (shut_bool Try.underlying4 _), (trodAll_cons_mk (Below.trod laidOut (by kernel_rfl) (of_decide_eq_true (by kernel_rfl)) h0 bel lt0) (trodAll_cons_mk (Below.trod laidOut (by kernel_rfl) (of_decide_eq_true (by kernel_rfl)) h1 bel lt1) trodAll_mk0)), rfl, bel.frame _, fun h => by cases h⟩

theorem proved : Rows.OpsOneSaid :=
  OpenClaim.holds_of_wide 6 Try.f6 rfl rfl rfl rfl rfl rfl rfl ⟨rfl, rfl, rfl, rfl, rfl⟩ rfl rfl rfl rfl rfl (by kernel_rfl) Try.func6 (by kernel_rfl)
    (of_decide_eq_true (by kernel_rfl)) (by unfold Func.isWrapper; first | (rw [if_pos (by decide +kernel)]; kernel_rfl) | (rw [if_neg (by decide +kernel)]; exact ⟨rfl, rfl⟩))
    (fun os started H enc _ => lifted os started H enc)
#print axioms proved
end Go.Proofs.Yticehebgkehipaa.opsOne
