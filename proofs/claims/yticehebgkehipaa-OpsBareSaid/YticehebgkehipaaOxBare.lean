/- horariumlaw13.OpsBare answers true at every op: what is bare is so again, and of the same kind; what may be is bare. No condition. -/
import Derived.Test.YticehebgkehipaaOpW
import Derived.Test.YticehebgkehipaaOcG
import Derived.Deep.DeepCutAuto
import Derived.Deep.RegionHeld3
import Derived.Deep.RegionWith
import Derived.BigQuiet
namespace Go.Proofs.Yticehebgkehipaa.opsBare
open Go.ChangeShapes Go.WideShapes Go.ChangeAt Go.RowKit Go.Joins
open Oc
set_option maxRecDepth 100000
set_option linter.unusedVariables false
set_option linter.unusedSimpArgs false
open Pm Ox
/-- two ops in their boxes, behind calls -/
structure Bb (p q : Nat) (cs ds : Array Value) (w W : World) : Prop where
  bx : Bx p cs w W
  at_ : W.heap[q]? = some (.cells ds 25 (0, 0))
theorem Bb.call {p q : Nat} {cs ds : Array Value} {w W W' : World} (h : Bb p q cs ds w W) (hb : Below W.heap.size W W') : Bb p q cs ds w W' := ⟨h.bx.call hb, (hb.block q (Oc.lt_of_heap h.at_)).trans h.at_⟩
theorem bb_new {p : Nat} {cs : Array Value} {w W : World} (h : Bx p cs w W) (ds : Array Value) : Bb p W.heap.size cs ds w (W.alloc (.cells ds 25)) := ⟨h.call ((Below.refl _ _).alloc (Nat.le_refl _) _), heap_alloc_new _ _⟩
theorem Bb.cq {p q : Nat} {cs ds : Array Value} {w W : World} (h : Bb p q cs ds w W) (o : Nat) : W.cell? ⟨q, o, none⟩ = ds[o]? := by rw [Lib.cell_of_heap h.at_]
theorem Bb.cells {p q : Nat} {a0 a1 a2 a3 a4 a5 a6 a7 a8 a9 d0 d1 d2 d3 d4 d5 d6 d7 d8 d9 : Value} {w W : World} (h : Bb p q #[a0, a1, a2, a3, a4, a5, a6, a7, a8, a9] #[d0, d1, d2, d3, d4, d5, d6, d7, d8, d9] w W) : W.cell? ⟨q, 0, none⟩ = some d0 ∧ W.cell? ⟨q, 1, none⟩ = some d1 ∧ W.cell? ⟨q, 2, none⟩ = some d2 ∧ W.cell? ⟨q, 3, none⟩ = some d3 ∧ W.cell? ⟨q, 4, none⟩ = some d4 ∧ W.cell? ⟨q, 5, none⟩ = some d5 ∧ W.cell? ⟨q, 6, none⟩ = some d6 ∧ W.cell? ⟨q, 7, none⟩ = some d7 ∧ W.cell? ⟨q, 8, none⟩ = some d8 ∧ W.cell? ⟨q, 9, none⟩ = some d9 ∧ W.cell? ⟨p, 0, none⟩ = some a0 ∧ W.cell? ⟨p, 1, none⟩ = some a1 ∧ W.cell? ⟨p, 2, none⟩ = some a2 ∧ W.cell? ⟨p, 3, none⟩ = some a3 ∧ W.cell? ⟨p, 4, none⟩ = some a4 ∧ W.cell? ⟨p, 5, none⟩ = some a5 ∧ W.cell? ⟨p, 6, none⟩ = some a6 ∧ W.cell? ⟨p, 7, none⟩ = some a7 ∧ W.cell? ⟨p, 8, none⟩ = some a8 ∧ W.cell? ⟨p, 9, none⟩ = some a9 :=
  ⟨h.cq 0, h.cq 1, h.cq 2, h.cq 3, h.cq 4, h.cq 5, h.cq 6, h.cq 7, h.cq 8, h.cq 9, h.bx.cell 0, h.bx.cell 1, h.bx.cell 2, h.bx.cell 3, h.bx.cell 4, h.bx.cell 5, h.bx.cell 6, h.bx.cell 7, h.bx.cell 8, h.bx.cell 9⟩

set_option maxRecDepth 100000 in
set_option maxHeartbeats 8000000 in
theorem walk (o : Od) (w : World) :
    Calls Try.prog 7 #[o.v] w fun e w' => e = .returned (.bool true) ∧ Below w.heap.size w w' := by
  have AW := Lib.hid awake_any
  have BO := Lib.hid (bare_any o)
  have BB := Lib.hid (bare_any (bareR o))
  rw [bare_bare] at BB
  have CK := Lib.hid (check_any o)
  have EB := eql_op (bareR o) (bareR o)
  rw [decide_eq_true rfl] at EB
  have ek := bare_kind o
  have EQ : Hid (chkR o = true → ∀ w, (binOp .eql 25 (bareR o).v o.v).run Try.prog w = .ok (.bool true) w) := Lib.hid (fun h w => by
    have := eql_op (bareR o) o w
    rwa [decide_eq_true (chk_bare h)] at this)
  have H0 := Lib.hid (bx_new w o.cs)
  generalize chkR o = q at *
  generalize bareR o = b at *
  obtain ⟨k, ⟨i, c, d, t, m⟩, s, id, cc, mo⟩ := o
  obtain ⟨bk, ⟨bi, bc, bd, bt, bm⟩, bs, bid, bcc, bmo⟩ := b
  simp only [Od.v, Od.cs] at *
  subst ek
  go_enter Try.func7, Try.ntmps7
  go_wp2_with fail
  (with_reducible refine (AW.out _).mono ?_)
  rintro e w1 ⟨rfl, b1⟩
  have H1 := Lib.hid (H0.out.call b1)
  obtain ⟨a0, a1, a2, a3, a4, a5, a6, a7, a8, a9⟩ := cons10 H1.out.cell
  clear b1 AW H0
  go_wp2_with fail
  (with_reducible refine (BO.out _).mono ?_)
  rintro e w2 ⟨rfl, b2⟩
  have H2 := Lib.hid (bb_new (H1.out.call b2) #[.int .i64 bk, .int .i64 bi, .int .i64 bc, .int .i64 bd, .int .i64 bt, .int .i64 bm, .bool bs, .int .i64 bid, .int .i64 bcc, .int .i64 bmo])
  have D2 := Lib.hid (H2.out.call (Below.refl _ _).drew)
  have K2 := Lib.hid H2.out.cells
  have KD := Lib.hid D2.out.cells
  clear b2 BO H1 a0 a1 a2 a3 a4 a5 a6 a7 a8 a9
  cases q with
  | true =>
    have EQ2 := EQ.out rfl
    clear EQ
    go_wp2_with fail
    go_region_held3 (fun w' => w'.cell? ⟨w2.heap.size, 0, none⟩ = some (.int .i64 bk) ∧ w'.cell? ⟨w2.heap.size, 1, none⟩ = some (.int .i64 bi) ∧ w'.cell? ⟨w2.heap.size, 2, none⟩ = some (.int .i64 bc) ∧ w'.cell? ⟨w2.heap.size, 3, none⟩ = some (.int .i64 bd) ∧ w'.cell? ⟨w2.heap.size, 4, none⟩ = some (.int .i64 bt) ∧ w'.cell? ⟨w2.heap.size, 5, none⟩ = some (.int .i64 bm) ∧ w'.cell? ⟨w2.heap.size, 6, none⟩ = some (.bool bs) ∧ w'.cell? ⟨w2.heap.size, 7, none⟩ = some (.int .i64 bid) ∧ w'.cell? ⟨w2.heap.size, 8, none⟩ = some (.int .i64 bcc) ∧ w'.cell? ⟨w2.heap.size, 9, none⟩ = some (.int .i64 bmo) ∧ w'.cell? ⟨w.heap.size, 0, none⟩ = some (.int .i64 bk) ∧ w'.cell? ⟨w.heap.size, 1, none⟩ = some (.int .i64 i) ∧ w'.cell? ⟨w.heap.size, 2, none⟩ = some (.int .i64 c) ∧ w'.cell? ⟨w.heap.size, 3, none⟩ = some (.int .i64 d) ∧ w'.cell? ⟨w.heap.size, 4, none⟩ = some (.int .i64 t) ∧ w'.cell? ⟨w.heap.size, 5, none⟩ = some (.int .i64 m) ∧ w'.cell? ⟨w.heap.size, 6, none⟩ = some (.bool s) ∧ w'.cell? ⟨w.heap.size, 7, none⟩ = some (.int .i64 id) ∧ w'.cell? ⟨w.heap.size, 8, none⟩ = some (.int .i64 cc) ∧ w'.cell? ⟨w.heap.size, 9, none⟩ = some (.int .i64 mo)) (first | exact KD.out | exact K2.out | assumption | fail) (first | (go_at_call 21; (with_reducible refine (BB.out _).mono ?_); rintro e x1 ⟨rfl, b1⟩; (have X1 := Lib.hid (D2.out.call b1)); (have k1 := X1.out.cells); clear b1) | (go_at_call 19; (with_reducible refine (CK.out _).mono ?_); rintro e x2 ⟨rfl, b2⟩; (have X2 := Lib.hid (X1.out.call b2)); (have k2 := X2.out.cells); clear b2) | fail)
    all_goals go_wp2
    all_goals go_ret
    all_goals exact ⟨rfl, X2.out.bx.bl⟩
  | false =>
    clear EQ
    obtain ⟨x0, x1, x2, x3, x4, x5, x6, x7, x8, x9, y0, y1, y2, y3, y4, y5, y6, y7, y8, y9⟩ := K2.out
    go_wp2_with fail
    first | go_region_with (first | (go_at_call 21; (with_reducible refine (BB.out _).mono ?_); rintro e x1 ⟨rfl, b1⟩; (have X1 := Lib.hid (D2.out.call b1)); (obtain ⟨c0, c1, c2, c3, c4, c5, c6, c7, c8, c9, d0, d1, d2, d3, d4, d5, d6, d7, d8, d9⟩ := X1.out.cells); clear b1) | (go_at_call 19; (with_reducible refine (CK.out _).mono ?_); rintro e x2 ⟨rfl, b2⟩; (have X2 := Lib.hid (X1.out.call b2)); (obtain ⟨g0, g1, g2, g3, g4, g5, g6, g7, g8, g9, h0, h1, h2, h3, h4, h5, h6, h7, h8, h9⟩ := X2.out.cells); clear b2)) | fail
    all_goals go_wp2
    all_goals go_ret
    all_goals exact ⟨rfl, X2.out.bx.bl⟩

set_option maxRecDepth 100000 in
set_option maxHeartbeats 1600000 in
theorem lifted (os : Os) (started : os.Started) (H : Type) (enc : TypeId × Value → H) :
    ReturnsInHanded {} Try.checked os 7 .any (Rows.opsBareSpec.pre6 enc Try.prog Try.f7 Rows.opsBareRow.domain false) (Rows.opsBareSpec.post enc Try.prog Try.f7 false true false false) := by
  refine returnsInHanded_of_change (C := Try.checked) own started (by kernel_rfl) Try.func7
    (ChangeSpec.witness6 (enc := enc) (C := Try.checked) false ⟨#[], #[.agg #[.int .i64 0, .int .i64 0, .int .i64 0, .int .i64 0, .int .i64 0, .int .i64 0, .bool false, .int .i64 0, .int .i64 0, .int .i64 0]], []⟩ 8 (by kernel_rfl) (by kernel_rfl) (by kernel_rfl) (by kernel_rfl)) ?_
  intro W base args ds gs before hval0 hW hcnd _
  have hval : ∀ (j : Nat) t v, Try.f7.params[j]? = some t → args[j]? = some v → Value.okWide Try.prog W .any base t v := hval0
  have hW' := hW
  obtain ⟨p, q, hA0, hV, rfl, hfz, hnd⟩ := hW
  have hA : DataW.TrodAll enc Try.prog W 0 (fun _ => true) true Try.f7.params.toList args.toList ds p := hA0
  rw [Try.params7] at hA hval
  obtain ⟨v0, vs0, d0, ds0, p0, q0, hargs, rfl, rfl, h0, r0⟩ := trodAll_cons hA
  obtain ⟨rfl, rfl, rfl⟩ := trodAll_nil r0
  obtain rfl : args = #[v0] := by cases args; simp_all
  obtain ⟨rfl, rfl⟩ := trodVars_none hV
  have lt0 : ∀ x ∈ p0, x.block < W.heap.size := by obtain ⟨m, hm⟩ := h0; exact DataW.trod_lt m _ _ _ hm
  obtain ⟨o, rfl, oko⟩ := open_op (hval 0 25 v0 rfl rfl) h0
  clear hA0 hval0
  refine (walk o W).mono fun e W' ⟨he, bel⟩ => ?_
  subst he
  exact ⟨_, rfl, _, _, _, [], _, [], hW', trodAll_mk1 (shut_bool Try.underlying4 _), (trodAll_cons_mk (Below.trod laidOut (by kernel_rfl) (of_decide_eq_true (by kernel_rfl)) h0 bel lt0) trodAll_mk0), rfl, bel.frame _, fun h => by cases h⟩

theorem proved : Rows.OpsBareSaid :=
  OpenClaim.holds_of_wide 7 Try.f7 rfl rfl rfl rfl rfl rfl rfl ⟨rfl, rfl, rfl, rfl, rfl⟩ rfl rfl rfl rfl rfl (by kernel_rfl) Try.func7 (by kernel_rfl)
    (of_decide_eq_true (by kernel_rfl)) (by unfold Func.isWrapper; first | (rw [if_pos (by decide +kernel)]; kernel_rfl) | (rw [if_neg (by decide +kernel)]; exact ⟨rfl, rfl⟩))
    (fun os started H enc _ => lifted os started H enc)
#print axioms proved
end Go.Proofs.Yticehebgkehipaa.opsBare
