/- horariumlaw15.JudgeTells answers true at every row of numbers, every number and every row of extra ones: sets are judged as the document says. No condition. -/
import Derived.Test.YtgbnoifaknlkhaaJuS
import Derived.Test.YtgbnoifaknlkhaaJuO
namespace Go.Proofs.Ytgbnoifaknlkhaa.judgeTells
open Go.ChangeShapes Go.WideShapes Go.ChangeAt Go.RowKit Go.Joins
set_option maxRecDepth 100000
set_option linter.unusedVariables false
set_option linter.unusedSimpArgs false
open Tb
open Ju
open Pm (Tk)
open Ox (Od tk0)
open Ge (Seen Row)

set_option maxRecDepth 100000 in
set_option maxHeartbeats 16000000 in
theorem walk (l : List Nm) (lo : Option Addr) (lc : Nat) (o : Nm) (x : List Nm) (xo : Option Addr) (xc : Nat) (w : World) (hl : l.length ≤ 9223372036854775807) (hL : Seen Nm.cs 7 lo l w) (hx : x.length ≤ 9223372036854775807) (hX : Seen Nm.cs 7 xo x w) :
    Calls Try.prog 3 #[.slice lo l.length lc, o.v, .slice xo x.length xc] w fun e w' => e = .returned (.bool true) ∧ Below w.heap.size w w' := by
  have AW := Lib.hid awake_any
  have MF : Hid (∀ W, Below w.heap.size w W → Calls Try.prog 10 #[.slice lo l.length lc, .bool false] W fun e w' => ∃ v, e = .returned v ∧ Tb.Told v (madeT false l) w' ∧ Below W.heap.size W w') := Lib.hid (fun W hb => made_false_any l lo lc W (hL.below hb (Nat.le_refl _)) hl)
  have MT : Hid (∀ W, Below w.heap.size w W → Calls Try.prog 10 #[.slice lo l.length lc, .bool true] W fun e w' => ∃ v, e = .returned v ∧ Tb.Told v (madeT true l) w' ∧ Below W.heap.size W w') := Lib.hid (fun W hb => made_true_any l lo lc W (hL.below hb (Nat.le_refl _)) hl)
  have OP := Lib.hid (op_any o)
  have TS : Hid (∀ W, Below w.heap.size w W → Calls Try.prog 12 #[.slice xo x.length xc] W fun e w' => ∃ p c, e = .returned (.slice p (tasksR x).length c) ∧ Seen tcs 5 p (tasksR x) w' ∧ Below W.heap.size W w') := Lib.hid (fun W hb => (tasks_any x xo xc W (hX.below hb (Nat.le_refl _)) hx).mono fun e w' ⟨v, he, hr, hb⟩ => by
    obtain ⟨o', c', rfl, -, hs, -⟩ := Row.form tcs_len hr
    exact ⟨o', c', he, hs, hb⟩)
  have TF : Hid (∀ W a c p d, Sl (.slice a (madeT false l).rows.length c) (madeT false l).rows W a c → Seen tcs 5 p (tasksR x) W → Calls Try.prog 9 #[tv a (madeT false l).rows.length c (madeT false l).mode, (opR o).v, .slice p (tasksR x).length d] W fun e w' => e = .returned (.bool true) ∧ Below W.heap.size W w') := Lib.hid (fun W a c p d h1 h2 => tells_any _ (opR o) _ a c p d W h1 (by have := (chkT_iff.1 (made_chk false l)).2.2.1; omega) h2 (by have := tasksR_len x; omega))
  have TT : Hid (∀ W a c p d, Sl (.slice a (madeT true l).rows.length c) (madeT true l).rows W a c → Seen tcs 5 p (tasksR x) W → Calls Try.prog 9 #[tv a (madeT true l).rows.length c (madeT true l).mode, (opR o).v, .slice p (tasksR x).length d] W fun e w' => e = .returned (.bool true) ∧ Below W.heap.size W w') := Lib.hid (fun W a c p d h1 h2 => tells_any _ (opR o) _ a c p d W h1 (by have := (chkT_iff.1 (made_chk true l)).2.2.1; omega) h2 (by have := tasksR_len x; omega))
  have TN : Hid (∀ W a c, Sl (.slice a (madeT true l).rows.length c) (madeT true l).rows W a c → Calls Try.prog 9 #[tv a (madeT true l).rows.length c (madeT true l).mode, (opR o).v, .slice none 0 0] W fun e w' => e = .returned (.bool true) ∧ Below W.heap.size W w') := Lib.hid (fun W a c h1 => tells_any _ (opR o) [] a c none 0 W h1 (by have := (chkT_iff.1 (made_chk true l)).2.2.1; omega) (Ge.seen_nil _ _) (by simp))
  have TZ : Hid (∀ W, Calls Try.prog 9 #[.agg #[.slice none 0 0, .int .i64 o.id], (opR o).v, .slice none 0 0] W fun e w' => e = .returned (.bool true) ∧ Below W.heap.size W w') := Lib.hid (fun W => tells_any ⟨[], o.id⟩ (opR o) [] none 0 none 0 W ⟨rfl, Nat.le_refl _, fun _ => rfl, Ge.seen_nil _ _⟩ (by simp) (Ge.seen_nil _ _) (by simp))
  have H0 := Lib.hid ((bos_nil w).new o.cs.toArray 24)
  generalize madeT false l = A at *
  generalize madeT true l = B at *
  generalize opR o = y at *
  generalize (tasksR x).length = tn at *
  generalize tasksR x = tr at *
  generalize l.length = n at *
  generalize x.length = xn at *
  obtain ⟨nk, ni, nc, nd, nt, nm, ns⟩ := o
  obtain ⟨yk, ⟨yi, yc, yd, yt, ym⟩, ys, yid, ycc, ymo⟩ := y
  unfold tv Od.v Od.cs Nm.v Nm.cs at *
  simp only at *
  clear hL hX
  go_enter Try.func3, Try.ntmps3
  go_wp2_with fail
  (with_reducible refine (AW.out _).mono ?_)
  rintro e w1 ⟨rfl, b1⟩
  have HX := Lib.hid (H0.out.call b1).drew
  clear b1 AW H0
  go_wp2_with fail
  refine wp_region_held_drew (S := (fun W' => W'.cell? ⟨w.heap.size, 0, none⟩ = some (.int .i64 nk) ∧ W'.cell? ⟨w.heap.size, 1, none⟩ = some (.int .i64 ni) ∧ W'.cell? ⟨w.heap.size, 2, none⟩ = some (.int .i64 nc) ∧ W'.cell? ⟨w.heap.size, 3, none⟩ = some (.int .i64 nd) ∧ W'.cell? ⟨w.heap.size, 4, none⟩ = some (.int .i64 nt) ∧ W'.cell? ⟨w.heap.size, 5, none⟩ = some (.int .i64 nm) ∧ W'.cell? ⟨w.heap.size, 6, none⟩ = some (.bool ns))) (by kernel_rfl) (cell7 (HX.out.cell 0 rfl)) (fun hHeld => ?_)
  refine Gh.tk 0 ?_
  refine Gh.tk 1 ?_
  refine Gh.tk 2 ?_
  refine Gh.tk 4 ?_
  refine Gh.tk 6 ?_
  refine Gh.rd 3 (fun K hK => ?_)
  go_simp
  (with_reducible refine (MF.out _ HX.out.bl).mono ?_)
  rintro e x1 ⟨v, rfl, ⟨a1, c1, rfl, s1⟩, b1⟩
  have HX := Lib.hid (HX.out.call b1)
  have S1 := Lib.hid s1
  clear s1
  unfold tv
  clear b1
  go_simp
  refine hK.out _ _ (cell7 (HX.out.cell 0 rfl)) (fun hHeld => ?_)
  clear hK K
  refine Gh.pt ?_
  refine Gh.rd 5 (fun K hK => ?_)
  go_simp
  (with_reducible refine (OP.out _).mono ?_)
  rintro e x2 ⟨rfl, b1⟩
  have HX := Lib.hid (HX.out.call b1)
  have S1 := Lib.hid (S1.out.call b1)
  clear b1
  go_simp
  refine hK.out _ _ (cell7 (HX.out.cell 0 rfl)) (fun hHeld => ?_)
  clear hK K
  refine Gh.pt ?_
  refine Gh.rd 7 (fun K hK => ?_)
  go_simp
  (with_reducible refine (TS.out _ HX.out.bl).mono ?_)
  rintro e x3 ⟨p1, d1, rfl, sp, b1⟩
  have HX := Lib.hid (HX.out.call b1)
  have S1 := Lib.hid (S1.out.call b1)
  have SP := Lib.hid sp
  clear sp
  clear b1
  go_simp
  refine hK.out _ _ (cell7 (HX.out.cell 0 rfl)) (fun hHeld => ?_)
  clear hK K
  refine Gh.pt ?_
  refine Gh.rd 8 (fun K hK => ?_)
  go_simp
  (with_reducible refine (TF.out _ _ _ _ _ S1.out SP.out).mono ?_)
  rintro e x4 ⟨rfl, b1⟩
  have HX := Lib.hid (HX.out.call b1)
  clear b1
  go_simp
  refine hK.out _ _ (cell7 (HX.out.cell 0 rfl)) (fun hHeld => ?_)
  clear hK K
  refine Gh.pt ?_
  refine Gh.tk 9 ?_
  refine Gh.tk 10 ?_
  refine Gh.tk 11 ?_
  refine Gh.tk 13 ?_
  refine Gh.tk 15 ?_
  refine Gh.rd 12 (fun K hK => ?_)
  go_simp
  (with_reducible refine (MT.out _ HX.out.bl).mono ?_)
  rintro e x5 ⟨v, rfl, ⟨a1, c1, rfl, s1⟩, b1⟩
  have HX := Lib.hid (HX.out.call b1)
  have S1 := Lib.hid s1
  clear s1
  unfold tv
  clear b1
  go_simp
  refine hK.out _ _ (cell7 (HX.out.cell 0 rfl)) (fun hHeld => ?_)
  clear hK K
  refine Gh.pt ?_
  refine Gh.rd 14 (fun K hK => ?_)
  go_simp
  (with_reducible refine (OP.out _).mono ?_)
  rintro e x6 ⟨rfl, b1⟩
  have HX := Lib.hid (HX.out.call b1)
  have S1 := Lib.hid (S1.out.call b1)
  clear b1
  go_simp
  refine hK.out _ _ (cell7 (HX.out.cell 0 rfl)) (fun hHeld => ?_)
  clear hK K
  refine Gh.pt ?_
  refine Gh.rd 16 (fun K hK => ?_)
  go_simp
  (with_reducible refine (TS.out _ HX.out.bl).mono ?_)
  rintro e x7 ⟨p1, d1, rfl, sp, b1⟩
  have HX := Lib.hid (HX.out.call b1)
  have S1 := Lib.hid (S1.out.call b1)
  have SP := Lib.hid sp
  clear sp
  clear b1
  go_simp
  refine hK.out _ _ (cell7 (HX.out.cell 0 rfl)) (fun hHeld => ?_)
  clear hK K
  refine Gh.pt ?_
  refine Gh.rd 17 (fun K hK => ?_)
  go_simp
  (with_reducible refine (TT.out _ _ _ _ _ S1.out SP.out).mono ?_)
  rintro e x8 ⟨rfl, b1⟩
  have HX := Lib.hid (HX.out.call b1)
  clear b1
  go_simp
  refine hK.out _ _ (cell7 (HX.out.cell 0 rfl)) (fun hHeld => ?_)
  clear hK K
  refine Gh.pt ?_
  refine Gh.tk 18 ?_
  refine Gh.tk 19 ?_
  refine Gh.tk 20 ?_
  refine Gh.tk 22 ?_
  refine Gh.rd 21 (fun K hK => ?_)
  go_simp
  (with_reducible refine (MT.out _ HX.out.bl).mono ?_)
  rintro e x9 ⟨v, rfl, ⟨a1, c1, rfl, s1⟩, b1⟩
  have HX := Lib.hid (HX.out.call b1)
  have S1 := Lib.hid s1
  clear s1
  unfold tv
  clear b1
  go_simp
  refine hK.out _ _ (cell7 (HX.out.cell 0 rfl)) (fun hHeld => ?_)
  clear hK K
  refine Gh.pt ?_
  refine Gh.rd 23 (fun K hK => ?_)
  go_simp
  (with_reducible refine (OP.out _).mono ?_)
  rintro e x10 ⟨rfl, b1⟩
  have HX := Lib.hid (HX.out.call b1)
  have S1 := Lib.hid (S1.out.call b1)
  clear b1
  go_simp
  refine hK.out _ _ (cell7 (HX.out.cell 0 rfl)) (fun hHeld => ?_)
  clear hK K
  refine Gh.pt ?_
  refine Gh.rd 24 (fun K hK => ?_)
  go_simp
  (with_reducible refine (TN.out _ _ _ S1.out).mono ?_)
  rintro e x11 ⟨rfl, b1⟩
  have HX := Lib.hid (HX.out.call b1)
  clear b1
  go_simp
  refine hK.out _ _ (cell7 (HX.out.cell 0 rfl)) (fun hHeld => ?_)
  clear hK K
  refine Gh.pt ?_
  refine Gh.tk 25 ?_
  refine Gh.tk 26 ?_
  refine Gh.tk 27 ?_
  refine Gh.tk 28 ?_
  refine Gh.tk 29 ?_
  refine Gh.tk 30 ?_
  refine Gh.rd 31 (fun K hK => ?_)
  go_simp
  (with_reducible refine (OP.out _).mono ?_)
  rintro e x12 ⟨rfl, b1⟩
  have HX := Lib.hid (HX.out.call b1)
  clear b1
  go_simp
  refine hK.out _ _ (cell7 (HX.out.cell 0 rfl)) (fun hHeld => ?_)
  clear hK K
  refine Gh.pt ?_
  refine Gh.rd 32 (fun K hK => ?_)
  go_simp
  (with_reducible refine (TZ.out _).mono ?_)
  rintro e x13 ⟨rfl, b1⟩
  have HX := Lib.hid (HX.out.call b1)
  clear b1
  go_simp
  refine hK.out _ _ (cell7 (HX.out.cell 0 rfl)) (fun hHeld => ?_)
  clear hK K
  refine Gh.pt ?_
  refine Gh.tk 33 ?_
  refine Gh.tk 34 ?_
  refine wpAnyH_done (by kernel_rfl) ?_ _
  go_wp2
  go_ret
  exact ⟨rfl, HX.out.bl⟩

set_option maxRecDepth 100000 in
set_option maxHeartbeats 1600000 in
theorem lifted (os : Os) (started : os.Started) (H : Type) (enc : TypeId × Value → H) :
    ReturnsInHanded {} Try.checked os 3 .any (Rows.judgeTellsSpec.pre6 enc Try.prog Try.f3 Rows.judgeTellsRow.domain false) (Rows.judgeTellsSpec.post enc Try.prog Try.f3 false true false false) := by
  refine returnsInHanded_of_change (C := Try.checked) own started (by kernel_rfl) Try.func3
    (ChangeSpec.witness6 (enc := enc) (C := Try.checked) false ⟨#[], #[.slice none 0 0, .agg #[.int .i64 0, .int .i64 0, .int .i64 0, .int .i64 0, .int .i64 0, .int .i64 0, .bool false], .slice none 0 0], []⟩ 8 (by kernel_rfl) (by kernel_rfl) (by kernel_rfl) (by kernel_rfl)) ?_
  intro W base args ds gs before hval0 hW hcnd _
  have hval : ∀ (j : Nat) t v, Try.f3.params[j]? = some t → args[j]? = some v → Value.okWide Try.prog W .any base t v := hval0
  have hW' := hW
  obtain ⟨p, q, hA0, hV, rfl, hfz, hnd⟩ := hW
  have hA : DataW.TrodAll enc Try.prog W 0 (fun _ => true) true Try.f3.params.toList args.toList ds p := hA0
  rw [Try.params3] at hA hval
  obtain ⟨v0, vs0, d0, ds0, p0, q0, hargs, rfl, rfl, h0, r0⟩ := trodAll_cons hA
  obtain ⟨v1, vs1, d1, ds1, p1, q1, rfl, rfl, rfl, h1, r1⟩ := trodAll_cons r0
  obtain ⟨v2, vs2, d2, ds2, p2, q2, rfl, rfl, rfl, h2, r2⟩ := trodAll_cons r1
  obtain ⟨rfl, rfl, rfl⟩ := trodAll_nil r2
  obtain rfl : args = #[v0, v1, v2] := by cases args; simp_all
  obtain ⟨rfl, rfl⟩ := trodVars_none hV
  have lt0 : ∀ x ∈ p0, x.block < W.heap.size := by obtain ⟨m, hm⟩ := h0; exact DataW.trod_lt m _ _ _ hm
  obtain ⟨lo, l, lc, rfl, ll, lm, ls⟩ := open_nms (hval 0 22 v0 rfl rfl) h0
  have lt1 : ∀ x ∈ p1, x.block < W.heap.size := by obtain ⟨m, hm⟩ := h1; exact DataW.trod_lt m _ _ _ hm
  obtain ⟨o, rfl, oko⟩ := open_nm (hval 1 24 v1 rfl rfl) h1
  have lt2 : ∀ x ∈ p2, x.block < W.heap.size := by obtain ⟨m, hm⟩ := h2; exact DataW.trod_lt m _ _ _ hm
  obtain ⟨xo, x, xc, rfl, xl, xm, xs⟩ := open_nms (hval 2 22 v2 rfl rfl) h2
  clear hA0 hval0
  refine (walk l lo lc o x xo xc W ll ls xl xs).mono fun e W' ⟨he, bel⟩ => ?_
  subst he
  exact ⟨_, rfl, _, _, _, [], _, [], hW', trodAll_mk1 (shut_bool Try.underlying4 _), (trodAll_cons_mk (Below.trod laidOut (by kernel_rfl) (of_decide_eq_true (by kernel_rfl)) h0 bel lt0) (trodAll_cons_mk (Below.trod laidOut (by kernel_rfl) (of_decide_eq_true (by kernel_rfl)) h1 bel lt1) (trodAll_cons_mk (Below.trod laidOut (by kernel_rfl) (of_decide_eq_true (by kernel_rfl)) h2 bel lt2) trodAll_mk0))), rfl, bel.frame _, fun h => by cases h⟩

theorem proved : Rows.JudgeTellsSaid :=
  OpenClaim.holds_of_wide 3 Try.f3 rfl rfl rfl rfl rfl rfl rfl ⟨rfl, rfl, rfl, rfl, rfl⟩ rfl rfl rfl rfl rfl (by kernel_rfl) Try.func3 (by kernel_rfl)
    (of_decide_eq_true (by kernel_rfl)) (by unfold Func.isWrapper; first | (rw [if_pos (by decide +kernel)]; kernel_rfl) | (rw [if_neg (by decide +kernel)]; exact ⟨rfl, rfl⟩))
    (fun os started H enc _ => lifted os started H enc)
#print axioms proved
end Go.Proofs.Ytgbnoifaknlkhaa.judgeTells
