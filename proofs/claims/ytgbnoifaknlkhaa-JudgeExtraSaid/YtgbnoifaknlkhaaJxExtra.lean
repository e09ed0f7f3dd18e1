/- horariumlaw15.JudgeExtra answers true at every row of numbers, every number, and every row of extra ones: what fits with extra tasks fits without them; extra tasks that are gone, and the set that is left, load at least what the set loaded. No condition. -/
import Derived.Test.YtgbnoifaknlkhaaJuS
import Derived.Test.YtgbnoifaknlkhaaJuO
import Derived.Deep.DeepCutAuto
namespace Go.Proofs.Ytgbnoifaknlkhaa.judgeExtra
open Go.ChangeShapes Go.WideShapes Go.ChangeAt Go.RowKit Go.Joins
set_option maxRecDepth 100000
set_option linter.unusedVariables false
set_option linter.unusedSimpArgs false
open Tb
open Ju
open Pm (Tk)
open Ox (Od tk0)
open Ge (Seen Row)
open Qp (testR)
def ExRel (M1 : Tb.Tb) (M2 : Int) (t : Tb.Tb) (p : Nat) (ao : Option Addr) (cap : Nat) (nc : Array Value) (w : World) (s9 s10 : Value) (wx : World) : Prop :=
  ∃ (q : Nat) (a : Option Addr) (c : Nat), s9 = .pointer (some ⟨q, 0, none⟩) ∧ s10 = .int .i64 M2 ∧ Bos [(q, #[.slice a M1.rows.length c, .int .i64 M1.mode], 29), (p, #[.slice ao t.rows.length cap, .int .i64 t.mode], 29), (w.heap.size, nc, 24)] w wx ∧ Sl (.slice a M1.rows.length c) M1.rows wx a c ∧ Sl (.slice ao t.rows.length cap) t.rows wx ao cap
def EyRel (F2 : Int) (L : List (Nat × Array Value × Nat)) (M1 : Tb.Tb) (a : Option Addr) (c : Nat) (t : Tb.Tb) (ao : Option Addr) (cap : Nat) (w : World) (s12 : Value) (wx : World) : Prop :=
  s12 = .int .i64 F2 ∧ Bos L w wx ∧ Sl (.slice a M1.rows.length c) M1.rows wx a c ∧ Sl (.slice ao t.rows.length cap) t.rows wx ao cap
def ErRel (n : Nat) (L : List (Nat × Array Value × Nat)) (w W0 : World) (g : Nat) (s : Value) (wx : World) : Prop :=
  ∃ i : Nat, i + g = n ∧ s = .int .i64 (i : Int) ∧ Bos L w wx ∧ Below W0.heap.size W0 wx
def EbRel (B : Bool) (W : World) (s : Value) (wx : World) : Prop := s = .bool B ∧ wx = W
def EcRel (c : Int) (W : World) (s : Value) (wx : World) : Prop := s = .int .i64 c ∧ wx = W
def EjRel (c0 : Int) (k : Tk) (G : List Tk) (L : List (Nat × Array Value × Nat)) (w W0 : World) (g : Nat) (s19 s16 : Value) (wx : World) : Prop :=
  ∃ j : Nat, j + g = G.length ∧ s19 = .int .i64 (j : Int) ∧ s16 = .int .i64 (c0 + sumG k (G.take j)) ∧ Bos L w wx ∧ Below W0.heap.size W0 wx
theorem sumG_le {k : Tk} : ∀ {l : List Tk}, (∀ g ∈ l, g.c ≤ 2147483648) → sumG k l ≤ l.length * 2147483648 := by
  intro l
  induction l with
  | nil => intro _; simp [sumG]
  | cons g l ih =>
    intro h
    have h1 := h g (by simp)
    have h2 := ih (fun q hq => h q (by simp [hq]))
    rw [sumG, List.length_cons]
    split <;> omega
theorem sumG_take {k : Tk} {l : List Tk} {j : Nat} (h : j < l.length) : sumG k (l.take (j + 1)) = sumG k (l.take j) + (if l[j].id = k.id ∧ l[j].d = k.d ∧ l[j].t = k.t then l[j].c else 0) := by
  rw [List.take_succ_eq_append_getElem h, sumG_app]
  simp [sumG]
theorem left_is {mb : Int} {b : List Rw} {r s : Rw} {th : Bool} (h : findR b r.t.id = (s, th)) : leftR mb b r = if th = true ∧ bt mb s.t = true ∧ s.t.d = r.t.d ∧ s.t.t = r.t.t then s.t.c else 0 := by
  unfold leftR
  rcases find_findR b r.t.id with ⟨h1, h2⟩ | ⟨s', h1, -, h2⟩
  · rw [h1]; rw [h] at h2; cases h2; simp
  · rw [h1]; rw [h] at h2; cases h2; simp
theorem gone_is {a b : Tb.Tb} {g : List Tk} (e : goneR a b = g) (ao : Option Addr) (ac : Nat) (bo : Option Addr) (bc : Nat) (w : World) (hA : Seen Rw.cs 6 ao a.rows w) (hB : Seen Rw.cs 6 bo b.rows w) (h1 : a.rows.length ≤ 1000) (h2 : b.rows.length ≤ 1000) :
    Calls Try.prog 18 #[tv ao a.rows.length ac a.mode, tv bo b.rows.length bc b.mode] w fun e w' => ∃ o c, e = .returned (.slice o g.length c) ∧ Seen tcs 5 o g w' ∧ Below w.heap.size w w' := by
  subst e
  exact (gone_any a b ao ac bo bc w hA hB h1 h2).mono fun e w' ⟨v, he, hr, hb⟩ => by
    obtain ⟨o', c', rfl, -, hs, -⟩ := Row.form tcs_len hr
    exact ⟨o', c', he, hs, hb⟩

set_option maxRecDepth 100000 in
set_option maxHeartbeats 16000000 in
theorem walk (l : List Nm) (lo : Option Addr) (lc : Nat) (o : Nm) (x : List Nm) (xo : Option Addr) (xc : Nat) (w : World) (hl : l.length ≤ 9223372036854775807) (hL : Seen Nm.cs 7 lo l w) (hx : x.length ≤ 9223372036854775807) (hX : Seen Nm.cs 7 xo x w) :
    Calls Try.prog 6 #[.slice lo l.length lc, o.v, .slice xo x.length xc] w fun e w' => e = .returned (.bool true) ∧ Below w.heap.size w w' := by
  have AW := Lib.hid awake_any
  have MT : Hid (∀ W, Below w.heap.size w W → Calls Try.prog 10 #[.slice lo l.length lc, .bool true] W fun e w' => ∃ v, e = .returned v ∧ Tb.Told v (madeT true l) w' ∧ Below W.heap.size W w') := Lib.hid (fun W hb => made_true_any l lo lc W (hL.below hb (Nat.le_refl _)) hl)
  have OP := Lib.hid (op_any o)
  have TS : Hid (∀ W, Below w.heap.size w W → Calls Try.prog 12 #[.slice xo x.length xc] W fun e w' => ∃ p c, e = .returned (.slice p (tasksR x).length c) ∧ Seen tcs 5 p (tasksR x) w' ∧ Below W.heap.size W w') := Lib.hid (fun W hb => (tasks_any x xo xc W (hX.below hb (Nat.le_refl _)) hx).mono fun e w' ⟨v, he, hr, hb⟩ => by
    obtain ⟨o', c', rfl, -, hs, -⟩ := Row.form tcs_len hr
    exact ⟨o', c', he, hs, hb⟩)
  have MX : Hid (∀ W a k p c, Sl (.slice a (madeT true l).rows.length k) (madeT true l).rows W a k → Seen tcs 5 p (tasksR x) W → Calls Try.prog 13 #[tv a (madeT true l).rows.length k (madeT true l).mode, (opR o).v, .slice p (tasksR x).length c] W fun e w' => ∃ v, e = .returned (.tuple #[v, .int .i64 (mayR (madeT true l) (opR o) (tasksR x)).2]) ∧ Tb.Told v (mayR (madeT true l) (opR o) (tasksR x)).1 w' ∧ Below W.heap.size W w') := Lib.hid (fun W a k p c h hs => may_any _ _ (tasksR x) a k p c W h (by have := (chkT_iff.1 (made_chk true l)).2.2.1; omega) hs (by have := tasksR_len x; omega))
  have MN : Hid (∀ W a k, Sl (.slice a (madeT true l).rows.length k) (madeT true l).rows W a k → Calls Try.prog 13 #[tv a (madeT true l).rows.length k (madeT true l).mode, (opR o).v, .slice none 0 0] W fun e w' => ∃ v, e = .returned (.tuple #[v, .int .i64 (mayR (madeT true l) (opR o) []).2]) ∧ Tb.Told v (mayR (madeT true l) (opR o) []).1 w' ∧ Below W.heap.size W w') := Lib.hid (fun W a k h => may_any _ _ [] a k none 0 W h (by have := (chkT_iff.1 (made_chk true l)).2.2.1; omega) (Ge.seen_nil _ _) (by simp))
  have HT : Hid (chkT (madeT true l) = true) := Lib.hid (made_chk true l)
  have EF : Hid ((mayR (madeT true l) (opR o) (tasksR x)).2 = 0 → (mayR (madeT true l) (opR o) []).2 = 0) := Lib.hid (fun h => by rw [may_less h])
  have EX : Hid ((mayR (madeT true l) (opR o) (tasksR x)).2 = 0 → chkT (mayR (madeT true l) (opR o) (tasksR x)).1 = true) := Lib.hid (fun h => (fits_zero.1 (may_fits h)).1)
  have H0 := Lib.hid ((bos_nil w).new o.cs.toArray 24)
  generalize (mayR (madeT true l) (opR o) (tasksR x)) = M at *
  generalize (mayR (madeT true l) (opR o) []) = F at *
  generalize madeT true l = t at *
  generalize opR o = y at *
  generalize (tasksR x).length = tn at *
  generalize tasksR x = tr at *
  generalize l.length = n at *
  generalize x.length = xn at *
  clear hL hX
  obtain ⟨M1, M2⟩ := M
  obtain ⟨F1, F2⟩ := F
  have hl16 := (chkT_iff.1 HT.out).2.2.1
  have hm03 := (chkT_iff.1 HT.out).2.2.2
  obtain ⟨hm0, hm3⟩ := hm03
  have um : IntKind.u64.wrap t.mode = t.mode := IntWalk.u64_in _ (by omega)
  have um2 : t.mode % 18446744073709551616 = t.mode := by omega
  obtain ⟨nk, ni, nc, nd, nt, nm, ns⟩ := o
  obtain ⟨yk, ⟨yi, yc, yd, yt, ym⟩, ys, yid, ycc, ymo⟩ := y
  unfold tv Od.v Od.cs Nm.v Nm.cs at *
  simp only at *
  go_enter Try.func6, Try.ntmps6
  go_wp2_with fail
  (with_reducible refine (AW.out _).mono ?_)
  rintro e w1 ⟨rfl, b1⟩
  have H1 := Lib.hid (H0.out.call b1)
  clear b1 AW H0
  go_wp2_with fail
  (with_reducible refine (MT.out _ H1.out.bl).mono ?_)
  rintro e w2 ⟨v, rfl, ⟨ao, cap, rfl, sl⟩, b2⟩
  unfold tv
  have HX := Lib.hid ((H1.out.call b2).new #[.slice ao t.rows.length cap, .int .i64 t.mode] 29).drew
  have SX := Lib.hid (sl.call ((Below.refl _ _).alloc (Nat.le_refl _) (.cells #[.slice ao t.rows.length cap, .int .i64 t.mode] 29)).drew)
  clear b2 sl MT H1
  go_upto_region 3 with (fail)
  generalize w2.alloc (.cells #[.slice ao t.rows.length cap, .int .i64 t.mode] 29) = W3 at *
  generalize w2.heap.size = p at *
  go_cut [9, 10] (ExRel M1 M2 t p ao cap #[.int .i64 nk, .int .i64 ni, .int .i64 nc, .int .i64 nd, .int .i64 nt, .int .i64 nm, .bool ns] w)
  case first =>
    refine wp_region_held_drew (S := (fun W' => (W'.cell? ⟨p, 0, none⟩ = some (.slice ao t.rows.length cap) ∧ W'.cell? ⟨p, 1, none⟩ = some (.int .i64 t.mode)) ∧ (W'.cell? ⟨w.heap.size, 0, none⟩ = some (.int .i64 nk) ∧ W'.cell? ⟨w.heap.size, 1, none⟩ = some (.int .i64 ni) ∧ W'.cell? ⟨w.heap.size, 2, none⟩ = some (.int .i64 nc) ∧ W'.cell? ⟨w.heap.size, 3, none⟩ = some (.int .i64 nd) ∧ W'.cell? ⟨w.heap.size, 4, none⟩ = some (.int .i64 nt) ∧ W'.cell? ⟨w.heap.size, 5, none⟩ = some (.int .i64 nm) ∧ W'.cell? ⟨w.heap.size, 6, none⟩ = some (.bool ns)))) (by kernel_rfl) (And.intro (cell2 (HX.out.cell 0 rfl)) (cell7 (HX.out.cell 1 rfl))) (fun hHeld => ?_)
    refine Gh.tk 0 ?_
    refine Gh.tk 1 ?_
    refine Gh.tk 3 ?_
    refine wpAnyH_ready (rs := [2, 9]) (by kernel_rfl) (by simp) ?_
    refine AllReadyH.cons rfl (fun K hK => ?_) ?_
    · go_simp
      (with_reducible refine (OP.out _).mono ?_)
      rintro e x1 ⟨rfl, b1⟩
      have HX := Lib.hid (HX.out.call b1)
      have SX := Lib.hid (SX.out.call b1)
      clear b1
      go_simp
      refine hK.out _ _ (And.intro (cell2 (HX.out.cell 0 rfl)) (cell7 (HX.out.cell 1 rfl))) (fun hHeld => ?_)
      clear hK K
      refine Gh.pt ?_
      refine wpAnyH_ready (rs := [4, 9]) (by kernel_rfl) (by simp) ?_
      refine AllReadyH.cons rfl (fun K hK => ?_) ?_
      · go_simp
        (with_reducible refine (TS.out _ HX.out.bl).mono ?_)
        rintro e x2 ⟨p1, d1, rfl, sp, b1⟩
        have HX := Lib.hid (HX.out.call b1)
        have SX := Lib.hid (SX.out.call b1)
        have SP := Lib.hid sp
        clear b1 sp
        go_simp
        refine hK.out _ _ (And.intro (cell2 (HX.out.cell 0 rfl)) (cell7 (HX.out.cell 1 rfl))) (fun hHeld => ?_)
        clear hK K
        refine Gh.pt ?_
        refine wpAnyH_ready (rs := [5, 9]) (by kernel_rfl) (by simp) ?_
        refine AllReadyH.cons rfl (fun K hK => ?_) ?_
        · go_simp
          (with_reducible refine (MX.out _ _ _ _ _ SX.out SP.out).mono ?_)
          rintro e x3 ⟨v, rfl, ⟨ao', cap', rfl, sn⟩, b2⟩
          have HX := Lib.hid (HX.out.call b2)
          have SX := Lib.hid (SX.out.call b2)
          have SN := Lib.hid sn
          clear b2 sn
          unfold tv
          go_simp
          refine hK.out _ _ (And.intro (cell2 (HX.out.cell 0 rfl)) (cell7 (HX.out.cell 1 rfl))) (fun hHeld => ?_)
          clear hK K
          refine Gh.pt ?_
          refine Gh.tk 6 ?_
          refine Gh.tk 7 ?_
          refine Gh.tk 8 ?_
          refine Gh.rd 9 (fun K hK => ?_)
          have HY := Lib.hid HX.out
          have SXY := Lib.hid SX.out
          have SNY := Lib.hid SN.out
          have HX := Lib.hid (HX.out.new #[.slice none 0 0, .int .i64 0] 29)
          have SX := Lib.hid (SX.out.call ((Below.refl _ _).alloc (Nat.le_refl _) (.cells #[.slice none 0 0, .int .i64 0] 29)))
          have SN := Lib.hid (SN.out.call ((Below.refl _ _).alloc (Nat.le_refl _) (.cells #[.slice none 0 0, .int .i64 0] 29)))
          go_simp
          refine hK.out _ _ (And.intro (cell2 (HX.out.cell 1 rfl)) (cell7 (HX.out.cell 2 rfl))) (fun hHeld => ?_)
          clear hK K
          refine Gh.pt ?_
          refine Gh.rd 10 (fun K hK => ?_)
          have HX := Lib.hid (HY.out.new #[.slice ao' M1.rows.length cap', .int .i64 M1.mode] 29)
          have SX := Lib.hid (SXY.out.call ((Below.refl _ _).alloc (Nat.le_refl _) (.cells #[.slice ao' M1.rows.length cap', .int .i64 M1.mode] 29)))
          have SN := Lib.hid (SNY.out.call ((Below.refl _ _).alloc (Nat.le_refl _) (.cells #[.slice ao' M1.rows.length cap', .int .i64 M1.mode] 29)))
          go_simp
          refine hK.out _ _ (And.intro (cell2 (HX.out.cell 1 rfl)) (cell7 (HX.out.cell 2 rfl))) (fun hHeld => ?_)
          clear hK K
          refine Gh.pt ?_
          refine Gh.tk 11 ?_
          refine wpAnyH_done (by kernel_rfl) ?_ _
          go_wp2_with fail
          go_meet
          exact ⟨_, _, _, rfl, rfl, HX.out, SN.out, SX.out⟩
        refine AllReadyH.cons rfl (fun K hK => ?_) ?_
        · have HY := Lib.hid HX.out
          have SXY := Lib.hid SX.out
          have HX := Lib.hid (HX.out.new #[.slice none 0 0, .int .i64 0] 29)
          have SX := Lib.hid (SX.out.call ((Below.refl _ _).alloc (Nat.le_refl _) (.cells #[.slice none 0 0, .int .i64 0] 29)))
          have SP := Lib.hid (SP.out.call ((Below.refl _ _).alloc (Nat.le_refl _) (.cells #[.slice none 0 0, .int .i64 0] 29)))
          go_simp
          refine hK.out _ _ (And.intro (cell2 (HX.out.cell 1 rfl)) (cell7 (HX.out.cell 2 rfl))) (fun hHeld => ?_)
          clear hK K
          refine Gh.pt ?_
          refine Gh.rd 5 (fun K hK => ?_)
          go_simp
          (with_reducible refine (MX.out _ _ _ _ _ SX.out SP.out).mono ?_)
          rintro e x3 ⟨v, rfl, ⟨ao', cap', rfl, sn⟩, b2⟩
          have HX := Lib.hid (HX.out.call b2)
          have SX := Lib.hid (SX.out.call b2)
          have SN := Lib.hid sn
          clear b2 sn
          unfold tv
          go_simp
          refine hK.out _ _ (And.intro (cell2 (HX.out.cell 1 rfl)) (cell7 (HX.out.cell 2 rfl))) (fun hHeld => ?_)
          clear hK K
          refine Gh.pt ?_
          refine Gh.tk 6 ?_
          refine Gh.tk 7 ?_
          refine Gh.tk 8 ?_
          refine Gh.rd 10 (fun K hK => ?_)
          obtain ⟨c0, c1⟩ := cell2 (HX.out.cell 0 rfl)
          have cf := HX.out.fz 0 rfl
          have SX := Lib.hid ((SX.out.set HX.out 0 rfl (by simp) 0 (.slice ao' M1.rows.length cap')).set (HX.out.set 0 rfl 0 (.slice ao' M1.rows.length cap')) 0 rfl (by simp) 1 (.int .i64 M1.mode))
          have SN := Lib.hid ((SN.out.set HX.out 0 rfl (by simp) 0 (.slice ao' M1.rows.length cap')).set (HX.out.set 0 rfl 0 (.slice ao' M1.rows.length cap')) 0 rfl (by simp) 1 (.int .i64 M1.mode))
          have HX := Lib.hid ((HX.out.set 0 rfl 0 (.slice ao' M1.rows.length cap')).set 0 rfl 1 (.int .i64 M1.mode))
          go_simp
          refine hK.out _ _ (And.intro (cell2 (HX.out.cell 1 rfl)) (cell7 (HX.out.cell 2 rfl))) (fun hHeld => ?_)
          clear hK K
          refine Gh.pt ?_
          refine Gh.tk 11 ?_
          refine wpAnyH_done (by kernel_rfl) ?_ _
          go_wp2_with fail
          go_meet
          exact ⟨_, _, _, rfl, rfl, HX.out, SN.out, SX.out⟩
        exact AllReadyH.nil
      refine AllReadyH.cons rfl (fun K hK => ?_) ?_
      · have HY := Lib.hid HX.out
        have SXY := Lib.hid SX.out
        have HX := Lib.hid (HX.out.new #[.slice none 0 0, .int .i64 0] 29)
        have SX := Lib.hid (SX.out.call ((Below.refl _ _).alloc (Nat.le_refl _) (.cells #[.slice none 0 0, .int .i64 0] 29)))
        go_simp
        refine hK.out _ _ (And.intro (cell2 (HX.out.cell 1 rfl)) (cell7 (HX.out.cell 2 rfl))) (fun hHeld => ?_)
        clear hK K
        refine Gh.pt ?_
        refine Gh.rd 4 (fun K hK => ?_)
        go_simp
        (with_reducible refine (TS.out _ HX.out.bl).mono ?_)
        rintro e x2 ⟨p1, d1, rfl, sp, b1⟩
        have HX := Lib.hid (HX.out.call b1)
        have SX := Lib.hid (SX.out.call b1)
        have SP := Lib.hid sp
        clear b1 sp
        go_simp
        refine hK.out _ _ (And.intro (cell2 (HX.out.cell 1 rfl)) (cell7 (HX.out.cell 2 rfl))) (fun hHeld => ?_)
        clear hK K
        refine Gh.pt ?_
        refine Gh.rd 5 (fun K hK => ?_)
        go_simp
        (with_reducible refine (MX.out _ _ _ _ _ SX.out SP.out).mono ?_)
        rintro e x3 ⟨v, rfl, ⟨ao', cap', rfl, sn⟩, b2⟩
        have HX := Lib.hid (HX.out.call b2)
        have SX := Lib.hid (SX.out.call b2)
        have SN := Lib.hid sn
        clear b2 sn
        unfold tv
        go_simp
        refine hK.out _ _ (And.intro (cell2 (HX.out.cell 1 rfl)) (cell7 (HX.out.cell 2 rfl))) (fun hHeld => ?_)
        clear hK K
        refine Gh.pt ?_
        refine Gh.tk 6 ?_
        refine Gh.tk 7 ?_
        refine Gh.tk 8 ?_
        refine Gh.rd 10 (fun K hK => ?_)
        obtain ⟨c0, c1⟩ := cell2 (HX.out.cell 0 rfl)
        have cf := HX.out.fz 0 rfl
        have SX := Lib.hid ((SX.out.set HX.out 0 rfl (by simp) 0 (.slice ao' M1.rows.length cap')).set (HX.out.set 0 rfl 0 (.slice ao' M1.rows.length cap')) 0 rfl (by simp) 1 (.int .i64 M1.mode))
        have SN := Lib.hid ((SN.out.set HX.out 0 rfl (by simp) 0 (.slice ao' M1.rows.length cap')).set (HX.out.set 0 rfl 0 (.slice ao' M1.rows.length cap')) 0 rfl (by simp) 1 (.int .i64 M1.mode))
        have HX := Lib.hid ((HX.out.set 0 rfl 0 (.slice ao' M1.rows.length cap')).set 0 rfl 1 (.int .i64 M1.mode))
        go_simp
        refine hK.out _ _ (And.intro (cell2 (HX.out.cell 1 rfl)) (cell7 (HX.out.cell 2 rfl))) (fun hHeld => ?_)
        clear hK K
        refine Gh.pt ?_
        refine Gh.tk 11 ?_
        refine wpAnyH_done (by kernel_rfl) ?_ _
        go_wp2_with fail
        go_meet
        exact ⟨_, _, _, rfl, rfl, HX.out, SN.out, SX.out⟩
      exact AllReadyH.nil
    refine AllReadyH.cons rfl (fun K hK => ?_) ?_
    · have HY := Lib.hid HX.out
      have SXY := Lib.hid SX.out
      have HX := Lib.hid (HX.out.new #[.slice none 0 0, .int .i64 0] 29)
      have SX := Lib.hid (SX.out.call ((Below.refl _ _).alloc (Nat.le_refl _) (.cells #[.slice none 0 0, .int .i64 0] 29)))
      have HX : Hid (Bos ((W3.heap.size, #[.slice none 0 0, .int .i64 0], 29) :: _) w _) := Lib.hid HX.out
      go_simp
      refine hK.out _ _ (And.intro (cell2 (HX.out.cell 1 rfl)) (cell7 (HX.out.cell 2 rfl))) (fun hHeld => ?_)
      clear hK K
      refine Gh.pt ?_
      refine Gh.rd 2 (fun K hK => ?_)
      go_simp
      (with_reducible refine (OP.out _).mono ?_)
      rintro e x1 ⟨rfl, b1⟩
      have HX := Lib.hid (HX.out.call b1)
      have SX := Lib.hid (SX.out.call b1)
      clear b1
      go_simp
      refine hK.out _ _ (And.intro (cell2 (HX.out.cell 1 rfl)) (cell7 (HX.out.cell 2 rfl))) (fun hHeld => ?_)
      clear hK K
      refine Gh.pt ?_
      refine Gh.rd 4 (fun K hK => ?_)
      go_simp
      (with_reducible refine (TS.out _ HX.out.bl).mono ?_)
      rintro e x2 ⟨p1, d1, rfl, sp, b1⟩
      have HX := Lib.hid (HX.out.call b1)
      have SX := Lib.hid (SX.out.call b1)
      have SP := Lib.hid sp
      clear b1 sp
      go_simp
      refine hK.out _ _ (And.intro (cell2 (HX.out.cell 1 rfl)) (cell7 (HX.out.cell 2 rfl))) (fun hHeld => ?_)
      clear hK K
      refine Gh.pt ?_
      refine Gh.rd 5 (fun K hK => ?_)
      go_simp
      (with_reducible refine (MX.out _ _ _ _ _ SX.out SP.out).mono ?_)
      rintro e x3 ⟨v, rfl, ⟨ao', cap', rfl, sn⟩, b2⟩
      have HX := Lib.hid (HX.out.call b2)
      have SX := Lib.hid (SX.out.call b2)
      have SN := Lib.hid sn
      clear b2 sn
      unfold tv
      go_simp
      refine hK.out _ _ (And.intro (cell2 (HX.out.cell 1 rfl)) (cell7 (HX.out.cell 2 rfl))) (fun hHeld => ?_)
      clear hK K
      refine Gh.pt ?_
      refine Gh.tk 6 ?_
      refine Gh.tk 7 ?_
      refine Gh.tk 8 ?_
      refine Gh.rd 10 (fun K hK => ?_)
      obtain ⟨c0, c1⟩ := cell2 (HX.out.cell 0 rfl)
      have cf := HX.out.fz 0 rfl
      have SX := Lib.hid ((SX.out.set HX.out 0 rfl (by simp) 0 (.slice ao' M1.rows.length cap')).set (HX.out.set 0 rfl 0 (.slice ao' M1.rows.length cap')) 0 rfl (by simp) 1 (.int .i64 M1.mode))
      have SN := Lib.hid ((SN.out.set HX.out 0 rfl (by simp) 0 (.slice ao' M1.rows.length cap')).set (HX.out.set 0 rfl 0 (.slice ao' M1.rows.length cap')) 0 rfl (by simp) 1 (.int .i64 M1.mode))
      have HX := Lib.hid ((HX.out.set 0 rfl 0 (.slice ao' M1.rows.length cap')).set 0 rfl 1 (.int .i64 M1.mode))
      go_simp
      refine hK.out _ _ (And.intro (cell2 (HX.out.cell 1 rfl)) (cell7 (HX.out.cell 2 rfl))) (fun hHeld => ?_)
      clear hK K
      refine Gh.pt ?_
      refine Gh.tk 11 ?_
      refine wpAnyH_done (by kernel_rfl) ?_ _
      go_wp2_with fail
      go_meet
      exact ⟨_, _, _, rfl, rfl, HX.out, SN.out, SX.out⟩
    exact AllReadyH.nil
  case rest =>
    obtain ⟨q, a, c, rfl, rfl, hB, sM, sT⟩ := hcut
    clear HX SX MX TS
    have HX := Lib.hid hB.drew
    have SM := Lib.hid (sM.call (Below.refl _ _).drew)
    have SX := Lib.hid (sT.call (Below.refl _ _).drew)
    clear hB sM sT
    go_upto_region 4 with (fail)
    go_cut [12] (EyRel F2 [(q, #[.slice a M1.rows.length c, .int .i64 M1.mode], 29), (p, #[.slice ao t.rows.length cap, .int .i64 t.mode], 29)] M1 a c t ao cap w)
    case first =>
      refine wp_region_held_drew (S := (fun W' => (W'.cell? ⟨p, 0, none⟩ = some (.slice ao t.rows.length cap) ∧ W'.cell? ⟨p, 1, none⟩ = some (.int .i64 t.mode)) ∧ (W'.cell? ⟨w.heap.size, 0, none⟩ = some (.int .i64 nk) ∧ W'.cell? ⟨w.heap.size, 1, none⟩ = some (.int .i64 ni) ∧ W'.cell? ⟨w.heap.size, 2, none⟩ = some (.int .i64 nc) ∧ W'.cell? ⟨w.heap.size, 3, none⟩ = some (.int .i64 nd) ∧ W'.cell? ⟨w.heap.size, 4, none⟩ = some (.int .i64 nt) ∧ W'.cell? ⟨w.heap.size, 5, none⟩ = some (.int .i64 nm) ∧ W'.cell? ⟨w.heap.size, 6, none⟩ = some (.bool ns)))) (by kernel_rfl) (And.intro (cell2 (HX.out.cell 1 rfl)) (cell7 (HX.out.cell 2 rfl))) (fun hHeld => ?_)
      refine Gh.tk 0 ?_
      refine Gh.tk 1 ?_
      refine wpAnyH_ready (rs := [2, 7]) (by kernel_rfl) (by simp) ?_
      refine AllReadyH.cons rfl (fun K hK => ?_) ?_
      · go_simp
        (with_reducible refine (OP.out _).mono ?_)
        rintro e x1 ⟨rfl, b1⟩
        have HX := Lib.hid (HX.out.call b1)
        have SX := Lib.hid (SX.out.call b1)
        have SM := Lib.hid (SM.out.call b1)
        clear b1
        go_simp
        refine hK.out _ _ (And.intro (cell2 (HX.out.cell 1 rfl)) (cell7 (HX.out.cell 2 rfl))) (fun hHeld => ?_)
        clear hK K
        refine Gh.pt ?_
        refine wpAnyH_ready (rs := [3, 7]) (by kernel_rfl) (by simp) ?_
        refine AllReadyH.cons rfl (fun K hK => ?_) ?_
        · go_simp
          (with_reducible refine (MN.out _ _ _ SX.out).mono ?_)
          rintro e x3 ⟨v, rfl, ⟨ao', cap', rfl, -⟩, b2⟩
          have HX := Lib.hid (HX.out.call b2)
          have SX := Lib.hid (SX.out.call b2)
          have SM := Lib.hid (SM.out.call b2)
          clear b2
          unfold tv
          go_simp
          refine hK.out _ _ (And.intro (cell2 (HX.out.cell 1 rfl)) (cell7 (HX.out.cell 2 rfl))) (fun hHeld => ?_)
          clear hK K
          refine Gh.pt ?_
          refine Gh.tk 4 ?_
          refine Gh.tk 5 ?_
          refine Gh.tk 6 ?_
          refine Gh.rd 7 (fun K hK => ?_)
          have HY := Lib.hid HX.out
          have SXY := Lib.hid SX.out
          have SMY := Lib.hid SM.out
          have HX := Lib.hid (HX.out.new #[.slice none 0 0, .int .i64 0] 29)
          have SX := Lib.hid (SX.out.call ((Below.refl _ _).alloc (Nat.le_refl _) (.cells #[.slice none 0 0, .int .i64 0] 29)))
          have SM := Lib.hid (SM.out.call ((Below.refl _ _).alloc (Nat.le_refl _) (.cells #[.slice none 0 0, .int .i64 0] 29)))
          go_simp
          refine hK.out _ _ (And.intro (cell2 (HX.out.cell 2 rfl)) (cell7 (HX.out.cell 3 rfl))) (fun hHeld => ?_)
          clear hK K
          refine Gh.pt ?_
          refine Gh.rd 8 (fun K hK => ?_)
          have HX := Lib.hid (HY.out.new #[.slice ao' F1.rows.length cap', .int .i64 F1.mode] 29)
          have SX := Lib.hid (SXY.out.call ((Below.refl _ _).alloc (Nat.le_refl _) (.cells #[.slice ao' F1.rows.length cap', .int .i64 F1.mode] 29)))
          have SM := Lib.hid (SMY.out.call ((Below.refl _ _).alloc (Nat.le_refl _) (.cells #[.slice ao' F1.rows.length cap', .int .i64 F1.mode] 29)))
          go_simp
          refine hK.out _ _ (And.intro (cell2 (HX.out.cell 2 rfl)) (cell7 (HX.out.cell 3 rfl))) (fun hHeld => ?_)
          clear hK K
          refine Gh.pt ?_
          refine Gh.tk 9 ?_
          refine wpAnyH_done (by kernel_rfl) ?_ _
          have HZ := HX.out.sub (((((List.Sublist.refl []).cons _).cons_cons _).cons_cons _).cons _)
          go_wp2_with fail
          go_meet
          exact ⟨rfl, HZ, SM.out, SX.out⟩
        refine AllReadyH.cons rfl (fun K hK => ?_) ?_
        · have HY := Lib.hid HX.out
          have SXY := Lib.hid SX.out
          have SMY := Lib.hid SM.out
          have HX := Lib.hid (HX.out.new #[.slice none 0 0, .int .i64 0] 29)
          have SX := Lib.hid (SX.out.call ((Below.refl _ _).alloc (Nat.le_refl _) (.cells #[.slice none 0 0, .int .i64 0] 29)))
          have SM := Lib.hid (SM.out.call ((Below.refl _ _).alloc (Nat.le_refl _) (.cells #[.slice none 0 0, .int .i64 0] 29)))
          go_simp
          refine hK.out _ _ (And.intro (cell2 (HX.out.cell 2 rfl)) (cell7 (HX.out.cell 3 rfl))) (fun hHeld => ?_)
          clear hK K
          refine Gh.pt ?_
          refine Gh.rd 3 (fun K hK => ?_)
          go_simp
          (with_reducible refine (MN.out _ _ _ SX.out).mono ?_)
          rintro e x3 ⟨v, rfl, ⟨ao', cap', rfl, -⟩, b2⟩
          have HX := Lib.hid (HX.out.call b2)
          have SX := Lib.hid (SX.out.call b2)
          have SM := Lib.hid (SM.out.call b2)
          clear b2
          unfold tv
          go_simp
          refine hK.out _ _ (And.intro (cell2 (HX.out.cell 2 rfl)) (cell7 (HX.out.cell 3 rfl))) (fun hHeld => ?_)
          clear hK K
          refine Gh.pt ?_
          refine Gh.tk 4 ?_
          refine Gh.tk 5 ?_
          refine Gh.tk 6 ?_
          refine Gh.rd 8 (fun K hK => ?_)
          obtain ⟨c0, c1⟩ := cell2 (HX.out.cell 0 rfl)
          have cf := HX.out.fz 0 rfl
          have SX := Lib.hid ((SX.out.set HX.out 0 rfl (by simp) 0 (.slice ao' F1.rows.length cap')).set (HX.out.set 0 rfl 0 (.slice ao' F1.rows.length cap')) 0 rfl (by simp) 1 (.int .i64 F1.mode))
          have SM := Lib.hid ((SM.out.set HX.out 0 rfl (by simp) 0 (.slice ao' F1.rows.length cap')).set (HX.out.set 0 rfl 0 (.slice ao' F1.rows.length cap')) 0 rfl (by simp) 1 (.int .i64 F1.mode))
          have HX := Lib.hid ((HX.out.set 0 rfl 0 (.slice ao' F1.rows.length cap')).set 0 rfl 1 (.int .i64 F1.mode))
          go_simp
          refine hK.out _ _ (And.intro (cell2 (HX.out.cell 2 rfl)) (cell7 (HX.out.cell 3 rfl))) (fun hHeld => ?_)
          clear hK K
          refine Gh.pt ?_
          refine Gh.tk 9 ?_
          refine wpAnyH_done (by kernel_rfl) ?_ _
          have HZ := HX.out.sub (((((List.Sublist.refl []).cons _).cons_cons _).cons_cons _).cons _)
          go_wp2_with fail
          go_meet
          exact ⟨rfl, HZ, SM.out, SX.out⟩
        exact AllReadyH.nil
      refine AllReadyH.cons rfl (fun K hK => ?_) ?_
      · have HY := Lib.hid HX.out
        have SXY := Lib.hid SX.out
        have SMY := Lib.hid SM.out
        have HX := Lib.hid (HX.out.new #[.slice none 0 0, .int .i64 0] 29)
        have SX := Lib.hid (SX.out.call ((Below.refl _ _).alloc (Nat.le_refl _) (.cells #[.slice none 0 0, .int .i64 0] 29)))
        have SM := Lib.hid (SM.out.call ((Below.refl _ _).alloc (Nat.le_refl _) (.cells #[.slice none 0 0, .int .i64 0] 29)))
        have HX : Hid (Bos ((wc.heap.size, #[.slice none 0 0, .int .i64 0], 29) :: _) w _) := Lib.hid HX.out
        go_simp
        refine hK.out _ _ (And.intro (cell2 (HX.out.cell 2 rfl)) (cell7 (HX.out.cell 3 rfl))) (fun hHeld => ?_)
        clear hK K
        refine Gh.pt ?_
        refine Gh.rd 2 (fun K hK => ?_)
        go_simp
        (with_reducible refine (OP.out _).mono ?_)
        rintro e x1 ⟨rfl, b1⟩
        have HX := Lib.hid (HX.out.call b1)
        have SX := Lib.hid (SX.out.call b1)
        have SM := Lib.hid (SM.out.call b1)
        clear b1
        go_simp
        refine hK.out _ _ (And.intro (cell2 (HX.out.cell 2 rfl)) (cell7 (HX.out.cell 3 rfl))) (fun hHeld => ?_)
        clear hK K
        refine Gh.pt ?_
        refine Gh.rd 3 (fun K hK => ?_)
        go_simp
        (with_reducible refine (MN.out _ _ _ SX.out).mono ?_)
        rintro e x3 ⟨v, rfl, ⟨ao', cap', rfl, -⟩, b2⟩
        have HX := Lib.hid (HX.out.call b2)
        have SX := Lib.hid (SX.out.call b2)
        have SM := Lib.hid (SM.out.call b2)
        clear b2
        unfold tv
        go_simp
        refine hK.out _ _ (And.intro (cell2 (HX.out.cell 2 rfl)) (cell7 (HX.out.cell 3 rfl))) (fun hHeld => ?_)
        clear hK K
        refine Gh.pt ?_
        refine Gh.tk 4 ?_
        refine Gh.tk 5 ?_
        refine Gh.tk 6 ?_
        refine Gh.rd 8 (fun K hK => ?_)
        obtain ⟨c0, c1⟩ := cell2 (HX.out.cell 0 rfl)
        have cf := HX.out.fz 0 rfl
        have SX := Lib.hid ((SX.out.set HX.out 0 rfl (by simp) 0 (.slice ao' F1.rows.length cap')).set (HX.out.set 0 rfl 0 (.slice ao' F1.rows.length cap')) 0 rfl (by simp) 1 (.int .i64 F1.mode))
        have SM := Lib.hid ((SM.out.set HX.out 0 rfl (by simp) 0 (.slice ao' F1.rows.length cap')).set (HX.out.set 0 rfl 0 (.slice ao' F1.rows.length cap')) 0 rfl (by simp) 1 (.int .i64 F1.mode))
        have HX := Lib.hid ((HX.out.set 0 rfl 0 (.slice ao' F1.rows.length cap')).set 0 rfl 1 (.int .i64 F1.mode))
        go_simp
        refine hK.out _ _ (And.intro (cell2 (HX.out.cell 2 rfl)) (cell7 (HX.out.cell 3 rfl))) (fun hHeld => ?_)
        clear hK K
        refine Gh.pt ?_
        refine Gh.tk 9 ?_
        refine wpAnyH_done (by kernel_rfl) ?_ _
        have HZ := HX.out.sub (((((List.Sublist.refl []).cons _).cons_cons _).cons_cons _).cons _)
        go_wp2_with fail
        go_meet
        exact ⟨rfl, HZ, SM.out, SX.out⟩
      exact AllReadyH.nil
    case rest =>
      obtain ⟨rfl, hB, sM, sT⟩ := hcut
      clear HX SX SM MN OP
      by_cases hM : M2 = 0
      case neg =>
        have hM' : (M2 == 0) = false := by simp [hM]
        have hM2 : (M2 != 0) = true := by simp [hM]
        have Z := Lib.hid hB.bl
        clear hB sM sT EF EX hM
        go_wp2
        go_ret
        exact ⟨rfl, Z.out⟩
      have hF : F2 = 0 := EF.out hM
      have CX := Lib.hid (EX.out hM)
      subst hM
      subst hF
      have hx16 := (chkT_iff.1 CX.out).2.2.1
      have hx03 := (chkT_iff.1 CX.out).2.2.2
      obtain ⟨hx0, hx3⟩ := hx03
      have uj : IntKind.u64.wrap M1.mode = M1.mode := IntWalk.u64_in _ (by omega)
      have uj2 : M1.mode % 18446744073709551616 = M1.mode := by omega
      have KT : Hid (∀ r ∈ t.rows, Pm.chk r.t = true) := Lib.hid (fun r hr => (okW_iff.1 ((chkT_iff.1 HT.out).1 r hr)).1)
      have KX : Hid (∀ r ∈ M1.rows, Pm.chk r.t = true) := Lib.hid (fun r hr => (okW_iff.1 ((chkT_iff.1 CX.out).1 r hr)).1)
      have GE : goneR t M1 = goneL t.mode M1.mode M1.rows t.rows := if_pos ⟨HT.out, CX.out⟩
      have GC := Lib.hid (gone_is GE ao cap a c wc sT.seen sM.seen (by omega) (by omega))
      have CV : Hid (∀ r ∈ t.rows, bt t.mode r.t = true → r.t.c ≤ leftR M1.mode M1.rows r + sumG r.t (goneL t.mode M1.mode M1.rows t.rows)) := Lib.hid (fun r hr hb => gone_cover KT.out KX.out hr hb)
      have GB : Hid (∀ g ∈ goneL t.mode M1.mode M1.rows t.rows, 0 ≤ g.c ∧ g.c ≤ 2147483648) := Lib.hid (gone_c KT.out KX.out)
      have hgl : (goneL t.mode M1.mode M1.rows t.rows).length ≤ 16 := Nat.le_trans (goneL_len _ _ _ _) hl16
      have FI : Hid (∀ (id : Int) (W : World), Sl (.slice a M1.rows.length c) M1.rows W a c → Calls Try.prog 19 #[tv a M1.rows.length c M1.mode, .int .i64 id] W fun e w' => e = .returned (.tuple #[(findR M1.rows id).1.v, .bool (findR M1.rows id).2]) ∧ Below W.heap.size W w') := Lib.hid (fun id W h => rfind_any M1 id a c W h.seen (by omega))
      unfold tv at GC FI
      have FL : Hid (∀ k : Tk, sumG k ((goneL t.mode M1.mode M1.rows t.rows).take (goneL t.mode M1.mode M1.rows t.rows).length) = sumG k (goneL t.mode M1.mode M1.rows t.rows)) := Lib.hid (fun k => by rw [List.take_length])
      clear GE EF EX HT CX
      generalize goneL t.mode M1.mode M1.rows t.rows = G at *
      obtain ⟨t0, t1⟩ := cell2 (hB.cell 1 rfl)
      obtain ⟨x0, x1⟩ := cell2 (hB.cell 0 rfl)
      have HB := Lib.hid hB
      have ST := Lib.hid sT
      have SM := Lib.hid sM
      clear hB sT sM
      go_wp2_with fail
      (with_reducible refine GC.out.mono ?_)
      rintro e w4 ⟨go, gc, rfl, sg, b4⟩
      have HX := Lib.hid (HB.out.call b4)
      have SX := Lib.hid (ST.out.call b4)
      have SQ := Lib.hid (SM.out.call b4)
      have SG := Lib.hid sg
      clear b4 sg HB ST SM GC t0 t1 x0 x1
      go_wp2_with fail
      go_loopg [14] t.rows.length (ErRel t.rows.length [(q, #[.slice a M1.rows.length c, .int .i64 M1.mode], 29), (p, #[.slice ao t.rows.length cap, .int .i64 t.mode], 29)] w w4)
      case atStart => exact ⟨0, by omega, rfl, HX.out, Below.refl _ _⟩
      case round =>
        obtain ⟨i, hi, rfl, hB, hb4⟩ := hrel
        have HI := Lib.hid hi
        have B4 := Lib.hid hb4
        have ST := Lib.hid (SX.out.call hb4)
        have SM := Lib.hid (SQ.out.call hb4)
        have HB := Lib.hid hB
        clear hB hb4 HX
        obtain ⟨t0, t1⟩ := cell2 (HB.out.cell 1 rfl)
        by_cases hlt : i < t.rows.length
        case neg =>
          have hge : (t.rows.length : Int) ≤ (i : Int) := by omega
          have Z := Lib.hid HB.out.bl
          clear hi hlt ST SM HB SX SQ SG B4
          go_wp2
          go_ret
          exact ⟨rfl, Z.out⟩
        have hrk := List.getElem?_eq_getElem hlt
        have hmem := List.getElem_mem hlt
        obtain ⟨b, off, rfl, -, hat⟩ := ST.out.seen (by omega)
        obtain ⟨r0, r1, r2, r3, r4, -⟩ := row_cells hat hrk
        have hlt' : (i : Int) < (t.rows.length : Int) := by omega
        have wi : IntKind.i64.wrap (i : Int) = (i : Int) := IntWalk.i64_in _ (by omega)
        have hg0 : 0 < gk := by omega
        have CVR := Lib.hid (CV.out _ hmem)
        have hbit := bit_two t.mode t.rows[i].t
        have hrc := Pm.chk_iff.1 (KT.out _ hmem)
        have LI : Hid (∀ s th, findR M1.rows t.rows[i].t.id = (s, th) → leftR M1.mode M1.rows t.rows[i] = if th = true ∧ bt M1.mode s.t = true ∧ s.t.d = t.rows[i].t.d ∧ s.t.t = t.rows[i].t.t then s.t.c else 0) := Lib.hid (fun s th h => left_is h)
        have FX := Lib.hid (FI.out t.rows[i].t.id)
        have FF := Lib.hid (find_findR M1.rows t.rows[i].t.id)
        generalize leftR M1.mode M1.rows t.rows[i] = c0 at *
        generalize t.rows[i] = r at *
        obtain ⟨⟨ri, rc, rd, rtt, rmm⟩, rs⟩ := r
        simp only at r0 r1 r2 r3 r4 CVR hbit hrc LI FX FF
        have hrc1 : 1 ≤ rc ∧ rc ≤ 2147483648 := by omega
        clear hrc hrk hat hi hmem FI
        have HK := Lib.hid (HB.out.new #[.int .i64 ri, .int .i64 rc, .int .i64 rd, .int .i64 rtt, .int .i64 rmm] 32)
        have SMK := Lib.hid (SM.out.call ((Below.refl _ _).alloc (Nat.le_refl _) (.cells #[.int .i64 ri, .int .i64 rc, .int .i64 rd, .int .i64 rtt, .int .i64 rmm] 32)))
        have BK : Below w4.heap.size w4 (wr.alloc (.cells #[.int .i64 ri, .int .i64 rc, .int .i64 rd, .int .i64 rtt, .int .i64 rmm] 32)) := B4.out.alloc B4.out.size _
        have B5 := Lib.hid BK
        obtain ⟨k0, k1, k2, k3, k4⟩ := cell5 (HK.out.cell 0 rfl)
        obtain ⟨u0, u1⟩ := cell2 (HK.out.cell 2 rfl)
        obtain ⟨v0, v1⟩ := cell2 (HK.out.cell 1 rfl)
        clear BK HB SM ST B4
        cases hq : bt t.mode ⟨ri, rc, rd, rtt, rmm⟩
        · rw [hq] at hbit
          have HE := Lib.hid (HK.out.sub (List.sublist_cons_self _ _))
          clear HK SMK CVR LI FX FF
          go_wp2
          go_roundg (gk - 1)
          case measure => omega
          case rel => exact ⟨i + 1, by have := HI.out; omega, by go_num, HE.out, B5.out⟩
        rw [hq] at hbit
        have CVX := Lib.hid (CVR.out hq)
        have FC := Lib.hid (FX.out _ SMK.out)
        clear CVR FX
        generalize hf : findR M1.rows ri = f at *
        obtain ⟨s, th⟩ := f
        have EC := Lib.hid (LI.out s th rfl)
        have SCK : Hid (th = true → Pm.chk s.t = true) := Lib.hid (fun h => by
          rcases FF.out with ⟨-, h1⟩ | ⟨s', -, h2, h3⟩
          · cases h1; cases h
          · cases h3; exact KX.out _ h2)
        have hbs : bt M1.mode s.t = (bits .and .i64 (s.t.m / 2 ^ M1.mode.toNat) 1 == 1) := rfl
        obtain ⟨⟨si, sc, sd, st, sm⟩, ss⟩ := s
        unfold Rw.v at FC
        simp only at FC hbs EC SCK
        rw [hbs] at EC
        generalize hz : (bits .and .i64 (sm / 2 ^ M1.mode.toNat) 1 == 1) = z at *
        clear hf LI FF hbs
        go_wp2_with fail
        (with_reducible refine FC.out.mono ?_)
        rintro e w5 ⟨rfl, b5⟩
        have ba : Below w5.heap.size w5 (w5.alloc (.cells #[.int .i64 si, .int .i64 sc, .int .i64 sd, .int .i64 st, .int .i64 sm, .bool ss] 48)) := (Below.refl _ _).alloc (Nat.le_refl _) _
        have HY := Lib.hid ((HK.out.call b5).new #[.int .i64 si, .int .i64 sc, .int .i64 sd, .int .i64 st, .int .i64 sm, .bool ss] 48)
        have BY := Lib.hid ((B5.out.trans (b5.mono B5.out.size)).alloc (by have := (B5.out.trans (b5.mono B5.out.size)).size; exact this) (.cells #[.int .i64 si, .int .i64 sc, .int .i64 sd, .int .i64 st, .int .i64 sm, .bool ss] 48))
        clear b5 ba FC HK SMK B5 k0 k1 k2 k3 k4 u0 u1 v0 v1 r0 r1 r2 r3 r4
        go_upto_region 17 with (fail)
        generalize w5.alloc (.cells #[.int .i64 si, .int .i64 sc, .int .i64 sd, .int .i64 st, .int .i64 sm, .bool ss] 48) = W6 at *
        generalize w5.heap.size = py at *
        generalize wr.heap.size = pk at *
        obtain ⟨y0, y1, y2, y3, y4, y5⟩ := cell6 (HY.out.cell 0 rfl)
        obtain ⟨k0, k1, k2, k3, k4⟩ := cell5 (HY.out.cell 1 rfl)
        obtain ⟨v0, v1⟩ := cell2 (HY.out.cell 2 rfl)
        obtain ⟨u0, u1⟩ := cell2 (HY.out.cell 3 rfl)
        obtain ⟨B, hBB⟩ : ∃ B : Bool, B = (th && z && (sd == rd) && (st == rtt)) := ⟨_, rfl⟩
        have HBB := Lib.hid hBB
        clear hBB
        go_cut [106] (EbRel B W6)
        case first =>
          clear SCK EC CVX
          cases th
          · go_wp2_with fail
            go_meet
            exact ⟨by rw [HBB.out]; simp, rfl⟩
          cases z
          · go_wp2_with fail
            go_meet
            exact ⟨by rw [HBB.out]; simp, rfl⟩
          by_cases e1 : sd = rd
          · have e1' : (sd == rd) = true := by simp [e1]
            by_cases e2 : st = rtt
            · have e2' : (st == rtt) = true := by simp [e2]
              clear e1 e2
              go_wp2_with fail
              go_meet
              exact ⟨by rw [HBB.out]; simp [e1', e2'], rfl⟩
            · have e2' : (st == rtt) = false := by simp [e2]
              clear e1 e2
              go_wp2_with fail
              go_meet
              exact ⟨by rw [HBB.out]; simp [e1', e2'], rfl⟩
          · have e1' : (sd == rd) = false := by simp [e1]
            clear e1
            go_wp2_with fail
            go_meet
            exact ⟨by rw [HBB.out]; simp [e1'], rfl⟩
        case rest =>
          obtain ⟨rfl, rfl⟩ := hcut
          have CC : Hid (c0 = if B = true then sc else 0) := Lib.hid (EC.out.trans (by
            rw [HBB.out]
            by_cases h1 : th = true <;> by_cases h2 : z = true <;> by_cases h3 : sd = rd <;> by_cases h4 : st = rtt <;> simp [h1, h2, h3, h4]))
          have CL : 0 ≤ c0 ∧ c0 ≤ 2147483648 := by
            rw [EC.out]
            split
            · rename_i h
              have := Pm.chk_iff.1 (SCK.out h.1)
              simp only at this
              omega
            · omega
          clear EC HBB SCK
          go_upto_if 106 with (fail)
          go_cut [16] (EcRel c0 wc)
          case first =>
            cases B
            · have E0 : c0 = 0 := CC.out.trans (if_neg (by simp))
              clear CC
              go_wp2_with fail
              go_meet
              exact ⟨by rw [E0], rfl⟩
            · have E0 : c0 = sc := CC.out.trans (if_pos rfl)
              clear CC
              go_wp2_with fail
              go_meet
              exact ⟨by rw [E0], rfl⟩
          case rest =>
            obtain ⟨rfl, rfl⟩ := hcut
            clear CC
            have HJ := Lib.hid (HY.out.sub (List.sublist_cons_self _ _))
            have SGJ := Lib.hid (SG.out.call BY.out)
            have G0 : Hid (EjRel c0 ⟨ri, rc, rd, rtt, rmm⟩ G [(pk, #[.int .i64 ri, .int .i64 rc, .int .i64 rd, .int .i64 rtt, .int .i64 rmm], 32), (q, #[.slice a M1.rows.length c, .int .i64 M1.mode], 29), (p, #[.slice (some ⟨b, off, none⟩) t.rows.length cap, .int .i64 t.mode], 29)] w wc G.length (.int .i64 0) (.int .i64 c0) wc) := Lib.hid ⟨0, by omega, rfl, by simp [sumG], HJ.out, Below.refl _ _⟩
            clear HY HJ y0 y1 y2 y3 y4 y5 k0 k1 k2 k3 k4 v0 v1 u0 u1
            go_wp2_with fail
            go_loopg [19, 16] G.length (EjRel c0 ⟨ri, rc, rd, rtt, rmm⟩ G [(pk, #[.int .i64 ri, .int .i64 rc, .int .i64 rd, .int .i64 rtt, .int .i64 rmm], 32), (q, #[.slice a M1.rows.length c, .int .i64 M1.mode], 29), (p, #[.slice (some ⟨b, off, none⟩) t.rows.length cap, .int .i64 t.mode], 29)] w wc)
            case atStart => exact G0.out
            case round =>
              obtain ⟨j, hj, rfl, rfl, hB, hbJ⟩ := hrel
              have HJ := Lib.hid hj
              have HB := Lib.hid hB
              have BJ := Lib.hid hbJ
              have SJ := Lib.hid (SGJ.out.call hbJ)
              obtain ⟨k0, k1, k2, k3, k4⟩ := cell5 (HB.out.cell 0 rfl)
              clear G0 hB hbJ
              by_cases hjl : j < G.length
              case neg =>
                obtain rfl : j = G.length := by omega
                have hjg : (G.length : Int) ≤ (G.length : Int) := Int.le_refl _
                rw [FL.out]
                have cv : rc ≤ c0 + sumG ⟨ri, rc, rd, rtt, rmm⟩ G := CVX.out
                generalize c0 + sumG ⟨ri, rc, rd, rtt, rmm⟩ G = cs at *
                have hdec : decide (cs < rc) = false := decide_eq_false (by omega)
                have HE := Lib.hid (HB.out.sub (List.sublist_cons_self _ _))
                have BE := Lib.hid (BY.out.trans (BJ.out.mono BY.out.size))
                clear hj hjl SJ SGJ BJ CVX FL GB
                go_wp2
                go_roundg (t.rows.length - (i + 1))
                case measure => have := HI.out; omega
                case rel => exact ⟨i + 1, by have := HI.out; omega, by go_num, HE.out, BE.out⟩
              obtain ⟨gb, gf, rfl, -, hat⟩ := SJ.out (by omega)
              have hgc := tk_cells hat (List.getElem?_eq_getElem hjl)
              have GK : Hid (∀ W, Below wr.heap.size wr W → W.cell? ⟨gb, gf + j * 5, none⟩ = some (.int .i64 G[j].id) ∧ W.cell? ⟨gb, gf + j * 5 + 1, none⟩ = some (.int .i64 G[j].c) ∧ W.cell? ⟨gb, gf + j * 5 + 2, none⟩ = some (.int .i64 G[j].d) ∧ W.cell? ⟨gb, gf + j * 5 + 3, none⟩ = some (.int .i64 G[j].t) ∧ W.cell? ⟨gb, gf + j * 5 + 4, none⟩ = some (.int .i64 G[j].m)) := Lib.hid (fun W h => ⟨carry h hgc.1, carry h hgc.2.1, carry h hgc.2.2.1, carry h hgc.2.2.2.1, carry h hgc.2.2.2.2⟩)
              have hgb := GB.out _ (List.getElem_mem hjl)
              have STK := sumG_take (k := ⟨ri, rc, rd, rtt, rmm⟩) hjl
              have s1 := sumG_nonneg (k := ⟨ri, rc, rd, rtt, rmm⟩) (l := G.take j) (fun g hg => (GB.out g (List.mem_of_mem_take hg)).1)
              have s2 := sumG_le (k := ⟨ri, rc, rd, rtt, rmm⟩) (l := G.take j) (fun g hg => (GB.out g (List.mem_of_mem_take hg)).2)
              have s3 : (G.take j).length ≤ 16 := by rw [List.length_take]; omega
              have hjl' : (j : Int) < (G.length : Int) := by omega
              have wj : IntKind.i64.wrap (j : Int) = (j : Int) := IntWalk.i64_in _ (by omega)
              have hg1 : 0 < gk := by omega
              generalize G[j] = g at *
              generalize sumG ⟨ri, rc, rd, rtt, rmm⟩ (G.take j) = sj at *
              generalize (G.take j).length = lj at *
              have hsj : 0 ≤ sj ∧ sj ≤ 34359738368 := by omega
              obtain ⟨gi, gcc, gd, gt, gm⟩ := g
              simp only at hgc hgb STK GK
              have BD := Lib.hid (Below.refl wr.heap.size wr).drew
              have HD := Lib.hid HB.out.drew
              have BJD := Lib.hid (BJ.out.drew)
              obtain ⟨h0, h1, h2, h3, h4⟩ := GK.out _ BD.out
              clear hat hgc hj s1 s2 s3 SJ SGJ CVX FL GB HB BJ
              go_wp2_with fail
              by_cases e1 : gi = ri
              case neg =>
                have e1' : (gi == ri) = false := by simp [e1]
                have NX : Hid (c0 + sumG ⟨ri, rc, rd, rtt, rmm⟩ (G.take (j + 1)) = c0 + sj) := Lib.hid (by rw [STK, if_neg (fun h => e1 h.1)]; omega)
                clear STK e1
                refine wp_region_held_drew (S := (fun W' => (W'.cell? ⟨pk, 0, none⟩ = some (.int .i64 ri) ∧ W'.cell? ⟨pk, 1, none⟩ = some (.int .i64 rc) ∧ W'.cell? ⟨pk, 2, none⟩ = some (.int .i64 rd) ∧ W'.cell? ⟨pk, 3, none⟩ = some (.int .i64 rtt) ∧ W'.cell? ⟨pk, 4, none⟩ = some (.int .i64 rmm)) ∧ (W'.cell? ⟨gb, gf + j * 5, none⟩ = some (.int .i64 gi) ∧ W'.cell? ⟨gb, gf + j * 5 + 1, none⟩ = some (.int .i64 gcc) ∧ W'.cell? ⟨gb, gf + j * 5 + 2, none⟩ = some (.int .i64 gd) ∧ W'.cell? ⟨gb, gf + j * 5 + 3, none⟩ = some (.int .i64 gt) ∧ W'.cell? ⟨gb, gf + j * 5 + 4, none⟩ = some (.int .i64 gm)))) (by kernel_rfl) (And.intro (cell5 (HD.out.cell 0 rfl)) (GK.out _ BD.out)) (fun hHeld => ?_)
                refine Gh.tk 0 ?_
                refine Gh.tk 1 ?_
                refine Gh.tk 2 ?_
                refine Gh.tk 3 ?_
                refine Gh.tk 4 ?_
                refine Gh.tk 5 ?_
                refine Gh.tk 6 ?_
                refine Gh.tk 7 ?_
                refine Gh.tk 8 ?_
                refine Gh.tn 9 ?_
                refine Gh.tn 10 ?_
                refine Gh.tn 11 ?_
                refine Gh.tn 12 ?_
                refine Gh.tn 13 ?_
                refine Gh.tn 14 ?_
                refine Gh.tn 15 ?_
                refine Gh.tn 16 ?_
                refine Gh.tk 17 ?_
                refine Gh.tk 18 ?_
                refine Gh.tn 19 ?_
                refine Gh.tn 20 ?_
                refine Gh.tn 21 ?_
                refine Gh.tn 22 ?_
                refine Gh.tn 23 ?_
                refine Gh.tn 24 ?_
                refine Gh.tn 25 ?_
                refine Gh.tn 26 ?_
                refine Gh.tk 27 ?_
                refine wpAnyH_done (by kernel_rfl) ?_ _
                go_wp2
                go_roundg (gk - 1)
                case measure => omega
                case rel => exact ⟨j + 1, by have := HJ.out; omega, by go_num, by rw [NX.out], HD.out, BJD.out⟩
              have e1' : (gi == ri) = true := by simp [e1]
              by_cases e2 : gd = rd
              case neg =>
                have e2' : (gd == rd) = false := by simp [e2]
                have NX : Hid (c0 + sumG ⟨ri, rc, rd, rtt, rmm⟩ (G.take (j + 1)) = c0 + sj) := Lib.hid (by rw [STK, if_neg (fun h => e2 h.2.1)]; omega)
                clear STK e1 e2
                refine wp_region_held_drew (S := (fun W' => (W'.cell? ⟨pk, 0, none⟩ = some (.int .i64 ri) ∧ W'.cell? ⟨pk, 1, none⟩ = some (.int .i64 rc) ∧ W'.cell? ⟨pk, 2, none⟩ = some (.int .i64 rd) ∧ W'.cell? ⟨pk, 3, none⟩ = some (.int .i64 rtt) ∧ W'.cell? ⟨pk, 4, none⟩ = some (.int .i64 rmm)) ∧ (W'.cell? ⟨gb, gf + j * 5, none⟩ = some (.int .i64 gi) ∧ W'.cell? ⟨gb, gf + j * 5 + 1, none⟩ = some (.int .i64 gcc) ∧ W'.cell? ⟨gb, gf + j * 5 + 2, none⟩ = some (.int .i64 gd) ∧ W'.cell? ⟨gb, gf + j * 5 + 3, none⟩ = some (.int .i64 gt) ∧ W'.cell? ⟨gb, gf + j * 5 + 4, none⟩ = some (.int .i64 gm)))) (by kernel_rfl) (And.intro (cell5 (HD.out.cell 0 rfl)) (GK.out _ BD.out)) (fun hHeld => ?_)
                refine Gh.tk 0 ?_
                refine Gh.tk 1 ?_
                refine Gh.tk 2 ?_
                refine Gh.tk 3 ?_
                refine Gh.tk 4 ?_
                refine Gh.tk 5 ?_
                refine Gh.tk 6 ?_
                refine Gh.tk 7 ?_
                refine Gh.tk 8 ?_
                refine Gh.tk 9 ?_
                refine Gh.tk 10 ?_
                refine Gh.tk 11 ?_
                refine Gh.tk 12 ?_
                refine Gh.tk 13 ?_
                refine Gh.tk 14 ?_
                refine Gh.tk 15 ?_
                refine Gh.tk 16 ?_
                refine Gh.tk 17 ?_
                refine Gh.tk 18 ?_
                refine Gh.tn 19 ?_
                refine Gh.tn 20 ?_
                refine Gh.tn 21 ?_
                refine Gh.tn 22 ?_
                refine Gh.tn 23 ?_
                refine Gh.tn 24 ?_
                refine Gh.tn 25 ?_
                refine Gh.tn 26 ?_
                refine Gh.tk 27 ?_
                refine wpAnyH_done (by kernel_rfl) ?_ _
                go_wp2
                go_roundg (gk - 1)
                case measure => omega
                case rel => exact ⟨j + 1, by have := HJ.out; omega, by go_num, by rw [NX.out], HD.out, BJD.out⟩
              have e2' : (gd == rd) = true := by simp [e2]
              by_cases e3 : gt = rtt
              case neg =>
                have e3' : (gt == rtt) = false := by simp [e3]
                have NX : Hid (c0 + sumG ⟨ri, rc, rd, rtt, rmm⟩ (G.take (j + 1)) = c0 + sj) := Lib.hid (by rw [STK, if_neg (fun h => e3 h.2.2)]; omega)
                clear STK e1 e2 e3
                refine wp_region_held_drew (S := (fun W' => (W'.cell? ⟨pk, 0, none⟩ = some (.int .i64 ri) ∧ W'.cell? ⟨pk, 1, none⟩ = some (.int .i64 rc) ∧ W'.cell? ⟨pk, 2, none⟩ = some (.int .i64 rd) ∧ W'.cell? ⟨pk, 3, none⟩ = some (.int .i64 rtt) ∧ W'.cell? ⟨pk, 4, none⟩ = some (.int .i64 rmm)) ∧ (W'.cell? ⟨gb, gf + j * 5, none⟩ = some (.int .i64 gi) ∧ W'.cell? ⟨gb, gf + j * 5 + 1, none⟩ = some (.int .i64 gcc) ∧ W'.cell? ⟨gb, gf + j * 5 + 2, none⟩ = some (.int .i64 gd) ∧ W'.cell? ⟨gb, gf + j * 5 + 3, none⟩ = some (.int .i64 gt) ∧ W'.cell? ⟨gb, gf + j * 5 + 4, none⟩ = some (.int .i64 gm)))) (by kernel_rfl) (And.intro (cell5 (HD.out.cell 0 rfl)) (GK.out _ BD.out)) (fun hHeld => ?_)
                refine Gh.tk 0 ?_
                refine Gh.tk 1 ?_
                refine Gh.tk 2 ?_
                refine Gh.tk 3 ?_
                refine Gh.tk 4 ?_
                refine Gh.tk 5 ?_
                refine Gh.tk 6 ?_
                refine Gh.tk 7 ?_
                refine Gh.tk 8 ?_
                refine Gh.tk 9 ?_
                refine Gh.tk 10 ?_
                refine Gh.tk 11 ?_
                refine Gh.tk 12 ?_
                refine Gh.tk 13 ?_
                refine Gh.tk 14 ?_
                refine Gh.tk 15 ?_
                refine Gh.tk 16 ?_
                refine Gh.tk 17 ?_
                refine Gh.tk 18 ?_
                refine Gh.tk 19 ?_
                refine Gh.tk 20 ?_
                refine Gh.tk 21 ?_
                refine Gh.tk 22 ?_
                refine Gh.tk 23 ?_
                refine Gh.tk 24 ?_
                refine Gh.tk 25 ?_
                refine Gh.tk 26 ?_
                refine Gh.tk 27 ?_
                refine wpAnyH_done (by kernel_rfl) ?_ _
                go_wp2
                go_roundg (gk - 1)
                case measure => omega
                case rel => exact ⟨j + 1, by have := HJ.out; omega, by go_num, by rw [NX.out], HD.out, BJD.out⟩
              have e3' : (gt == rtt) = true := by simp [e3]
              have NX : Hid (c0 + sumG ⟨ri, rc, rd, rtt, rmm⟩ (G.take (j + 1)) = c0 + sj + gcc) := Lib.hid (by rw [STK, if_pos ⟨e1, e2, e3⟩]; omega)
              have wsum : IntKind.i64.wrap (c0 + sj + gcc) = c0 + sj + gcc := IntWalk.i64_in _ (by omega)
              clear STK e1 e2 e3
              refine wp_region_held_drew (S := (fun W' => (W'.cell? ⟨pk, 0, none⟩ = some (.int .i64 ri) ∧ W'.cell? ⟨pk, 1, none⟩ = some (.int .i64 rc) ∧ W'.cell? ⟨pk, 2, none⟩ = some (.int .i64 rd) ∧ W'.cell? ⟨pk, 3, none⟩ = some (.int .i64 rtt) ∧ W'.cell? ⟨pk, 4, none⟩ = some (.int .i64 rmm)) ∧ (W'.cell? ⟨gb, gf + j * 5, none⟩ = some (.int .i64 gi) ∧ W'.cell? ⟨gb, gf + j * 5 + 1, none⟩ = some (.int .i64 gcc) ∧ W'.cell? ⟨gb, gf + j * 5 + 2, none⟩ = some (.int .i64 gd) ∧ W'.cell? ⟨gb, gf + j * 5 + 3, none⟩ = some (.int .i64 gt) ∧ W'.cell? ⟨gb, gf + j * 5 + 4, none⟩ = some (.int .i64 gm)))) (by kernel_rfl) (And.intro (cell5 (HD.out.cell 0 rfl)) (GK.out _ BD.out)) (fun hHeld => ?_)
              refine Gh.tk 0 ?_
              refine Gh.tk 1 ?_
              refine Gh.tk 2 ?_
              refine Gh.tk 3 ?_
              refine Gh.tk 4 ?_
              refine Gh.tk 5 ?_
              refine Gh.tk 6 ?_
              refine Gh.tk 7 ?_
              refine Gh.tk 8 ?_
              refine Gh.tk 9 ?_
              refine Gh.tk 10 ?_
              refine Gh.tk 11 ?_
              refine Gh.tk 12 ?_
              refine Gh.tk 13 ?_
              refine Gh.tk 14 ?_
              refine Gh.tk 15 ?_
              refine Gh.tk 16 ?_
              refine Gh.tk 17 ?_
              refine Gh.tk 18 ?_
              refine Gh.tk 19 ?_
              refine Gh.tk 20 ?_
              refine Gh.tk 21 ?_
              refine Gh.tk 22 ?_
              refine Gh.tk 23 ?_
              refine Gh.tk 24 ?_
              refine Gh.tk 25 ?_
              refine Gh.tk 26 ?_
              refine Gh.tk 27 ?_
              refine wpAnyH_done (by kernel_rfl) ?_ _
              go_wp2
              go_roundg (gk - 1)
              case measure => omega
              case rel => exact ⟨j + 1, by have := HJ.out; omega, by go_num, by rw [NX.out], HD.out, BJD.out⟩

set_option maxRecDepth 100000 in
set_option maxHeartbeats 1600000 in
theorem lifted (os : Os) (started : os.Started) (H : Type) (enc : TypeId × Value → H) :
    ReturnsInHanded {} Try.checked os 6 .any (Rows.judgeExtraSpec.pre6 enc Try.prog Try.f6 Rows.judgeExtraRow.domain false) (Rows.judgeExtraSpec.post enc Try.prog Try.f6 false true false false) := by
  refine returnsInHanded_of_change (C := Try.checked) own started (by kernel_rfl) Try.func6
    (ChangeSpec.witness6 (enc := enc) (C := Try.checked) false ⟨#[], #[.slice none 0 0, .agg #[.int .i64 0, .int .i64 0, .int .i64 0, .int .i64 0, .int .i64 0, .int .i64 0, .bool false], .slice none 0 0], []⟩ 8 (by kernel_rfl) (by kernel_rfl) (by kernel_rfl) (by kernel_rfl)) ?_
  intro W base args ds gs before hval0 hW hcnd _
  have hval : ∀ (j : Nat) t v, Try.f6.params[j]? = some t → args[j]? = some v → Value.okWide Try.prog W .any base t v := hval0
  have hW' := hW
  obtain ⟨p, q, hA0, hV, rfl, hfz, hnd⟩ := hW
  have hA : DataW.TrodAll enc Try.prog W 0 (fun _ => true) true Try.f6.params.toList args.toList ds p := hA0
  rw [Try.params6] at hA hval
  obtain ⟨v0, vs0, d0, ds0, p0, q0, hargs, rfl, rfl, h0, r0⟩ := trodAll_cons hA
  obtain ⟨v1, vs1, d1, ds1, p1, q1, rfl, rfl, rfl, h1, r1⟩ := trodAll_cons r0
  obtain ⟨v2, vs2, d2, ds2, p2, q2, rfl, rfl, rfl, h2, r2⟩ := trodAll_cons r1
  obtain ⟨rfl, rfl, rfl⟩ := trodAll_nil r2
  obtain rfl : args = #[v0, v1, v2] := by cases args; simp_all
  obtain ⟨rfl, rfl⟩ := trodVars_none hV
  have lt0 : ∀ x ∈ p0, x.block < W.heap.size := by obtain ⟨m, hm⟩ := h0; exact DataW.trod_lt m _ _ _ hm
  obtain ⟨lo, l, lc, rfl, ll, lm, ls⟩ := open_nms (hval 0 22 v0 rfl rfl) h0
  have lt1 : ∀ x ∈ p1, x.block < W.heap.size := by obtain ⟨m, hm⟩ := h1; exact DataW.trod_lt m _ _ _ hm
  obtain ⟨o, rfl, oko⟩ := open_nm (hval 1 24 v1 rfl rfl) h1
  have lt2 : ∀ x ∈ p2, x.block < W.heap.size := by obtain ⟨m, hm⟩ := h2; exact DataW.trod_lt m _ _ _ hm
  obtain ⟨xo, x, xc, rfl, xl, xm, xs⟩ := open_nms (hval 2 22 v2 rfl rfl) h2
  clear hA0 hval0
  refine (walk l lo lc o x xo xc W ll ls xl xs).mono fun e W' ⟨he, bel⟩ => ?_
  subst he
  exact ⟨_, rfl, _, _, _, [], _, [], hW', trodAll_mk1 (shut_bool Try.underlying4 _), (trodAll_cons_mk (Below.trod laidOut (by kernel_rfl) (of_decide_eq_true (by kernel_rfl)) h0 bel lt0) (trodAll_cons_mk (Below.trod laidOut (by kernel_rfl) (of_decide_eq_true (by kernel_rfl)) h1 bel lt1) (trodAll_cons_mk (Below.trod laidOut (by kernel_rfl) (of_decide_eq_true (by kernel_rfl)) h2 bel lt2) trodAll_mk0))), rfl, bel.frame _, fun h => by cases h⟩

theorem proved : Rows.JudgeExtraSaid :=
  OpenClaim.holds_of_wide 6 Try.f6 rfl rfl rfl rfl rfl rfl rfl ⟨rfl, rfl, rfl, rfl, rfl⟩ rfl rfl rfl rfl rfl (by kernel_rfl) Try.func6 (by kernel_rfl)
    (of_decide_eq_true (by kernel_rfl)) (by unfold Func.isWrapper; first | (rw [if_pos (by decide +kernel)]; kernel_rfl) | (rw [if_neg (by decide +kernel)]; exact ⟨rfl, rfl⟩))
    (fun os started H enc _ => lifted os started H enc)
#print axioms proved
end Go.Proofs.Ytgbnoifaknlkhaa.judgeExtra
