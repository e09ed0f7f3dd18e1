/- The statements' function made of layer 14: a table by ops. -/
import Derived.Test.YtnaanahgflbihaaTbR
import Derived.Test.YtnaanahgflbihaaTbP
import Derived.Test.YtnaanahgflbihaaTbO
namespace Go.Proofs.Ytnaanahgflbihaa.Tb
open Go.ChangeShapes Go.WideShapes Go.ChangeAt Go.RowKit Go.Joins
open Pm (Tk chk chk_iff)
open Ge (El Seen Row)
open Ox (Od chkR bareR)
set_option maxRecDepth 100000
set_option maxRecDepth 100000
set_option linter.unusedVariables false
set_option linter.unusedSimpArgs false
/-- a table, and an op that may be applied or not -/
def stepT (t : Tb) (o : Od) : Tb := if (applyR t (nearR o)).2 = 0 then (applyR t (nearR o)).1 else t
def madeN (l : List Od) (n : Nat) : Tb := (l.take n).foldl stepT tb0
def madeT (l : List Od) : Tb := madeN l (min l.length 24)
theorem madeN_zero (l : List Od) : madeN l 0 = tb0 := by simp [madeN]
theorem madeN_succ {l : List Od} {i : Nat} (h : i < l.length) : madeN l (i + 1) = stepT (madeN l i) l[i] := by
  unfold madeN
  rw [List.take_succ_eq_append_getElem h, List.foldl_append]; rfl
theorem step_chk {t : Tb} {o : Od} (h : chkT t = true) : chkT (stepT t o) = true := by
  unfold stepT
  split
  · rename_i h0; exact (apply_chk h0).1
  · exact h
theorem madeN_chk (l : List Od) (n : Nat) : chkT (madeN l n) = true := by
  unfold madeN
  generalize l.take n = m
  have key : ∀ (m : List Od) (t : Tb), chkT t = true → chkT (m.foldl stepT t) = true := by
    intro m
    induction m with
    | nil => intro t h; exact h
    | cons o m ih => intro t h; exact ih _ (step_chk h)
  exact key m tb0 chk_tb0
theorem made_chk (l : List Od) : chkT (madeT l) = true := madeN_chk l _
theorem op_cells {b off : Nat} {l : List Od} {W : World} (h : ∀ i x, l[i]? = some x → ∀ j u, (ocs x)[j]? = some u → W.cell? ⟨b, off + i * 10 + j, none⟩ = some u) {i : Nat} {x : Od} (hx : l[i]? = some x) :
    W.cell? ⟨b, off + i * 10, none⟩ = some (.int .i64 x.kind) ∧ W.cell? ⟨b, off + i * 10 + 1, none⟩ = some (.int .i64 x.task.id) ∧ W.cell? ⟨b, off + i * 10 + 2, none⟩ = some (.int .i64 x.task.c) ∧ W.cell? ⟨b, off + i * 10 + 3, none⟩ = some (.int .i64 x.task.d) ∧ W.cell? ⟨b, off + i * 10 + 4, none⟩ = some (.int .i64 x.task.t) ∧ W.cell? ⟨b, off + i * 10 + 5, none⟩ = some (.int .i64 x.task.m) ∧ W.cell? ⟨b, off + i * 10 + 6, none⟩ = some (.bool x.server) ∧ W.cell? ⟨b, off + i * 10 + 7, none⟩ = some (.int .i64 x.id) ∧ W.cell? ⟨b, off + i * 10 + 8, none⟩ = some (.int .i64 x.c) ∧ W.cell? ⟨b, off + i * 10 + 9, none⟩ = some (.int .i64 x.mode) :=
  ⟨h i x hx 0 _ rfl, h i x hx 1 _ rfl, h i x hx 2 _ rfl, h i x hx 3 _ rfl, h i x hx 4 _ rfl, h i x hx 5 _ rfl, h i x hx 6 _ rfl, h i x hx 7 _ rfl, h i x hx 8 _ rfl, h i x hx 9 _ rfl⟩
/-- one op of a row that came in, in whatever world behind -/
theorem seen_op {ao : Option Addr} {l : List Od} {w : World} (h : Seen ocs 10 ao l w) {i : Nat} {x : Od} (hx : l[i]? = some x) : ∃ b off, ao = some ⟨b, off, none⟩ ∧ ∀ W, Below w.heap.size w W → W.cell? ⟨b, off + i * 10, none⟩ = some (.int .i64 x.kind) ∧ W.cell? ⟨b, off + i * 10 + 1, none⟩ = some (.int .i64 x.task.id) ∧ W.cell? ⟨b, off + i * 10 + 2, none⟩ = some (.int .i64 x.task.c) ∧ W.cell? ⟨b, off + i * 10 + 3, none⟩ = some (.int .i64 x.task.d) ∧ W.cell? ⟨b, off + i * 10 + 4, none⟩ = some (.int .i64 x.task.t) ∧ W.cell? ⟨b, off + i * 10 + 5, none⟩ = some (.int .i64 x.task.m) ∧ W.cell? ⟨b, off + i * 10 + 6, none⟩ = some (.bool x.server) ∧ W.cell? ⟨b, off + i * 10 + 7, none⟩ = some (.int .i64 x.id) ∧ W.cell? ⟨b, off + i * 10 + 8, none⟩ = some (.int .i64 x.c) ∧ W.cell? ⟨b, off + i * 10 + 9, none⟩ = some (.int .i64 x.mode) := by
  have h0 : 0 < l.length := by have := (List.getElem?_eq_some_iff.1 hx).1; omega
  obtain ⟨b, off, rfl, hb, hat⟩ := h h0
  refine ⟨b, off, rfl, fun W hW => ?_⟩
  obtain ⟨b', off', e, hb', hat'⟩ := (h.below hW (Nat.le_refl _)) h0
  cases e
  exact op_cells hat' hx
def MaRel (l : List Od) (w : World) (g : Nat) (s : Value) (wx : World) : Prop :=
  ∃ (i : Nat) (t : Tb) (ao : Option Addr) (cap : Nat), i + g = min l.length 24 ∧ s = .int .i64 (i : Int) ∧ t = madeN l i ∧ Bos [(w.heap.size + 1, #[.slice ao t.rows.length cap, .int .i64 t.mode], 24), (w.heap.size, #[.slice none 0 0, .int .i64 0], 24)] w wx ∧ Sl (.slice ao t.rows.length cap) t.rows wx ao cap
set_option maxHeartbeats 8000000 in
theorem made_any (l : List Od) (lo : Option Addr) (lc : Nat) (w : World) (hS : Seen ocs 10 lo l w) (hl : l.length ≤ 9223372036854775807) :
    Calls Try.prog 14 #[.slice lo l.length lc] w fun e w' => ∃ v, e = .returned v ∧ Told v (madeT l) w' ∧ Below w.heap.size w w' := by
  have SO := Lib.hid hS
  clear hS
  have H0 := Lib.hid (two_new w (.slice none 0 0) (.slice none 0 0) 0 0)
  have G : Hid (MaRel l w (min l.length 24) (.int .i64 0) ((w.alloc (.cells #[.slice none 0 0, .int .i64 0] 24)).alloc (.cells #[.slice none 0 0, .int .i64 0] 24))) := Lib.hid ⟨0, tb0, none, 0, by omega, rfl, (madeN_zero l).symm, H0.out, rfl, Nat.le_refl _, fun _ => rfl, Ge.seen_nil _ _⟩
  clear H0
  go_enter Try.func14, Try.ntmps14
  go_wp2_with fail
  go_loopg [4] (min l.length 24) (MaRel l w)
  case atStart => exact G.out
  case round =>
    obtain ⟨i, t, ao, cap, hi, rfl, ht, hB, hsl⟩ := hrel
    have HB := Lib.hid hB
    have SX := Lib.hid hsl
    have HT := Lib.hid ht
    have hch : chkT t = true := by rw [ht]; exact madeN_chk l i
    have hl16 := (chkT_iff.1 hch).2.2.1
    clear G hB hsl ht hch
    obtain ⟨t0, t1⟩ := cell2 (HB.out.cell 0 rfl)
    obtain ⟨z0, z1⟩ := cell2 (HB.out.cell 1 rfl)
    have zf := HB.out.fz 1 rfl
    by_cases hlt : i < l.length ∧ i < 24
    · obtain ⟨h1, h2⟩ := hlt
      have hx := List.getElem?_eq_getElem h1
      have MS := Lib.hid (madeN_succ h1)
      obtain ⟨b, off, rfl, hop⟩ := seen_op SO.out hx
      have HOP := Lib.hid hop
      have hg0 : 0 < gk := by omega
      have HI := Lib.hid hi
      have i1 : (i : Int) < (l.length : Int) := by omega
      have i2 : (i : Int) < 24 := by omega
      have i3 : IntKind.i64.wrap (i : Int) = (i : Int) := IntWalk.i64_in _ (by omega)
      generalize l[i] = x at *
      clear hx hop hi h1 h2
      have NE := Lib.hid (near_any x)
      have RA : Hid (∀ W, Sl (.slice ao t.rows.length cap) t.rows W ao cap → Calls Try.prog 31 #[tv ao t.rows.length cap t.mode, (nearR x).v] W fun e w' => ∃ v, e = .returned (.tuple #[v, .int .i64 (applyR t (nearR x)).2]) ∧ Told v (applyR t (nearR x)).1 w' ∧ Below W.heap.size W w') := Lib.hid (fun W h => rapply_any t (nearR x) ao cap W h (by omega))
      have ST : Hid (stepT t x = if (applyR t (nearR x)).2 = 0 then (applyR t (nearR x)).1 else t) := Lib.hid rfl
      rw [← HT.out] at MS
      generalize applyR t (nearR x) = R at *
      generalize nearR x = y at *
      obtain ⟨R1, R2⟩ := R
      simp only at RA ST
      obtain ⟨xk, ⟨xi, xc, xd, xt, xm⟩, xs, xid, xcc, xmo⟩ := x
      obtain ⟨yk, ⟨yi, yc, yd, yt, ym⟩, ys, yid, ycc, ymo⟩ := y
      unfold tv Od.v Od.cs at *
      simp only at *
      have HX := Lib.hid HB.out.drew
      have SX := Lib.hid (SX.out.call (Below.refl _ _).drew)
      clear SO
      go_wp2_with fail
      refine wp_region_held_drew (S := (fun W' => (W'.cell? ⟨w.heap.size + 1, 0, none⟩ = some (.slice ao t.rows.length cap) ∧ W'.cell? ⟨w.heap.size + 1, 1, none⟩ = some (.int .i64 t.mode)) ∧ (W'.cell? ⟨b, off + i * 10, none⟩ = some (.int .i64 xk) ∧ W'.cell? ⟨b, off + i * 10 + 1, none⟩ = some (.int .i64 xi) ∧ W'.cell? ⟨b, off + i * 10 + 2, none⟩ = some (.int .i64 xc) ∧ W'.cell? ⟨b, off + i * 10 + 3, none⟩ = some (.int .i64 xd) ∧ W'.cell? ⟨b, off + i * 10 + 4, none⟩ = some (.int .i64 xt) ∧ W'.cell? ⟨b, off + i * 10 + 5, none⟩ = some (.int .i64 xm) ∧ W'.cell? ⟨b, off + i * 10 + 6, none⟩ = some (.bool xs) ∧ W'.cell? ⟨b, off + i * 10 + 7, none⟩ = some (.int .i64 xid) ∧ W'.cell? ⟨b, off + i * 10 + 8, none⟩ = some (.int .i64 xcc) ∧ W'.cell? ⟨b, off + i * 10 + 9, none⟩ = some (.int .i64 xmo)))) (by kernel_rfl) (And.intro (cell2 (HX.out.cell 0 rfl)) (HOP.out _ HX.out.bl)) (fun hHeld => ?_)
      refine wpAnyH_take (i := 0) (v := ?_) rfl (by kernel_rfl) (by kernel_rfl) (by kernel_rfl) (fun _ _ _ h => h) (Or.inl ⟨by rfl, ?_⟩) (by assumption) ?_
      rotate_left
      · (intro wS hSw; (try dsimp only at hSw); go_simp; try with_reducible rfl)
      (try simp only [Act.put, List.getElem_toArray, List.getElem_cons_succ, List.getElem_cons_zero, List.setIfInBounds_toArray, List.set_cons_zero, List.set_cons_succ])
      refine wpAnyH_take (i := 1) (v := ?_) rfl (by kernel_rfl) (by kernel_rfl) (by kernel_rfl) (fun _ _ _ h => h) (Or.inl ⟨by rfl, ?_⟩) (by assumption) ?_
      rotate_left
      · (intro wS hSw; (try dsimp only at hSw); go_simp; try with_reducible rfl)
      (try simp only [Act.put, List.getElem_toArray, List.getElem_cons_succ, List.getElem_cons_zero, List.setIfInBounds_toArray, List.set_cons_zero, List.set_cons_succ])
      refine wpAnyH_take (i := 2) (v := ?_) rfl (by kernel_rfl) (by kernel_rfl) (by kernel_rfl) (fun _ _ _ h => h) (Or.inl ⟨by rfl, ?_⟩) (by assumption) ?_
      rotate_left
      · (intro wS hSw; (try dsimp only at hSw); go_simp; try with_reducible rfl)
      (try simp only [Act.put, List.getElem_toArray, List.getElem_cons_succ, List.getElem_cons_zero, List.setIfInBounds_toArray, List.set_cons_zero, List.set_cons_succ])
      refine wpAnyH_take (i := 3) (v := ?_) rfl (by kernel_rfl) (by kernel_rfl) (by kernel_rfl) (fun _ _ _ h => h) (Or.inl ⟨by rfl, ?_⟩) (by assumption) ?_
      rotate_left
      · (intro wS hSw; (try dsimp only at hSw); go_simp; try with_reducible rfl)
      (try simp only [Act.put, List.getElem_toArray, List.getElem_cons_succ, List.getElem_cons_zero, List.setIfInBounds_toArray, List.set_cons_zero, List.set_cons_succ])
      refine wpAnyH_take (i := 4) (v := ?_) rfl (by kernel_rfl) (by kernel_rfl) (by kernel_rfl) (fun _ _ _ h => h) (Or.inl ⟨by rfl, ?_⟩) (by assumption) ?_
      rotate_left
      · (intro wS hSw; (try dsimp only at hSw); go_simp; try with_reducible rfl)
      (try simp only [Act.put, List.getElem_toArray, List.getElem_cons_succ, List.getElem_cons_zero, List.setIfInBounds_toArray, List.set_cons_zero, List.set_cons_succ])
      refine wpAnyH_ready (rs := [5, 10]) (by kernel_rfl) (by simp) ?_
      refine AllReadyH.cons rfl (fun K hK => ?_) ?_
      · go_simp
        (with_reducible refine (NE.out _).mono ?_)
        rintro e w1 ⟨rfl, b1⟩
        have HX := Lib.hid (HX.out.call b1)
        have SX := Lib.hid (SX.out.call b1)
        clear b1
        go_simp
        refine hK.out _ _ (And.intro (cell2 (HX.out.cell 0 rfl)) (HOP.out _ HX.out.bl)) (fun hHeld => ?_)
        clear hK K
        (try simp only [Act.put, List.getElem_toArray, List.getElem_cons_succ, List.getElem_cons_zero, List.setIfInBounds_toArray, List.set_cons_zero, List.set_cons_succ])
        refine wpAnyH_ready (rs := [6, 10]) (by kernel_rfl) (by simp) ?_
        refine AllReadyH.cons rfl (fun K hK => ?_) ?_
        · go_simp
          (with_reducible refine (RA.out _ SX.out).mono ?_)
          rintro e w2 ⟨v, rfl, ⟨ao', cap', rfl, sn⟩, b2⟩
          have HX := Lib.hid (HX.out.call b2)
          have SX := Lib.hid (SX.out.call b2)
          have SN := Lib.hid sn
          clear b2 sn
          unfold tv
          go_simp
          refine hK.out _ _ (And.intro (cell2 (HX.out.cell 0 rfl)) (HOP.out _ HX.out.bl)) (fun hHeld => ?_)
          clear hK K
          (try simp only [Act.put, List.getElem_toArray, List.getElem_cons_succ, List.getElem_cons_zero, List.setIfInBounds_toArray, List.set_cons_zero, List.set_cons_succ])
          refine wpAnyH_take (i := 7) (v := ?_) rfl (by kernel_rfl) (by kernel_rfl) (by kernel_rfl) (fun _ _ _ h => h) (Or.inl ⟨by rfl, ?_⟩) (by assumption) ?_
          rotate_left
          · (intro wS hSw; (try dsimp only at hSw); go_simp; try with_reducible rfl)
          (try simp only [Act.put, List.getElem_toArray, List.getElem_cons_succ, List.getElem_cons_zero, List.setIfInBounds_toArray, List.set_cons_zero, List.set_cons_succ])
          refine wpAnyH_take (i := 8) (v := ?_) rfl (by kernel_rfl) (by kernel_rfl) (by kernel_rfl) (fun _ _ _ h => h) (Or.inl ⟨by rfl, ?_⟩) (by assumption) ?_
          rotate_left
          · (intro wS hSw; (try dsimp only at hSw); go_simp; try with_reducible rfl)
          (try simp only [Act.put, List.getElem_toArray, List.getElem_cons_succ, List.getElem_cons_zero, List.setIfInBounds_toArray, List.set_cons_zero, List.set_cons_succ])
          refine wpAnyH_take (i := 9) (v := ?_) rfl (by kernel_rfl) (by kernel_rfl) (by kernel_rfl) (fun _ _ _ h => h) (Or.inl ⟨by rfl, ?_⟩) (by assumption) ?_
          rotate_left
          · (intro wS hSw; (try dsimp only at hSw); go_simp; try with_reducible rfl)
          (try simp only [Act.put, List.getElem_toArray, List.getElem_cons_succ, List.getElem_cons_zero, List.setIfInBounds_toArray, List.set_cons_zero, List.set_cons_succ])
          refine wpAnyH_ready (rs := [10]) (by kernel_rfl) (by simp) ?_
          refine AllReadyH.cons rfl (fun K hK => ?_) ?_
          · have HY := Lib.hid HX.out
            have SXY := Lib.hid SX.out
            have SNY := Lib.hid SN.out
            have HX := Lib.hid (HX.out.new #[.slice none 0 0, .int .i64 0] 24)
            have SX := Lib.hid (SX.out.call ((Below.refl _ _).alloc (Nat.le_refl _) (.cells #[.slice none 0 0, .int .i64 0] 24)))
            have SN := Lib.hid (SN.out.call ((Below.refl _ _).alloc (Nat.le_refl _) (.cells #[.slice none 0 0, .int .i64 0] 24)))
            go_simp
            refine hK.out _ _ (And.intro (cell2 (HX.out.cell 1 rfl)) (HOP.out _ HX.out.bl)) (fun hHeld => ?_)
            clear hK K
            (try simp only [Act.put, List.getElem_toArray, List.getElem_cons_succ, List.getElem_cons_zero, List.setIfInBounds_toArray, List.set_cons_zero, List.set_cons_succ])
            refine wpAnyH_ready (rs := [11]) (by kernel_rfl) (by simp) ?_
            refine AllReadyH.cons rfl (fun K hK => ?_) ?_
            · have HX := Lib.hid (HY.out.new #[.slice ao' R1.rows.length cap', .int .i64 R1.mode] 24)
              have SX := Lib.hid (SXY.out.call ((Below.refl _ _).alloc (Nat.le_refl _) (.cells #[.slice ao' R1.rows.length cap', .int .i64 R1.mode] 24)))
              have SN := Lib.hid (SNY.out.call ((Below.refl _ _).alloc (Nat.le_refl _) (.cells #[.slice ao' R1.rows.length cap', .int .i64 R1.mode] 24)))
              go_simp
              refine hK.out _ _ (And.intro (cell2 (HX.out.cell 1 rfl)) (HOP.out _ HX.out.bl)) (fun hHeld => ?_)
              clear hK K
              (try simp only [Act.put, List.getElem_toArray, List.getElem_cons_succ, List.getElem_cons_zero, List.setIfInBounds_toArray, List.set_cons_zero, List.set_cons_succ])
              refine wpAnyH_take (i := 12) (v := ?_) rfl (by kernel_rfl) (by kernel_rfl) (by kernel_rfl) (fun _ _ _ h => h) (Or.inl ⟨by rfl, ?_⟩) (by assumption) ?_
              rotate_left
              · (intro wS hSw; (try dsimp only at hSw); go_simp; try with_reducible rfl)
              (try simp only [Act.put, List.getElem_toArray, List.getElem_cons_succ, List.getElem_cons_zero, List.setIfInBounds_toArray, List.set_cons_zero, List.set_cons_succ])
              refine wpAnyH_done (by kernel_rfl) ?_ _
              clear HOP NE RA
              by_cases he : R2 = 0
              · have he1 : (R2 == 0) = true := by simp [he]
                have EQ : Hid (R1 = madeN l (i + 1)) := Lib.hid (by rw [MS.out, ST.out, if_pos he])
                obtain ⟨y0, y1⟩ := cell2 (HX.out.cell 0 rfl)
                obtain ⟨g0, g1⟩ := cell2 (HX.out.cell 1 rfl)
                have gf := HX.out.fz 1 rfl
                have H9 := Lib.hid ((HX.out.set 1 rfl 0 (.slice ao' R1.rows.length cap')).set 1 rfl 1 (.int .i64 R1.mode))
                have S9 := Lib.hid ((SN.out.set HX.out 1 rfl (by simp) 0 (.slice ao' R1.rows.length cap')).set (HX.out.set 1 rfl 0 (.slice ao' R1.rows.length cap')) 1 rfl (by simp) 1 (.int .i64 R1.mode))
                clear he
                go_wp2
                go_roundg (gk - 1)
                case measure => omega
                case rel => exact ⟨i + 1, R1, ao', cap', by have := HI.out; omega, by go_num, EQ.out, H9.out.sub (List.sublist_cons_self _ _), S9.out⟩
              · have he1 : (R2 == 0) = false := by simp [he]
                have EQ : Hid (t = madeN l (i + 1)) := Lib.hid (by rw [MS.out, ST.out, if_neg he])
                clear he
                go_wp2
                go_roundg (gk - 1)
                case measure => omega
                case rel => exact ⟨i + 1, t, ao, cap, by have := HI.out; omega, by go_num, EQ.out, HX.out.sub (List.sublist_cons_self _ _), SX.out⟩
            exact AllReadyH.nil
          exact AllReadyH.nil
        refine AllReadyH.cons rfl (fun K hK => ?_) ?_
        · have HY := Lib.hid HX.out
          have SXY := Lib.hid SX.out
          have HX := Lib.hid (HX.out.new #[.slice none 0 0, .int .i64 0] 24)
          have SX := Lib.hid (SX.out.call ((Below.refl _ _).alloc (Nat.le_refl _) (.cells #[.slice none 0 0, .int .i64 0] 24)))
          go_simp
          refine hK.out _ _ (And.intro (cell2 (HX.out.cell 1 rfl)) (HOP.out _ HX.out.bl)) (fun hHeld => ?_)
          clear hK K
          (try simp only [Act.put, List.getElem_toArray, List.getElem_cons_succ, List.getElem_cons_zero, List.setIfInBounds_toArray, List.set_cons_zero, List.set_cons_succ])
          refine wpAnyH_ready (rs := [6]) (by kernel_rfl) (by simp) ?_
          refine AllReadyH.cons rfl (fun K hK => ?_) ?_
          · go_simp
            (with_reducible refine (RA.out _ SX.out).mono ?_)
            rintro e w2 ⟨v, rfl, ⟨ao', cap', rfl, sn⟩, b2⟩
            have HX := Lib.hid (HX.out.call b2)
            have SX := Lib.hid (SX.out.call b2)
            have SN := Lib.hid sn
            clear b2 sn
            unfold tv
            go_simp
            refine hK.out _ _ (And.intro (cell2 (HX.out.cell 1 rfl)) (HOP.out _ HX.out.bl)) (fun hHeld => ?_)
            clear hK K
            (try simp only [Act.put, List.getElem_toArray, List.getElem_cons_succ, List.getElem_cons_zero, List.setIfInBounds_toArray, List.set_cons_zero, List.set_cons_succ])
            refine wpAnyH_take (i := 7) (v := ?_) rfl (by kernel_rfl) (by kernel_rfl) (by kernel_rfl) (fun _ _ _ h => h) (Or.inl ⟨by rfl, ?_⟩) (by assumption) ?_
            rotate_left
            · (intro wS hSw; (try dsimp only at hSw); go_simp; try with_reducible rfl)
            (try simp only [Act.put, List.getElem_toArray, List.getElem_cons_succ, List.getElem_cons_zero, List.setIfInBounds_toArray, List.set_cons_zero, List.set_cons_succ])
            refine wpAnyH_take (i := 8) (v := ?_) rfl (by kernel_rfl) (by kernel_rfl) (by kernel_rfl) (fun _ _ _ h => h) (Or.inl ⟨by rfl, ?_⟩) (by assumption) ?_
            rotate_left
            · (intro wS hSw; (try dsimp only at hSw); go_simp; try with_reducible rfl)
            (try simp only [Act.put, List.getElem_toArray, List.getElem_cons_succ, List.getElem_cons_zero, List.setIfInBounds_toArray, List.set_cons_zero, List.set_cons_succ])
            refine wpAnyH_take (i := 9) (v := ?_) rfl (by kernel_rfl) (by kernel_rfl) (by kernel_rfl) (fun _ _ _ h => h) (Or.inl ⟨by rfl, ?_⟩) (by assumption) ?_
            rotate_left
            · (intro wS hSw; (try dsimp only at hSw); go_simp; try with_reducible rfl)
            (try simp only [Act.put, List.getElem_toArray, List.getElem_cons_succ, List.getElem_cons_zero, List.setIfInBounds_toArray, List.set_cons_zero, List.set_cons_succ])
            refine wpAnyH_ready (rs := [11]) (by kernel_rfl) (by simp) ?_
            refine AllReadyH.cons rfl (fun K hK => ?_) ?_
            · obtain ⟨c0, c1⟩ := cell2 (HX.out.cell 0 rfl)
              have cf := HX.out.fz 0 rfl
              have SX := Lib.hid ((SX.out.set HX.out 0 rfl (by simp) 0 (.slice ao' R1.rows.length cap')).set (HX.out.set 0 rfl 0 (.slice ao' R1.rows.length cap')) 0 rfl (by simp) 1 (.int .i64 R1.mode))
              have SN := Lib.hid ((SN.out.set HX.out 0 rfl (by simp) 0 (.slice ao' R1.rows.length cap')).set (HX.out.set 0 rfl 0 (.slice ao' R1.rows.length cap')) 0 rfl (by simp) 1 (.int .i64 R1.mode))
              have HX := Lib.hid ((HX.out.set 0 rfl 0 (.slice ao' R1.rows.length cap')).set 0 rfl 1 (.int .i64 R1.mode))
              go_simp
              refine hK.out _ _ (And.intro (cell2 (HX.out.cell 1 rfl)) (HOP.out _ HX.out.bl)) (fun hHeld => ?_)
              clear hK K
              (try simp only [Act.put, List.getElem_toArray, List.getElem_cons_succ, List.getElem_cons_zero, List.setIfInBounds_toArray, List.set_cons_zero, List.set_cons_succ])
              refine wpAnyH_take (i := 12) (v := ?_) rfl (by kernel_rfl) (by kernel_rfl) (by kernel_rfl) (fun _ _ _ h => h) (Or.inl ⟨by rfl, ?_⟩) (by assumption) ?_
              rotate_left
              · (intro wS hSw; (try dsimp only at hSw); go_simp; try with_reducible rfl)
              (try simp only [Act.put, List.getElem_toArray, List.getElem_cons_succ, List.getElem_cons_zero, List.setIfInBounds_toArray, List.set_cons_zero, List.set_cons_succ])
              refine wpAnyH_done (by kernel_rfl) ?_ _
              clear HOP NE RA
              by_cases he : R2 = 0
              · have he1 : (R2 == 0) = true := by simp [he]
                have EQ : Hid (R1 = madeN l (i + 1)) := Lib.hid (by rw [MS.out, ST.out, if_pos he])
                obtain ⟨y0, y1⟩ := cell2 (HX.out.cell 0 rfl)
                obtain ⟨g0, g1⟩ := cell2 (HX.out.cell 1 rfl)
                have gf := HX.out.fz 1 rfl
                have H9 := Lib.hid ((HX.out.set 1 rfl 0 (.slice ao' R1.rows.length cap')).set 1 rfl 1 (.int .i64 R1.mode))
                have S9 := Lib.hid ((SN.out.set HX.out 1 rfl (by simp) 0 (.slice ao' R1.rows.length cap')).set (HX.out.set 1 rfl 0 (.slice ao' R1.rows.length cap')) 1 rfl (by simp) 1 (.int .i64 R1.mode))
                clear he
                go_wp2
                go_roundg (gk - 1)
                case measure => omega
                case rel => exact ⟨i + 1, R1, ao', cap', by have := HI.out; omega, by go_num, EQ.out, H9.out.sub (List.sublist_cons_self _ _), S9.out⟩
              · have he1 : (R2 == 0) = false := by simp [he]
                have EQ : Hid (t = madeN l (i + 1)) := Lib.hid (by rw [MS.out, ST.out, if_neg he])
                clear he
                go_wp2
                go_roundg (gk - 1)
                case measure => omega
                case rel => exact ⟨i + 1, t, ao, cap, by have := HI.out; omega, by go_num, EQ.out, HX.out.sub (List.sublist_cons_self _ _), SX.out⟩
            exact AllReadyH.nil
          exact AllReadyH.nil
        exact AllReadyH.nil
      refine AllReadyH.cons rfl (fun K hK => ?_) ?_
      · have HY := Lib.hid HX.out
        have SXY := Lib.hid SX.out
        have HX := Lib.hid (HX.out.new #[.slice none 0 0, .int .i64 0] 24)
        have SX := Lib.hid (SX.out.call ((Below.refl _ _).alloc (Nat.le_refl _) (.cells #[.slice none 0 0, .int .i64 0] 24)))
        have HX : Hid (Bos ((wr.heap.size, #[.slice none 0 0, .int .i64 0], 24) :: _) w _) := Lib.hid HX.out
        go_simp
        refine hK.out _ _ (And.intro (cell2 (HX.out.cell 1 rfl)) (HOP.out _ HX.out.bl)) (fun hHeld => ?_)
        clear hK K
        (try simp only [Act.put, List.getElem_toArray, List.getElem_cons_succ, List.getElem_cons_zero, List.setIfInBounds_toArray, List.set_cons_zero, List.set_cons_succ])
        refine wpAnyH_ready (rs := [5]) (by kernel_rfl) (by simp) ?_
        refine AllReadyH.cons rfl (fun K hK => ?_) ?_
        · go_simp
          (with_reducible refine (NE.out _).mono ?_)
          rintro e w1 ⟨rfl, b1⟩
          have HX := Lib.hid (HX.out.call b1)
          have SX := Lib.hid (SX.out.call b1)
          clear b1
          go_simp
          refine hK.out _ _ (And.intro (cell2 (HX.out.cell 1 rfl)) (HOP.out _ HX.out.bl)) (fun hHeld => ?_)
          clear hK K
          (try simp only [Act.put, List.getElem_toArray, List.getElem_cons_succ, List.getElem_cons_zero, List.setIfInBounds_toArray, List.set_cons_zero, List.set_cons_succ])
          refine wpAnyH_ready (rs := [6]) (by kernel_rfl) (by simp) ?_
          refine AllReadyH.cons rfl (fun K hK => ?_) ?_
          · go_simp
            (with_reducible refine (RA.out _ SX.out).mono ?_)
            rintro e w2 ⟨v, rfl, ⟨ao', cap', rfl, sn⟩, b2⟩
            have HX := Lib.hid (HX.out.call b2)
            have SX := Lib.hid (SX.out.call b2)
            have SN := Lib.hid sn
            clear b2 sn
            unfold tv
            go_simp
            refine hK.out _ _ (And.intro (cell2 (HX.out.cell 1 rfl)) (HOP.out _ HX.out.bl)) (fun hHeld => ?_)
            clear hK K
            (try simp only [Act.put, List.getElem_toArray, List.getElem_cons_succ, List.getElem_cons_zero, List.setIfInBounds_toArray, List.set_cons_zero, List.set_cons_succ])
            refine wpAnyH_take (i := 7) (v := ?_) rfl (by kernel_rfl) (by kernel_rfl) (by kernel_rfl) (fun _ _ _ h => h) (Or.inl ⟨by rfl, ?_⟩) (by assumption) ?_
            rotate_left
            · (intro wS hSw; (try dsimp only at hSw); go_simp; try with_reducible rfl)
            (try simp only [Act.put, List.getElem_toArray, List.getElem_cons_succ, List.getElem_cons_zero, List.setIfInBounds_toArray, List.set_cons_zero, List.set_cons_succ])
            refine wpAnyH_take (i := 8) (v := ?_) rfl (by kernel_rfl) (by kernel_rfl) (by kernel_rfl) (fun _ _ _ h => h) (Or.inl ⟨by rfl, ?_⟩) (by assumption) ?_
            rotate_left
            · (intro wS hSw; (try dsimp only at hSw); go_simp; try with_reducible rfl)
            (try simp only [Act.put, List.getElem_toArray, List.getElem_cons_succ, List.getElem_cons_zero, List.setIfInBounds_toArray, List.set_cons_zero, List.set_cons_succ])
            refine wpAnyH_take (i := 9) (v := ?_) rfl (by kernel_rfl) (by kernel_rfl) (by kernel_rfl) (fun _ _ _ h => h) (Or.inl ⟨by rfl, ?_⟩) (by assumption) ?_
            rotate_left
            · (intro wS hSw; (try dsimp only at hSw); go_simp; try with_reducible rfl)
            (try simp only [Act.put, List.getElem_toArray, List.getElem_cons_succ, List.getElem_cons_zero, List.setIfInBounds_toArray, List.set_cons_zero, List.set_cons_succ])
            refine wpAnyH_ready (rs := [11]) (by kernel_rfl) (by simp) ?_
            refine AllReadyH.cons rfl (fun K hK => ?_) ?_
            · obtain ⟨c0, c1⟩ := cell2 (HX.out.cell 0 rfl)
              have cf := HX.out.fz 0 rfl
              have SX := Lib.hid ((SX.out.set HX.out 0 rfl (by simp) 0 (.slice ao' R1.rows.length cap')).set (HX.out.set 0 rfl 0 (.slice ao' R1.rows.length cap')) 0 rfl (by simp) 1 (.int .i64 R1.mode))
              have SN := Lib.hid ((SN.out.set HX.out 0 rfl (by simp) 0 (.slice ao' R1.rows.length cap')).set (HX.out.set 0 rfl 0 (.slice ao' R1.rows.length cap')) 0 rfl (by simp) 1 (.int .i64 R1.mode))
              have HX := Lib.hid ((HX.out.set 0 rfl 0 (.slice ao' R1.rows.length cap')).set 0 rfl 1 (.int .i64 R1.mode))
              go_simp
              refine hK.out _ _ (And.intro (cell2 (HX.out.cell 1 rfl)) (HOP.out _ HX.out.bl)) (fun hHeld => ?_)
              clear hK K
              (try simp only [Act.put, List.getElem_toArray, List.getElem_cons_succ, List.getElem_cons_zero, List.setIfInBounds_toArray, List.set_cons_zero, List.set_cons_succ])
              refine wpAnyH_take (i := 12) (v := ?_) rfl (by kernel_rfl) (by kernel_rfl) (by kernel_rfl) (fun _ _ _ h => h) (Or.inl ⟨by rfl, ?_⟩) (by assumption) ?_
              rotate_left
              · (intro wS hSw; (try dsimp only at hSw); go_simp; try with_reducible rfl)
              (try simp only [Act.put, List.getElem_toArray, List.getElem_cons_succ, List.getElem_cons_zero, List.setIfInBounds_toArray, List.set_cons_zero, List.set_cons_succ])
              refine wpAnyH_done (by kernel_rfl) ?_ _
              clear HOP NE RA
              by_cases he : R2 = 0
              · have he1 : (R2 == 0) = true := by simp [he]
                have EQ : Hid (R1 = madeN l (i + 1)) := Lib.hid (by rw [MS.out, ST.out, if_pos he])
                obtain ⟨y0, y1⟩ := cell2 (HX.out.cell 0 rfl)
                obtain ⟨g0, g1⟩ := cell2 (HX.out.cell 1 rfl)
                have gf := HX.out.fz 1 rfl
                have H9 := Lib.hid ((HX.out.set 1 rfl 0 (.slice ao' R1.rows.length cap')).set 1 rfl 1 (.int .i64 R1.mode))
                have S9 := Lib.hid ((SN.out.set HX.out 1 rfl (by simp) 0 (.slice ao' R1.rows.length cap')).set (HX.out.set 1 rfl 0 (.slice ao' R1.rows.length cap')) 1 rfl (by simp) 1 (.int .i64 R1.mode))
                clear he
                go_wp2
                go_roundg (gk - 1)
                case measure => omega
                case rel => exact ⟨i + 1, R1, ao', cap', by have := HI.out; omega, by go_num, EQ.out, H9.out.sub (List.sublist_cons_self _ _), S9.out⟩
              · have he1 : (R2 == 0) = false := by simp [he]
                have EQ : Hid (t = madeN l (i + 1)) := Lib.hid (by rw [MS.out, ST.out, if_neg he])
                clear he
                go_wp2
                go_roundg (gk - 1)
                case measure => omega
                case rel => exact ⟨i + 1, t, ao, cap, by have := HI.out; omega, by go_num, EQ.out, HX.out.sub (List.sublist_cons_self _ _), SX.out⟩
            exact AllReadyH.nil
          exact AllReadyH.nil
        exact AllReadyH.nil
      exact AllReadyH.nil
    · have hge : (l.length : Int) ≤ (i : Int) ∨ ((i : Int) < (l.length : Int) ∧ (24 : Int) ≤ (i : Int)) := by omega
      have e : i = min l.length 24 := by omega
      have ET : Hid (madeT l = t) := Lib.hid (by unfold madeT; rw [← e]; exact HT.out.symm)
      have HF := Lib.hid ((HB.out.set 1 rfl 0 (.slice ao t.rows.length cap)).set 1 rfl 1 (.int .i64 t.mode))
      have SF := Lib.hid ((SX.out.set HB.out 1 rfl (by simp) 0 (.slice ao t.rows.length cap)).set (HB.out.set 1 rfl 0 (.slice ao t.rows.length cap)) 1 rfl (by simp) 1 (.int .i64 t.mode))
      obtain ⟨q0, q1⟩ := cell2 (HF.out.cell 1 rfl)
      clear hi hlt e HT
      rcases hge with hge | ⟨hge1, hge2⟩
      · go_wp2
        refine bodyPost_ret (v := .agg #[.slice ao t.rows.length cap, .int .i64 t.mode]) (by simp [results, Try.results14, go_sem, q0, q1]) rfl ⟨_, rfl, by rw [ET.out]; exact ⟨ao, cap, rfl, SF.out⟩, HF.out.bl⟩
      · go_wp2
        refine bodyPost_ret (v := .agg #[.slice ao t.rows.length cap, .int .i64 t.mode]) (by simp [results, Try.results14, go_sem, q0, q1]) rfl ⟨_, rfl, by rw [ET.out]; exact ⟨ao, cap, rfl, SF.out⟩, HF.out.bl⟩
end Go.Proofs.Ytnaanahgflbihaa.Tb
