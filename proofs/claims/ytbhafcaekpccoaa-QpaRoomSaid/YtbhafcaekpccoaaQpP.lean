/- Contract of the document's Room. -/
import Derived.Test.YtbhafcaekpccoaaQpO
import Derived.Test.YtbhafcaekpccoaaQpE
import Derived.Deep.DeepCutAuto
import Derived.Deep.RegionHeld3
namespace Go.Proofs.Ytbhafcaekpccoaa.Qp
open Go.ChangeShapes Go.WideShapes Go.ChangeAt Go.RowKit Go.Joins
open Pm (Tk chk chk_iff rowB rowB_all rowB_len TkAt Ts TRow trow_all flat flat_cons below_drewN wrap_in build_none build_one exec_none exec_build1 exec_load1 load_tk wp_val tk_ts)
set_option maxRecDepth 100000
set_option maxRecDepth 100000
set_option linter.unusedVariables false
set_option linter.unusedSimpArgs false
/-- what holds while the second row is made: S is what stood ahead of it -/
structure Hold (S : World) (X : Tk) (xb : Nat) (am : Option Addr) (T : List Tk) (W : World) : Prop where
  bel : Below S.heap.size S W
  x : TkAt xb 0 X S
  t : Ts am T S
theorem Hold.xx {S W : World} {X : Tk} {xb : Nat} {am : Option Addr} {T : List Tk} (h : Hold S X xb am T W) : TkAt xb 0 X W := h.x.call h.bel
theorem Hold.tt {S W : World} {X : Tk} {xb : Nat} {am : Option Addr} {T : List Tk} (h : Hold S X xb am T W) : Ts am T W := h.t.call h.bel
theorem Hold.go {S W W' : World} {X : Tk} {xb : Nat} {am : Option Addr} {T : List Tk} (h : Hold S X xb am T W) (b : Below S.heap.size W W') : Hold S X xb am T W' := ⟨h.bel.trans b, h.x, h.t⟩
theorem Hold.size {S W : World} {X : Tk} {xb : Nat} {am : Option Addr} {T : List Tk} (h : Hold S X xb am T W) : S.heap.size ≤ W.heap.size := h.bel.size
theorem Hold.frozen {S W : World} {X : Tk} {xb : Nat} {am : Option Addr} {T : List Tk} (h : Hold S X xb am T W) (k : S.frozen? ⟨xb, 1, none⟩ = false) : W.frozen? ⟨xb, 1, none⟩ = false := by
  rw [h.bel.frozen (p := ⟨xb, 1, none⟩) h.x.lt]; exact k
def CutN (B : Nat) (w : World) (s : Value) (wx : World) : Prop := s = .bool true ∧ Below B w wx
def CutR (X : Tk) (z : Int) (xb : Nat) (w : World) (s : Value) (wx : World) : Prop := s = .bool (z != 0) ∧ TkAt xb 0 X wx ∧ wx.frozen? ⟨xb, 1, none⟩ = false ∧ Below w.heap.size w wx
def RrRel (l : List Tk) (t : Tk) (w : World) (G : Nat) (s5 s6 : Value) (wx : World) : Prop :=
  ∃ k c : Int, s6 = .int .i64 k ∧ s5 = .int .i64 (k - 1) ∧ 1 ≤ k ∧ k ≤ t.d + 1 ∧ (0 < k - 1 → fit (wc t (k - 1) :: l)) ∧ TkAt w.heap.size 0 (wc t c) wx ∧ wx.frozen? ⟨w.heap.size, 1, none⟩ = false ∧ Below w.heap.size w wx ∧ (G : Int) = t.d + 1 - k
set_option maxHeartbeats 4000000 in
theorem rroom_any (l : List Tk) (ao : Option Addr) (cap : Nat) (t : Tk) (w : World) (hT : Ts ao l w) (hl : l.length ≤ 15) (hN : Nice l) (ht : chk t = true) (hd : t.t.toNat ∣ 240) :
    Calls Try.prog 22 #[.slice ao l.length cap, t.v] w fun e w' => ∃ r, RoomIs l t r ∧ e = .returned (.int .i64 r) ∧ Below w.heap.size w w' := by
  have htd := chk_iff.1 ht
  have NT : Hid (∀ c, 1 ≤ c → c ≤ t.d → Nice (l ++ [wc t c])) := Lib.hid (fun c h1 h2 => nice_snoc hN hl (wc_chk ht h1 h2) hd)
  have TE := Lib.hid (fun w h => rtest_any l ao cap w h (by omega))
  have TA : Hid (∀ X am cm W, Ts am (l ++ [X]) W → Calls Try.prog 23 #[.slice am (l.length + 1) cm] W fun e w' => e = .returned (.int .i64 (testR (l ++ [X]))) ∧ Below W.heap.size W w') := Lib.hid (fun X am cm W h => by
    have := rtest_any (l ++ [X]) am cm W h (by simp; omega)
    rw [show (l ++ [X]).length = l.length + 1 by simp] at this
    exact this)
  have NL := Lib.hid (nice_test hN)
  have bel0 := (Below.refl w.heap.size w).alloc (Nat.le_refl _) (.cells #[.int .i64 t.id, .int .i64 t.c, .int .i64 t.d, .int .i64 t.t, .int .i64 t.m] 42)
  have S0 : Hid (RrRel l t w t.d.toNat (.int .i64 0) (.int .i64 1) (w.alloc (.cells #[.int .i64 t.id, .int .i64 t.c, .int .i64 t.d, .int .i64 t.t, .int .i64 t.m] 42))) :=
    Lib.hid ⟨1, t.c, rfl, rfl, by omega, by omega, fun h => by omega, ⟨by simp [go_sem, wc], by simp [go_sem, wc], by simp [go_sem, wc], by simp [go_sem, wc], by simp [go_sem, wc]⟩, by simp [go_sem], bel0, by omega⟩
  have T := Lib.hid hT
  have FD : Hid (∀ c, 1 ≤ c → fit (wc t c :: l) → fit l) := Lib.hid (fun c h hf => fit_drop (t := wc t c) (by show 0 < t.t; omega) (by show 0 ≤ c; omega) hf)
  have ht3 : 0 < t.t := by omega
  have hdd : t.d ≤ 2147483648 := by omega
  clear hT hN ht bel0
  go_enter Try.func22, Try.ntmps22
  unfold Tk.v at *
  go_wp2_with fail
  generalize (w.alloc (.cells #[.int .i64 t.id, .int .i64 t.c, .int .i64 t.d, .int .i64 t.t, .int .i64 t.m] 42)) = W0 at *
  go_loopg [5, 6] t.d.toNat (RrRel l t w)
  case atStart => exact S0.out
  case round =>
    obtain ⟨k, c, rfl, rfl, h1, h2, h3, hx, hz, hB, hG⟩ := hrel
    obtain ⟨c0, c1, c2, c3, c4⟩ := hx
    unfold wc at c0 c1 c2 c3 c4
    simp only [Nat.zero_add] at c0 c1 c2 c3 c4
    by_cases hlt : k ≤ t.d
    · clear S0
      have hxs : TkAt w.heap.size 0 (wc t k) (wr.setCell ⟨w.heap.size, 1, none⟩ (.int .i64 k)) := ⟨by simp [go_sem, wc, c0], by simp [go_sem, wc, c1], by simp [go_sem, wc, c2], by simp [go_sem, wc, c3], by simp [go_sem, wc, c4]⟩
      have hzs : (wr.setCell ⟨w.heap.size, 1, none⟩ (.int .i64 k)).frozen? ⟨w.heap.size, 1, none⟩ = false := by simp [go_sem, hz]
      have hBs := hB.setCell (p := ⟨w.heap.size, 1, none⟩) (Nat.le_refl _) (.int .i64 k)
      have hTs := T.out.call hBs
      go_upto_region 6 with (fail)
      generalize (wr.setCell ⟨w.heap.size, 1, none⟩ (.int .i64 k)) = S at *
      have HZ := Lib.hid hzs
      have KS := Lib.hid hBs
      have HX := Lib.hid hxs
      have HT := Lib.hid hTs
      have H3 := Lib.hid h3
      have HG := Lib.hid hG
      have NX := Lib.hid (nice_test (NT.out k h1 hlt))
      have TX := Lib.hid (TA.out (wc t k))
      have NF : Hid (¬ fit l → RoomIs l t (k - 1)) := Lib.hid (fun h => ⟨by omega, by omega, h3, fun h' hf => h (FD.out _ (by omega) hf)⟩)
      have NG : Hid (¬ fit (wc t k :: l) → RoomIs l t (k - 1)) := Lib.hid (fun h => ⟨by omega, by omega, h3, fun h' => by rw [show k - 1 + 1 = k by omega]; exact h⟩)
      have FT : Hid (fit (l ++ [wc t k]) ↔ fit (wc t k :: l)) := Lib.hid fit_turn
      have TL := TE
      have KB := hBs.size
      clear hzs hBs hxs hTs h3 hG hB hz c0 c1 c2 c3 c4 TE NT FD TA
      obtain ⟨X, hXe⟩ : ∃ X, X = wc t k := ⟨_, rfl⟩
      rw [← hXe] at HX NX TX NG FT
      have XE := Lib.hid hXe
      clear hXe
      generalize hzl : testR (l ++ [X]) = z at *
      clear hzl
      rcases NL.out with ⟨hf, he⟩ | ⟨hf, he⟩
      · rw [he] at TL
        clear he hf NF NL
        have xl := HX.out.lt
        go_cut [27] (CutR X z w.heap.size w)
        case first =>
          have Hd := Lib.hid (show Hold S X w.heap.size ao l S.drew from ⟨(Below.refl _ _).drew, HX.out, HT.out⟩)
          clear NX NG FT XE HG H3
          refine wp_region_any (by kernel_rfl) ?_
          (try (change wpAny _ _ _ _ _ _ _ (World.drew _)))
          refine wpAny_take (i := 0) (v := ?_) rfl (by kernel_rfl) (by kernel_rfl) (by kernel_rfl) (fun _ _ _ h => h) (Or.inl ⟨by rfl, ?_⟩) ?_
          rotate_left
          · (intro wS; go_simp; try with_reducible rfl)
          (try simp only [Act.put, List.getElem_toArray, List.getElem_cons_succ, List.getElem_cons_zero, List.setIfInBounds_toArray, List.set_cons_zero, List.set_cons_succ])
          refine wpAny_ready (rs := [1]) (by kernel_rfl) (by simp) ?_
          refine AllReady.cons rfl (fun K hK => ?_) ?_
          · rw [if_pos (by rfl)]
            go_simp
            (with_reducible refine (TL.out _ Hd.out.tt).mono ?_)
            rintro e wz1 ⟨rfl, b1⟩
            go_simp
            refine hK _ _ ?_
            have H1 := Lib.hid (Hd.out.go (b1.mono Hd.out.size))
            clear b1 TL
            clear hK K
            (try simp only [Act.put, List.getElem_toArray, List.getElem_cons_succ, List.getElem_cons_zero, List.setIfInBounds_toArray, List.set_cons_zero, List.set_cons_succ])
            refine wpAny_take (i := 2) (v := ?_) rfl (by kernel_rfl) (by kernel_rfl) (by kernel_rfl) (fun _ _ _ h => h) (Or.inl ⟨by rfl, ?_⟩) ?_
            rotate_left
            · (intro wS; go_simp; try with_reducible rfl)
            (try simp only [Act.put, List.getElem_toArray, List.getElem_cons_succ, List.getElem_cons_zero, List.setIfInBounds_toArray, List.set_cons_zero, List.set_cons_succ])
            refine wpAny_take (i := 3) (v := ?_) rfl (by kernel_rfl) (by kernel_rfl) (by kernel_rfl) (fun _ _ _ h => h) (Or.inl ⟨by rfl, ?_⟩) ?_
            rotate_left
            · (intro wS; go_simp; try with_reducible rfl)
            (try simp only [Act.put, List.getElem_toArray, List.getElem_cons_succ, List.getElem_cons_zero, List.setIfInBounds_toArray, List.set_cons_zero, List.set_cons_succ])
            refine wpAny_take (i := 5) (v := ?_) rfl (by kernel_rfl) (by kernel_rfl) (by kernel_rfl) (fun _ _ _ h => h) (Or.inl ⟨by rfl, ?_⟩) ?_
            rotate_left
            · (intro wS; go_simp; try with_reducible rfl)
            (try simp only [Act.put, List.getElem_toArray, List.getElem_cons_succ, List.getElem_cons_zero, List.setIfInBounds_toArray, List.set_cons_zero, List.set_cons_succ])
            refine wpAny_ready (rs := [4, 7]) (by kernel_rfl) (by simp) ?_
            refine AllReady.cons rfl (fun K hK => ?_) ?_
            · rw [if_pos (by rfl)]
              obtain ⟨v1, wz2, r0, t0, b0, ow0, sz0⟩ := build_none S.heap.size wz1 H1.out.size
              refine wp_val (exec_none rfl r0) (hK _ _ ?_)
              have H2 := Lib.hid (H1.out.go (b0.mono H1.out.size))
              have R1 := Lib.hid t0
              have O1 := Lib.hid ow0
              have Z1 := Lib.hid sz0
              clear r0 t0 b0 ow0 sz0
              clear hK K
              (try simp only [Act.put, List.getElem_toArray, List.getElem_cons_succ, List.getElem_cons_zero, List.setIfInBounds_toArray, List.set_cons_zero, List.set_cons_succ])
              refine wpAny_ready (rs := [6, 7]) (by kernel_rfl) (by simp) ?_
              refine AllReady.cons rfl (fun K hK => ?_) ?_
              · rw [if_pos (by rfl)]
                obtain ⟨v2, wz3, r2, t2, b2, k2⟩ := trow_all S.heap.size wz2 v1 [] l ao cap R1.out H2.out.tt H2.out.size (by simp; omega)
                refine Lib.wp_append_run _ _ _ _ _ rfl _ _ rfl rfl _ _ r2 (hK _ _ ?_)
                have H3 := Lib.hid (H2.out.go b2)
                have R2 : Hid (TRow S.heap.size wz3 v2 l) := Lib.hid (by (have := t2; rw [List.nil_append] at this; exact this))
                clear r2 t2 b2 k2 R1 O1 Z1
                clear hK K
                (try simp only [Act.put, List.getElem_toArray, List.getElem_cons_succ, List.getElem_cons_zero, List.setIfInBounds_toArray, List.set_cons_zero, List.set_cons_succ])
                refine wpAny_ready (rs := [7]) (by kernel_rfl) (by simp) ?_
                refine AllReady.cons rfl (fun K hK => ?_) ?_
                · rw [if_pos (by rfl)]
                  refine wp_val (exec_load1 rfl rfl (load_tk H3.out.xx)) (hK _ _ ?_)
                  clear hK K
                  (try simp only [Act.put, List.getElem_toArray, List.getElem_cons_succ, List.getElem_cons_zero, List.setIfInBounds_toArray, List.set_cons_zero, List.set_cons_succ])
                  refine wpAny_ready (rs := [8]) (by kernel_rfl) (by simp) ?_
                  refine AllReady.cons rfl (fun K hK => ?_) ?_
                  · rw [if_pos (by rfl)]
                    obtain ⟨q, wz4, r4, q4, b4, eq4, sz4⟩ := build_one S.heap.size wz3 X
                    refine wp_val (exec_build1 rfl rfl r4) (hK _ _ ?_)
                    have H4 := Lib.hid (H3.out.go (b4.mono H3.out.size))
                    have Q2 := Lib.hid q4
                    have R4 := Lib.hid (R2.out.call b4)
                    clear R2
                    clear r4 q4 b4 eq4 sz4
                    clear hK K
                    (try simp only [Act.put, List.getElem_toArray, List.getElem_cons_succ, List.getElem_cons_zero, List.setIfInBounds_toArray, List.set_cons_zero, List.set_cons_succ])
                    refine wpAny_ready (rs := [9]) (by kernel_rfl) (by simp) ?_
                    refine AllReady.cons rfl (fun K hK => ?_) ?_
                    · rw [if_pos (by rfl)]
                      obtain ⟨v3, wz5, r5, t5, b5, -⟩ := trow_all S.heap.size wz4 v2 l [X] (some ⟨q, 0, none⟩) 1 R4.out (tk_ts Q2.out) H4.out.size (by simp; omega)
                      refine Lib.wp_append_run _ _ _ _ _ rfl _ _ rfl rfl _ _ r5 (hK _ _ ?_)
                      have H5 := Lib.hid (H4.out.go b5)
                      obtain ⟨a3, c3, rfl, -, ts3⟩ := t5.form
                      rw [show (l ++ [X]).length = l.length + 1 by simp]
                      have LO := Lib.hid (TX.out a3 c3 _ ts3)
                      clear r5 t5 b5 ts3 R4 Q2
                      clear hK K
                      (try simp only [Act.put, List.getElem_toArray, List.getElem_cons_succ, List.getElem_cons_zero, List.setIfInBounds_toArray, List.set_cons_zero, List.set_cons_succ])
                      refine wpAny_ready (rs := [10]) (by kernel_rfl) (by simp) ?_
                      refine AllReady.cons rfl (fun K hK => ?_) ?_
                      · rw [if_pos (by rfl)]
                        go_simp
                        (with_reducible refine (LO.out).mono ?_)
                        rintro e wz6 ⟨rfl, b6⟩
                        go_simp
                        refine hK _ _ ?_
                        have H6 := Lib.hid (H5.out.go (b6.mono H5.out.size))
                        clear b6 LO
                        clear hK K
                        (try simp only [Act.put, List.getElem_toArray, List.getElem_cons_succ, List.getElem_cons_zero, List.setIfInBounds_toArray, List.set_cons_zero, List.set_cons_succ])
                        refine wpAny_take (i := 11) (v := ?_) rfl (by kernel_rfl) (by kernel_rfl) (by kernel_rfl) (fun _ _ _ h => h) (Or.inl ⟨by rfl, ?_⟩) ?_
                        rotate_left
                        · (intro wS; go_simp; try with_reducible rfl)
                        (try simp only [Act.put, List.getElem_toArray, List.getElem_cons_succ, List.getElem_cons_zero, List.setIfInBounds_toArray, List.set_cons_zero, List.set_cons_succ])
                        refine wpAny_take (i := 12) (v := ?_) rfl (by kernel_rfl) (by kernel_rfl) (by kernel_rfl) (fun _ _ _ h => h) (Or.inl ⟨by rfl, ?_⟩) ?_
                        rotate_left
                        · (intro wS; go_simp; try with_reducible rfl)
                        (try simp only [Act.put, List.getElem_toArray, List.getElem_cons_succ, List.getElem_cons_zero, List.setIfInBounds_toArray, List.set_cons_zero, List.set_cons_succ])
                        refine wpAny_done (by kernel_rfl) ?_ _
                        go_wp2
                        go_meet
                        exact ⟨rfl, H6.out.xx, H6.out.frozen HZ.out, KS.out.trans (H6.out.bel.mono KS.out.size)⟩
                      exact AllReady.nil
                    exact AllReady.nil
                  exact AllReady.nil
                exact AllReady.nil
              refine AllReady.cons rfl (fun K hK => ?_) ?_
              · rw [if_pos (by rfl)]
                refine wp_val (exec_load1 rfl rfl (load_tk H2.out.xx)) (hK _ _ ?_)
                clear hK K
                (try simp only [Act.put, List.getElem_toArray, List.getElem_cons_succ, List.getElem_cons_zero, List.setIfInBounds_toArray, List.set_cons_zero, List.set_cons_succ])
                refine wpAny_ready (rs := [6, 8]) (by kernel_rfl) (by simp) ?_
                refine AllReady.cons rfl (fun K hK => ?_) ?_
                · rw [if_pos (by rfl)]
                  obtain ⟨v2, wz3, r2, t2, b2, k2⟩ := trow_all S.heap.size wz2 v1 [] l ao cap R1.out H2.out.tt H2.out.size (by simp; omega)
                  refine Lib.wp_append_run _ _ _ _ _ rfl _ _ rfl rfl _ _ r2 (hK _ _ ?_)
                  have H3 := Lib.hid (H2.out.go b2)
                  have R2 : Hid (TRow S.heap.size wz3 v2 l) := Lib.hid (by (have := t2; rw [List.nil_append] at this; exact this))
                  clear r2 t2 b2 k2 R1 O1 Z1
                  clear hK K
                  (try simp only [Act.put, List.getElem_toArray, List.getElem_cons_succ, List.getElem_cons_zero, List.setIfInBounds_toArray, List.set_cons_zero, List.set_cons_succ])
                  refine wpAny_ready (rs := [8]) (by kernel_rfl) (by simp) ?_
                  refine AllReady.cons rfl (fun K hK => ?_) ?_
                  · rw [if_pos (by rfl)]
                    obtain ⟨q, wz4, r4, q4, b4, eq4, sz4⟩ := build_one S.heap.size wz3 X
                    refine wp_val (exec_build1 rfl rfl r4) (hK _ _ ?_)
                    have H4 := Lib.hid (H3.out.go (b4.mono H3.out.size))
                    have Q2 := Lib.hid q4
                    have R4 := Lib.hid (R2.out.call b4)
                    clear R2
                    clear r4 q4 b4 eq4 sz4
                    clear hK K
                    (try simp only [Act.put, List.getElem_toArray, List.getElem_cons_succ, List.getElem_cons_zero, List.setIfInBounds_toArray, List.set_cons_zero, List.set_cons_succ])
                    refine wpAny_ready (rs := [9]) (by kernel_rfl) (by simp) ?_
                    refine AllReady.cons rfl (fun K hK => ?_) ?_
                    · rw [if_pos (by rfl)]
                      obtain ⟨v3, wz5, r5, t5, b5, -⟩ := trow_all S.heap.size wz4 v2 l [X] (some ⟨q, 0, none⟩) 1 R4.out (tk_ts Q2.out) H4.out.size (by simp; omega)
                      refine Lib.wp_append_run _ _ _ _ _ rfl _ _ rfl rfl _ _ r5 (hK _ _ ?_)
                      have H5 := Lib.hid (H4.out.go b5)
                      obtain ⟨a3, c3, rfl, -, ts3⟩ := t5.form
                      rw [show (l ++ [X]).length = l.length + 1 by simp]
                      have LO := Lib.hid (TX.out a3 c3 _ ts3)
                      clear r5 t5 b5 ts3 R4 Q2
                      clear hK K
                      (try simp only [Act.put, List.getElem_toArray, List.getElem_cons_succ, List.getElem_cons_zero, List.setIfInBounds_toArray, List.set_cons_zero, List.set_cons_succ])
                      refine wpAny_ready (rs := [10]) (by kernel_rfl) (by simp) ?_
                      refine AllReady.cons rfl (fun K hK => ?_) ?_
                      · rw [if_pos (by rfl)]
                        go_simp
                        (with_reducible refine (LO.out).mono ?_)
                        rintro e wz6 ⟨rfl, b6⟩
                        go_simp
                        refine hK _ _ ?_
                        have H6 := Lib.hid (H5.out.go (b6.mono H5.out.size))
                        clear b6 LO
                        clear hK K
                        (try simp only [Act.put, List.getElem_toArray, List.getElem_cons_succ, List.getElem_cons_zero, List.setIfInBounds_toArray, List.set_cons_zero, List.set_cons_succ])
                        refine wpAny_take (i := 11) (v := ?_) rfl (by kernel_rfl) (by kernel_rfl) (by kernel_rfl) (fun _ _ _ h => h) (Or.inl ⟨by rfl, ?_⟩) ?_
                        rotate_left
                        · (intro wS; go_simp; try with_reducible rfl)
                        (try simp only [Act.put, List.getElem_toArray, List.getElem_cons_succ, List.getElem_cons_zero, List.setIfInBounds_toArray, List.set_cons_zero, List.set_cons_succ])
                        refine wpAny_take (i := 12) (v := ?_) rfl (by kernel_rfl) (by kernel_rfl) (by kernel_rfl) (fun _ _ _ h => h) (Or.inl ⟨by rfl, ?_⟩) ?_
                        rotate_left
                        · (intro wS; go_simp; try with_reducible rfl)
                        (try simp only [Act.put, List.getElem_toArray, List.getElem_cons_succ, List.getElem_cons_zero, List.setIfInBounds_toArray, List.set_cons_zero, List.set_cons_succ])
                        refine wpAny_done (by kernel_rfl) ?_ _
                        go_wp2
                        go_meet
                        exact ⟨rfl, H6.out.xx, H6.out.frozen HZ.out, KS.out.trans (H6.out.bel.mono KS.out.size)⟩
                      exact AllReady.nil
                    exact AllReady.nil
                  exact AllReady.nil
                refine AllReady.cons rfl (fun K hK => ?_) ?_
                · rw [if_pos (by rfl)]
                  obtain ⟨q, wz3, r4, q4, b4, eq4, sz4⟩ := build_one S.heap.size wz2 X
                  refine wp_val (exec_build1 rfl rfl r4) (hK _ _ ?_)
                  have H3 := Lib.hid (H2.out.go (b4.mono H2.out.size))
                  have Q1 := Lib.hid q4
                  have R3 := Lib.hid (R1.out.call b4)
                  have NE : Hid (∀ k, v1.ownBlock = some k → k ≠ q) := Lib.hid (fun k hk => by (have h1 := Z1.out; have h2 := O1.out; rw [h2] at hk; cases hk; omega))
                  clear R1
                  have R1 := R3
                  clear R3
                  clear r4 q4 b4 eq4 sz4
                  clear hK K
                  (try simp only [Act.put, List.getElem_toArray, List.getElem_cons_succ, List.getElem_cons_zero, List.setIfInBounds_toArray, List.set_cons_zero, List.set_cons_succ])
                  refine wpAny_ready (rs := [6]) (by kernel_rfl) (by simp) ?_
                  refine AllReady.cons rfl (fun K hK => ?_) ?_
                  · rw [if_pos (by rfl)]
                    obtain ⟨v2, wz4, r2, t2, b2, k2⟩ := trow_all S.heap.size wz3 v1 [] l ao cap R1.out H3.out.tt H3.out.size (by simp; omega)
                    refine Lib.wp_append_run _ _ _ _ _ rfl _ _ rfl rfl _ _ r2 (hK _ _ ?_)
                    have H4 := Lib.hid (H3.out.go b2)
                    have Q2 := Lib.hid (Q1.out.of_block (k2 q Q1.out.lt (fun e => NE.out _ e rfl)))
                    have R4 : Hid (TRow S.heap.size wz4 v2 l) := Lib.hid (by (have := t2; rw [List.nil_append] at this; exact this))
                    clear Q1 NE
                    clear r2 t2 b2 k2 R1 O1 Z1
                    clear hK K
                    (try simp only [Act.put, List.getElem_toArray, List.getElem_cons_succ, List.getElem_cons_zero, List.setIfInBounds_toArray, List.set_cons_zero, List.set_cons_succ])
                    refine wpAny_ready (rs := [9]) (by kernel_rfl) (by simp) ?_
                    refine AllReady.cons rfl (fun K hK => ?_) ?_
                    · rw [if_pos (by rfl)]
                      obtain ⟨v3, wz5, r5, t5, b5, -⟩ := trow_all S.heap.size wz4 v2 l [X] (some ⟨q, 0, none⟩) 1 R4.out (tk_ts Q2.out) H4.out.size (by simp; omega)
                      refine Lib.wp_append_run _ _ _ _ _ rfl _ _ rfl rfl _ _ r5 (hK _ _ ?_)
                      have H5 := Lib.hid (H4.out.go b5)
                      obtain ⟨a3, c3, rfl, -, ts3⟩ := t5.form
                      rw [show (l ++ [X]).length = l.length + 1 by simp]
                      have LO := Lib.hid (TX.out a3 c3 _ ts3)
                      clear r5 t5 b5 ts3 R4 Q2
                      clear hK K
                      (try simp only [Act.put, List.getElem_toArray, List.getElem_cons_succ, List.getElem_cons_zero, List.setIfInBounds_toArray, List.set_cons_zero, List.set_cons_succ])
                      refine wpAny_ready (rs := [10]) (by kernel_rfl) (by simp) ?_
                      refine AllReady.cons rfl (fun K hK => ?_) ?_
                      · rw [if_pos (by rfl)]
                        go_simp
                        (with_reducible refine (LO.out).mono ?_)
                        rintro e wz6 ⟨rfl, b6⟩
                        go_simp
                        refine hK _ _ ?_
                        have H6 := Lib.hid (H5.out.go (b6.mono H5.out.size))
                        clear b6 LO
                        clear hK K
                        (try simp only [Act.put, List.getElem_toArray, List.getElem_cons_succ, List.getElem_cons_zero, List.setIfInBounds_toArray, List.set_cons_zero, List.set_cons_succ])
                        refine wpAny_take (i := 11) (v := ?_) rfl (by kernel_rfl) (by kernel_rfl) (by kernel_rfl) (fun _ _ _ h => h) (Or.inl ⟨by rfl, ?_⟩) ?_
                        rotate_left
                        · (intro wS; go_simp; try with_reducible rfl)
                        (try simp only [Act.put, List.getElem_toArray, List.getElem_cons_succ, List.getElem_cons_zero, List.setIfInBounds_toArray, List.set_cons_zero, List.set_cons_succ])
                        refine wpAny_take (i := 12) (v := ?_) rfl (by kernel_rfl) (by kernel_rfl) (by kernel_rfl) (fun _ _ _ h => h) (Or.inl ⟨by rfl, ?_⟩) ?_
                        rotate_left
                        · (intro wS; go_simp; try with_reducible rfl)
                        (try simp only [Act.put, List.getElem_toArray, List.getElem_cons_succ, List.getElem_cons_zero, List.setIfInBounds_toArray, List.set_cons_zero, List.set_cons_succ])
                        refine wpAny_done (by kernel_rfl) ?_ _
                        go_wp2
                        go_meet
                        exact ⟨rfl, H6.out.xx, H6.out.frozen HZ.out, KS.out.trans (H6.out.bel.mono KS.out.size)⟩
                      exact AllReady.nil
                    exact AllReady.nil
                  exact AllReady.nil
                exact AllReady.nil
              exact AllReady.nil
            refine AllReady.cons rfl (fun K hK => ?_) ?_
            · rw [if_pos (by rfl)]
              refine wp_val (exec_load1 rfl rfl (load_tk H1.out.xx)) (hK _ _ ?_)
              clear hK K
              (try simp only [Act.put, List.getElem_toArray, List.getElem_cons_succ, List.getElem_cons_zero, List.setIfInBounds_toArray, List.set_cons_zero, List.set_cons_succ])
              refine wpAny_ready (rs := [4, 8]) (by kernel_rfl) (by simp) ?_
              refine AllReady.cons rfl (fun K hK => ?_) ?_
              · rw [if_pos (by rfl)]
                obtain ⟨v1, wz2, r0, t0, b0, ow0, sz0⟩ := build_none S.heap.size wz1 H1.out.size
                refine wp_val (exec_none rfl r0) (hK _ _ ?_)
                have H2 := Lib.hid (H1.out.go (b0.mono H1.out.size))
                have R1 := Lib.hid t0
                have O1 := Lib.hid ow0
                have Z1 := Lib.hid sz0
                clear r0 t0 b0 ow0 sz0
                clear hK K
                (try simp only [Act.put, List.getElem_toArray, List.getElem_cons_succ, List.getElem_cons_zero, List.setIfInBounds_toArray, List.set_cons_zero, List.set_cons_succ])
                refine wpAny_ready (rs := [6, 8]) (by kernel_rfl) (by simp) ?_
                refine AllReady.cons rfl (fun K hK => ?_) ?_
                · rw [if_pos (by rfl)]
                  obtain ⟨v2, wz3, r2, t2, b2, k2⟩ := trow_all S.heap.size wz2 v1 [] l ao cap R1.out H2.out.tt H2.out.size (by simp; omega)
                  refine Lib.wp_append_run _ _ _ _ _ rfl _ _ rfl rfl _ _ r2 (hK _ _ ?_)
                  have H3 := Lib.hid (H2.out.go b2)
                  have R2 : Hid (TRow S.heap.size wz3 v2 l) := Lib.hid (by (have := t2; rw [List.nil_append] at this; exact this))
                  clear r2 t2 b2 k2 R1 O1 Z1
                  clear hK K
                  (try simp only [Act.put, List.getElem_toArray, List.getElem_cons_succ, List.getElem_cons_zero, List.setIfInBounds_toArray, List.set_cons_zero, List.set_cons_succ])
                  refine wpAny_ready (rs := [8]) (by kernel_rfl) (by simp) ?_
                  refine AllReady.cons rfl (fun K hK => ?_) ?_
                  · rw [if_pos (by rfl)]
                    obtain ⟨q, wz4, r4, q4, b4, eq4, sz4⟩ := build_one S.heap.size wz3 X
                    refine wp_val (exec_build1 rfl rfl r4) (hK _ _ ?_)
                    have H4 := Lib.hid (H3.out.go (b4.mono H3.out.size))
                    have Q2 := Lib.hid q4
                    have R4 := Lib.hid (R2.out.call b4)
                    clear R2
                    clear r4 q4 b4 eq4 sz4
                    clear hK K
                    (try simp only [Act.put, List.getElem_toArray, List.getElem_cons_succ, List.getElem_cons_zero, List.setIfInBounds_toArray, List.set_cons_zero, List.set_cons_succ])
                    refine wpAny_ready (rs := [9]) (by kernel_rfl) (by simp) ?_
                    refine AllReady.cons rfl (fun K hK => ?_) ?_
                    · rw [if_pos (by rfl)]
                      obtain ⟨v3, wz5, r5, t5, b5, -⟩ := trow_all S.heap.size wz4 v2 l [X] (some ⟨q, 0, none⟩) 1 R4.out (tk_ts Q2.out) H4.out.size (by simp; omega)
                      refine Lib.wp_append_run _ _ _ _ _ rfl _ _ rfl rfl _ _ r5 (hK _ _ ?_)
                      have H5 := Lib.hid (H4.out.go b5)
                      obtain ⟨a3, c3, rfl, -, ts3⟩ := t5.form
                      rw [show (l ++ [X]).length = l.length + 1 by simp]
                      have LO := Lib.hid (TX.out a3 c3 _ ts3)
                      clear r5 t5 b5 ts3 R4 Q2
                      clear hK K
                      (try simp only [Act.put, List.getElem_toArray, List.getElem_cons_succ, List.getElem_cons_zero, List.setIfInBounds_toArray, List.set_cons_zero, List.set_cons_succ])
                      refine wpAny_ready (rs := [10]) (by kernel_rfl) (by simp) ?_
                      refine AllReady.cons rfl (fun K hK => ?_) ?_
                      · rw [if_pos (by rfl)]
                        go_simp
                        (with_reducible refine (LO.out).mono ?_)
                        rintro e wz6 ⟨rfl, b6⟩
                        go_simp
                        refine hK _ _ ?_
                        have H6 := Lib.hid (H5.out.go (b6.mono H5.out.size))
                        clear b6 LO
                        clear hK K
                        (try simp only [Act.put, List.getElem_toArray, List.getElem_cons_succ, List.getElem_cons_zero, List.setIfInBounds_toArray, List.set_cons_zero, List.set_cons_succ])
                        refine wpAny_take (i := 11) (v := ?_) rfl (by kernel_rfl) (by kernel_rfl) (by kernel_rfl) (fun _ _ _ h => h) (Or.inl ⟨by rfl, ?_⟩) ?_
                        rotate_left
                        · (intro wS; go_simp; try with_reducible rfl)
                        (try simp only [Act.put, List.getElem_toArray, List.getElem_cons_succ, List.getElem_cons_zero, List.setIfInBounds_toArray, List.set_cons_zero, List.set_cons_succ])
                        refine wpAny_take (i := 12) (v := ?_) rfl (by kernel_rfl) (by kernel_rfl) (by kernel_rfl) (fun _ _ _ h => h) (Or.inl ⟨by rfl, ?_⟩) ?_
                        rotate_left
                        · (intro wS; go_simp; try with_reducible rfl)
                        (try simp only [Act.put, List.getElem_toArray, List.getElem_cons_succ, List.getElem_cons_zero, List.setIfInBounds_toArray, List.set_cons_zero, List.set_cons_succ])
                        refine wpAny_done (by kernel_rfl) ?_ _
                        go_wp2
                        go_meet
                        exact ⟨rfl, H6.out.xx, H6.out.frozen HZ.out, KS.out.trans (H6.out.bel.mono KS.out.size)⟩
                      exact AllReady.nil
                    exact AllReady.nil
                  exact AllReady.nil
                refine AllReady.cons rfl (fun K hK => ?_) ?_
                · rw [if_pos (by rfl)]
                  obtain ⟨q, wz3, r4, q4, b4, eq4, sz4⟩ := build_one S.heap.size wz2 X
                  refine wp_val (exec_build1 rfl rfl r4) (hK _ _ ?_)
                  have H3 := Lib.hid (H2.out.go (b4.mono H2.out.size))
                  have Q1 := Lib.hid q4
                  have R3 := Lib.hid (R1.out.call b4)
                  have NE : Hid (∀ k, v1.ownBlock = some k → k ≠ q) := Lib.hid (fun k hk => by (have h1 := Z1.out; have h2 := O1.out; rw [h2] at hk; cases hk; omega))
                  clear R1
                  have R1 := R3
                  clear R3
                  clear r4 q4 b4 eq4 sz4
                  clear hK K
                  (try simp only [Act.put, List.getElem_toArray, List.getElem_cons_succ, List.getElem_cons_zero, List.setIfInBounds_toArray, List.set_cons_zero, List.set_cons_succ])
                  refine wpAny_ready (rs := [6]) (by kernel_rfl) (by simp) ?_
                  refine AllReady.cons rfl (fun K hK => ?_) ?_
                  · rw [if_pos (by rfl)]
                    obtain ⟨v2, wz4, r2, t2, b2, k2⟩ := trow_all S.heap.size wz3 v1 [] l ao cap R1.out H3.out.tt H3.out.size (by simp; omega)
                    refine Lib.wp_append_run _ _ _ _ _ rfl _ _ rfl rfl _ _ r2 (hK _ _ ?_)
                    have H4 := Lib.hid (H3.out.go b2)
                    have Q2 := Lib.hid (Q1.out.of_block (k2 q Q1.out.lt (fun e => NE.out _ e rfl)))
                    have R4 : Hid (TRow S.heap.size wz4 v2 l) := Lib.hid (by (have := t2; rw [List.nil_append] at this; exact this))
                    clear Q1 NE
                    clear r2 t2 b2 k2 R1 O1 Z1
                    clear hK K
                    (try simp only [Act.put, List.getElem_toArray, List.getElem_cons_succ, List.getElem_cons_zero, List.setIfInBounds_toArray, List.set_cons_zero, List.set_cons_succ])
                    refine wpAny_ready (rs := [9]) (by kernel_rfl) (by simp) ?_
                    refine AllReady.cons rfl (fun K hK => ?_) ?_
                    · rw [if_pos (by rfl)]
                      obtain ⟨v3, wz5, r5, t5, b5, -⟩ := trow_all S.heap.size wz4 v2 l [X] (some ⟨q, 0, none⟩) 1 R4.out (tk_ts Q2.out) H4.out.size (by simp; omega)
                      refine Lib.wp_append_run _ _ _ _ _ rfl _ _ rfl rfl _ _ r5 (hK _ _ ?_)
                      have H5 := Lib.hid (H4.out.go b5)
                      obtain ⟨a3, c3, rfl, -, ts3⟩ := t5.form
                      rw [show (l ++ [X]).length = l.length + 1 by simp]
                      have LO := Lib.hid (TX.out a3 c3 _ ts3)
                      clear r5 t5 b5 ts3 R4 Q2
                      clear hK K
                      (try simp only [Act.put, List.getElem_toArray, List.getElem_cons_succ, List.getElem_cons_zero, List.setIfInBounds_toArray, List.set_cons_zero, List.set_cons_succ])
                      refine wpAny_ready (rs := [10]) (by kernel_rfl) (by simp) ?_
                      refine AllReady.cons rfl (fun K hK => ?_) ?_
                      · rw [if_pos (by rfl)]
                        go_simp
                        (with_reducible refine (LO.out).mono ?_)
                        rintro e wz6 ⟨rfl, b6⟩
                        go_simp
                        refine hK _ _ ?_
                        have H6 := Lib.hid (H5.out.go (b6.mono H5.out.size))
                        clear b6 LO
                        clear hK K
                        (try simp only [Act.put, List.getElem_toArray, List.getElem_cons_succ, List.getElem_cons_zero, List.setIfInBounds_toArray, List.set_cons_zero, List.set_cons_succ])
                        refine wpAny_take (i := 11) (v := ?_) rfl (by kernel_rfl) (by kernel_rfl) (by kernel_rfl) (fun _ _ _ h => h) (Or.inl ⟨by rfl, ?_⟩) ?_
                        rotate_left
                        · (intro wS; go_simp; try with_reducible rfl)
                        (try simp only [Act.put, List.getElem_toArray, List.getElem_cons_succ, List.getElem_cons_zero, List.setIfInBounds_toArray, List.set_cons_zero, List.set_cons_succ])
                        refine wpAny_take (i := 12) (v := ?_) rfl (by kernel_rfl) (by kernel_rfl) (by kernel_rfl) (fun _ _ _ h => h) (Or.inl ⟨by rfl, ?_⟩) ?_
                        rotate_left
                        · (intro wS; go_simp; try with_reducible rfl)
                        (try simp only [Act.put, List.getElem_toArray, List.getElem_cons_succ, List.getElem_cons_zero, List.setIfInBounds_toArray, List.set_cons_zero, List.set_cons_succ])
                        refine wpAny_done (by kernel_rfl) ?_ _
                        go_wp2
                        go_meet
                        exact ⟨rfl, H6.out.xx, H6.out.frozen HZ.out, KS.out.trans (H6.out.bel.mono KS.out.size)⟩
                      exact AllReady.nil
                    exact AllReady.nil
                  exact AllReady.nil
                exact AllReady.nil
              refine AllReady.cons rfl (fun K hK => ?_) ?_
              · rw [if_pos (by rfl)]
                obtain ⟨q, wz2, r4, q4, b4, eq4, sz4⟩ := build_one S.heap.size wz1 X
                refine wp_val (exec_build1 rfl rfl r4) (hK _ _ ?_)
                have H2 := Lib.hid (H1.out.go (b4.mono H1.out.size))
                have Q0 := Lib.hid q4
                have QL := Lib.hid sz4
                clear r4 q4 b4 eq4 sz4
                clear hK K
                (try simp only [Act.put, List.getElem_toArray, List.getElem_cons_succ, List.getElem_cons_zero, List.setIfInBounds_toArray, List.set_cons_zero, List.set_cons_succ])
                refine wpAny_ready (rs := [4]) (by kernel_rfl) (by simp) ?_
                refine AllReady.cons rfl (fun K hK => ?_) ?_
                · rw [if_pos (by rfl)]
                  obtain ⟨v1, wz3, r0, t0, b0, ow0, sz0⟩ := build_none S.heap.size wz2 H2.out.size
                  refine wp_val (exec_none rfl r0) (hK _ _ ?_)
                  have H3 := Lib.hid (H2.out.go (b0.mono H2.out.size))
                  have R1 := Lib.hid t0
                  have O1 := Lib.hid ow0
                  have Z1 := Lib.hid sz0
                  have Q1 := Lib.hid (Q0.out.call b0)
                  have NE : Hid (∀ k, v1.ownBlock = some k → k ≠ q) := Lib.hid (fun k hk => by (have h1 := QL.out; have h2 := O1.out; rw [h2] at hk; cases hk; omega))
                  clear Q0 QL
                  clear r0 t0 b0 ow0 sz0
                  clear hK K
                  (try simp only [Act.put, List.getElem_toArray, List.getElem_cons_succ, List.getElem_cons_zero, List.setIfInBounds_toArray, List.set_cons_zero, List.set_cons_succ])
                  refine wpAny_ready (rs := [6]) (by kernel_rfl) (by simp) ?_
                  refine AllReady.cons rfl (fun K hK => ?_) ?_
                  · rw [if_pos (by rfl)]
                    obtain ⟨v2, wz4, r2, t2, b2, k2⟩ := trow_all S.heap.size wz3 v1 [] l ao cap R1.out H3.out.tt H3.out.size (by simp; omega)
                    refine Lib.wp_append_run _ _ _ _ _ rfl _ _ rfl rfl _ _ r2 (hK _ _ ?_)
                    have H4 := Lib.hid (H3.out.go b2)
                    have Q2 := Lib.hid (Q1.out.of_block (k2 q Q1.out.lt (fun e => NE.out _ e rfl)))
                    have R4 : Hid (TRow S.heap.size wz4 v2 l) := Lib.hid (by (have := t2; rw [List.nil_append] at this; exact this))
                    clear Q1 NE
                    clear r2 t2 b2 k2 R1 O1 Z1
                    clear hK K
                    (try simp only [Act.put, List.getElem_toArray, List.getElem_cons_succ, List.getElem_cons_zero, List.setIfInBounds_toArray, List.set_cons_zero, List.set_cons_succ])
                    refine wpAny_ready (rs := [9]) (by kernel_rfl) (by simp) ?_
                    refine AllReady.cons rfl (fun K hK => ?_) ?_
                    · rw [if_pos (by rfl)]
                      obtain ⟨v3, wz5, r5, t5, b5, -⟩ := trow_all S.heap.size wz4 v2 l [X] (some ⟨q, 0, none⟩) 1 R4.out (tk_ts Q2.out) H4.out.size (by simp; omega)
                      refine Lib.wp_append_run _ _ _ _ _ rfl _ _ rfl rfl _ _ r5 (hK _ _ ?_)
                      have H5 := Lib.hid (H4.out.go b5)
                      obtain ⟨a3, c3, rfl, -, ts3⟩ := t5.form
                      rw [show (l ++ [X]).length = l.length + 1 by simp]
                      have LO := Lib.hid (TX.out a3 c3 _ ts3)
                      clear r5 t5 b5 ts3 R4 Q2
                      clear hK K
                      (try simp only [Act.put, List.getElem_toArray, List.getElem_cons_succ, List.getElem_cons_zero, List.setIfInBounds_toArray, List.set_cons_zero, List.set_cons_succ])
                      refine wpAny_ready (rs := [10]) (by kernel_rfl) (by simp) ?_
                      refine AllReady.cons rfl (fun K hK => ?_) ?_
                      · rw [if_pos (by rfl)]
                        go_simp
                        (with_reducible refine (LO.out).mono ?_)
                        rintro e wz6 ⟨rfl, b6⟩
                        go_simp
                        refine hK _ _ ?_
                        have H6 := Lib.hid (H5.out.go (b6.mono H5.out.size))
                        clear b6 LO
                        clear hK K
                        (try simp only [Act.put, List.getElem_toArray, List.getElem_cons_succ, List.getElem_cons_zero, List.setIfInBounds_toArray, List.set_cons_zero, List.set_cons_succ])
                        refine wpAny_take (i := 11) (v := ?_) rfl (by kernel_rfl) (by kernel_rfl) (by kernel_rfl) (fun _ _ _ h => h) (Or.inl ⟨by rfl, ?_⟩) ?_
                        rotate_left
                        · (intro wS; go_simp; try with_reducible rfl)
                        (try simp only [Act.put, List.getElem_toArray, List.getElem_cons_succ, List.getElem_cons_zero, List.setIfInBounds_toArray, List.set_cons_zero, List.set_cons_succ])
                        refine wpAny_take (i := 12) (v := ?_) rfl (by kernel_rfl) (by kernel_rfl) (by kernel_rfl) (fun _ _ _ h => h) (Or.inl ⟨by rfl, ?_⟩) ?_
                        rotate_left
                        · (intro wS; go_simp; try with_reducible rfl)
                        (try simp only [Act.put, List.getElem_toArray, List.getElem_cons_succ, List.getElem_cons_zero, List.setIfInBounds_toArray, List.set_cons_zero, List.set_cons_succ])
                        refine wpAny_done (by kernel_rfl) ?_ _
                        go_wp2
                        go_meet
                        exact ⟨rfl, H6.out.xx, H6.out.frozen HZ.out, KS.out.trans (H6.out.bel.mono KS.out.size)⟩
                      exact AllReady.nil
                    exact AllReady.nil
                  exact AllReady.nil
                exact AllReady.nil
              exact AllReady.nil
            exact AllReady.nil
          exact AllReady.nil
        case rest =>
          obtain ⟨rfl, tx, hz, hB⟩ := hcut
          have KC := Lib.hid hB
          have TXC := Lib.hid tx
          have ZC := Lib.hid hz
          clear tx hz hB
          rcases NX.out with ⟨hf, rfl⟩ | ⟨hf, rfl⟩
          · have HF := Lib.hid (FT.out.1 hf)
            clear hf NX NG FT
            go_wp2
            go_roundg (gk - 1)
            case measure => have := HG.out; omega
            case rel => exact ⟨k + 1, k, by go_num, by rw [show k + 1 - 1 = k by omega], by omega, by omega, fun _ => by rw [show k + 1 - 1 = k by omega, ← XE.out]; exact HF.out, by rw [← XE.out]; exact TXC.out, ZC.out, KC.out, by have := HG.out; omega⟩
          · have E := Lib.hid (NG.out (fun h => hf (FT.out.2 h)))
            clear hf NX NG FT
            go_wp2
            go_ret
            exact ⟨_, E.out, rfl, KC.out⟩
      · have E := Lib.hid (NF.out hf)
        have q1 : (testR l == 0) = false := by rw [he]; rfl
        have q2 : (testR l != 0) = true := by rw [he]; rfl
        generalize testR l = zl at *
        clear he hf NF NL NX NG FT
        have TD : Hid (Ts ao l S.drew) := Lib.hid (HT.out.call (Below.refl _ _).drew)
        go_cut [27] (CutN w.heap.size w)
        case first =>
          have Hd := Lib.hid (show Hold S X w.heap.size ao l S.drew from ⟨(Below.refl _ _).drew, HX.out, HT.out⟩)
          clear XE HG H3
          refine wp_region_any (by kernel_rfl) ?_
          (try (change wpAny _ _ _ _ _ _ _ (World.drew _)))
          refine wpAny_take (i := 0) (v := ?_) rfl (by kernel_rfl) (by kernel_rfl) (by kernel_rfl) (fun _ _ _ h => h) (Or.inl ⟨by rfl, ?_⟩) ?_
          rotate_left
          · (intro wS; go_simp; try with_reducible rfl)
          (try simp only [Act.put, List.getElem_toArray, List.getElem_cons_succ, List.getElem_cons_zero, List.setIfInBounds_toArray, List.set_cons_zero, List.set_cons_succ])
          refine wpAny_ready (rs := [1]) (by kernel_rfl) (by simp) ?_
          refine AllReady.cons rfl (fun K hK => ?_) ?_
          · rw [if_pos (by rfl)]
            go_simp
            (with_reducible refine (TL.out _ Hd.out.tt).mono ?_)
            rintro e wz1 ⟨rfl, b1⟩
            go_simp
            refine hK _ _ ?_
            have H1 := Lib.hid (Hd.out.go b1)
            clear b1 TL
            clear hK K
            (try simp only [Act.put, List.getElem_toArray, List.getElem_cons_succ, List.getElem_cons_zero, List.setIfInBounds_toArray, List.set_cons_zero, List.set_cons_succ])
            refine wpAny_take (i := 2) (v := ?_) rfl (by kernel_rfl) (by kernel_rfl) (by kernel_rfl) (fun _ _ _ h => h) (Or.inl ⟨by rfl, ?_⟩) ?_
            rotate_left
            · (intro wS; go_simp; try with_reducible rfl)
            (try simp only [Act.put, List.getElem_toArray, List.getElem_cons_succ, List.getElem_cons_zero, List.setIfInBounds_toArray, List.set_cons_zero, List.set_cons_succ])
            refine wpAny_take (i := 3) (v := ?_) rfl (by kernel_rfl) (by kernel_rfl) (by kernel_rfl) (fun _ _ _ h => h) (Or.inl ⟨by rfl, ?_⟩) ?_
            rotate_left
            · (intro wS; go_simp; try with_reducible rfl)
            (try simp only [Act.put, List.getElem_toArray, List.getElem_cons_succ, List.getElem_cons_zero, List.setIfInBounds_toArray, List.set_cons_zero, List.set_cons_succ])
            refine wpAny_take (i := 5) (v := undef) rfl (by kernel_rfl) (by kernel_rfl) (by kernel_rfl) (fun _ _ _ h => h) (Or.inr ⟨by rfl, rfl⟩) ?_
            (try simp only [Act.put, List.getElem_toArray, List.getElem_cons_succ, List.getElem_cons_zero, List.setIfInBounds_toArray, List.set_cons_zero, List.set_cons_succ])
            refine wpAny_take (i := 7) (v := undef) rfl (by kernel_rfl) (by kernel_rfl) (by kernel_rfl) (fun _ _ _ h => h) (Or.inr ⟨by rfl, rfl⟩) ?_
            (try simp only [Act.put, List.getElem_toArray, List.getElem_cons_succ, List.getElem_cons_zero, List.setIfInBounds_toArray, List.set_cons_zero, List.set_cons_succ])
            refine wpAny_ready (rs := [4, 8]) (by kernel_rfl) (by simp) ?_
            refine AllReady.cons rfl (fun K hK => ?_) ?_
            · rw [if_neg (by exact Bool.false_ne_true)]
              refine hK _ _ ?_
              clear hK K
              (try simp only [Act.put, List.getElem_toArray, List.getElem_cons_succ, List.getElem_cons_zero, List.setIfInBounds_toArray, List.set_cons_zero, List.set_cons_succ])
              refine wpAny_ready (rs := [6, 8]) (by kernel_rfl) (by simp) ?_
              refine AllReady.cons rfl (fun K hK => ?_) ?_
              · rw [if_neg (by exact Bool.false_ne_true)]
                refine hK _ _ ?_
                clear hK K
                (try simp only [Act.put, List.getElem_toArray, List.getElem_cons_succ, List.getElem_cons_zero, List.setIfInBounds_toArray, List.set_cons_zero, List.set_cons_succ])
                refine wpAny_ready (rs := [8]) (by kernel_rfl) (by simp) ?_
                refine AllReady.cons rfl (fun K hK => ?_) ?_
                · rw [if_neg (by exact Bool.false_ne_true)]
                  refine hK _ _ ?_
                  clear hK K
                  (try simp only [Act.put, List.getElem_toArray, List.getElem_cons_succ, List.getElem_cons_zero, List.setIfInBounds_toArray, List.set_cons_zero, List.set_cons_succ])
                  refine wpAny_ready (rs := [9]) (by kernel_rfl) (by simp) ?_
                  refine AllReady.cons rfl (fun K hK => ?_) ?_
                  · rw [if_neg (by exact Bool.false_ne_true)]
                    refine hK _ _ ?_
                    clear hK K
                    (try simp only [Act.put, List.getElem_toArray, List.getElem_cons_succ, List.getElem_cons_zero, List.setIfInBounds_toArray, List.set_cons_zero, List.set_cons_succ])
                    refine wpAny_ready (rs := [10]) (by kernel_rfl) (by simp) ?_
                    refine AllReady.cons rfl (fun K hK => ?_) ?_
                    · rw [if_neg (by exact Bool.false_ne_true)]
                      refine hK _ _ ?_
                      clear hK K
                      (try simp only [Act.put, List.getElem_toArray, List.getElem_cons_succ, List.getElem_cons_zero, List.setIfInBounds_toArray, List.set_cons_zero, List.set_cons_succ])
                      refine wpAny_take (i := 11) (v := undef) rfl (by kernel_rfl) (by kernel_rfl) (by kernel_rfl) (fun _ _ _ h => h) (Or.inr ⟨by rfl, rfl⟩) ?_
                      (try simp only [Act.put, List.getElem_toArray, List.getElem_cons_succ, List.getElem_cons_zero, List.setIfInBounds_toArray, List.set_cons_zero, List.set_cons_succ])
                      refine wpAny_take (i := 12) (v := ?_) rfl (by kernel_rfl) (by kernel_rfl) (by kernel_rfl) (fun _ _ _ h => h) (Or.inl ⟨by rfl, ?_⟩) ?_
                      rotate_left
                      · (intro wS; go_simp; try with_reducible rfl)
                      (try simp only [Act.put, List.getElem_toArray, List.getElem_cons_succ, List.getElem_cons_zero, List.setIfInBounds_toArray, List.set_cons_zero, List.set_cons_succ])
                      refine wpAny_done (by kernel_rfl) ?_ _
                      go_wp2
                      go_meet
                      exact ⟨rfl, KS.out.trans (H1.out.bel.mono KS.out.size)⟩
                    exact AllReady.nil
                  exact AllReady.nil
                exact AllReady.nil
              refine AllReady.cons rfl (fun K hK => ?_) ?_
              · rw [if_neg (by exact Bool.false_ne_true)]
                refine hK _ _ ?_
                clear hK K
                (try simp only [Act.put, List.getElem_toArray, List.getElem_cons_succ, List.getElem_cons_zero, List.setIfInBounds_toArray, List.set_cons_zero, List.set_cons_succ])
                refine wpAny_ready (rs := [6]) (by kernel_rfl) (by simp) ?_
                refine AllReady.cons rfl (fun K hK => ?_) ?_
                · rw [if_neg (by exact Bool.false_ne_true)]
                  refine hK _ _ ?_
                  clear hK K
                  (try simp only [Act.put, List.getElem_toArray, List.getElem_cons_succ, List.getElem_cons_zero, List.setIfInBounds_toArray, List.set_cons_zero, List.set_cons_succ])
                  refine wpAny_ready (rs := [9]) (by kernel_rfl) (by simp) ?_
                  refine AllReady.cons rfl (fun K hK => ?_) ?_
                  · rw [if_neg (by exact Bool.false_ne_true)]
                    refine hK _ _ ?_
                    clear hK K
                    (try simp only [Act.put, List.getElem_toArray, List.getElem_cons_succ, List.getElem_cons_zero, List.setIfInBounds_toArray, List.set_cons_zero, List.set_cons_succ])
                    refine wpAny_ready (rs := [10]) (by kernel_rfl) (by simp) ?_
                    refine AllReady.cons rfl (fun K hK => ?_) ?_
                    · rw [if_neg (by exact Bool.false_ne_true)]
                      refine hK _ _ ?_
                      clear hK K
                      (try simp only [Act.put, List.getElem_toArray, List.getElem_cons_succ, List.getElem_cons_zero, List.setIfInBounds_toArray, List.set_cons_zero, List.set_cons_succ])
                      refine wpAny_take (i := 11) (v := undef) rfl (by kernel_rfl) (by kernel_rfl) (by kernel_rfl) (fun _ _ _ h => h) (Or.inr ⟨by rfl, rfl⟩) ?_
                      (try simp only [Act.put, List.getElem_toArray, List.getElem_cons_succ, List.getElem_cons_zero, List.setIfInBounds_toArray, List.set_cons_zero, List.set_cons_succ])
                      refine wpAny_take (i := 12) (v := ?_) rfl (by kernel_rfl) (by kernel_rfl) (by kernel_rfl) (fun _ _ _ h => h) (Or.inl ⟨by rfl, ?_⟩) ?_
                      rotate_left
                      · (intro wS; go_simp; try with_reducible rfl)
                      (try simp only [Act.put, List.getElem_toArray, List.getElem_cons_succ, List.getElem_cons_zero, List.setIfInBounds_toArray, List.set_cons_zero, List.set_cons_succ])
                      refine wpAny_done (by kernel_rfl) ?_ _
                      go_wp2
                      go_meet
                      exact ⟨rfl, KS.out.trans (H1.out.bel.mono KS.out.size)⟩
                    exact AllReady.nil
                  exact AllReady.nil
                exact AllReady.nil
              exact AllReady.nil
            refine AllReady.cons rfl (fun K hK => ?_) ?_
            · rw [if_neg (by exact Bool.false_ne_true)]
              refine hK _ _ ?_
              clear hK K
              (try simp only [Act.put, List.getElem_toArray, List.getElem_cons_succ, List.getElem_cons_zero, List.setIfInBounds_toArray, List.set_cons_zero, List.set_cons_succ])
              refine wpAny_ready (rs := [4]) (by kernel_rfl) (by simp) ?_
              refine AllReady.cons rfl (fun K hK => ?_) ?_
              · rw [if_neg (by exact Bool.false_ne_true)]
                refine hK _ _ ?_
                clear hK K
                (try simp only [Act.put, List.getElem_toArray, List.getElem_cons_succ, List.getElem_cons_zero, List.setIfInBounds_toArray, List.set_cons_zero, List.set_cons_succ])
                refine wpAny_ready (rs := [6]) (by kernel_rfl) (by simp) ?_
                refine AllReady.cons rfl (fun K hK => ?_) ?_
                · rw [if_neg (by exact Bool.false_ne_true)]
                  refine hK _ _ ?_
                  clear hK K
                  (try simp only [Act.put, List.getElem_toArray, List.getElem_cons_succ, List.getElem_cons_zero, List.setIfInBounds_toArray, List.set_cons_zero, List.set_cons_succ])
                  refine wpAny_ready (rs := [9]) (by kernel_rfl) (by simp) ?_
                  refine AllReady.cons rfl (fun K hK => ?_) ?_
                  · rw [if_neg (by exact Bool.false_ne_true)]
                    refine hK _ _ ?_
                    clear hK K
                    (try simp only [Act.put, List.getElem_toArray, List.getElem_cons_succ, List.getElem_cons_zero, List.setIfInBounds_toArray, List.set_cons_zero, List.set_cons_succ])
                    refine wpAny_ready (rs := [10]) (by kernel_rfl) (by simp) ?_
                    refine AllReady.cons rfl (fun K hK => ?_) ?_
                    · rw [if_neg (by exact Bool.false_ne_true)]
                      refine hK _ _ ?_
                      clear hK K
                      (try simp only [Act.put, List.getElem_toArray, List.getElem_cons_succ, List.getElem_cons_zero, List.setIfInBounds_toArray, List.set_cons_zero, List.set_cons_succ])
                      refine wpAny_take (i := 11) (v := undef) rfl (by kernel_rfl) (by kernel_rfl) (by kernel_rfl) (fun _ _ _ h => h) (Or.inr ⟨by rfl, rfl⟩) ?_
                      (try simp only [Act.put, List.getElem_toArray, List.getElem_cons_succ, List.getElem_cons_zero, List.setIfInBounds_toArray, List.set_cons_zero, List.set_cons_succ])
                      refine wpAny_take (i := 12) (v := ?_) rfl (by kernel_rfl) (by kernel_rfl) (by kernel_rfl) (fun _ _ _ h => h) (Or.inl ⟨by rfl, ?_⟩) ?_
                      rotate_left
                      · (intro wS; go_simp; try with_reducible rfl)
                      (try simp only [Act.put, List.getElem_toArray, List.getElem_cons_succ, List.getElem_cons_zero, List.setIfInBounds_toArray, List.set_cons_zero, List.set_cons_succ])
                      refine wpAny_done (by kernel_rfl) ?_ _
                      go_wp2
                      go_meet
                      exact ⟨rfl, KS.out.trans (H1.out.bel.mono KS.out.size)⟩
                    exact AllReady.nil
                  exact AllReady.nil
                exact AllReady.nil
              exact AllReady.nil
            exact AllReady.nil
          exact AllReady.nil
        case rest =>
          obtain ⟨rfl, hB⟩ := hcut
          have KC := Lib.hid hB
          clear hB
          go_wp2
          go_ret
          exact ⟨_, E.out, rfl, KC.out⟩
    · obtain rfl : k = t.d + 1 := by omega
      have E := Lib.hid (RoomIs.mk (l := l) (t := t) (r := t.d + 1 - 1) (by omega) (by omega) h3 (fun h => by omega))
      have KB := Lib.hid hB
      clear h3 hB S0 hlt
      go_wp2
      go_ret
      exact ⟨_, E.out, rfl, KB.out⟩
end Go.Proofs.Ytbhafcaekpccoaa.Qp
