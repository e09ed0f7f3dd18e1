/- Contract of package demand's Next. -/
import Derived.Test.YtbhafcaekpccoaaDmN
import Derived.Test.YtbhafcaekpccoaaPmR
import Derived.Deep.CutBlock
namespace Go.Proofs.Ytbhafcaekpccoaa.Dm
open Go.ChangeShapes Go.WideShapes Go.ChangeAt Go.RowKit Go.Joins
open Pm (Tk chk chk_iff rowB rowB_all rowB_len TkAt Ts TRow chk_any wrap_in below_drewN row_any load_tk exec_load1 exec_build1 wp_val name_world addr_add)
set_option maxRecDepth 100000
set_option maxRecDepth 100000
set_option linter.unusedVariables false
set_option linter.unusedSimpArgs false
/-- an answer of two -/
def ans : Option Int → Value
  | some y => .tuple #[.int .i64 y, .bool true]
  | none => .tuple #[.int .i64 0, .bool false]
theorem nextR_no {l : List Tk} {x : Int} (h : rowB l = false) : nextR l x = none := by unfold nextR; rw [if_neg (by rw [h]; simp)]
theorem nextR_no2 {l : List Tk} {x : Int} (h : isTime x = false) : nextR l x = none := by unfold nextR; rw [if_neg (by rw [h]; simp)]
theorem least_nxts {l : List Tk} {x : Int} : ∀ m, (nxts l x = none ∧ leastR m (l.map (nxt · x)) = m) ∨ ∃ y, nxts l x = some y ∧ leastR m (l.map (nxt · x)) = (if y < m then y else m) := by
  induction l with
  | nil => intro m; left; exact ⟨rfl, rfl⟩
  | cons t l ih =>
    intro m
    right
    rw [List.map_cons, leastR, nxts]
    rcases ih (if nxt t x < m then nxt t x else m) with ⟨h1, h2⟩ | ⟨y, h1, h2⟩
    · rw [h1, h2]; exact ⟨_, rfl, rfl⟩
    · rw [h1, h2]
      refine ⟨_, rfl, ?_⟩
      repeat' split
      all_goals omega
/-- what Next tells, by the least one -/
theorem next_least {l : List Tk} {x : Int} (hr : rowB l = true) (hx : isTime x = true) : nextR l x = if isTime (leastR 1099511627777 (l.map (nxt · x))) = true then some (leastR 1099511627777 (l.map (nxt · x))) else none := by
  have hl := rowB_all hr
  have ht : ∀ t ∈ l, 0 < t.t := fun t h => by have := chk_iff.1 (hl t h); omega
  have h0 := isTime_iff.1 hx
  unfold nextR
  rw [if_pos ⟨hr, hx⟩]
  rcases least_nxts (l := l) (x := x) 1099511627777 with ⟨h1, h2⟩ | ⟨y, h1, h2⟩
  · rw [h1, h2]; rfl
  · have h3 := (nxts_is ht h1).1
    rw [h1, h2]
    simp only
    by_cases h : y < 1099511627777
    · rw [if_pos h, if_neg (by omega), if_pos (isTime_iff.2 (by omega))]
    · rw [if_neg h, if_pos (by omega)]; rfl
theorem leastR_in {l : List Int} : ∀ {m : Int}, (∀ y ∈ l, 0 ≤ y) → 0 ≤ m → 0 ≤ leastR m l ∧ leastR m l ≤ m := by
  induction l with
  | nil => intro m _ h; exact ⟨h, Int.le_refl _⟩
  | cons y l ih =>
    intro m hy h
    have h1 := hy y (by simp)
    rw [leastR]
    by_cases h2 : y < m
    · rw [if_pos h2]; have := ih (m := y) (fun z hz => hy z (by simp [hz])) h1; omega
    · rw [if_neg h2]; exact ih (m := m) (fun z hz => hy z (by simp [hz])) h
theorem build_num (w : World) (x : Int) : (Instr.buildSlice 30 1 #[(0, .int .i64 x)]).run Try.prog w = .ok (.slice (some ⟨w.heap.size, 0, none⟩) 1 1) (w.alloc (.cells #[.int .i64 x] 2)) := by kernel_rfl
/-- while Next gathers: w the world ahead, a task in its box b -/
structure Nx (w : World) (b : Nat) (t : Tk) (v : Value) (l : List Int) (W : World) : Prop where
  bx : TkAt b 0 t W
  row : NRow w.heap.size W v l
  bel : Below w.heap.size w W
theorem Nx.call {w : World} {b : Nat} {t : Tk} {v : Value} {l : List Int} {W W' : World} (h : Nx w b t v l W) (hb : Below W.heap.size W W') : Nx w b t v l W' :=
  ⟨h.bx.call hb, h.row.call hb, h.bel.trans (hb.mono h.bel.size)⟩
/-- i tasks were looked at -/
def NxRel (l : List Tk) (x : Int) (w : World) (g : Nat) (s t : Value) (wx : World) : Prop :=
  ∃ (i : Nat) (v : Value), i + g = l.length ∧ t = .int .i64 (i : Int) ∧ v = s ∧ NRow w.heap.size wx v ((l.map (nxt · x)).take i) ∧ Below w.heap.size w wx
theorem nx_next {l : List Tk} {x : Int} {i : Nat} (h : i < l.length) : (l.map (nxt · x)).take (i + 1) = (l.map (nxt · x)).take i ++ [nxt l[i] x] := by
  rw [List.take_succ_eq_append_getElem (by simpa using h)]; simp
set_option maxHeartbeats 4000000 in
theorem next_any (l : List Tk) (ao : Option Addr) (cap : Nat) (x : Int) (w : World) (hT : Ts ao l w) (hl : l.length ≤ 9223372036854775807) :
    Calls Try.prog 55 #[.slice ao l.length cap, .int .i64 x] w fun e w' => e = .returned (ans (nextR l x)) ∧ Below w.heap.size w w' := by
  have RO := Lib.hid (fun w h => row_any l ao cap w h hl)
  have TM := Lib.hid (isTime_any x)
  have T := Lib.hid hT
  cases hr : rowB l with
  | false =>
    have E := Lib.hid (nextR_no (x := x) hr)
    rw [hr] at RO
    generalize nextR l x = r at *
    clear hr
    go_enter Try.func55, Try.ntmps55
    go_wp2_with fail
    (with_reducible refine (RO.out _ hT).mono ?_)
    rintro e w1 ⟨rfl, b1⟩
    have K1 := Lib.hid b1
    clear b1 hT
    go_wp2
    exact bodyPost_ret (v := .tuple #[.int .i64 0, .bool false]) (by simp [results, Try.results55, go_sem]) rfl ⟨by rw [E.out]; rfl, K1.out⟩
  | true =>
    rw [hr] at RO
    cases hx : isTime x with
    | false =>
      have E := Lib.hid (nextR_no2 (l := l) hx)
      rw [hx] at TM
      generalize nextR l x = r at *
      clear hr hx
      go_enter Try.func55, Try.ntmps55
      go_wp2_with fail
      (with_reducible refine (RO.out _ hT).mono ?_)
      rintro e w1 ⟨rfl, b1⟩
      have K1 := Lib.hid b1
      clear b1 hT
      go_wp2_with fail
      (with_reducible refine (TM.out _).mono ?_)
      rintro e w2 ⟨rfl, rfl⟩
      go_wp2
      exact bodyPost_ret (v := .tuple #[.int .i64 0, .bool false]) (by simp [results, Try.results55, go_sem]) rfl ⟨by rw [E.out]; rfl, K1.out⟩
    | true =>
      have E := Lib.hid (next_least hr hx)
      have hlen := rowB_len hr
      have hall := rowB_all hr
      have h0 := isTime_iff.1 hx
      rw [hx] at TM
      have DU := Lib.hid (fun i (h : i < l.length) w => due_any l[i] x w (hall _ (List.getElem_mem h)) (by omega) h0.2)
      have DE := Lib.hid (fun i (h : i < l.length) w => deadline_any l[i] (cnt l[i] x) w (by have := (nxt_in (hall _ (List.getElem_mem h)) h0.1 h0.2).1; rw [Int.mul_comm]; exact this) (by have := (nxt_in (hall _ (List.getElem_mem h)) h0.1 h0.2).2.1; rw [Int.mul_comm]; omega) (by have := chk_iff.1 (hall _ (List.getElem_mem h)); omega) (by have := chk_iff.1 (hall _ (List.getElem_mem h)); omega))
      simp only [← nxt_cnt] at DE
      have MK := Lib.hid run_made
      have LI := leastR_in (l := l.map (nxt · x)) (m := 1099511627777) (fun y hy => by
        obtain ⟨t, ht, rfl⟩ := List.mem_map.1 hy
        have := (nxt_in (hall t ht) h0.1 h0.2).2.2.1
        omega) (by omega)
      generalize nextR l x = r at *
      clear hr hx h0 hall
      go_enter Try.func55, Try.ntmps55
      go_wp2_with fail
      (with_reducible refine (RO.out _ hT).mono ?_)
      rintro e w1 ⟨rfl, b1⟩
      have K1 := Lib.hid b1
      have N1 := Lib.hid (nrow_made w.heap.size w1 b1.size)
      have K2 := Lib.hid (fun o => b1.alloc b1.size o)
      clear b1 hT RO
      go_wp2_with fail
      (with_reducible refine (TM.out _).mono ?_)
      rintro e w2 ⟨rfl, rfl⟩
      have mk := MK.out
      go_wp2_with fail
      clear mk MK TM
      go_loopg [6, 21] l.length (NxRel l x w)
      case atStart => exact ⟨0, _, by omega, rfl, rfl, N1.out, K2.out _⟩
      case round =>
        obtain ⟨i, v0, hi, rfl, rfl, hN, hB⟩ := hrel
        have TQ := T.out.below hB (Nat.le_refl _)
        by_cases hlt : i < l.length
        · obtain ⟨b, off, rfl, hb, hat⟩ := TQ (by omega)
          have hx := hat i l[i] (List.getElem?_eq_getElem hlt)
          have DUI := Lib.hid (DU.out i hlt)
          have DEI := Lib.hid (DE.out i hlt)
          have NXE := Lib.hid (nx_next (x := x) hlt)
          have hlen2 : ((l.map (nxt · x)).take i).length ≤ 16 := by rw [List.length_take, List.length_map]; omega
          have HI := Lib.hid hi
          have NN := Lib.hid hN
          have KB := Lib.hid hB
          have hg0 : 0 < gk := by omega
          clear hi hat TQ hB hN DU DE
          generalize (l.map (nxt · x)).take i = L at *
          generalize nxt l[i] x = nx at *
          generalize cnt l[i] x = cn at *
          generalize l[i] = t at *
          have F0 : Hid (Nx w wr.heap.size t v0 L (wr.alloc (.cells #[.int .i64 t.id, .int .i64 t.c, .int .i64 t.d, .int .i64 t.t, .int .i64 t.m] 42))) := Lib.hid (by
            have a1 := (Below.refl wr.heap.size wr).alloc (Nat.le_refl _) (.cells #[.int .i64 t.id, .int .i64 t.c, .int .i64 t.d, .int .i64 t.t, .int .i64 t.m] 42)
            exact ⟨⟨by simp [go_sem], by simp [go_sem], by simp [go_sem], by simp [go_sem], by simp [go_sem]⟩, NN.out.call a1, KB.out.trans (a1.mono KB.out.size)⟩)
          obtain ⟨c0, c1, c2, c3, c4⟩ := hx
          have LT := Lib.hid (fun (W : World) (h : TkAt wr.heap.size 0 t W) => load_tk h)
          have TV : Hid (t.v = .agg #[.int .i64 t.id, .int .i64 t.c, .int .i64 t.d, .int .i64 t.t, .int .i64 t.m]) := Lib.hid rfl
          clear NN
          generalize hV : t.v = tv at *
          go_upto_region 7 with (fail)
          refine name_world (fun W => Nx w wr.heap.size t v0 L W) F0.out ?_
          intro S HS
          have H0 := Lib.hid (HS.call ((Below.refl _ _).drew))
          clear c0 c1 c2 c3 c4 F0 HS TV hV
          refine wp_region_any (by kernel_rfl) ?_
          (try (change wpAny _ _ _ _ _ _ _ (World.drew _)))
          refine wpAny_take (i := 0) (v := ?_) rfl (by kernel_rfl) (by kernel_rfl) (by kernel_rfl) (fun _ _ _ h => h) (Or.inl ⟨by rfl, ?_⟩) ?_
          rotate_left
          · (intro wS; go_simp; try with_reducible rfl)
          (try simp only [Act.put, List.getElem_toArray, List.getElem_cons_succ, List.getElem_cons_zero, List.setIfInBounds_toArray, List.set_cons_zero, List.set_cons_succ])
          refine wpAny_take (i := 3) (v := ?_) rfl (by kernel_rfl) (by kernel_rfl) (by kernel_rfl) (fun _ _ _ h => h) (Or.inl ⟨by rfl, ?_⟩) ?_
          rotate_left
          · (intro wS; go_simp; try with_reducible rfl)
          (try simp only [Act.put, List.getElem_toArray, List.getElem_cons_succ, List.getElem_cons_zero, List.setIfInBounds_toArray, List.set_cons_zero, List.set_cons_succ])
          refine wpAny_ready (rs := [1, 2]) (by kernel_rfl) (by simp) ?_
          refine AllReady.cons rfl (fun K hK => ?_) ?_
          · rw [if_pos (by rfl)]
            refine wp_val (exec_load1 rfl rfl (LT.out _ H0.out.bx)) (hK _ _ ?_)
            clear hK K
            (try simp only [Act.put, List.getElem_toArray, List.getElem_cons_succ, List.getElem_cons_zero, List.setIfInBounds_toArray, List.set_cons_zero, List.set_cons_succ])
            refine wpAny_ready (rs := [2]) (by kernel_rfl) (by simp) ?_
            refine AllReady.cons rfl (fun K hK => ?_) ?_
            · rw [if_pos (by rfl)]
              refine wp_val (exec_load1 rfl rfl (LT.out _ H0.out.bx)) (hK _ _ ?_)
              clear hK K
              (try simp only [Act.put, List.getElem_toArray, List.getElem_cons_succ, List.getElem_cons_zero, List.setIfInBounds_toArray, List.set_cons_zero, List.set_cons_succ])
              refine wpAny_ready (rs := [4]) (by kernel_rfl) (by simp) ?_
              refine AllReady.cons rfl (fun K hK => ?_) ?_
              · rw [if_pos (by rfl)]
                go_simp
                (with_reducible refine (DUI.out _).mono ?_)
                rintro e wz1 ⟨rfl, b4⟩
                go_simp
                refine hK _ _ ?_
                have H1 := Lib.hid (H0.out.call b4)
                clear b4
                clear hK K
                (try simp only [Act.put, List.getElem_toArray, List.getElem_cons_succ, List.getElem_cons_zero, List.setIfInBounds_toArray, List.set_cons_zero, List.set_cons_succ])
                refine wpAny_ready (rs := [5]) (by kernel_rfl) (by simp) ?_
                refine AllReady.cons rfl (fun K hK => ?_) ?_
                · rw [if_pos (by rfl)]
                  go_simp
                  (with_reducible refine (DEI.out _).mono ?_)
                  rintro e wz2 ⟨rfl, b5⟩
                  go_simp
                  refine hK _ _ ?_
                  have H2 := Lib.hid (H1.out.call b5)
                  clear b5
                  clear hK K
                  (try simp only [Act.put, List.getElem_toArray, List.getElem_cons_succ, List.getElem_cons_zero, List.setIfInBounds_toArray, List.set_cons_zero, List.set_cons_succ])
                  refine wpAny_ready (rs := [6]) (by kernel_rfl) (by simp) ?_
                  refine AllReady.cons rfl (fun K hK => ?_) ?_
                  · rw [if_pos (by rfl)]
                    refine wp_val (exec_build1 rfl rfl (build_num wz2 nx)) (hK _ _ ?_)
                    obtain ⟨v6, w6, r6, n6, b6, -, s6⟩ := nrow_append w.heap.size wz2 v0 L nx H2.out.row H2.out.bel.size (by omega)
                    have KF := Lib.hid (H2.out.bel.trans b6)
                    have NF := Lib.hid n6
                    clear b6 n6 s6
                    clear hK K
                    (try simp only [Act.put, List.getElem_toArray, List.getElem_cons_succ, List.getElem_cons_zero, List.setIfInBounds_toArray, List.set_cons_zero, List.set_cons_succ])
                    refine wpAny_ready (rs := [7]) (by kernel_rfl) (by simp) ?_
                    refine AllReady.cons rfl (fun K hK => ?_) ?_
                    · rw [if_pos (by rfl)]
                      refine Lib.wp_append_run _ _ _ _ _ rfl _ _ rfl rfl _ _ r6 (hK _ _ ?_)
                      clear r6
                      clear hK K
                      (try simp only [Act.put, List.getElem_toArray, List.getElem_cons_succ, List.getElem_cons_zero, List.setIfInBounds_toArray, List.set_cons_zero, List.set_cons_succ])
                      refine wpAny_take (i := 8) (v := ?_) rfl (by kernel_rfl) (by kernel_rfl) (by kernel_rfl) (fun _ _ _ h => h) (Or.inl ⟨by rfl, ?_⟩) ?_
                      rotate_left
                      · (intro wS; go_simp; try with_reducible rfl)
                      (try simp only [Act.put, List.getElem_toArray, List.getElem_cons_succ, List.getElem_cons_zero, List.setIfInBounds_toArray, List.set_cons_zero, List.set_cons_succ])
                      refine wpAny_done (by kernel_rfl) ?_ _
                      go_wp2
                      go_roundg (gk - 1)
                      case measure => omega
                      case rel => exact ⟨i + 1, _, by have := HI.out; omega, by go_num, rfl, by rw [NXE.out]; exact NF.out, KF.out⟩
                    exact AllReady.nil
                  exact AllReady.nil
                exact AllReady.nil
              exact AllReady.nil
            exact AllReady.nil
          refine AllReady.cons rfl (fun K hK => ?_) ?_
          · rw [if_pos (by rfl)]
            refine wp_val (exec_load1 rfl rfl (LT.out _ H0.out.bx)) (hK _ _ ?_)
            clear hK K
            (try simp only [Act.put, List.getElem_toArray, List.getElem_cons_succ, List.getElem_cons_zero, List.setIfInBounds_toArray, List.set_cons_zero, List.set_cons_succ])
            refine wpAny_ready (rs := [1, 4]) (by kernel_rfl) (by simp) ?_
            refine AllReady.cons rfl (fun K hK => ?_) ?_
            · rw [if_pos (by rfl)]
              refine wp_val (exec_load1 rfl rfl (LT.out _ H0.out.bx)) (hK _ _ ?_)
              clear hK K
              (try simp only [Act.put, List.getElem_toArray, List.getElem_cons_succ, List.getElem_cons_zero, List.setIfInBounds_toArray, List.set_cons_zero, List.set_cons_succ])
              refine wpAny_ready (rs := [4]) (by kernel_rfl) (by simp) ?_
              refine AllReady.cons rfl (fun K hK => ?_) ?_
              · rw [if_pos (by rfl)]
                go_simp
                (with_reducible refine (DUI.out _).mono ?_)
                rintro e wz1 ⟨rfl, b4⟩
                go_simp
                refine hK _ _ ?_
                have H1 := Lib.hid (H0.out.call b4)
                clear b4
                clear hK K
                (try simp only [Act.put, List.getElem_toArray, List.getElem_cons_succ, List.getElem_cons_zero, List.setIfInBounds_toArray, List.set_cons_zero, List.set_cons_succ])
                refine wpAny_ready (rs := [5]) (by kernel_rfl) (by simp) ?_
                refine AllReady.cons rfl (fun K hK => ?_) ?_
                · rw [if_pos (by rfl)]
                  go_simp
                  (with_reducible refine (DEI.out _).mono ?_)
                  rintro e wz2 ⟨rfl, b5⟩
                  go_simp
                  refine hK _ _ ?_
                  have H2 := Lib.hid (H1.out.call b5)
                  clear b5
                  clear hK K
                  (try simp only [Act.put, List.getElem_toArray, List.getElem_cons_succ, List.getElem_cons_zero, List.setIfInBounds_toArray, List.set_cons_zero, List.set_cons_succ])
                  refine wpAny_ready (rs := [6]) (by kernel_rfl) (by simp) ?_
                  refine AllReady.cons rfl (fun K hK => ?_) ?_
                  · rw [if_pos (by rfl)]
                    refine wp_val (exec_build1 rfl rfl (build_num wz2 nx)) (hK _ _ ?_)
                    obtain ⟨v6, w6, r6, n6, b6, -, s6⟩ := nrow_append w.heap.size wz2 v0 L nx H2.out.row H2.out.bel.size (by omega)
                    have KF := Lib.hid (H2.out.bel.trans b6)
                    have NF := Lib.hid n6
                    clear b6 n6 s6
                    clear hK K
                    (try simp only [Act.put, List.getElem_toArray, List.getElem_cons_succ, List.getElem_cons_zero, List.setIfInBounds_toArray, List.set_cons_zero, List.set_cons_succ])
                    refine wpAny_ready (rs := [7]) (by kernel_rfl) (by simp) ?_
                    refine AllReady.cons rfl (fun K hK => ?_) ?_
                    · rw [if_pos (by rfl)]
                      refine Lib.wp_append_run _ _ _ _ _ rfl _ _ rfl rfl _ _ r6 (hK _ _ ?_)
                      clear r6
                      clear hK K
                      (try simp only [Act.put, List.getElem_toArray, List.getElem_cons_succ, List.getElem_cons_zero, List.setIfInBounds_toArray, List.set_cons_zero, List.set_cons_succ])
                      refine wpAny_take (i := 8) (v := ?_) rfl (by kernel_rfl) (by kernel_rfl) (by kernel_rfl) (fun _ _ _ h => h) (Or.inl ⟨by rfl, ?_⟩) ?_
                      rotate_left
                      · (intro wS; go_simp; try with_reducible rfl)
                      (try simp only [Act.put, List.getElem_toArray, List.getElem_cons_succ, List.getElem_cons_zero, List.setIfInBounds_toArray, List.set_cons_zero, List.set_cons_succ])
                      refine wpAny_done (by kernel_rfl) ?_ _
                      go_wp2
                      go_roundg (gk - 1)
                      case measure => omega
                      case rel => exact ⟨i + 1, _, by have := HI.out; omega, by go_num, rfl, by rw [NXE.out]; exact NF.out, KF.out⟩
                    exact AllReady.nil
                  exact AllReady.nil
                exact AllReady.nil
              exact AllReady.nil
            refine AllReady.cons rfl (fun K hK => ?_) ?_
            · rw [if_pos (by rfl)]
              go_simp
              (with_reducible refine (DUI.out _).mono ?_)
              rintro e wz1 ⟨rfl, b4⟩
              go_simp
              refine hK _ _ ?_
              have H1 := Lib.hid (H0.out.call b4)
              clear b4
              clear hK K
              (try simp only [Act.put, List.getElem_toArray, List.getElem_cons_succ, List.getElem_cons_zero, List.setIfInBounds_toArray, List.set_cons_zero, List.set_cons_succ])
              refine wpAny_ready (rs := [1]) (by kernel_rfl) (by simp) ?_
              refine AllReady.cons rfl (fun K hK => ?_) ?_
              · rw [if_pos (by rfl)]
                refine wp_val (exec_load1 rfl rfl (LT.out _ H1.out.bx)) (hK _ _ ?_)
                clear hK K
                (try simp only [Act.put, List.getElem_toArray, List.getElem_cons_succ, List.getElem_cons_zero, List.setIfInBounds_toArray, List.set_cons_zero, List.set_cons_succ])
                refine wpAny_ready (rs := [5]) (by kernel_rfl) (by simp) ?_
                refine AllReady.cons rfl (fun K hK => ?_) ?_
                · rw [if_pos (by rfl)]
                  go_simp
                  (with_reducible refine (DEI.out _).mono ?_)
                  rintro e wz2 ⟨rfl, b5⟩
                  go_simp
                  refine hK _ _ ?_
                  have H2 := Lib.hid (H1.out.call b5)
                  clear b5
                  clear hK K
                  (try simp only [Act.put, List.getElem_toArray, List.getElem_cons_succ, List.getElem_cons_zero, List.setIfInBounds_toArray, List.set_cons_zero, List.set_cons_succ])
                  refine wpAny_ready (rs := [6]) (by kernel_rfl) (by simp) ?_
                  refine AllReady.cons rfl (fun K hK => ?_) ?_
                  · rw [if_pos (by rfl)]
                    refine wp_val (exec_build1 rfl rfl (build_num wz2 nx)) (hK _ _ ?_)
                    obtain ⟨v6, w6, r6, n6, b6, -, s6⟩ := nrow_append w.heap.size wz2 v0 L nx H2.out.row H2.out.bel.size (by omega)
                    have KF := Lib.hid (H2.out.bel.trans b6)
                    have NF := Lib.hid n6
                    clear b6 n6 s6
                    clear hK K
                    (try simp only [Act.put, List.getElem_toArray, List.getElem_cons_succ, List.getElem_cons_zero, List.setIfInBounds_toArray, List.set_cons_zero, List.set_cons_succ])
                    refine wpAny_ready (rs := [7]) (by kernel_rfl) (by simp) ?_
                    refine AllReady.cons rfl (fun K hK => ?_) ?_
                    · rw [if_pos (by rfl)]
                      refine Lib.wp_append_run _ _ _ _ _ rfl _ _ rfl rfl _ _ r6 (hK _ _ ?_)
                      clear r6
                      clear hK K
                      (try simp only [Act.put, List.getElem_toArray, List.getElem_cons_succ, List.getElem_cons_zero, List.setIfInBounds_toArray, List.set_cons_zero, List.set_cons_succ])
                      refine wpAny_take (i := 8) (v := ?_) rfl (by kernel_rfl) (by kernel_rfl) (by kernel_rfl) (fun _ _ _ h => h) (Or.inl ⟨by rfl, ?_⟩) ?_
                      rotate_left
                      · (intro wS; go_simp; try with_reducible rfl)
                      (try simp only [Act.put, List.getElem_toArray, List.getElem_cons_succ, List.getElem_cons_zero, List.setIfInBounds_toArray, List.set_cons_zero, List.set_cons_succ])
                      refine wpAny_done (by kernel_rfl) ?_ _
                      go_wp2
                      go_roundg (gk - 1)
                      case measure => omega
                      case rel => exact ⟨i + 1, _, by have := HI.out; omega, by go_num, rfl, by rw [NXE.out]; exact NF.out, KF.out⟩
                    exact AllReady.nil
                  exact AllReady.nil
                exact AllReady.nil
              exact AllReady.nil
            exact AllReady.nil
          exact AllReady.nil
        · have hge : (l.length : Int) ≤ (i : Int) := by omega
          rw [List.take_of_length_le (by rw [List.length_map]; omega)] at hN
          obtain ⟨a2, k2, rfl, -, hns⟩ := hN.form
          have LE := Lib.hid (least_any _ a2 k2 wr hns (by rw [List.length_map]; omega))
          have TY := Lib.hid (isTime_any (leastR 1099511627777 (l.map (nxt · x))))
          have KB := Lib.hid hB
          generalize leastR 1099511627777 (l.map (nxt · x)) = y at *
          generalize (l.map (nxt · x)).length = ll at *
          clear hB hns hN TQ DU DE hi hlt
          cases hy : isTime y with
          | true =>
            rw [hy] at TY
            have E2 : Hid (r = some y) := Lib.hid (by rw [E.out, if_pos hy])
            clear hy E
            go_wp2_with fail
            (with_reducible refine (LE.out).mono ?_)
            rintro e w3 ⟨rfl, rfl⟩
            go_wp2_with fail
            (with_reducible refine (TY.out _).mono ?_)
            rintro e w4 ⟨rfl, rfl⟩
            go_wp2
            exact bodyPost_ret (v := .tuple #[.int .i64 y, .bool true]) (by simp [results, Try.results55, go_sem]) rfl ⟨by rw [E2.out]; rfl, KB.out⟩
          | false =>
            rw [hy] at TY
            have E2 : Hid (r = none) := Lib.hid (by rw [E.out, if_neg (by rw [hy]; simp)])
            clear hy E
            go_wp2_with fail
            (with_reducible refine (LE.out).mono ?_)
            rintro e w3 ⟨rfl, rfl⟩
            go_wp2_with fail
            (with_reducible refine (TY.out _).mono ?_)
            rintro e w4 ⟨rfl, rfl⟩
            go_wp2
            exact bodyPost_ret (v := .tuple #[.int .i64 0, .bool false]) (by simp [results, Try.results55, go_sem]) rfl ⟨by rw [E2.out]; rfl, KB.out⟩
end Go.Proofs.Ytbhafcaekpccoaa.Dm
