/- Package table's own and with; the library's Clone over rows. -/
import Derived.Test.YtnaanahgflbihaaTbD
import Derived.Laws.Cover3
namespace Go.Proofs.Ytnaanahgflbihaa.Tb
open Go.ChangeShapes Go.WideShapes Go.ChangeAt Go.RowKit Go.Joins
open Pm (Tk chk chk_iff below_drewN)
open Ge (El Seen Row)
set_option maxRecDepth 100000
set_option maxRecDepth 100000
set_option linter.unusedVariables false
set_option linter.unusedSimpArgs false
/-- a slice of these rows -/
structure Sl (v : Value) (l : List Rw) (w : World) (ao : Option Addr) (cap : Nat) : Prop where
  eq : v = .slice ao l.length cap
  le : l.length ≤ cap
  nil : ao = none → cap = 0
  seen : Seen Rw.cs 6 ao l w
theorem Sl.call {v : Value} {l : List Rw} {w w' : World} {ao : Option Addr} {cap : Nat} (h : Sl v l w ao cap) (hb : Below w.heap.size w w') : Sl v l w' ao cap := ⟨h.eq, h.le, h.nil, h.seen.call hb⟩
/-- a box of few cells is not where rows lie -/
theorem seen_set {ao : Option Addr} {l : List Rw} {L : List (Nat × Array Value × Nat)} {w W : World} (hS : Seen Rw.cs 6 ao l W) (hB : Bos L w W) {p : Nat} {cs : Array Value} {T : Nat} (i : Nat) (hi : L[i]? = some (p, cs, T)) (hz : cs.size ≤ 5) (o : Nat) (v : Value) : Seen Rw.cs 6 ao l (W.setCell ⟨p, o, none⟩ v) := fun h0 => by
  obtain ⟨b, off, rfl, hb, hat⟩ := hS h0
  have hp := (hB.at_ _ (List.mem_of_getElem? hi)).1
  have hne : b ≠ p := fun e => by
    subst e
    have h5 := (row_cells hat (List.getElem?_eq_getElem h0)).2.2.2.2.2
    rw [Lib.cell_of_heap hp] at h5
    have := (Array.getElem?_eq_some_iff.1 h5).1
    simp only at this
    omega
  have e := Below.heap_setCell W ⟨p, o, none⟩ v b hne
  exact ⟨b, off, rfl, by have := (Array.getElem?_eq_some_iff.1 (e.trans (Array.getElem?_eq_getElem hb))).1; exact this, fun i x hi j u hj => (World.cell?_of_block (w := W) (a := ⟨b, off + i * 6 + j, none⟩) e).trans (hat i x hi j u hj)⟩
theorem Sl.set {v : Value} {l : List Rw} {w W : World} {ao : Option Addr} {cap : Nat} (h : Sl v l W ao cap) {L : List (Nat × Array Value × Nat)} (hB : Bos L w W) {p : Nat} {cs : Array Value} {T : Nat} (i : Nat) (hi : L[i]? = some (p, cs, T)) (hz : cs.size ≤ 5) (o : Nat) (x : Value) : Sl v l (W.setCell ⟨p, o, none⟩ x) ao cap := ⟨h.eq, h.le, h.nil, seen_set h.seen hB i hi hz o x⟩
theorem row_sl {T : TypeId} {B : Nat} {w : World} {v : Value} {l : List Rw} (h : Row Rw.cs 6 T B w v l) : ∃ ao cap, Sl v l w ao cap := by
  rcases h.2 with ⟨rfl, h0⟩ | ⟨g, c, cur, hv, hB, hg, hcap, hm, hsz, ht⟩
  · have e : l = [] := List.eq_nil_of_length_eq_zero h0
    subst e
    exact ⟨none, 0, rfl, Nat.le_refl _, fun _ => rfl, Ge.seen_nil _ _⟩
  · obtain ⟨ao, cap, e, hle, hs, -⟩ := Row.form cs_len h
    refine ⟨ao, cap, e, hle, fun hn => ?_, hs⟩
    rw [e, hn] at hv; cases hv
theorem run_eql_none {P : Program} (w : World) (t e : TypeId) (a : Option Addr) (l c : Nat) (h : P.underlying t = some (.slice e)) : (binOp .eql t (.slice a l c) (.slice none 0 0)).run P w = .ok (.bool a.isNone) w := by
  simp only [binOp]
  simp [run_equal_slice_nil w t e a l c h]
theorem clone_any (l : List Rw) (ao : Option Addr) (cap : Nat) (w : World) (hS : Seen Rw.cs 6 ao l w) (hl : l.length ≤ 1000) :
    Calls Try.prog 72 #[.slice ao l.length cap] w fun e w' => ∃ ao' cap', e = .returned (.slice ao' l.length cap') ∧ Sl (.slice ao' l.length cap') l w' ao' cap' ∧ Below w.heap.size w w' := by
  cases ao with
  | none =>
    have h0 : l.length = 0 := by
      rcases Nat.eq_zero_or_pos l.length with h0 | h0
      · exact h0
      · obtain ⟨g, o, e, -⟩ := hS h0; cases e
    obtain rfl : l = [] := List.eq_nil_of_length_eq_zero h0
    clear hS h0 hl
    have q : (binOp .eql 22 (.slice none 0 cap) (.slice none 0 0)).run Try.prog w = .ok (.bool true) w := run_eql_none w _ _ _ _ _ Try.underlying22
    show Calls Try.prog 72 #[.slice none 0 cap] w _
    go_enter Try.func72, Try.ntmps72
    go_wp2
    go_ret
    exact ⟨none, 0, rfl, ⟨rfl, Nat.le_refl _, fun _ => rfl, Ge.seen_nil _ _⟩, Below.refl _ _⟩
  | some a =>
    have b0 : Row Rw.cs 6 57 w.heap.size (w.alloc (.cells #[] 57)) (.slice (some ⟨w.heap.size, 0, none⟩) 0 0) [] :=
      ⟨rfl, .inr ⟨w.heap.size, 0, #[], rfl, Nat.le_refl _, heap_alloc_new _ _, Nat.le_refl _, by simp [maxLen], rfl, rfl⟩⟩
    obtain ⟨v2, w2, hap, t2, bb, -⟩ := Ge.row_all el (c := cap) (ty := 22) b0 (hS.call ((Below.refl _ _).alloc (Nat.le_refl _) _)) (by simp) (by simp; omega)
    rw [List.nil_append] at t2
    obtain ⟨ao', cap', hsl⟩ := row_sl t2
    obtain rfl := hsl.eq
    have T2 := Lib.hid hsl
    have BB := Lib.hid (((Below.refl w.heap.size w).alloc (Nat.le_refl _) _).trans bb)
    clear hS t2 bb b0 hsl
    have q : (binOp .eql 22 (.slice (some a) l.length cap) (.slice none 0 0)).run Try.prog w = .ok (.bool false) w := run_eql_none w _ _ _ _ _ Try.underlying22
    go_enter Try.func72, Try.ntmps72
    go_wp2_with (at_builtin; refine Lib.wpList_append_run _ rfl _ _ _ _ rfl _ _ rfl rfl _ _ hap ?_)
    go_ret
    exact ⟨ao', cap', rfl, T2.out, BB.out⟩
/-- two boxes, of a table that came and of the one that is told -/
abbrev TB (w : World) (a b : Value) (m n : Int) : List (Nat × Array Value × Nat) := [(w.heap.size + 1, #[b, .int .i64 n], 24), (w.heap.size, #[a, .int .i64 m], 24)]
theorem tb_new (w : World) (a : Value) (m : Int) : Bos (TB w a (.slice none 0 0) m 0) w ((w.alloc (.cells #[a, .int .i64 m] 24)).alloc (.cells #[.slice none 0 0, .int .i64 0] 24)) := by
  have := ((bos_nil w).new #[a, .int .i64 m] 24).new #[.slice none 0 0, .int .i64 0] 24
  rw [World.size_alloc] at this
  exact this
set_option maxHeartbeats 4000000 in
theorem own_any (l : List Rw) (ao : Option Addr) (cap : Nat) (m : Int) (w : World) (hS : Seen Rw.cs 6 ao l w) (hl : l.length ≤ 1000) :
    Calls Try.prog 53 #[tv ao l.length cap m] w fun e w' => ∃ ao' cap', e = .returned (tv ao' l.length cap' m) ∧ Sl (.slice ao' l.length cap') l w' ao' cap' ∧ Below w.heap.size w w' := by
  have CL : Hid (∀ W, Below w.heap.size w W → Calls Try.prog 72 #[.slice ao l.length cap] W fun e w' => ∃ ao' cap', e = .returned (.slice ao' l.length cap') ∧ Sl (.slice ao' l.length cap') l w' ao' cap' ∧ Below W.heap.size W w') := Lib.hid (fun W hb => clone_any l ao cap W (hS.below hb (Nat.le_refl _)) hl)
  have H0 := Lib.hid (tb_new w (.slice ao l.length cap) m)
  have KEEP : Hid (∀ W', Bos (TB w (.slice ao l.length cap) (.slice none 0 0) m 0) w W' → (W'.cell? ⟨w.heap.size, 0, none⟩ = some (.slice ao l.length cap) ∧ W'.cell? ⟨w.heap.size, 1, none⟩ = some (.int .i64 m))) := Lib.hid (fun W' h => cell2 (h.cell 1 rfl))
  unfold tv
  generalize l.length = k at *
  clear hS hl
  go_enter Try.func53, Try.ntmps53
  go_wp2_with fail
  refine wp_region_held_drew (S := (fun W' => W'.cell? ⟨w.heap.size, 0, none⟩ = some (.slice ao k cap) ∧ W'.cell? ⟨w.heap.size, 1, none⟩ = some (.int .i64 m))) (by kernel_rfl) (KEEP.out _ H0.out.drew) (fun hHeld => ?_)
  refine wpAnyH_take (i := 0) (v := ?_) rfl (by kernel_rfl) (by kernel_rfl) (by kernel_rfl) (fun _ _ _ h => h) (Or.inl ⟨by rfl, ?_⟩) (by assumption) ?_
  rotate_left
  · (intro wS hSw; (try dsimp only at hSw); go_simp; try with_reducible rfl)
  (try simp only [Act.put, List.getElem_toArray, List.getElem_cons_succ, List.getElem_cons_zero, List.setIfInBounds_toArray, List.set_cons_zero, List.set_cons_succ])
  refine wpAnyH_take (i := 1) (v := ?_) rfl (by kernel_rfl) (by kernel_rfl) (by kernel_rfl) (fun _ _ _ h => h) (Or.inl ⟨by rfl, ?_⟩) (by assumption) ?_
  rotate_left
  · (intro wS hSw; (try dsimp only at hSw); go_simp; try with_reducible rfl)
  (try simp only [Act.put, List.getElem_toArray, List.getElem_cons_succ, List.getElem_cons_zero, List.setIfInBounds_toArray, List.set_cons_zero, List.set_cons_succ])
  refine wpAnyH_take (i := 3) (v := ?_) rfl (by kernel_rfl) (by kernel_rfl) (by kernel_rfl) (fun _ _ _ h => h) (Or.inl ⟨by rfl, ?_⟩) (by assumption) ?_
  rotate_left
  · (intro wS hSw; (try dsimp only at hSw); go_simp; try with_reducible rfl)
  (try simp only [Act.put, List.getElem_toArray, List.getElem_cons_succ, List.getElem_cons_zero, List.setIfInBounds_toArray, List.set_cons_zero, List.set_cons_succ])
  refine wpAnyH_take (i := 4) (v := ?_) rfl (by kernel_rfl) (by kernel_rfl) (by kernel_rfl) (fun _ _ _ h => h) (Or.inl ⟨by rfl, ?_⟩) (by assumption) ?_
  rotate_left
  · (intro wS hSw; (try dsimp only at hSw); go_simp; try with_reducible rfl)
  (try simp only [Act.put, List.getElem_toArray, List.getElem_cons_succ, List.getElem_cons_zero, List.setIfInBounds_toArray, List.set_cons_zero, List.set_cons_succ])
  refine wpAnyH_ready (rs := [2]) (by kernel_rfl) (by simp) ?_
  refine AllReadyH.cons rfl (fun K hK => ?_) ?_
  · go_simp
    (with_reducible refine (CL.out _ H0.out.drew.bl).mono ?_)
    rintro e w1 ⟨ao', cap', rfl, sl1, b1⟩
    have H1 := Lib.hid (H0.out.drew.call b1)
    have SL := Lib.hid sl1
    clear b1 sl1 CL
    go_simp
    refine hK.out _ _ (KEEP.out _ H1.out) (fun hHeld => ?_)
    clear hK K
    (try simp only [Act.put, List.getElem_toArray, List.getElem_cons_succ, List.getElem_cons_zero, List.setIfInBounds_toArray, List.set_cons_zero, List.set_cons_succ])
    refine wpAnyH_take (i := 5) (v := ?_) rfl (by kernel_rfl) (by kernel_rfl) (by kernel_rfl) (fun _ _ _ h => h) (Or.inl ⟨by rfl, ?_⟩) (by assumption) ?_
    rotate_left
    · (intro wS hSw; (try dsimp only at hSw); go_simp; try with_reducible rfl)
    (try simp only [Act.put, List.getElem_toArray, List.getElem_cons_succ, List.getElem_cons_zero, List.setIfInBounds_toArray, List.set_cons_zero, List.set_cons_succ])
    refine wpAnyH_ready (rs := [6]) (by kernel_rfl) (by simp) ?_
    refine AllReadyH.cons rfl (fun K hK => ?_) ?_
    · have f0 := H1.out.fz 0 rfl
      obtain ⟨y0, y1⟩ := cell2 (H1.out.cell 0 rfl)
      have H2 := Lib.hid ((H1.out.set 0 rfl 0 (.slice ao' k cap')).set 0 rfl 1 (.int .i64 m))
      go_simp
      refine hK.out _ _ (cell2 (H2.out.cell 1 rfl)) (fun hHeld => ?_)
      clear hK K
      (try simp only [Act.put, List.getElem_toArray, List.getElem_cons_succ, List.getElem_cons_zero, List.setIfInBounds_toArray, List.set_cons_zero, List.set_cons_succ])
      refine wpAnyH_done (by kernel_rfl) ?_ _
      obtain ⟨z0, z1⟩ := cell2 (H2.out.cell 0 rfl)
      have Z := Lib.hid H2.out.bl
      have SF := Lib.hid ((SL.out.set H1.out 0 rfl (by decide) 0 (.slice ao' k cap')).set (H1.out.set 0 rfl 0 (.slice ao' k cap')) 0 rfl (by simp) 1 (.int .i64 m))
      go_wp2
      refine bodyPost_ret (v := .agg #[.slice ao' k cap', .int .i64 m]) (by simp [results, Try.results53, go_sem, z0, z1]) rfl ⟨ao', cap', rfl, SF.out, Z.out⟩
    exact AllReadyH.nil
  exact AllReadyH.nil
/-- what stands behind place k -/
abbrev tail (ao : Option Addr) (j n cap : Nat) : Value := sliced ao j n cap 6
theorem tail_sl {l : List Rw} {w : World} {ao : Option Addr} {cap j : Nat} (h : Sl (.slice ao l.length cap) l w ao cap) (hj : j ≤ l.length) : ∃ at', tail ao j l.length cap = .slice at' (l.drop j).length (cap - j) ∧ Seen Rw.cs 6 at' (l.drop j) w ∧ (at' = none → (l.drop j).length = 0) := by
  refine ⟨_, by unfold tail sliced; rw [List.length_drop], ?_, ?_⟩
  · intro h0
    rw [List.length_drop] at h0
    have hlt : cap ≠ j := by have := h.le; omega
    rw [if_neg hlt]
    obtain ⟨b, off, rfl, hb, hat⟩ := h.seen (by omega)
    have hs : Seen Rw.cs 6 (some ⟨b, off, none⟩) l w := fun _ => ⟨b, off, rfl, hb, hat⟩
    rw [Option.map_some, Ge.addr_add]
    exact (hs.drop j) (by rw [List.length_drop]; omega)
  · intro hn
    rw [List.length_drop]
    by_cases e : cap = j
    · have := h.le; omega
    · rw [if_neg e] at hn
      have := h.nil (by cases ao <;> simp_all)
      have := h.le
      omega
/-- the first k rows, rs, and what stands behind place j: one behind the other, as a row of its own -/
theorem two_appends {l rs : List Rw} {W : World} {ao : Option Addr} {cap j k : Nat} (h : Sl (.slice ao l.length cap) l W ao cap) (hk : k ≤ l.length) (hj : j ≤ l.length) (hl : l.length ≤ 1000) {ro : Option Addr} {rc : Nat} (hr : Seen Rw.cs 6 ro rs W) (hrs : rs.length ≤ 1) (hro : ro = none → rs = []) :
    ∃ h1 W1 ao' cap' W2, (Builtin.append_ #[22, 22] 22 #[.slice ao k k, .slice ro rs.length rc]).run Try.prog W = .ok h1 W1 ∧ (Builtin.append_ #[22, 22] 22 #[h1, tail ao j l.length cap]).run Try.prog W1 = .ok (.slice ao' (l.take k ++ rs ++ l.drop j).length cap') W2 ∧ Sl (.slice ao' (l.take k ++ rs ++ l.drop j).length cap') (l.take k ++ rs ++ l.drop j) W2 ao' cap' ∧ Below W.heap.size W W1 ∧ Below W.heap.size W W2 := by
  obtain ⟨at', et, ht, hn⟩ := tail_sl h hj
  rw [et]
  have hkl : (l.take k).length = k := by rw [List.length_take]; omega
  have hnk : ao = none → k = 0 := fun e => by have := h.nil e; have := h.le; omega
  have hdl : (l.drop j).length ≤ 1000 := by rw [List.length_drop]; omega
  by_cases h0 : rs = []
  · subst h0
    have r1 := Ge.all_none el W 22 ao ro k k rc (Nat.le_refl _)
    refine ⟨.slice ao k k, W, ?_⟩
    rw [List.append_nil]
    by_cases hd : (l.drop j).length = 0
    · have r2 := Ge.all_none el W 22 ao at' k k (cap - j) (Nat.le_refl _)
      have e0 : l.drop j = [] := List.eq_nil_of_length_eq_zero hd
      rw [e0, List.append_nil, hkl]
      refine ⟨ao, k, W, r1, r2, ⟨by rw [hkl], by omega, hnk, h.seen.take k⟩, Below.refl _ _, Below.refl _ _⟩
    · obtain ⟨ad, rfl⟩ : ∃ ad, at' = some ad := by
        cases at' with
        | none => exact absurd (hn rfl) hd
        | some ad => exact ⟨ad, rfl⟩
      obtain ⟨v', w', hr2, hrow, hb⟩ := Ge.full_all el (cl := k) (c := cap - j) (ty := 22) (h.seen.take k) hnk (by omega) ht (by omega) (by omega)
      rw [hkl] at hr2
      obtain ⟨ao', cap', hsl⟩ := row_sl hrow
      obtain rfl := hsl.eq
      exact ⟨ao', cap', w', r1, hr2, hsl, Below.refl _ _, hb⟩
  · obtain ⟨ra, rfl⟩ : ∃ ra, ro = some ra := by
      cases ro with
      | none => exact absurd (hro rfl) h0
      | some ra => exact ⟨ra, rfl⟩
    have hpos : 0 < rs.length := List.length_pos_iff.2 h0
    obtain ⟨v1, w1, hr1, hrow1, hb1⟩ := Ge.full_all el (cl := k) (c := rc) (ty := 22) (h.seen.take k) hnk (by omega) hr (by omega) (by omega)
    rw [hkl] at hr1
    have hlen1 : (l.take k ++ rs).length ≤ 2000 := by rw [List.length_append, hkl]; omega
    cases at' with
    | none =>
      have e0 : l.drop j = [] := List.eq_nil_of_length_eq_zero (hn rfl)
      rw [e0, List.append_nil]
      obtain ⟨ao', cap', hsl⟩ := row_sl hrow1
      obtain rfl := hsl.eq
      have r2 := Ge.all_none el w1 22 ao' none (l.take k ++ rs).length cap' (cap - j) hsl.le
      exact ⟨_, w1, ao', cap', w1, hr1, r2, hsl, hb1, hb1⟩
    | some ad =>
      obtain ⟨v2, w2, hr2, hrow2, hb2, -⟩ := Ge.row_all el (c := cap - j) (ty := 22) hrow1 (ht.call hb1) hb1.size (by omega)
      obtain ⟨ao', cap', hsl⟩ := row_sl hrow2
      obtain rfl := hsl.eq
      exact ⟨v1, w1, ao', cap', w2, hr1, hr2, hsl, hb1, hb1.trans hb2⟩
end Go.Proofs.Ytnaanahgflbihaa.Tb
