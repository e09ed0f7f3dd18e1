/- Package edf: New, Has, Idle, Pending, mayBe, byDeadline, Add, Run, Drop. -/
import Derived.Test.YteagimnlhopjpaaEdP
namespace Go.Proofs.Yteagimnlhopjpaa.Hj
open Go.ChangeShapes Go.WideShapes Go.ChangeAt Go.RowKit Go.Joins
open Ed (Jo wk own_an hasR lateR leftR addR runR mayJ)
set_option maxRecDepth 100000
set_option maxRecDepth 100000
set_option linter.unusedVariables false
set_option linter.unusedSimpArgs false
theorem xnew_any (w : World) : Calls Try.prog 8 #[] w fun e w' => ∃ x K, e = .returned (.pointer (some ⟨x, 0, none⟩)) ∧ Xq w.heap.size w' x K [] ∧ Below w.heap.size w w' := by
  have hx : Xq w.heap.size (w.alloc (.cells #[.pointer none, .map none] 62)) w.heap.size [w.heap.size] [] := .inl ⟨rfl, rfl, Nat.le_refl _, heap_alloc_new w _⟩
  have hb : Below w.heap.size w (w.alloc (.cells #[.pointer none, .map none] 62)) := (Below.refl _ w).alloc (Nat.le_refl _) _
  have H := Lib.hid (And.intro hx hb)
  clear hx hb
  go_enter Try.func8, Try.ntmps8
  go_wp2
  go_ret
  exact ⟨_, _, rfl, H.out.1, H.out.2⟩
theorem maybe_any (j : Jo) (w : World) :
    Calls Try.prog 29 #[.agg #[.int .i64 j.id, .int .i64 j.rel, .int .i64 j.dl, .int .i64 j.le]] w fun e w' => e = .returned (.bool (mayJ j)) ∧ Below w.heap.size w w' := by
  obtain ⟨i, r, d, l⟩ := j
  obtain ⟨B, hB⟩ : ∃ B, B = mayJ ⟨i, r, d, l⟩ := ⟨_, rfl⟩
  have FT : Hid (1 ≤ l → l ≤ 2147483648 → 0 ≤ r → r ≤ 1099511627776 → r < d → d ≤ 2199023255552 → B = true) := Lib.hid (fun h1 h2 h3 h4 h5 h6 => by rw [hB]; unfold mayJ; exact decide_eq_true ⟨h1, h2, h3, h4, h5, h6⟩)
  have FF : Hid (¬ (1 ≤ l ∧ l ≤ 2147483648 ∧ 0 ≤ r ∧ r ≤ 1099511627776 ∧ r < d ∧ d ≤ 2199023255552) → B = false) := Lib.hid (fun h => by rw [hB]; unfold mayJ; exact decide_eq_false h)
  rw [← hB]
  clear hB
  have HB := Lib.hid ((Below.refl w.heap.size w).alloc (Nat.le_refl _) (.cells #[.int .i64 i, .int .i64 r, .int .i64 d, .int .i64 l] 31))
  go_enter Try.func29, Try.ntmps29
  by_cases h1 : 1 ≤ l
  · by_cases h2 : l ≤ 2147483648
    · by_cases h3 : 0 ≤ r
      · by_cases h4 : r ≤ 1099511627776
        · by_cases h5 : r < d
          · by_cases h6 : d ≤ 2199023255552
            · have E := Lib.hid (FT.out h1 h2 h3 h4 h5 h6)
              clear FT FF
              go_wp2
              go_ret
              exact ⟨by rw [E.out]; rfl, HB.out⟩
            · have E := Lib.hid (FF.out (by omega))
              clear FT FF
              have h9 : decide (d ≤ 2199023255552) = false := decide_eq_false h6
              go_wp2
              go_ret
              exact ⟨by rw [E.out]; rfl, HB.out⟩
          · have E := Lib.hid (FF.out (by omega))
            clear FT FF
            have h9 : decide (r < d) = false := decide_eq_false h5
            go_wp2
            go_ret
            exact ⟨by rw [E.out]; rfl, HB.out⟩
        · have E := Lib.hid (FF.out (by omega))
          clear FT FF
          have h9 : decide (r ≤ 1099511627776) = false := decide_eq_false h4
          go_wp2
          go_ret
          exact ⟨by rw [E.out]; rfl, HB.out⟩
      · have E := Lib.hid (FF.out (by omega))
        clear FT FF
        have h9 : decide (0 ≤ r) = false := decide_eq_false h3
        go_wp2
        go_ret
        exact ⟨by rw [E.out]; rfl, HB.out⟩
    · have E := Lib.hid (FF.out (by omega))
      clear FT FF
      have h9 : decide (l ≤ 2147483648) = false := decide_eq_false h2
      go_wp2
      go_ret
      exact ⟨by rw [E.out]; rfl, HB.out⟩
  · have E := Lib.hid (FF.out (by omega))
    clear FT FF
    have h9 : decide (1 ≤ l) = false := decide_eq_false h1
    go_wp2
    go_ret
    exact ⟨by rw [E.out]; rfl, HB.out⟩
theorem bydl_any (w : World) :
    Calls Try.prog 30 #[] w fun e w' => e = .returned (.pointer (some ⟨w.heap.size, 0, none⟩)) ∧ Hq w.heap.size w' w.heap.size none [] ∧ Below w.heap.size w w' := by
  have NE := Lib.hid (new_any w)
  have HQ := Lib.hid (hq_new w)
  have HB := Lib.hid ((Below.refl w.heap.size w).alloc (Nat.le_refl _) (.cells #[.func (.func 42) #[] #[], .slice none 0 0] 77))
  go_enter Try.func30, Try.ntmps30
  go_wp2_with fail
  (with_reducible refine NE.out.mono ?_)
  rintro e w1 ⟨rfl, rfl⟩
  go_wp2
  go_ret
  exact ⟨rfl, HQ.out, HB.out⟩
/-- of no heap -/
theorem lenN_any (w : World) : Calls Try.prog 34 #[.pointer none] w fun e w' => e = .returned (.int .i64 0) ∧ w' = w := by
  go_enter Try.func34, Try.ntmps34
  go_wp2
  go_ret
  exact ⟨rfl, rfl⟩
theorem listN_any (w : World) : Calls Try.prog 33 #[.pointer none] w fun e w' => e = .returned (.slice none 0 0) ∧ Below w.heap.size w w' := by
  have LE := Lib.hid lenN_any
  have HB := Lib.hid ((Below.refl w.heap.size w).alloc (Nat.le_refl _) (.cells #[.pointer none] 59))
  go_enter Try.func33, Try.ntmps33
  go_wp2_with fail
  (with_reducible refine (LE.out _).mono ?_)
  rintro e w1 ⟨rfl, rfl⟩
  go_wp2
  go_ret
  exact ⟨rfl, HB.out⟩
section
variable {LB x b m : Nat} {r : Option Nat} {K : List Nat} {s : List Jo} {w : World}
theorem look0 (i : Int) (hi : I64 i) (w : World) : (Instr.lookup 60 (.map none) (.int .i64 i) true).run Try.prog w = .ok (.tuple #[.agg #[], .bool false]) w := by
  have := Maps.look_nil (w := w) true law Try.underlying60 (zeroU _) (Go.Maps.keyOf_int_mk Try.underlying3 hi.wf)
  simpa using this
theorem look1 (h : Ki w m s) (i : Int) (hi : I64 i) : (Instr.lookup 60 (.map (some m)) (.int .i64 i) true).run Try.prog w = .ok (.tuple #[.agg #[], .bool (hasR s i)]) w := by
  obtain ⟨D, hD, -, hh⟩ := h
  obtain ⟨v, ps, hr, hv⟩ := World.ownsMap.look_ok hD law Try.underlying60 (zeroU w) unitElem_mk (Go.Maps.keyOf_int_mk Try.underlying3 hi.wf)
  obtain ⟨rfl, -⟩ := unitElem_inv hv
  rw [hr, hh]
end
section
variable (LB x : Nat) (K : List Nat) (s : List Jo)
theorem has_any (id : Int) (hi : I64 id) (w : World) (h : Xq LB w x K s) :
    Calls Try.prog 23 #[.pointer (some ⟨x, 0, none⟩), .int .i64 id] w fun e w' => e = .returned (.bool (hasR s id)) ∧ Below w.heap.size w w' := by
  rcases h with ⟨rfl, rfl, h⟩ | ⟨b, m, r, rfl, h⟩
  · have hrun := look0 id hi w
    have c0 := h.c0
    have c1 := h.c1
    clear h
    go_enter Try.func23, Try.ntmps23
    go_wp2
    go_ret
    exact ⟨rfl, (Below.refl _ w).alloc (Nat.le_refl _) _⟩
  · have hrun := look1 h.ki id hi
    have c0 := h.c0
    have c1 := h.c1
    clear h
    generalize hasR s id = q at *
    go_enter Try.func23, Try.ntmps23
    go_wp2
    go_ret
    exact ⟨rfl, (Below.refl _ w).alloc (Nat.le_refl _) _⟩
theorem xhas_any (id : Int) (hi : I64 id) (hl : s.length ≤ 1000) (w : World) (h : Xq LB w x K s) :
    Calls Try.prog 23 #[.pointer (some ⟨x, 0, none⟩), .int .i64 id] w fun e w' => e = .returned (.bool (hasR s id)) ∧ Below w.heap.size w w' :=
  has_any LB x K s id hi w h
theorem idle_any (w : World) (h : Xq LB w x K s) :
    Calls Try.prog 20 #[.pointer (some ⟨x, 0, none⟩)] w fun e w' => e = .returned (.bool (decide (s.length = 0))) ∧ w' = w := by
  rcases h with ⟨rfl, rfl, h⟩ | ⟨b, m, r, rfl, h⟩
  · have c0 := h.c0
    have LE := Lib.hid lenN_any
    clear h
    go_enter Try.func20, Try.ntmps20
    go_wp2_with fail
    (with_reducible refine (LE.out _).mono ?_)
    rintro e w1 ⟨rfl, rfl⟩
    go_wp2
    go_ret
    exact ⟨rfl, rfl⟩
  · have c0 := h.c0
    have LE := Lib.hid (len_any LB b r s w h.hq)
    have EN : Hid (decide (s.length = 0) = ((s.length : Int) == 0)) := Lib.hid (by rw [Bool.eq_iff_iff]; simp)
    rw [EN.out]
    clear h
    generalize s.length = n at *
    go_enter Try.func20, Try.ntmps20
    go_wp2_with fail
    (with_reducible refine LE.out.mono ?_)
    rintro e w1 ⟨rfl, rfl⟩
    go_wp2
    go_ret
    exact ⟨rfl, rfl⟩
theorem xidle_any (hl : s.length ≤ 1000) (w : World) (h : Xq LB w x K s) :
    Calls Try.prog 20 #[.pointer (some ⟨x, 0, none⟩)] w fun e w' => e = .returned (.bool (decide (s.length = 0))) ∧ Below w.heap.size w w' :=
  (idle_any LB x K s w h).mono fun e w' ⟨h1, h2⟩ => ⟨h1, h2 ▸ Below.refl _ _⟩
theorem xpending_any (hl : s.length ≤ 1000) (w : World) (h : Xq LB w x K s) :
    Calls Try.prog 17 #[.pointer (some ⟨x, 0, none⟩)] w fun e w' => ∃ u, e = .returned u ∧ NRow w.heap.size w' u s ∧ Below w.heap.size w w' := by
  rcases h with ⟨rfl, rfl, h⟩ | ⟨b, m, r, rfl, h⟩
  · have c0 := h.c0
    have LI := Lib.hid (listN_any w)
    clear h
    go_enter Try.func17, Try.ntmps17
    go_wp2_with fail
    (with_reducible refine LI.out.mono ?_)
    rintro e w1 ⟨rfl, hb⟩
    have HB := Lib.hid hb
    clear hb
    go_wp2
    go_ret
    exact ⟨_, rfl, nrow_nil _ _, HB.out⟩
  · have c0 := h.c0
    have LI := Lib.hid (list_any LB b r s w h.hq (by omega))
    clear h
    go_enter Try.func17, Try.ntmps17
    go_wp2_with fail
    (with_reducible refine LI.out.mono ?_)
    rintro e w1 ⟨u, rfl, hr, hb⟩
    have HB := Lib.hid (And.intro hr hb)
    clear hr hb LI
    go_wp2
    go_ret
    exact ⟨_, rfl, HB.out.1, HB.out.2⟩
end
end Go.Proofs.Yteagimnlhopjpaa.Hj
