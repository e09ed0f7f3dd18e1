/- The document's executive (layer 18): Add. -/
import Derived.Test.YteagimnlhopjpaaErA
namespace Go.Proofs.Yteagimnlhopjpaa.Hj
open Go.ChangeShapes Go.WideShapes Go.ChangeAt Go.RowKit Go.Joins
open Hp (ins)
open Ed (Jo wk own_an hasR lateR leftR addR runR mayJ)
set_option maxRecDepth 100000
set_option maxRecDepth 100000
set_option linter.unusedVariables false
set_option linter.unusedSimpArgs false
/-- was it put already? -/
def wasPut (X : Jo) (A : List Jo) : Bool := A.any fun k => Ed.ahead X k
/-- what stands in the new row behind these -/
def outOf (X : Jo) (A : List Jo) : List Jo := if wasPut X A = true then ins Ed.ahead X A else A
theorem wasPut_snoc (X y : Jo) (A : List Jo) : wasPut X (A ++ [y]) = (wasPut X A || Ed.ahead X y) := by simp [wasPut]
theorem ins_put (X y : Jo) : ∀ (A : List Jo), wasPut X A = true → ins Ed.ahead X (A ++ [y]) = ins Ed.ahead X A ++ [y] := by
  intro A
  induction A with
  | nil => intro h; cases h
  | cons a A ih =>
    intro h
    rw [List.cons_append]
    unfold ins
    by_cases e : Ed.ahead X a = true
    · rw [if_pos e, if_pos e]; rfl
    · rw [if_neg e, if_neg e, ih (by simpa [wasPut, e] using h)]; rfl
theorem ins_not (X : Jo) : ∀ (A : List Jo), wasPut X A = false → ins Ed.ahead X A = A ++ [X] := by
  intro A
  induction A with
  | nil => intro h; rfl
  | cons a A ih =>
    intro h
    have h2 : Ed.ahead X a = false ∧ wasPut X A = false := by simpa [wasPut] using h
    unfold ins
    rw [if_neg (by rw [h2.1]; exact Bool.false_ne_true), ih h2.2]; rfl
theorem ins_here (X y : Jo) : ∀ (A : List Jo), wasPut X A = false → Ed.ahead X y = true → ins Ed.ahead X (A ++ [y]) = A ++ [X] ++ [y] := by
  intro A
  induction A with
  | nil => intro h hy; simp [ins, hy]
  | cons a A ih =>
    intro h hy
    have h2 : Ed.ahead X a = false ∧ wasPut X A = false := by simpa [wasPut] using h
    rw [List.cons_append]
    unfold ins
    rw [if_neg (by rw [h2.1]; exact Bool.false_ne_true), ih h2.2 hy]; rfl
theorem insJ_len (X : Jo) : ∀ (A : List Jo), (ins Ed.ahead X A).length = A.length + 1
  | [] => rfl
  | a :: A => by unfold ins; split <;> simp [insJ_len X A]
theorem outOf_len (X : Jo) (A : List Jo) : (outOf X A).length ≤ A.length + 1 := by
  unfold outOf
  split
  · rw [insJ_len]; omega
  · omega
theorem takeJ_snoc {L : List Jo} {i : Nat} {x : Jo} (hx : L[i]? = some x) : L.take (i + 1) = L.take i ++ [x] := by
  obtain ⟨h, rfl⟩ := List.getElem?_eq_some_iff.1 hx
  exact List.take_succ_eq_append_getElem h
set_option maxHeartbeats 1000000 in
theorem rbad_any (c : Nat) (j : Jo) (hm : mayJ j = false) (w : World) :
    Calls Try.prog 16 #[.pointer (some ⟨c, 0, none⟩), .agg #[.int .i64 j.id, .int .i64 j.rel, .int .i64 j.dl, .int .i64 j.le]] w fun e w' => e = .returned (.int .i64 1) ∧ Below w.heap.size w w' := by
  have hb : j.le < 1 ∨ 2147483648 < j.le ∨ j.rel < 0 ∨ 1099511627776 < j.rel ∨ j.dl ≤ j.rel ∨ 2199023255552 < j.dl := by
    have := of_decide_eq_false hm
    omega
  have BB := Lib.hid (show Below w.heap.size w (w.alloc (.cells #[.int .i64 j.id, .int .i64 j.rel, .int .i64 j.dl, .int .i64 j.le] 31)) from (Below.refl _ w).alloc (Nat.le_refl _) _)
  clear hm
  go_enter Try.func16, Try.ntmps16
  by_cases h1 : j.le < 1
  · clear hb
    go_wp2
    go_ret
    exact ⟨rfl, BB.out⟩
  by_cases h2 : 2147483648 < j.le
  · clear hb
    go_wp2
    go_ret
    exact ⟨rfl, BB.out⟩
  by_cases h3 : j.rel < 0
  · clear hb
    go_wp2
    go_ret
    exact ⟨rfl, BB.out⟩
  by_cases h4 : 1099511627776 < j.rel
  · clear hb
    go_wp2
    go_ret
    exact ⟨rfl, BB.out⟩
  by_cases h5 : j.dl ≤ j.rel
  · clear hb
    go_wp2
    go_ret
    exact ⟨rfl, BB.out⟩
  · have h6 : 2199023255552 < j.dl := by omega
    clear hb
    go_wp2
    go_ret
    exact ⟨rfl, BB.out⟩
def RaRel (M : List Jo) (X : Jo) (W : World) (gk : Nat) (s6 s7 s8 : Value) (wx : World) : Prop :=
  ∃ i : Nat, i + gk = M.length ∧ s8 = .int .i64 (i : Int) ∧ s7 = .bool (wasPut X (M.take i)) ∧ NRow W.heap.size wx s6 (outOf X (M.take i)) ∧ Below W.heap.size W wx
/-- what Add leaves -/
def AddTo (LB c : Nat) (ao : Option Addr) (M : List Jo) (w w' : World) : Prop := ∃ ao', Rx LB w' c ao' M ∧ Mv c none w w' ∧ ∀ a, ao' = some a → ao = some a ∨ w.heap.size ≤ a.block
set_option maxHeartbeats 8000000 in
theorem radd_any (LB c : Nat) (ao : Option Addr) (L : List Jo) (j : Jo) (hL : L.length ≤ 80000) (w : World) (h : Rx LB w c ao L) :
    Calls Try.prog 16 #[.pointer (some ⟨c, 0, none⟩), .agg #[.int .i64 j.id, .int .i64 j.rel, .int .i64 j.dl, .int .i64 j.le]] w fun e w' => e = .returned (.int .i64 (addR L j).2) ∧ AddTo LB c ao (addR L j).1 w w' := by
  cases hm : mayJ j with
  | false =>
    refine (rbad_any c j hm w).mono ?_
    rintro e w1 ⟨rfl, hb⟩
    unfold addR
    rw [hm]
    exact ⟨rfl, ao, h.call hb, Mv.of_below hb, fun a e => .inl e⟩
  | true =>
    have hmm := of_decide_eq_true hm
    obtain ⟨m1, m2, m3, m4, m5, m6⟩ := hmm
    have k1 : ¬ j.le < 1 := by omega
    have k2 : ¬ 2147483648 < j.le := by omega
    have k3 : ¬ j.rel < 0 := by omega
    have k4 : ¬ 1099511627776 < j.rel := by omega
    have k5 : ¬ j.dl ≤ j.rel := by omega
    have k6 : ¬ 2199023255552 < j.dl := by omega
    have b0 : Below w.heap.size w (w.alloc (.cells #[.int .i64 j.id, .int .i64 j.rel, .int .i64 j.dl, .int .i64 j.le] 31)) := (Below.refl _ w).alloc (Nat.le_refl _) _
    have H := Lib.hid (h.call b0)
    have X0 := Lib.hid (bx_new w j)
    have B0 := Lib.hid b0
    have HA := Lib.hid (rhas_any LB c ao L j.id hL _ (h.call b0))
    have RA := Lib.hid rahead_any
    have hcw := h.lt
    have AB := Lib.hid h.at_
    cases hh : hasR L j.id with
    | true =>
      have eR : addR L j = (L, 14) := by unfold addR; rw [hm, hh]; rfl
      rw [eR]
      rw [hh] at HA
      clear h hm eR m1 m2 m3 m4 m5 m6 b0 hh
      go_enter Try.func16, Try.ntmps16
      go_wp2_with fail
      (with_reducible refine HA.out.mono ?_)
      rintro e _ ⟨rfl, rfl⟩
      clear HA
      go_wp2
      go_ret
      exact ⟨rfl, ao, H.out, Mv.of_below B0.out, fun a e => .inl e⟩
    | false =>
      have eR : addR L j = (ins Ed.ahead j L, 0) := by unfold addR; rw [hm, hh]; rfl
      rw [eR]
      rw [hh] at HA
      clear h hm eR m1 m2 m3 m4 m5 m6 b0 hh
      go_enter Try.func16, Try.ntmps16
      go_wp2_with fail
      (with_reducible refine HA.out.mono ?_)
      rintro e _ ⟨rfl, rfl⟩
      clear HA
      go_wp2_with fail
      generalize w.alloc (.cells #[.int .i64 j.id, .int .i64 j.rel, .int .i64 j.dl, .int .i64 j.le] 31) = W0 at *
      generalize hX : w.heap.size = X at *
      have HX := Lib.hid hX
      clear hX k1 k2 k3 k4 k5 k6
      have BW : Hid (Below w.heap.size w W0) := Lib.hid (by rw [HX.out]; exact B0.out)
      go_loopg [6, 7, 8] L.length (RaRel L j W0)
      case atStart => exact ⟨0, by omega, rfl, rfl, nrow_nil _ _, Below.refl _ _⟩
      case round =>
        obtain ⟨i, hi, rfl, rfl, hrow, hb⟩ := hrel
        have H3 := Lib.hid (H.out.call hb)
        obtain ⟨cap, hcap, hc, hf⟩ := H3.out.cell
        have BX := Lib.hid (X0.out.call hb)
        have HB := Lib.hid hb
        have HW := Lib.hid hrow
        clear hb hrow
        by_cases hjl : i < L.length
        · obtain ⟨y, hy⟩ : ∃ y, L[i]? = some y := ⟨_, List.getElem?_eq_getElem hjl⟩
          obtain ⟨yb, off, rfl, -, hat⟩ := H.out.seen.at (by omega)
          have AYW := Lib.hid (hat i y hy)
          have AY := Lib.hid (AYW.out.of_block (HB.out.block _ AYW.out.lt))
          have hol : (outOf j (L.take i)).length ≤ 90000 := by have := outOf_len j (L.take i); rw [List.length_take] at this; omega
          have hjl' : (i : Int) < (L.length : Int) := by omega
          have hj0 : (0 : Int) ≤ (i : Int) := by omega
          have hj1w : IntKind.i64.wrap ((i : Int) + 1) = (i : Int) + 1 := IntWalk.i64_in _ (by omega)
          have ewp := wasPut_snoc j y (L.take i)
          have et := takeJ_snoc hy
          rw [← et] at ewp
          have HJ := Lib.hid hi
          have hg0 : 0 < gk := by omega
          have AH := Lib.hid (RA.out j y)
          have BD := Lib.hid (Below.drew' HB.out)
          have DD := Lib.hid (show Below wr.heap.size wr wr.drew from (Below.refl _ _).drew)
          have cS : wr.drew.cell? ⟨c, 0, none⟩ = some (.slice (some ⟨yb, off, none⟩) L.length cap) ∧ wr.drew.cell? ⟨X, 0, none⟩ = some (.int .i64 j.id) ∧ wr.drew.cell? ⟨X, 1, none⟩ = some (.int .i64 j.rel) ∧ wr.drew.cell? ⟨X, 2, none⟩ = some (.int .i64 j.dl) ∧ wr.drew.cell? ⟨X, 3, none⟩ = some (.int .i64 j.le) ∧ wr.drew.cell? ⟨yb, off + i * 4, none⟩ = some (.int .i64 y.id) ∧ wr.drew.cell? ⟨yb, off + i * 4 + 1, none⟩ = some (.int .i64 y.rel) ∧ wr.drew.cell? ⟨yb, off + i * 4 + 2, none⟩ = some (.int .i64 y.dl) ∧ wr.drew.cell? ⟨yb, off + i * 4 + 3, none⟩ = some (.int .i64 y.le) := And.intro (carry DD.out hc) (And.intro (BX.out.call DD.out).at.1 (And.intro (BX.out.call DD.out).at.2.1 (And.intro (BX.out.call DD.out).at.2.2.1 (And.intro (BX.out.call DD.out).at.2.2.2 (AY.out.call DD.out)))))
          clear hi hat hf
          obtain ⟨a2, c2', ev, -, -⟩ := HW.out.form
          go_wp2_with fail
          clear hc
          refine wp_region_held_drew (S := (fun W' => W'.cell? ⟨c, 0, none⟩ = some (.slice (some ⟨yb, off, none⟩) L.length cap) ∧ W'.cell? ⟨X, 0, none⟩ = some (.int .i64 j.id) ∧ W'.cell? ⟨X, 1, none⟩ = some (.int .i64 j.rel) ∧ W'.cell? ⟨X, 2, none⟩ = some (.int .i64 j.dl) ∧ W'.cell? ⟨X, 3, none⟩ = some (.int .i64 j.le) ∧ W'.cell? ⟨yb, off + i * 4, none⟩ = some (.int .i64 y.id) ∧ W'.cell? ⟨yb, off + i * 4 + 1, none⟩ = some (.int .i64 y.rel) ∧ W'.cell? ⟨yb, off + i * 4 + 2, none⟩ = some (.int .i64 y.dl) ∧ W'.cell? ⟨yb, off + i * 4 + 3, none⟩ = some (.int .i64 y.le))) (by kernel_rfl) (cS) (fun hHeld => ?_)
          refine Gh.tk 0 ?_
          refine Gh.tk 1 ?_
          refine Gh.tk 2 ?_
          refine Gh.tk 3 ?_
          refine Gh.tk 4 ?_
          refine Gh.tk 5 ?_
          refine Gh.tk 6 ?_
          refine Gh.tk 7 ?_
          refine Gh.rd 8 (fun K hK => ?_)
          go_simp
          (with_reducible refine (AH.out _).mono ?_)
          rintro e w5 ⟨rfl, b5⟩
          have B5 := Lib.hid (BD.out.trans (b5.mono BD.out.size))
          have R5 := Lib.hid ((HW.out.call DD.out).call b5)
          have AY0 := Lib.hid (show At4 W0 yb (off + i * 4) y from AYW.out)
          have cS5 := And.intro (carry b5 cS.1) (And.intro (carry b5 cS.2.1) (And.intro (carry b5 cS.2.2.1) (And.intro (carry b5 cS.2.2.2.1) (And.intro (carry b5 cS.2.2.2.2.1) (And.intro (carry b5 cS.2.2.2.2.2.1) (And.intro (carry b5 cS.2.2.2.2.2.2.1) (And.intro (carry b5 cS.2.2.2.2.2.2.2.1) (carry b5 cS.2.2.2.2.2.2.2.2))))))))
          have H5c := cS5.1
          obtain ⟨x0, x1, x2, x3⟩ := (X0.out.call B5.out).at
          obtain ⟨y0, y1, y2, y3⟩ := AYW.out.of_block (B5.out.block _ AYW.out.lt)
          clear b5 BD cS AH DD
          go_simp
          refine hK.out _ _ (cS5) (fun hHeld => ?_)
          clear hK K
          refine Gh.pt ?_
          refine Gh.tk 9 ?_
          refine wpAnyH_done (by kernel_rfl) ?_ _
          clear hHeld
          clear hHeld
          cases hwp : wasPut j (L.take i) with
          | true =>
            have eo : outOf j (L.take i) ++ [y] = outOf j (L.take (i + 1)) := by
              unfold outOf; rw [ewp, hwp, et]; simp; exact (ins_put j y _ hwp).symm
            rw [hwp, Bool.true_or] at ewp
            obtain ⟨g5, cp5, w6, hap5, hr5, hb5, -, -, -⟩ := nrow_append W0.heap.size w5 _ _ y R5.out B5.out.size (by omega)
            rw [eo] at hr5
            have R6 := Lib.hid hr5
            have B6 := Lib.hid (B5.out.trans hb5)
            have EW := Lib.hid ewp
            subst ev
            clear eo hr5 hb5 HW HB ewp et hy hwp hol R5 B5 x0 x1 x2 x3
            generalize (outOf j (L.take i)).length = n4 at *
            generalize n4 + 1 = n5 at *
            go_wp2_with (at_builtin; refine Lib.wpList_append_run _ rfl _ _ _ _ rfl _ _ rfl rfl _ _ hap5 ?_)
            go_roundg (gk - 1)
            case measure => omega
            case rel => exact ⟨i + 1, by have := HJ.out; omega, by go_num, by rw [EW.out], R6.out, B6.out⟩
          | false =>
            have eo : outOf j (L.take i) = L.take i := by unfold outOf; rw [hwp]; rfl
            cases hah : Ed.ahead j y with
            | true =>
              have eo2 : L.take i ++ [j] ++ [y] = outOf j (L.take (i + 1)) := by
                unfold outOf; rw [ewp, hwp, et, hah]; simp; have := ins_here j y _ hwp hah; simpa using this.symm
              rw [hah, Bool.or_true] at ewp
              obtain ⟨g5, cp5, w6, hap5, hr5, hb5, -, -, -⟩ := nrow_append W0.heap.size w5 _ _ j R5.out B5.out.size (by omega)
              have hB6 := B5.out.trans hb5
              obtain ⟨g7, cp7, w7, hap7, hr7, hb7, -, -, -⟩ := nrow_append W0.heap.size w6 _ _ y hr5 hB6.size (by rw [List.length_append, List.length_singleton]; omega)
              have e9 : (outOf j (L.take i) ++ [j]).length = (outOf j (L.take i)).length + 1 := by rw [List.length_append]; rfl
              have eo3 : outOf j (L.take i) ++ [j] ++ [y] = outOf j (L.take (i + 1)) := by rw [eo]; exact eo2
              rw [e9, eo3] at hr7
              rw [e9] at hap7
              have hc6 := ((H.out.call hB6).cell)
              obtain ⟨cap6, -, hc6, -⟩ := hc6
              obtain ⟨y0', y1', y2', y3'⟩ := AY0.out.of_block (hB6.block _ AY0.out.lt)
              have R7 := Lib.hid hr7
              have B7 := Lib.hid (hB6.trans hb7)
              have EW := Lib.hid ewp
              subst ev
              clear eo eo2 eo3 e9 hr5 hb5 hr7 hb7 hB6 HW HB ewp et hy hwp hol R5 B5
              generalize (outOf j (L.take i)).length = n4 at *
              generalize n4 + 1 = n5 at *
              generalize n5 + 1 = n6 at *
              go_wp2_with (first
                | (at_builtin; refine Lib.wpList_append_run _ rfl _ _ _ _ rfl _ _ rfl rfl _ _ hap5 ?_)
                | (at_builtin; refine Lib.wpList_append_run _ rfl _ _ _ _ rfl _ _ rfl rfl _ _ hap7 ?_))
              go_roundg (gk - 1)
              case measure => omega
              case rel => exact ⟨i + 1, by have := HJ.out; omega, by go_num, by rw [EW.out], R7.out, B7.out⟩
            | false =>
              have eo2 : outOf j (L.take i) ++ [y] = outOf j (L.take (i + 1)) := by
                unfold outOf; rw [ewp, hwp, et, hah]; simp
              rw [hwp, hah, Bool.or_false] at ewp
              obtain ⟨g5, cp5, w6, hap5, hr5, hb5, -, -, -⟩ := nrow_append W0.heap.size w5 _ _ y R5.out B5.out.size (by omega)
              rw [eo2] at hr5
              have R6 := Lib.hid hr5
              have B6 := Lib.hid (B5.out.trans hb5)
              have EW := Lib.hid ewp
              subst ev
              clear eo eo2 hr5 hb5 HW HB ewp et hy hwp hol R5 B5 x0 x1 x2 x3
              generalize (outOf j (L.take i)).length = n4 at *
              generalize n4 + 1 = n5 at *
              go_wp2_with (at_builtin; refine Lib.wpList_append_run _ rfl _ _ _ _ rfl _ _ rfl rfl _ _ hap5 ?_)
              go_roundg (gk - 1)
              case measure => omega
              case rel => exact ⟨i + 1, by have := HJ.out; omega, by go_num, by rw [EW.out], R6.out, B6.out⟩
        · have hge : (L.length : Int) ≤ (i : Int) := by omega
          have hdec : decide (i < L.length) = false := decide_eq_false hjl
          have e : L.take i = L := List.take_of_length_le (by omega)
          rw [e] at HW
          rw [e]
          have hol : (outOf j L).length ≤ 90000 := by have := outOf_len j L; omega
          clear hi hjl e
          cases hwp : wasPut j L with
          | true =>
            have eo : outOf j L = ins Ed.ahead j L := by unfold outOf; rw [hwp]; rfl
            rw [eo] at HW
            obtain ⟨ao', hp, cap', rfl⟩ := H3.out.put (HW.out.mono (by have := H.out.lb; have := H.out.lt; omega)) (fun e => by have := (HW.out.lt _ e).1; have := H.out.lt; omega)
            have FN : Hid (AddTo LB c ao (ins Ed.ahead j L) w (wr.setCell ⟨c, 0, none⟩ (.slice ao' (ins Ed.ahead j L).length cap'))) := Lib.hid ⟨ao', hp, ((Mv.of_below (BW.out.trans (HB.out.mono BW.out.size))).set _ (.inl rfl)), fun a e => .inr (by have := (HW.out.lt a.block (by rw [e]; rfl)).1; have := B0.out.size; omega)⟩
            clear H3 HW HB eo hwp hol hp
            go_wp2
            go_ret
            exact ⟨rfl, FN.out⟩
          | false =>
            have eo : outOf j L = L := by unfold outOf; rw [hwp]; rfl
            rw [eo] at HW hol
            obtain ⟨a2, c2', ev, -, -⟩ := HW.out.form
            obtain ⟨x0, x1, x2, x3⟩ := BX.out.at
            obtain ⟨g5, cp5, w6, hap5, hr5, hb5, -, -, -⟩ := nrow_append W0.heap.size wr _ _ j HW.out HB.out.size (by omega)
            rw [← ins_not j L hwp] at hr5
            have hB6 := HB.out.trans hb5
            have H6 := H.out.call hB6
            obtain ⟨cap6, -, hc6, hf6⟩ := H6.cell
            obtain ⟨ao', hp, cap', he'⟩ := H6.put (hr5.mono (by have := H.out.lb; have := H.out.lt; omega)) (fun e => by have := (hr5.lt _ e).1; have := H.out.lt; omega)
            have FN : Hid (AddTo LB c ao (ins Ed.ahead j L) w (w6.setCell ⟨c, 0, none⟩ (.slice (some ⟨g5, 0, none⟩) (L.length + 1) cp5))) := Lib.hid ⟨ao', hp, ((Mv.of_below (BW.out.trans (hB6.mono BW.out.size))).set _ (.inl rfl)), fun a e => .inr (by
              have h7 := (hr5.lt g5 rfl).1
              have := B0.out.size
              rw [e] at he'
              simp only [Value.slice.injEq, Option.some.injEq] at he'
              rw [← he'.1]
              show w.heap.size ≤ g5
              omega)⟩
            subst ev
            clear H3 HW HB eo hwp hol hr5 hb5 hB6 H6 hp he'
            generalize L.length + 1 = n5 at *
            go_wp2_with (at_builtin; refine Lib.wpList_append_run _ rfl _ _ _ _ rfl _ _ rfl rfl _ _ hap5 ?_)
            go_ret
            exact ⟨rfl, FN.out⟩
end Go.Proofs.Yteagimnlhopjpaa.Hj
