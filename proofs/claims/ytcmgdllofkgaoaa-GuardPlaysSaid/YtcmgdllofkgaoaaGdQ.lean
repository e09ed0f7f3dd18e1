/- The document's guard (layer 17): Forget and Release. -/
import Derived.Test.YtcmgdllofkgaoaaGdR
namespace Go.Proofs.Ytcmgdllofkgaoaa.Gd
open Go.ChangeShapes Go.WideShapes Go.ChangeAt Go.RowKit Go.Joins
open Ge (El Seen Row)
set_option maxRecDepth 100000
set_option maxRecDepth 100000
set_option linter.unusedVariables false
set_option linter.unusedSimpArgs false
theorem take_snoc {L : List Kn} {i : Nat} {x : Kn} (hx : L[i]? = some x) : L.take (i + 1) = L.take i ++ [x] := by
  obtain ⟨h, rfl⟩ := List.getElem?_eq_some_iff.1 hx
  exact List.take_succ_eq_append_getElem h
theorem cut_snoc (A : List Kn) (x : Kn) (i : Int) : cut (A ++ [x]) i = if x.id = i then cut A i else cut A i ++ [x] := by
  unfold cut
  rw [List.filter_append]
  by_cases e : x.id = i <;> simp [e]
def FoRel (L : List Kn) (id : Int) (w : World) (gk : Nat) (s5 s6 : Value) (wx : World) : Prop := ∃ i : Nat, i + gk = L.length ∧ s6 = .int .i64 (i : Int) ∧ Row kc 3 53 w.heap.size wx s5 (cut (L.take i) id) ∧ Below w.heap.size w wx
theorem own_new {w : World} {v : Value} {L : List Kn} {B : Nat} {r : Nat} (h : Row kc 3 53 B w v L) (hr : r < B) : v.ownBlock ≠ some r := fun e => by
  have := (h.lt r e).1
  omega
theorem rforget_any (B r : Nat) (v : Value) (L : List Kn) (id : Int) (hL : L.length ≤ 80000) (hri : Rise L) (w : World) (h : Rg B w r v L) :
    Calls Try.prog 10 #[.pointer (some ⟨r, 0, none⟩), .int .i64 id] w fun e w' => e = .returned (.bool (isIn L id)) ∧ ∃ v', Rg B w' r v' (cut L id) ∧ Mv r none w w' := by
  have HR := Lib.hid h
  have WS := Lib.hid (cut_was hri id)
  have hrl := h.lt
  obtain ⟨ao, cap, rfl, -⟩ := h.seen
  clear h hri
  go_enter Try.func10, Try.ntmps10
  go_wp2_with fail
  go_loopg [5, 6] L.length (FoRel L id w)
  case atStart => exact ⟨0, by omega, rfl, Ge.row_nil _ _, Below.refl _ _⟩
  case round =>
    obtain ⟨i, hi, rfl, hrow, hb⟩ := hrel
    have H2 := Lib.hid (HR.out.call hb)
    have hc := H2.out.cell
    have hf := H2.out.free
    have HB := Lib.hid hb
    have HW := Lib.hid hrow
    clear hb
    by_cases hlt : i < L.length
    · obtain ⟨x, hx⟩ : ∃ x, L[i]? = some x := ⟨_, List.getElem?_eq_getElem hlt⟩
      obtain ⟨a1, c1, e1, hs⟩ := H2.out.seen
      cases e1
      obtain ⟨b, off, rfl, c0, c1, c2⟩ := seen_kn hs hx
      have hil : (cut (L.take i) id).length ≤ 99999 := by have := cut_len (L.take i) id; rw [List.length_take] at this; omega
      have ek := cut_snoc (L.take i) x id
      rw [← take_snoc hx] at ek
      have hlt' : (i : Int) < (L.length : Int) := by omega
      have hi0 : (0 : Int) ≤ (i : Int) := by omega
      have hi1w : IntKind.i64.wrap ((i : Int) + 1) = (i : Int) + 1 := IntWalk.i64_in _ (by omega)
      have HI := Lib.hid hi
      have hg0 : 0 < gk := by omega
      clear hi hx hs H2 hf
      by_cases he : x.id = id
      · have e1 : (x.id != id) = false := by simp [he]
        rw [if_pos he] at ek
        rw [← ek] at HW
        clear ek hil hrow
        go_wp2
        go_roundg (gk - 1)
        case measure => omega
        case rel => exact ⟨i + 1, by have := HI.out; omega, by go_num, HW.out, HB.out⟩
      · have e1 : (x.id != id) = true := by simp [he]
        rw [if_neg he] at ek
        obtain ⟨a2, c2', ev, -, -, -⟩ := Row.form kc_len hrow
        obtain ⟨v5, w5, ap5, r5, b5⟩ := Ge.row_new elK x (c := 1) (ty := 27) hrow HB.out.size hil 53
        rw [← ek] at r5
        have R5 := Lib.hid r5
        have B5 := Lib.hid (HB.out.trans b5)
        obtain ⟨xi, xl, xn⟩ := x
        simp only [kc] at ap5
        simp only at c0 c1 c2 e1
        subst ev
        generalize (cut (L.take i) id).length = n5 at *
        clear ek hil hrow HW HB r5 b5 he
        go_wp2_with (at_builtin; refine Lib.wpList_append_run _ rfl _ _ _ _ rfl _ _ rfl rfl _ _ ap5 ?_)
        go_roundg (gk - 1)
        case measure => omega
        case rel => exact ⟨i + 1, by have := HI.out; omega, by go_num, R5.out, B5.out⟩
    · have hge : (L.length : Int) ≤ (i : Int) := by omega
      have hdec : decide (i < L.length) = false := decide_eq_false hlt
      have e : L.take i = L := List.take_of_length_le (by omega)
      rw [e] at HW
      obtain ⟨a2, c2', rfl, -, -, -⟩ := Row.form kc_len HW.out
      have hws := WS.out
      have hwi : decide (((cut L id).length : Int) < (L.length : Int)) = isIn L id := by rw [← hws]; exact decide_eq_decide.2 (by omega)
      have FN : Hid (Rg B (wr.setCell ⟨r, 0, none⟩ (.slice a2 (cut L id).length c2')) r (.slice a2 (cut L id).length c2') (cut L id)) := Lib.hid (H2.out.put (HW.out.mono (by have := HR.out.lb; omega)) (own_new HW.out hrl))
      have FM := Lib.hid ((Mv.of_below (b := r) (r := none) HB.out).set (o := 0) (.slice a2 (cut L id).length c2') (.inl rfl))
      clear hi hlt hrow e H2 HW HB
      go_wp2
      go_ret
      exact ⟨by first | rfl | (rw [hwi]; rfl), _, FN.out, FM.out⟩
/-- was it put already? -/
def wasPut (X : Kn) (A : List Kn) : Bool := A.any fun k => decide (X.id < k.id)
/-- what stands in the new row behind these -/
def outOf (X : Kn) (A : List Kn) : List Kn := if wasPut X A = true then ins X A else A
theorem wasPut_snoc (X y : Kn) (A : List Kn) : wasPut X (A ++ [y]) = (wasPut X A || decide (X.id < y.id)) := by simp [wasPut]
theorem ins_put (X y : Kn) : ∀ (A : List Kn), wasPut X A = true → ins X (A ++ [y]) = ins X A ++ [y] := by
  intro A
  induction A with
  | nil => intro h; cases h
  | cons a A ih =>
    intro h
    rw [List.cons_append]
    unfold ins
    by_cases e : X.id < a.id
    · rw [if_pos e, if_pos e]; rfl
    · rw [if_neg e, if_neg e, ih (by simpa [wasPut, e] using h)]; rfl
theorem ins_not (X : Kn) : ∀ (A : List Kn), wasPut X A = false → ins X A = A ++ [X] := by
  intro A
  induction A with
  | nil => intro h; rfl
  | cons a A ih =>
    intro h
    have h2 : ¬ X.id < a.id ∧ wasPut X A = false := by simpa [wasPut] using h
    unfold ins
    rw [if_neg h2.1, ih h2.2]; rfl
theorem ins_here (X y : Kn) : ∀ (A : List Kn), wasPut X A = false → X.id < y.id → ins X (A ++ [y]) = A ++ [X] ++ [y] := by
  intro A
  induction A with
  | nil => intro h hy; simp [ins, hy]
  | cons a A ih =>
    intro h hy
    have h2 : ¬ X.id < a.id ∧ wasPut X A = false := by simpa [wasPut] using h
    rw [List.cons_append]
    unfold ins
    rw [if_neg h2.1, ih h2.2 hy]; rfl
theorem outOf_len (X : Kn) (A : List Kn) : (outOf X A).length ≤ A.length + 1 := by
  unfold outOf
  split
  · rw [ins_len]; omega
  · omega
theorem rbad_any (r : Nat) (i p n : Int) (hm : may p n = false) (w : World) :
    Calls Try.prog 12 #[.pointer (some ⟨r, 0, none⟩), .int .i64 i, .int .i64 p, .int .i64 n] w fun e w' => e = .returned (.int .i64 1) ∧ w' = w := by
  have hb : p < 1 ∨ 2147483648 < p ∨ n < 0 ∨ 1099511627776 < n := by
    have := of_decide_eq_false hm
    omega
  clear hm
  go_enter Try.func12, Try.ntmps12
  by_cases h1 : p < 1
  · go_wp2
    go_ret
    exact ⟨rfl, rfl⟩
  by_cases h2 : 2147483648 < p
  · go_wp2
    go_ret
    exact ⟨rfl, rfl⟩
  by_cases h3 : n < 0
  · go_wp2
    go_ret
    exact ⟨rfl, rfl⟩
  · have h4 : 1099511627776 < n := by omega
    clear hb
    go_wp2
    go_ret
    exact ⟨rfl, rfl⟩
def RlRel (M : List Kn) (X : Kn) (W : World) (gk : Nat) (s9 s10 s12 : Value) (wx : World) : Prop :=
  ∃ i : Nat, i + gk = M.length ∧ s12 = .int .i64 (i : Int) ∧ s10 = .bool (wasPut X (M.take i)) ∧ Row kc 3 53 W.heap.size wx s9 (outOf X (M.take i)) ∧ Below W.heap.size W wx
set_option maxHeartbeats 4000000 in
theorem rrelease_any (B r : Nat) (v : Value) (L : List Kn) (i p n : Int) (hL : L.length ≤ 80000) (hri : Rise L) (w : World) (h : Rg B w r v L) :
    Calls Try.prog 12 #[.pointer (some ⟨r, 0, none⟩), .int .i64 i, .int .i64 p, .int .i64 n] w fun e w' => e = .returned (.int .i64 (relA L i p n)) ∧ ∃ v', Rg B w' r v' (relL L i p n) ∧ Mv r none w w' := by
  cases hm : may p n with
  | false =>
    refine (rbad_any r i p n hm w).mono ?_
    rintro e w1 ⟨rfl, rfl⟩
    unfold relA relL
    rw [hm]
    exact ⟨rfl, v, h, Mv.refl _ _ _⟩
  | true =>
    obtain ⟨h1, h2, h3, h4⟩ := of_decide_eq_true hm
    have eA : relA L i p n = if n < nextOf L i then 19 else 0 := by unfold relA; rw [hm]; rfl
    have eL : relL L i p n = if n < nextOf L i then L else put L ⟨i, n, n + p⟩ := by unfold relL; rw [hm]; rfl
    rw [eA, eL]
    have NE := Lib.hid (rnext_any B r v L i hL w h)
    have FO := Lib.hid (rforget_any B r v L i hL hri w h)
    have H := Lib.hid h
    have k1 : ¬ p < 1 := by omega
    have k2 : ¬ 2147483648 < p := by omega
    have k3 : ¬ n < 0 := by omega
    have k4 : ¬ 1099511627776 < n := by omega
    have ew : IntKind.i64.wrap (n + p) = n + p := IntWalk.i64_in _ (by omega)
    clear h hm eA eL hri
    go_enter Try.func12, Try.ntmps12
    go_wp2_with fail
    (with_reducible refine NE.out.mono ?_)
    rintro e _ ⟨rfl, rfl⟩
    clear NE
    by_cases hlt : n < nextOf L i
    · go_wp2
      go_ret
      exact ⟨rfl, ⟨v, H.out⟩, Mv.refl _ _ _⟩
    · go_wp2_with fail
      (with_reducible refine FO.out.mono ?_)
      rintro e w1 ⟨rfl, v1, hr1, m1⟩
      have hM : (cut L i).length ≤ 80000 := by have := cut_len L i; omega
      obtain ⟨X, hX⟩ : ∃ X : Kn, X = ⟨i, n, n + p⟩ := ⟨_, rfl⟩
      have HP : Hid (put L ⟨i, n, n + p⟩ = ins X (cut L i)) := Lib.hid (by rw [hX]; rfl)
      generalize cut L i = M at *
      have b2 : Below w1.heap.size w1 (w1.alloc (.cells #[.int .i64 i, .int .i64 n, .int .i64 (n + p)] 53)) := (Below.refl _ _).alloc (Nat.le_refl _) _
      have H2 := Lib.hid (hr1.call b2)
      have M2 := Lib.hid (m1.trans (Mv.of_below (b := r) (r := none) b2) (fun j e => by cases e))
      have x0 : (w1.alloc (.cells #[.int .i64 i, .int .i64 n, .int .i64 (n + p)] 53)).cell? ⟨w1.heap.size, 0, none⟩ = some (.int .i64 i) := by simp [go_sem]
      have x1 : (w1.alloc (.cells #[.int .i64 i, .int .i64 n, .int .i64 (n + p)] 53)).cell? ⟨w1.heap.size, 1, none⟩ = some (.int .i64 n) := by simp [go_sem]
      have x2 : (w1.alloc (.cells #[.int .i64 i, .int .i64 n, .int .i64 (n + p)] 53)).cell? ⟨w1.heap.size, 2, none⟩ = some (.int .i64 (n + p)) := by simp [go_sem]
      have XX := Lib.hid (And.intro x0 (And.intro x1 x2))
      have hrl : r < w1.heap.size := hr1.lt
      have hws : w1.heap.size < (w1.alloc (.cells #[.int .i64 i, .int .i64 n, .int .i64 (n + p)] 53)).heap.size := by simp
      clear hr1 m1 b2 FO x0 x1 x2
      go_wp2_with fail
      generalize w1.alloc (.cells #[.int .i64 i, .int .i64 n, .int .i64 (n + p)] 53) = W at *
      generalize w1.heap.size = xb at *
      have hlb := H2.out.lb
      obtain ⟨ao1, cap1, rfl, hs1⟩ := H2.out.seen
      have S1 := Lib.hid hs1
      clear hs1
      have hXi : X.id = i := by rw [hX]
      go_loopg [9, 10, 12] M.length (RlRel M X W)
      case atStart => exact ⟨0, by omega, rfl, rfl, Ge.row_nil _ _, Below.refl _ _⟩
      case round =>
        obtain ⟨j, hj, rfl, rfl, hrow, hb⟩ := hrel
        have H3 := Lib.hid (H2.out.call hb)
        have hc := H3.out.cell
        have hf := H3.out.free
        have x0 := (hb.cell (p := ⟨xb, 0, none⟩) hws).trans XX.out.1
        have x1 := (hb.cell (p := ⟨xb, 1, none⟩) hws).trans XX.out.2.1
        have x2 := (hb.cell (p := ⟨xb, 2, none⟩) hws).trans XX.out.2.2
        have HB := Lib.hid hb
        have HW := Lib.hid hrow
        clear hb hrow
        by_cases hjl : j < M.length
        · obtain ⟨y, hy⟩ : ∃ y, M[j]? = some y := ⟨_, List.getElem?_eq_getElem hjl⟩
          obtain ⟨yb, off, rfl, y0, y1, y2⟩ := seen_kn (S1.out.below HB.out (Nat.le_refl _)) hy
          have hol : (outOf X (M.take j)).length ≤ 90000 := by have := outOf_len X (M.take j); rw [List.length_take] at this; omega
          have hjl' : (j : Int) < (M.length : Int) := by omega
          have hj0 : (0 : Int) ≤ (j : Int) := by omega
          have hj1w : IntKind.i64.wrap ((j : Int) + 1) = (j : Int) + 1 := IntWalk.i64_in _ (by omega)
          have ewp := wasPut_snoc X y (M.take j)
          have et := take_snoc hy
          rw [← et] at ewp
          have HJ := Lib.hid hj
          have hg0 : 0 < gk := by omega
          clear hj H3 hf
          cases hwp : wasPut X (M.take j) with
          | true =>
            have eo : outOf X (M.take j) ++ [y] = outOf X (M.take (j + 1)) := by
              unfold outOf; rw [ewp, hwp, et]; simp; exact (ins_put X y _ hwp).symm
            rw [hwp, Bool.true_or] at ewp
            obtain ⟨a2, c2', ev, -, -, -⟩ := Row.form kc_len HW.out
            obtain ⟨v5, w5, ap5, r5, b5⟩ := Ge.row_new elK y (c := 1) (ty := 27) HW.out HB.out.size (by omega) 53
            rw [eo] at r5
            have R5 := Lib.hid r5
            have B5 := Lib.hid (HB.out.trans b5)
            have EW := Lib.hid ewp
            obtain ⟨yi, yl, yn⟩ := y
            simp only [kc] at ap5
            simp only at y0 y1 y2
            subst ev
            generalize (outOf X (M.take j)).length = n5 at *
            clear eo r5 b5 HW HB ewp et hy hwp hol hX HP
            go_wp2_with (at_builtin; refine Lib.wpList_append_run _ rfl _ _ _ _ rfl _ _ rfl rfl _ _ ap5 ?_)
            go_roundg (gk - 1)
            case measure => omega
            case rel => exact ⟨j + 1, by have := HJ.out; omega, by go_num, by rw [EW.out], R5.out, B5.out⟩
          | false =>
            have eo : outOf X (M.take j) = M.take j := by unfold outOf; rw [hwp]; rfl
            by_cases hxy : i < y.id
            · have hxy2 : X.id < y.id := by omega
              have eo2 : M.take j ++ [X] ++ [y] = outOf X (M.take (j + 1)) := by
                unfold outOf; rw [ewp, et, decide_eq_true hxy2]; simp; have := ins_here X y _ hwp hxy2; simpa using this.symm
              rw [decide_eq_true hxy2, Bool.or_true] at ewp
              rw [eo] at HW hol
              obtain ⟨a2, c2', ev, -, -, -⟩ := Row.form kc_len HW.out
              obtain ⟨v5, w5, ap5, r5, b5⟩ := Ge.row_new elK X (c := 1) (ty := 27) HW.out HB.out.size (by omega) 53
              have hB5 := HB.out.trans b5
              obtain ⟨a6, c6', ev6, -, -, -⟩ := Row.form kc_len r5
              obtain ⟨v7, w7, ap7, r7, b7⟩ := Ge.row_new elK y (c := 1) (ty := 27) r5 hB5.size (by rw [List.length_append, List.length_singleton]; omega) 53
              obtain ⟨yb', off', e', z0, z1, z2⟩ := seen_kn (S1.out.below hB5 (Nat.le_refl _)) hy
              cases e'
              rw [eo2] at r7
              have hc5 := (H2.out.call hB5).cell
              have R7 := Lib.hid r7
              have B7 := Lib.hid (hB5.trans b7)
              have EW := Lib.hid ewp
              obtain ⟨yi, yl, yn⟩ := y
              rw [hX] at ap5
              simp only [kc] at ap5 ap7
              simp only at y0 y1 y2 z0 z1 z2 hxy
              subst ev
              subst ev6
              generalize (M.take j).length = n5 at *
              generalize (M.take j ++ [X]).length = n6 at *
              clear eo eo2 r5 b5 r7 b7 hB5 HW HB ewp et hy hwp hol hX HP
              go_wp2_with (first
                | (at_builtin; refine Lib.wpList_append_run _ rfl _ _ _ _ rfl _ _ rfl rfl _ _ ap5 ?_)
                | (at_builtin; refine Lib.wpList_append_run _ rfl _ _ _ _ rfl _ _ rfl rfl _ _ ap7 ?_))
              go_roundg (gk - 1)
              case measure => omega
              case rel => exact ⟨j + 1, by have := HJ.out; omega, by go_num, by rw [EW.out], R7.out, B7.out⟩
            · have hxy2 : ¬ X.id < y.id := by omega
              have eo2 : outOf X (M.take j) ++ [y] = outOf X (M.take (j + 1)) := by
                unfold outOf; rw [ewp, hwp, et, decide_eq_false hxy2]; simp
              rw [hwp, decide_eq_false hxy2, Bool.or_false] at ewp
              obtain ⟨a2, c2', ev, -, -, -⟩ := Row.form kc_len HW.out
              obtain ⟨v5, w5, ap5, r5, b5⟩ := Ge.row_new elK y (c := 1) (ty := 27) HW.out HB.out.size (by omega) 53
              rw [eo2] at r5
              have R5 := Lib.hid r5
              have B5 := Lib.hid (HB.out.trans b5)
              have EW := Lib.hid ewp
              obtain ⟨yi, yl, yn⟩ := y
              simp only [kc] at ap5
              simp only at y0 y1 y2 hxy
              subst ev
              generalize (outOf X (M.take j)).length = n5 at *
              clear eo eo2 r5 b5 HW HB ewp et hy hwp hol hX HP hxy2
              go_wp2_with (at_builtin; refine Lib.wpList_append_run _ rfl _ _ _ _ rfl _ _ rfl rfl _ _ ap5 ?_)
              go_roundg (gk - 1)
              case measure => omega
              case rel => exact ⟨j + 1, by have := HJ.out; omega, by go_num, by rw [EW.out], R5.out, B5.out⟩
        · have hge : (M.length : Int) ≤ (j : Int) := by omega
          have hdec : decide (j < M.length) = false := decide_eq_false hjl
          have e : M.take j = M := List.take_of_length_le (by omega)
          rw [e] at HW
          rw [e]
          have hol : (outOf X M).length ≤ 90000 := by have := outOf_len X M; omega
          clear hj hjl e
          cases hwp : wasPut X M with
          | true =>
            have eo : outOf X M = ins X M := by unfold outOf; rw [hwp]; rfl
            rw [eo, ← HP.out] at HW
            obtain ⟨a2, c2', rfl, -, -, -⟩ := Row.form kc_len HW.out
            have FN := Lib.hid (H3.out.put (HW.out.mono (by omega)) (own_new HW.out (by omega)))
            have FM := Lib.hid ((M2.out.trans (Mv.of_below (b := r) (r := none) HB.out) (fun j e => by cases e)).set (o := 0) (.slice a2 (put L ⟨i, n, n + p⟩).length c2') (.inl rfl))
            clear H3 HW HB eo hwp hol
            go_wp2
            go_ret
            exact ⟨rfl, ⟨_, FN.out⟩, FM.out⟩
          | false =>
            have eo : outOf X M = M := by unfold outOf; rw [hwp]; rfl
            rw [eo] at HW hol
            obtain ⟨a2, c2', ev, -, -, -⟩ := Row.form kc_len HW.out
            obtain ⟨v5, w5, ap5, r5, b5⟩ := Ge.row_new elK X (c := 1) (ty := 27) HW.out HB.out.size (by omega) 53
            rw [← ins_not X M hwp, ← HP.out] at r5
            have hB5 := HB.out.trans b5
            have hc5 := (H2.out.call hB5).cell
            have hf5 := (H2.out.call hB5).free
            obtain ⟨a6, c6', ev6, -, -, -⟩ := Row.form kc_len r5
            have FN := Lib.hid ((H2.out.call hB5).put (r5.mono (by omega)) (own_new r5 (by omega)))
            have FM := Lib.hid ((M2.out.trans (Mv.of_below (b := r) (r := none) hB5) (fun j e => by cases e)).set (o := 0) v5 (.inl rfl))
            rw [hX] at ap5
            simp only [kc] at ap5
            subst ev
            subst ev6
            clear H3 HW HB eo hwp hol r5 b5 hB5 hX HP
            go_wp2_with (at_builtin; refine Lib.wpList_append_run _ rfl _ _ _ _ rfl _ _ rfl rfl _ _ ap5 ?_)
            go_ret
            exact ⟨rfl, ⟨_, FN.out⟩, FM.out⟩
end Go.Proofs.Ytcmgdllofkgaoaa.Gd
