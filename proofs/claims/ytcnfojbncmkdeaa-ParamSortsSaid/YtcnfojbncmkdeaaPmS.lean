/- How package slices puts tasks in order (at most 20): contracts of its insertion sort and of SortStableFunc, with package param's order. -/
import Derived.Test.YtcnfojbncmkdeaaPmR
import Derived.Test.YtcnfojbncmkdeaaPmP
import Derived.Deep.RegionHeld3
import Derived.Deep.DeepCutAuto
import Derived.RegionTactic
namespace Go.Proofs.Ytcnfojbncmkdeaa.Pm
open Go.ChangeShapes Go.WideShapes Go.ChangeAt Go.RowKit Go.Joins
open List (Perm)
set_option maxRecDepth 100000
set_option maxRecDepth 100000
set_option linter.unusedVariables false
set_option linter.unusedSimpArgs false
theorem heavy_asymm {a b : Tk} (h : heavy a b = true) : heavy b a = false := by
  unfold heavy at *
  simp only [Bool.and_eq_true, Bool.or_eq_true, Bool.not_eq_true', decide_eq_true_eq] at h
  obtain ⟨⟨⟨h1, h2⟩, h3⟩, h4⟩ := h
  rw [h1, h2, h3]
  rcases h4 with h4 | h4
  · rw [h4]; rfl
  · have : ¬ b.id < a.id := by omega
    simp [this]
/-- the first i stand in order -/
def SortedTo (x : List Tk) (i : Nat) : Prop := ∀ k a b, k + 1 < i → x[k]? = some a → x[k + 1]? = some b → heavy b a = false
/-- the first i + 1 do, but for the j-th -/
structure But (x : List Tk) (i j : Nat) : Prop where
  adj : ∀ k a b, k + 1 ≤ i → k + 1 ≠ j → x[k]? = some a → x[k + 1]? = some b → heavy b a = false
  gap : ∀ a b, 0 < j → j < i → x[j - 1]? = some a → x[j + 1]? = some b → heavy b a = false
theorem But.start {x : List Tk} {i : Nat} (h : SortedTo x i) : But x i i := ⟨fun k a b h1 h2 => h k a b (by omega), fun a b h1 h2 => by omega⟩
theorem But.done0 {x : List Tk} {i : Nat} (h : But x i 0) : SortedTo x (i + 1) := fun k a b h1 => h.adj k a b (by omega) (by omega)
theorem But.done {x : List Tk} {i j : Nat} (h : But x i j) (hj : 0 < j) {a b : Tk} (ha : x[j - 1]? = some a) (hb : x[j]? = some b) (hh : heavy b a = false) : SortedTo x (i + 1) := by
  intro k c d h1 hc hd
  by_cases e : k + 1 = j
  · obtain rfl : k = j - 1 := by omega
    rw [ha] at hc; cases hc
    rw [show j - 1 + 1 = j by omega, hb] at hd; cases hd
    exact hh
  · exact h.adj k c d (by omega) e hc hd
theorem swap_get {x : List Tk} {j : Nat} {a b : Tk} (hj : 0 < j) (hl : j < x.length) (k : Nat) : ((x.set j a).set (j - 1) b)[k]? = if k = j - 1 then some b else if k = j then some a else x[k]? := by
  rw [List.getElem?_set]
  by_cases h : j - 1 = k
  · rw [if_pos h, if_pos (by rw [List.length_set]; omega), if_pos h.symm]
  · rw [if_neg h, if_neg (fun e => h e.symm), List.getElem?_set]
    by_cases h2 : j = k
    · rw [if_pos h2, if_pos (by omega), if_pos h2.symm]
    · rw [if_neg h2, if_neg (fun e => h2 e.symm)]
theorem But.step {x : List Tk} {i j : Nat} (h : But x i j) (hj : 0 < j) (hl : j < x.length) {a b : Tk} (ha : x[j - 1]? = some a) (hb : x[j]? = some b) (hh : heavy b a = true) : But ((x.set j a).set (j - 1) b) i (j - 1) := by
  refine ⟨fun k c d h1 h2 hc hd => ?_, fun c d h1 h2 hc hd => ?_⟩
  · rw [swap_get hj hl] at hc hd
    by_cases e1 : k = j - 1
    · subst e1
      rw [if_pos rfl] at hc; cases hc
      rw [if_neg (by omega), if_pos (by omega)] at hd; cases hd
      exact heavy_asymm hh
    · rw [if_neg e1] at hc
      by_cases e2 : k = j
      · subst e2
        rw [if_pos rfl] at hc; cases hc
        rw [if_neg (by omega), if_neg (by omega)] at hd
        exact h.gap _ _ hj (by omega) ha hd
      · rw [if_neg e2] at hc
        rw [if_neg (by omega), if_neg (by omega)] at hd
        exact h.adj k c d h1 (by omega) hc hd
  · rw [swap_get hj hl] at hc hd
    rw [if_neg (by omega), if_neg (by omega)] at hc
    rw [if_neg (by omega), if_pos (by omega)] at hd; cases hd
    refine h.adj (j - 1 - 1) _ _ (by omega) (by omega) hc ?_
    rw [show j - 1 - 1 + 1 = j - 1 by omega]; exact ha
theorem swap_perm {x : List Tk} {j : Nat} {a b : Tk} (hj : 0 < j) (hl : j < x.length) (ha : x[j - 1]? = some a) (hb : x[j]? = some b) : ((x.set j a).set (j - 1) b).Perm x := by
  have h1 : j - 1 < x.length := by omega
  obtain ⟨_, rfl⟩ := List.getElem?_eq_some_iff.1 ha
  obtain ⟨_, rfl⟩ := List.getElem?_eq_some_iff.1 hb
  exact List.set_set_perm hl h1
theorem Apart.refl (b : Nat) (w : World) : Apart b w w := ⟨rfl, rfl, rfl, Nat.le_refl _, fun _ _ _ => rfl⟩
theorem Apart.trans {b : Nat} {u v w : World} (h : Apart b u v) (k : Apart b v w) : Apart b u w :=
  ⟨k.os.trans h.os, k.tape.trans h.tape, k.output.trans h.output, Nat.le_trans h.size k.size, fun i hi hb => (k.block i (Nat.lt_of_lt_of_le hi h.size) hb).trans (h.block i hi hb)⟩
theorem Apart.of_below {b : Nat} {w w' : World} (h : Below w.heap.size w w') : Apart b w w' := ⟨h.os, h.tape, h.output, h.size, fun k hk _ => h.block k hk⟩
theorem Apart.put5 {g o : Nat} {u w : World} {y : Tk} (h : Apart g u w) : Apart g u (put5 w g o y) :=
  h.trans ⟨by simp [Pm.put5, World.setCell], by simp [Pm.put5, World.setCell], by simp [Pm.put5, World.setCell], by simp [Pm.put5, World.setCell], fun k _ hk => put5_other _ _ _ _ _ hk⟩
def cmpV : Value := .func (.func 28) #[] #[]
/-- the outer loop -/
def IsRel (B g cap : Nat) (l : List Tk) (w : World) (m : Nat) (s : Value) (wx : World) : Prop :=
  ∃ (i : Nat) (x : List Tk), i + m = l.length + 1 ∧ 1 ≤ i ∧ s = .int .i64 (i : Int) ∧ x.Perm l ∧ SortedTo x i ∧ TRow B wx (.slice (some ⟨g, 0, none⟩) l.length cap) x ∧ Apart g w wx
/-- the inner one -/
def InRel (B g cap : Nat) (l : List Tk) (i : Nat) (w : World) (m : Nat) (s : Value) (wx : World) : Prop :=
  ∃ (x : List Tk), m ≤ i ∧ s = .int .i64 (m : Int) ∧ x.Perm l ∧ But x i m ∧ TRow B wx (.slice (some ⟨g, 0, none⟩) l.length cap) x ∧ Apart g w wx
theorem TRow.at {B : Nat} {w : World} {g n cap : Nat} {l : List Tk} (h : TRow B w (.slice (some ⟨g, 0, none⟩) n cap) l) {i : Nat} {x : Tk} (hi : l[i]? = some x) : TkAt g (i * 5) x w := by
  obtain ⟨ao, cap', hv, -, hts⟩ := h.form
  cases hv
  obtain ⟨b, off, e, hb, hat⟩ := hts (by have := (List.getElem?_eq_some_iff.1 hi).1; omega)
  cases e
  have := hat i x hi
  rwa [Nat.zero_add] at this
theorem TRow.free {B : Nat} {w : World} {g n cap : Nat} {l : List Tk} (h : TRow B w (.slice (some ⟨g, 0, none⟩) n cap) l) (o : Nat) : w.frozen? ⟨g, o, none⟩ = false := by
  rcases h.2 with ⟨h0, _⟩ | ⟨g', cap', cur, hv, hB, hg, -⟩
  · cases h0
  · cases hv
    simp [World.frozen?, hg]
theorem TRow.set' {B : Nat} {w : World} {g n cap : Nat} {l : List Tk} (h : TRow B w (.slice (some ⟨g, 0, none⟩) n cap) l) (i : Nat) (hi : i < l.length) (y : Tk) : TRow B (put5 w g (i * 5) y) (.slice (some ⟨g, 0, none⟩) n cap) (l.set i y) := by
  obtain ⟨ao, cap', hv, -, -⟩ := h.form
  cases hv
  exact h.set i hi y
/-- what holds of the row while two of its tasks are held against one another -/
def Hold4 (B g cap : Nat) (l x : List Tk) (w W : World) : Prop := TRow B W (.slice (some ⟨g, 0, none⟩) l.length cap) x ∧ Apart g w W
theorem Hold4.call {B g cap : Nat} {l x : List Tk} {w W W' : World} (h : Hold4 B g cap l x w W) (hb : Below W.heap.size W W') : Hold4 B g cap l x w W' := ⟨h.1.call hb, h.2.trans (.of_below hb)⟩
theorem hold_cells {B g cap j J : Nat} {l x : List Tk} {w W : World} {bi bc bd bt bm ai ac ad tt am : Int} (h : Hold4 B g cap l x w W) (hb : x[j]? = some ⟨bi, bc, bd, bt, bm⟩) (ha : x[J]? = some ⟨ai, ac, ad, tt, am⟩) : W.cell? ⟨g, j * 5, none⟩ = some (.int .i64 bi) ∧ W.cell? ⟨g, j * 5 + 1, none⟩ = some (.int .i64 bc) ∧ W.cell? ⟨g, j * 5 + 2, none⟩ = some (.int .i64 bd) ∧ W.cell? ⟨g, j * 5 + 3, none⟩ = some (.int .i64 bt) ∧ W.cell? ⟨g, j * 5 + 4, none⟩ = some (.int .i64 bm) ∧ W.cell? ⟨g, J * 5, none⟩ = some (.int .i64 ai) ∧ W.cell? ⟨g, J * 5 + 1, none⟩ = some (.int .i64 ac) ∧ W.cell? ⟨g, J * 5 + 2, none⟩ = some (.int .i64 ad) ∧ W.cell? ⟨g, J * 5 + 3, none⟩ = some (.int .i64 tt) ∧ W.cell? ⟨g, J * 5 + 4, none⟩ = some (.int .i64 am) ∧ Hold4 B g cap l x w W :=
  ⟨(h.1.at hb).c0, (h.1.at hb).c1, (h.1.at hb).c2, (h.1.at hb).c3, (h.1.at hb).c4, (h.1.at ha).c0, (h.1.at ha).c1, (h.1.at ha).c2, (h.1.at ha).c3, (h.1.at ha).c4, h⟩
set_option maxHeartbeats 1000000 in
theorem isort_any (B g cap : Nat) (l : List Tk) (w : World) (h : TRow B w (.slice (some ⟨g, 0, none⟩) l.length cap) l) (hl : l.length ≤ 1000) :
    Calls Try.prog 38 #[.slice (some ⟨g, 0, none⟩) l.length cap, .int .i64 0, .int .i64 (l.length : Int), cmpV] w fun e w' => e = .returned (.tuple #[]) ∧ ∃ x, x.Perm l ∧ SortedTo x l.length ∧ TRow B w' (.slice (some ⟨g, 0, none⟩) l.length cap) x ∧ Apart g w w' := by
  have H := Lib.hid h
  unfold cmpV
  clear h
  go_enter Try.func38, Try.ntmps38
  go_wp2_with fail
  go_loopg [8] l.length (IsRel B g cap l w)
  case atStart => exact ⟨1, l, by omega, by omega, rfl, Perm.refl _, fun k a b h1 => by omega, H.out, Apart.refl _ _⟩
  case round =>
    obtain ⟨i, x, hi, hi1, rfl, hp, hs, hr, ha⟩ := hrel
    by_cases hlt : i < l.length
    · have HS := Lib.hid (But.start hs)
      have HR := Lib.hid hr
      have HA := Lib.hid ha
      have HP := Lib.hid hp
      clear H hs hr ha hp
      go_wp2_with fail
      go_loopg [9] i (InRel B g cap l i w)
      case atStart => exact ⟨x, Nat.le_refl _, rfl, HP.out, HS.out, HR.out, HA.out⟩
      case round =>
        obtain ⟨x, hm, rfl, hp, hbt, hr, ha⟩ := hrel
        have HR2 := Lib.hid hr
        have HA2 := Lib.hid ha
        have HP2 := Lib.hid hp
        have HB2 := Lib.hid hbt
        have hlen := hp.length_eq
        clear HS HR HA HP hr ha hp hbt
        rcases Nat.eq_zero_or_pos gk with h0 | h0
        · have ST : Hid (SortedTo x (i + 1)) := Lib.hid (But.done0 (by have := HB2.out; rw [h0] at this; exact this))
          generalize hzz : (gk : Int) = z
          have hz : z ≤ 0 := by omega
          have hz1 : decide (0 < z) = false := decide_eq_false (by omega)
          clear hzz h0
          have hgo : i + 1 ≤ l.length + 1 := by omega
          have HR3 := Lib.hid (HR2.out.call ((Below.refl _ _).drew))
          have HA3 := Lib.hid (HA2.out.trans (.of_below ((Below.refl _ _).drew)))
          clear HR2 HA2 HB2 hlen
          go_wp2_with fail
          go_region
          go_wp2
          go_roundg (l.length - i)
          case measure => omega
          case rel => exact ⟨i + 1, x, by omega, by omega, by go_num, HP2.out, ST.out, HR3.out, HA3.out⟩
        · obtain ⟨J, rfl⟩ : ∃ J, gk = J + 1 := ⟨gk - 1, by omega⟩
          have hJ : J + 1 < x.length := by omega
          have hJl : J + 1 < l.length := by omega
          have hJl2 : J < l.length := by omega
          have hJi : (J : Int) + 1 < (l.length : Int) := by omega
          have hJi2 : (J : Int) < (l.length : Int) := by omega
          have hJ0 : (0 : Int) ≤ (J : Int) + 1 := by omega
          have hJ1 : (0 : Int) ≤ (J : Int) := by omega
          have e1 : IntKind.i64.wrap (J : Int) = (J : Int) := by rw [IntKind.wrap_i64]; omega
          have e2 : IntKind.i64.wrap ((J : Int) + 1 - 1) = (J : Int) := by rw [IntKind.wrap_i64]; omega
          have HJL := Lib.hid hJ
          have hxb := List.getElem?_eq_getElem hJ
          have hxa := List.getElem?_eq_getElem (show J < x.length by omega)
          have ha1 : x[J + 1 - 1]? = x[J]? := rfl
          generalize x[J + 1] = b at hxb
          generalize x[J] = a at hxa
          have OR := Lib.hid (order_any b a)
          have F0 := Lib.hid (show Hold4 B g cap l x w wr from ⟨HR2.out, HA2.out⟩)
          have F1 := Lib.hid (F0.out.call ((Below.refl _ _).drew))
          have STEP := Lib.hid (fun h => HB2.out.step h0 HJL.out (a := a) (b := b) (ha1.trans hxa) hxb h)
          have DONE := Lib.hid (fun h => HB2.out.done h0 (a := a) (b := b) (ha1.trans hxa) hxb h)
          have SP := Lib.hid ((swap_perm h0 HJL.out (a := a) (b := b) (ha1.trans hxa) hxb).trans HP2.out)
          have OV : Hid ((heavy b a = true ∧ ordR b a = -1) ∨ (heavy b a = false ∧ 0 ≤ ordR b a)) := Lib.hid (by
            unfold ordR
            cases heavy b a
            · right; refine ⟨rfl, ?_⟩; rw [if_neg (by simp)]; split <;> omega
            · left; simp)
          generalize heavy b a = hv at *
          generalize hro : ordR b a = r at *
          have HXB := Lib.hid hxb
          have HXA := Lib.hid hxa
          clear hro hxa hxb HR2 HA2 HB2 ha1 hJ h0
          have HC := fun W' => Lib.hid (fun h : Hold4 B g cap l x w W' => hold_cells (j := J + 1) (J := J) (bi := b.id) (bc := b.c) (bd := b.d) (bt := b.t) (bm := b.m) (ai := a.id) (ac := a.c) (ad := a.d) (tt := a.t) (am := a.m) h HXB.out HXA.out)
          obtain ⟨bi, bc, bd, bt, bm⟩ := b
          obtain ⟨ai, ac, ad, tt, am⟩ := a
          unfold Tk.v at OR
          simp only at OR HC
          have KS := Lib.hid ((HC _).out F0.out)
          have KD := Lib.hid ((HC _).out F1.out)
          go_wp2_with fail
          go_region_held3 (fun w' => w'.cell? ⟨g, (J + 1) * 5, none⟩ = some (.int .i64 bi) ∧ w'.cell? ⟨g, (J + 1) * 5 + 1, none⟩ = some (.int .i64 bc) ∧ w'.cell? ⟨g, (J + 1) * 5 + 2, none⟩ = some (.int .i64 bd) ∧ w'.cell? ⟨g, (J + 1) * 5 + 3, none⟩ = some (.int .i64 bt) ∧ w'.cell? ⟨g, (J + 1) * 5 + 4, none⟩ = some (.int .i64 bm) ∧ w'.cell? ⟨g, J * 5, none⟩ = some (.int .i64 ai) ∧ w'.cell? ⟨g, J * 5 + 1, none⟩ = some (.int .i64 ac) ∧ w'.cell? ⟨g, J * 5 + 2, none⟩ = some (.int .i64 ad) ∧ w'.cell? ⟨g, J * 5 + 3, none⟩ = some (.int .i64 tt) ∧ w'.cell? ⟨g, J * 5 + 4, none⟩ = some (.int .i64 am) ∧ Hold4 B g cap l x w w') (first | exact KS.out | exact KD.out | assumption) (first
            | (go_at_call 28; (with_reducible refine (OR.out _).mono ?_); rintro e wn ⟨rfl, bn⟩; (have fn := (by first | exact F1.out.call bn | exact F0.out.call bn : Hold4 B g cap l x w wn)); (have kn := (HC _).out fn))
            | fail)
          have FN := Lib.hid fn
          have FR := fun o => Lib.hid (fn.1.free o)
          clear kn KS KD F0 F1 OR
          rcases OV.out with ⟨h1, h2⟩ | ⟨h1, h2⟩
          · have NX : Hid (TRow B (put5 (put5 wn g ((J + 1) * 5) ⟨ai, ac, ad, tt, am⟩) g (J * 5) ⟨bi, bc, bd, bt, bm⟩).drew (.slice (some ⟨g, 0, none⟩) l.length cap) ((x.set (J + 1) ⟨ai, ac, ad, tt, am⟩).set J ⟨bi, bc, bd, bt, bm⟩) ∧ Apart g w (put5 (put5 wn g ((J + 1) * 5) ⟨ai, ac, ad, tt, am⟩) g (J * 5) ⟨bi, bc, bd, bt, bm⟩).drew) := Lib.hid (by
              have f2 := FN.out
              have hj := HJL.out
              exact ⟨(((f2.1).set' (J + 1) hj _).set' J (by rw [List.length_set]; omega) _).call ((Below.refl _ _).drew), ((f2.2.put5).put5).drew⟩)
            have ST : Hid (But ((x.set (J + 1) ⟨ai, ac, ad, tt, am⟩).set J ⟨bi, bc, bd, bt, bm⟩) i J) := Lib.hid (STEP.out h1)
            have SP2 : Hid (((x.set (J + 1) ⟨ai, ac, ad, tt, am⟩).set J ⟨bi, bc, bd, bt, bm⟩).Perm l) := Lib.hid SP.out
            obtain ⟨b0, b1, b2, b3, b4, a0, a1, a2, a3, a4, -⟩ := (HC _).out fn
            have f0 := (FR ((J + 1) * 5)).out
            have f1 := (FR ((J + 1) * 5 + 1)).out
            have f2 := (FR ((J + 1) * 5 + 2)).out
            have f3 := (FR ((J + 1) * 5 + 3)).out
            have f4 := (FR ((J + 1) * 5 + 4)).out
            have f5 := (FR (J * 5)).out
            have f6 := (FR (J * 5 + 1)).out
            have f7 := (FR (J * 5 + 2)).out
            have f8 := (FR (J * 5 + 3)).out
            have f9 := (FR (J * 5 + 4)).out
            have hgl := World.block_lt_of_cell? _ _ b0
            have dr : r < 0 := by omega
            clear fn FN FR HC DONE STEP OV h1 h2 HXA HXB
            go_wp2_with fail
            go_region
            all_goals
              go_wp2
              go_roundg J
              case measure => omega
              case rel =>
                refine ⟨(x.set (J + 1) ⟨ai, ac, ad, tt, am⟩).set J ⟨bi, bc, bd, bt, bm⟩, by omega, by go_num, SP2.out, ST.out, ?_⟩
                exact NX.out
          · have ST := Lib.hid (DONE.out h1)
            have dr : decide (r < 0) = false := decide_eq_false (by omega)
            have hi2 : i + 1 ≤ l.length + 1 := by omega
            clear fn FR HC DONE STEP OV h1 HXA HXB SP
            go_wp2
            go_roundg (l.length - i)
            case measure => omega
            case rel => exact ⟨i + 1, x, by omega, by omega, by go_num, HP2.out, ST.out, FN.out.1, FN.out.2⟩
    · have hge : (l.length : Int) ≤ (i : Int) := by omega
      have F := Lib.hid (show ∃ x, x.Perm l ∧ SortedTo x l.length ∧ TRow B wr (.slice (some ⟨g, 0, none⟩) l.length cap) x ∧ Apart g w wr from ⟨x, hp, fun k a b h1 => hs k a b (by omega), hr, ha⟩)
      clear H hs hr ha hp hlt hi hi1
      go_wp2
      go_end0
      exact ⟨rfl, F.out⟩
theorem isort_none (w : World) :
    Calls Try.prog 38 #[.slice none 0 0, .int .i64 0, .int .i64 0, cmpV] w fun e w' => e = .returned (.tuple #[]) ∧ w' = w := by
  unfold cmpV
  go_enter Try.func38, Try.ntmps38
  go_wp2_with fail
  go_loopg [8] 0 (fun (m : Nat) (s : Value) (wx : World) => s = .int .i64 1 ∧ wx = w)
  case atStart => exact ⟨rfl, rfl⟩
  case round =>
    obtain ⟨rfl, rfl⟩ := hrel
    go_wp2
    go_end0
    exact ⟨rfl, rfl⟩
/-- what order a row has behind it -/
def Sorts (B : Nat) (v : Value) (l : List Tk) (w w' : World) : Prop := ∃ x, x.Perm l ∧ SortedTo x l.length ∧ TRow B w' v x ∧ ∀ C, C ≤ B → B ≤ w.heap.size → Below C w w'
theorem isort_row (B : Nat) (v : Value) (l : List Tk) (w : World) (h : TRow B w v l) (hl : l.length ≤ 1000) :
    Calls Try.prog 38 #[v, .int .i64 0, .int .i64 (l.length : Int), cmpV] w fun e w' => e = .returned (.tuple #[]) ∧ Sorts B v l w w' := by
  rcases h.2 with ⟨rfl, h0⟩ | ⟨g, cap, cur, rfl, hB, hg, -⟩
  · rw [h0]
    obtain rfl : l = [] := List.eq_nil_of_length_eq_zero h0
    exact (isort_none w).mono fun e w' ⟨he, hw⟩ => ⟨he, by subst hw; exact ⟨[], Perm.refl _, fun k a b h1 => by simp at h1, h, fun C _ _ => Below.refl _ _⟩⟩
  · refine (isort_any B g cap l w h hl).mono fun e w' ⟨he, x, hp, hs, hr, ha⟩ => ⟨he, x, hp, hs, hr, fun C h1 h2 => ha.below (by omega) (by omega)⟩
theorem stable_any (B : Nat) (v : Value) (l : List Tk) (w : World) (h : TRow B w v l) (hl : l.length ≤ 19) :
    Calls Try.prog 33 #[v, .int .i64 (l.length : Int), cmpV] w fun e w' => e = .returned (.tuple #[]) ∧ Sorts B v l w w' := by
  have IS := Lib.hid (isort_row B v l w h (by omega))
  unfold cmpV at *
  have hi : (l.length : Int) < 20 := by omega
  have hi2 : (l.length : Int) ≤ 20 := by omega
  clear h hl
  go_enter Try.func33, Try.ntmps33
  go_wp2_with fail
  go_loopg [7, 8] 0 (fun (m : Nat) (s t : Value) (wx : World) => s = .int .i64 0 ∧ t = .int .i64 20 ∧ wx = w)
  case atStart => exact ⟨rfl, rfl, rfl⟩
  case round =>
    obtain ⟨rfl, rfl, rfl⟩ := hrel
    go_wp2_with fail
    (with_reducible refine (IS.out).mono ?_)
    rintro e w1 ⟨rfl, s1⟩
    have S1 := Lib.hid s1
    clear s1 IS
    go_wp2_with fail
    go_loopg [6, 7, 8, 9] 0 (fun (m : Nat) (s t u v : Value) (wx : World) => s = .int .i64 20 ∧ wx = w1)
    case atStart => exact ⟨rfl, rfl⟩
    case round =>
      obtain ⟨rfl, rfl⟩ := hrel
      go_wp2
      go_end0
      exact ⟨rfl, S1.out⟩
theorem sortStable_any (B : Nat) (v : Value) (l : List Tk) (w : World) (h : TRow B w v l) (hl : l.length ≤ 19) :
    Calls Try.prog 27 #[v, cmpV] w fun e w' => e = .returned (.tuple #[]) ∧ Sorts B v l w w' := by
  have IS := Lib.hid (stable_any B v l w h hl)
  obtain ⟨ao, cap, rfl, -, -⟩ := h.form
  unfold cmpV at *
  clear h
  go_enter Try.func27, Try.ntmps27
  go_wp2_with fail
  (with_reducible refine (IS.out).mono ?_)
  rintro e w1 ⟨rfl, s1⟩
  go_wp2
  go_end0
  exact ⟨rfl, s1⟩
end Go.Proofs.Ytcnfojbncmkdeaa.Pm
