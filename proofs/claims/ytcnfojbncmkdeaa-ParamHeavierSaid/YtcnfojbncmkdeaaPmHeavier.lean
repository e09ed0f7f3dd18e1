/- horariumlaw09.ParamHeavier answers true at every two rows of three numbers: of two tasks that may be, with IDs of their own, one is heavier; who has more work of the same period is. No condition. -/
import Derived.Test.YtcnfojbncmkdeaaPmN
import Derived.Deep.DeepCutAuto
import Derived.Deep.RegionHeld3
import Derived.BigQuiet
namespace Go.Proofs.Ytcnfojbncmkdeaa.paramHeavier
open Go.ChangeShapes Go.WideShapes Go.ChangeAt Go.RowKit Go.Joins
set_option maxRecDepth 100000
set_option linter.unusedVariables false
set_option linter.unusedSimpArgs false
open Pm

theorem heavy_two {xc xd xt yc yd yt : Int} (h : 1 ≤ xc ∧ xc ≤ xd ∧ xd ≤ xt ∧ xt ≤ 24) (k : 1 ≤ yc ∧ yc ≤ yd ∧ yd ≤ yt ∧ yt ≤ 24) : heavy ⟨1, yc, yd, yt, 1⟩ ⟨0, xc, xd, xt, 1⟩ = !heavy ⟨0, xc, xd, xt, 1⟩ ⟨1, yc, yd, yt, 1⟩ := by
  have c1 : chk ⟨0, xc, xd, xt, 1⟩ = true := by rw [chk_iff]; simp only; omega
  have c2 : chk ⟨1, yc, yd, yt, 1⟩ = true := by rw [chk_iff]; simp only; omega
  unfold heavy
  rw [c1, c2]
  unfold light
  simp only
  by_cases h1 : xc * yt < yc * xt
  · have h2 : ¬ yc * xt < xc * yt := by omega
    simp [h1, h2]
  · by_cases h2 : yc * xt < xc * yt
    · simp [h1, h2]
    · simp [h1, h2]
theorem heavy_same {xc yc t : Int} (h : 1 ≤ xc ∧ xc ≤ t ∧ t ≤ 24) (k : 1 ≤ yc ∧ yc ≤ t) (hne : yc ≠ xc) : heavy ⟨0, xc, t, t, 1⟩ ⟨1, yc, t, t, 1⟩ = decide (yc < xc) := by
  have c1 : chk ⟨0, xc, t, t, 1⟩ = true := by rw [chk_iff]; simp only; omega
  have c2 : chk ⟨1, yc, t, t, 1⟩ = true := by rw [chk_iff]; simp only; omega
  unfold heavy
  rw [c1, c2]
  unfold light
  simp only
  by_cases h1 : xc < yc
  · have h3 : xc * t < yc * t := Int.mul_lt_mul_of_pos_right h1 (by omega)
    have h2 : ¬ yc < xc := by omega
    simp [h3, h2]
  · have h2 : yc < xc := by omega
    have h3 : yc * t < xc * t := Int.mul_lt_mul_of_pos_right h2 (by omega)
    have h4 : ¬ xc * t < yc * t := by omega
    simp [h3, h2, h4]
theorem heavy_self (x : Tk) : heavy x x = false := by
  unfold heavy light
  simp
/-- two rows of three numbers in a block of their own -/
theorem tris_two (w : World) (a b : Tri) (T : TypeId) : Tris (some ⟨w.heap.size, 0, none⟩) [a, b] (w.alloc (.cells #[.int .i64 a.a, .int .i64 a.b, .int .i64 a.c, .int .i64 b.a, .int .i64 b.b, .int .i64 b.c] T)) := fun _ => by
  refine ⟨_, _, rfl, by simp, fun i x hi => ?_⟩
  match i, hi with
  | 0, hi => obtain rfl : _ = x := by simpa using hi
             exact ⟨by simp [go_sem], by simp [go_sem], by simp [go_sem]⟩
  | 1, hi => obtain rfl : _ = x := by simpa using hi
             exact ⟨by simp [go_sem], by simp [go_sem], by simp [go_sem]⟩
  | i + 2, hi => simp at hi
theorem made_two (a b : Tri) : madeL [a, b] = [mkT 0 a, mkT 1 b] := rfl
/-- four tasks in boxes of their own -/
structure Four (w : World) (X : Nat) (x y m s : Tk) (W : World) : Prop where
  x : TkAt X 0 x W
  y : TkAt (X + 1) 0 y W
  m : TkAt (X + 1 + 1) 0 m W
  s : TkAt (X + 1 + 1 + 1) 0 s W
  bel : Below w.heap.size w W
theorem Four.call {w W W' : World} {X : Nat} {x y m s : Tk} (h : Four w X x y m s W) (hb : Below W.heap.size W W') : Four w X x y m s W' :=
  ⟨h.x.call hb, h.y.call hb, h.m.call hb, h.s.call hb, h.bel.trans (hb.mono h.bel.size)⟩
theorem cells_of {b : Nat} {i c d t m : Int} {W : World} (h : TkAt b 0 ⟨i, c, d, t, m⟩ W) : W.cell? ⟨b, 0, none⟩ = some (.int .i64 (i)) ∧ W.cell? ⟨b, 1, none⟩ = some (.int .i64 (c)) ∧ W.cell? ⟨b, 2, none⟩ = some (.int .i64 (d)) ∧ W.cell? ⟨b, 3, none⟩ = some (.int .i64 (t)) ∧ W.cell? ⟨b, 4, none⟩ = some (.int .i64 (m)) :=
  ⟨h.c0, by simpa using h.c1, by simpa using h.c2, by simpa using h.c3, by simpa using h.c4⟩
theorem six {w W : World} {X : Nat} {xc xd xt yc yd yt : Int} {m s : Tk} (h : Four w X ⟨0, xc, xd, xt, 1⟩ ⟨1, yc, yd, yt, 1⟩ m s W) : W.cell? ⟨X, 0, none⟩ = some (.int .i64 (0)) ∧ W.cell? ⟨X, 1, none⟩ = some (.int .i64 (xc)) ∧ W.cell? ⟨X, 2, none⟩ = some (.int .i64 (xd)) ∧ W.cell? ⟨X, 3, none⟩ = some (.int .i64 (xt)) ∧ W.cell? ⟨X, 4, none⟩ = some (.int .i64 (1)) ∧ W.cell? ⟨X + 1, 0, none⟩ = some (.int .i64 (1)) ∧ W.cell? ⟨X + 1, 1, none⟩ = some (.int .i64 (yc)) ∧ W.cell? ⟨X + 1, 2, none⟩ = some (.int .i64 (yd)) ∧ W.cell? ⟨X + 1, 3, none⟩ = some (.int .i64 (yt)) ∧ W.cell? ⟨X + 1, 4, none⟩ = some (.int .i64 (1)) ∧ Four w X ⟨0, xc, xd, xt, 1⟩ ⟨1, yc, yd, yt, 1⟩ m s W := by
  obtain ⟨a0, a1, a2, a3, a4⟩ := cells_of h.x
  obtain ⟨b0, b1, b2, b3, b4⟩ := cells_of h.y
  exact ⟨a0, a1, a2, a3, a4, b0, b1, b2, b3, b4, h⟩
theorem seven {w W : World} {X Z : Nat} {xc xt yc : Int} {x y m : Tk} (hz : TkAt Z 0 ⟨0, xc, xt, xt, 1⟩ W) (h : Four w X x y m ⟨1, yc, xt, xt, 1⟩ W) : W.cell? ⟨Z, 0, none⟩ = some (.int .i64 (0)) ∧ W.cell? ⟨Z, 1, none⟩ = some (.int .i64 (xc)) ∧ W.cell? ⟨Z, 2, none⟩ = some (.int .i64 (xt)) ∧ W.cell? ⟨Z, 3, none⟩ = some (.int .i64 (xt)) ∧ W.cell? ⟨Z, 4, none⟩ = some (.int .i64 (1)) ∧ W.cell? ⟨X + 1 + 1 + 1, 0, none⟩ = some (.int .i64 (1)) ∧ W.cell? ⟨X + 1 + 1 + 1, 1, none⟩ = some (.int .i64 (yc)) ∧ W.cell? ⟨X + 1 + 1 + 1, 2, none⟩ = some (.int .i64 (xt)) ∧ W.cell? ⟨X + 1 + 1 + 1, 3, none⟩ = some (.int .i64 (xt)) ∧ W.cell? ⟨X + 1 + 1 + 1, 4, none⟩ = some (.int .i64 (1)) ∧ TkAt Z 0 ⟨0, xc, xt, xt, 1⟩ W ∧ Four w X x y m ⟨1, yc, xt, xt, 1⟩ W := by
  obtain ⟨a0, a1, a2, a3, a4⟩ := cells_of hz
  obtain ⟨b0, b1, b2, b3, b4⟩ := cells_of h.s
  exact ⟨a0, a1, a2, a3, a4, b0, b1, b2, b3, b4, hz, h⟩
set_option maxRecDepth 100000 in
set_option maxHeartbeats 8000000 in
theorem walk (a b : Tri) (w : World) (ha : a.Ok) (hb : b.Ok) :
    Calls Try.prog 8 #[.agg #[.int .i64 a.a, .int .i64 a.b, .int .i64 a.c], .agg #[.int .i64 b.a, .int .i64 b.b, .int .i64 b.c]] w fun e w' => e = .returned (.bool true) ∧ Below w.heap.size w w' := by
  have AW := Lib.hid awake_any
  have MA : Hid (∀ w, Calls Try.prog 12 #[.slice (some ⟨w.heap.size, 0, none⟩) 2 2] (w.alloc (.cells #[.int .i64 a.a, .int .i64 a.b, .int .i64 a.c, .int .i64 b.a, .int .i64 b.b, .int .i64 b.c] 38)) fun e w' => ∃ xc xd xt yc yd yt g cap, (1 ≤ xc ∧ xc ≤ xd ∧ xd ≤ xt ∧ xt ≤ 24) ∧ (1 ≤ yc ∧ yc ≤ yd ∧ yd ≤ yt ∧ yt ≤ 24) ∧ e = .returned (.slice (some ⟨g, 0, none⟩) 2 cap) ∧ g < w'.heap.size ∧ TkAt g 0 ⟨0, xc, xd, xt, 1⟩ w' ∧ TkAt g 5 ⟨1, yc, yd, yt, 1⟩ w' ∧ Below w.heap.size w w') := Lib.hid (fun w => by
    refine (made_any [a, b] _ 2 _ (tris_two w a b _) (by simp) (by simp [ha, hb])).mono fun e w' ⟨v, he, tr, bb⟩ => ?_
    rw [made_two] at tr
    have m0 := mkT_in 0 a
    have m1 := mkT_in 1 b
    have bel : Below w.heap.size w w' := ((Below.refl _ _).alloc (Nat.le_refl _) _).trans (bb.mono (by simp))
    rcases tr.2 with ⟨-, h0⟩ | ⟨g, cap, cur, rfl, hB, hg, -⟩
    · simp at h0
    · obtain ⟨ao, cap', hv, -, hts⟩ := tr.form
      cases hv
      obtain ⟨g', off, hgo, hgl, hat⟩ := hts (by simp)
      cases hgo
      exact ⟨_, _, _, _, _, _, g, cap, ⟨m0.2.2.2.2.1, m0.2.2.2.2.2, m0.2.2.2.1, m0.2.1⟩, ⟨m1.2.2.2.2.1, m1.2.2.2.2.2, m1.2.2.2.1, m1.2.1⟩, he, hgl, hat 0 _ rfl, hat 1 _ rfl, bel⟩)
  clear ha hb
  obtain ⟨aa, ab, ac⟩ := a
  obtain ⟨ba, bb, bc⟩ := b
  simp only at MA ⊢
  go_enter Try.func8, Try.ntmps8
  have KA := Lib.hid (fun (o o' : Obj) => ((Below.refl w.heap.size w).alloc (Nat.le_refl _) o).alloc (by simp) o')
  go_wp2_with fail
  (with_reducible refine (AW.out _).mono ?_)
  rintro e w1 ⟨rfl, b1⟩
  have K1 := Lib.hid ((KA.out _ _).trans (b1.mono (by simp; omega)))
  have Z0 : Hid (w.heap.size + 1 < w1.heap.size) := Lib.hid (by have := b1.size; simp at this; omega)
  have a0 := carry b1 (p := ⟨w.heap.size, 0, none⟩) (v := .int .i64 aa) (by simp [go_sem])
  have a1 := carry b1 (p := ⟨w.heap.size, 1, none⟩) (v := .int .i64 ab) (by simp [go_sem])
  have a2 := carry b1 (p := ⟨w.heap.size, 2, none⟩) (v := .int .i64 ac) (by simp [go_sem])
  have a3 := carry b1 (p := ⟨w.heap.size + 1, 0, none⟩) (v := .int .i64 ba) (by simp [go_sem])
  have a4 := carry b1 (p := ⟨w.heap.size + 1, 1, none⟩) (v := .int .i64 bb) (by simp [go_sem])
  have a5 := carry b1 (p := ⟨w.heap.size + 1, 2, none⟩) (v := .int .i64 bc) (by simp [go_sem])
  clear b1 KA AW
  go_wp2_with fail
  (with_reducible refine (MA.out _).mono ?_)
  rintro e w2 ⟨xc, xd, xt, yc, yd, yt, g, cap, hx, hy, rfl, hg, tx, ty, b2⟩
  have K2 := Lib.hid (K1.out.trans (b2.mono K1.out.size))
  clear a0 a1 a2 a3 a4 a5 MA K1 b2 Z0
  have x0 := tx.c0
  have x1 := tx.c1
  have x2 := tx.c2
  have x3 := tx.c3
  have x4 := tx.c4
  have y0 := ty.c0
  have y1 := ty.c1
  have y2 := ty.c2
  have y3 := ty.c3
  have y4 := ty.c4
  simp only [Nat.zero_add, Nat.reduceAdd] at x0 x1 x2 x3 x4 y0 y1 y2 y3 y4
  clear tx ty
  go_upto_region 12 with (fail)
  refine name_world (fun W => TkAt w2.heap.size 0 ⟨0, xc, xd, xt, 1⟩ W ∧ TkAt (w2.heap.size + 1) 0 ⟨1, yc, yd, yt, 1⟩ W ∧ TkAt (w2.heap.size + 1 + 1) 0 ⟨0, xc + 1, xd + 1, xt + 1, 1⟩ W ∧ TkAt (w2.heap.size + 1 + 1 + 1) 0 ⟨1, yc, xt, xt, 1⟩ W ∧ Below w.heap.size w W) ?_ ?_
  · refine ⟨⟨?_, ?_, ?_, ?_, ?_⟩, ⟨?_, ?_, ?_, ?_, ?_⟩, ⟨?_, ?_, ?_, ?_, ?_⟩, ⟨?_, ?_, ?_, ?_, ?_⟩, ?_⟩
    all_goals first | (simp [go_sem]; done) | skip
    all_goals
      have hz := K2.out.size
      repeat (first | exact K2.out | refine Below.setCell ?_ (by first | omega | (simp; done) | (simp; omega)) _ | refine Below.alloc ?_ (by first | omega | (simp; done) | (simp; omega)) _)
  clear x0 x1 x2 x3 x4 y0 y1 y2 y3 y4 hg K2
  generalize w2.heap.size = X at *
  rintro W ⟨tx, ty, tm, ts, bW⟩
  have F0 : Hid (Four w X ⟨0, xc, xd, xt, 1⟩ ⟨1, yc, yd, yt, 1⟩ ⟨0, xc + 1, xd + 1, xt + 1, 1⟩ ⟨1, yc, xt, xt, 1⟩ W) := Lib.hid ⟨tx, ty, tm, ts, bW⟩
  have F1 := Lib.hid (F0.out.call ((Below.refl _ _).drew))
  have KS := Lib.hid (six F0.out)
  have KD := Lib.hid (six F1.out)
  clear tx ty tm ts bW
  have H1 : Hid (∀ w, Calls Try.prog 18 #[.agg #[.int .i64 (0), .int .i64 (xc), .int .i64 (xd), .int .i64 (xt), .int .i64 (1)], .agg #[.int .i64 (1), .int .i64 (yc), .int .i64 (yd), .int .i64 (yt), .int .i64 (1)]] w fun e w' => e = .returned (.bool (heavy ⟨0, xc, xd, xt, 1⟩ ⟨1, yc, yd, yt, 1⟩)) ∧ Below w.heap.size w w') := Lib.hid (fun w => heavier_any ⟨0, xc, xd, xt, 1⟩ ⟨1, yc, yd, yt, 1⟩ w)
  have H2 : Hid (∀ w, Calls Try.prog 18 #[.agg #[.int .i64 (1), .int .i64 (yc), .int .i64 (yd), .int .i64 (yt), .int .i64 (1)], .agg #[.int .i64 (0), .int .i64 (xc), .int .i64 (xd), .int .i64 (xt), .int .i64 (1)]] w fun e w' => e = .returned (.bool (!heavy ⟨0, xc, xd, xt, 1⟩ ⟨1, yc, yd, yt, 1⟩)) ∧ Below w.heap.size w w') := Lib.hid (fun w => by
    have := heavier_any ⟨1, yc, yd, yt, 1⟩ ⟨0, xc, xd, xt, 1⟩ w
    rw [heavy_two hx hy] at this
    exact this)
  generalize heavy ⟨0, xc, xd, xt, 1⟩ ⟨1, yc, yd, yt, 1⟩ = hv at *
  have hn : (hv != !hv) = true := by cases hv <;> rfl
  go_region_held3 (fun w' => w'.cell? ⟨X, 0, none⟩ = some (.int .i64 (0)) ∧ w'.cell? ⟨X, 1, none⟩ = some (.int .i64 (xc)) ∧ w'.cell? ⟨X, 2, none⟩ = some (.int .i64 (xd)) ∧ w'.cell? ⟨X, 3, none⟩ = some (.int .i64 (xt)) ∧ w'.cell? ⟨X, 4, none⟩ = some (.int .i64 (1)) ∧ w'.cell? ⟨X + 1, 0, none⟩ = some (.int .i64 (1)) ∧ w'.cell? ⟨X + 1, 1, none⟩ = some (.int .i64 (yc)) ∧ w'.cell? ⟨X + 1, 2, none⟩ = some (.int .i64 (yd)) ∧ w'.cell? ⟨X + 1, 3, none⟩ = some (.int .i64 (yt)) ∧ w'.cell? ⟨X + 1, 4, none⟩ = some (.int .i64 (1)) ∧ Four w X ⟨0, xc, xd, xt, 1⟩ ⟨1, yc, yd, yt, 1⟩ ⟨0, xc + 1, xd + 1, xt + 1, 1⟩ ⟨1, yc, xt, xt, 1⟩ w') (first | exact KS.out | exact KD.out | assumption) (first
    | (go_at_call 18; (with_reducible refine (H1.out _).mono ?_); rintro e wn ⟨rfl, bn⟩; (have fn := (by first | exact F1.out.call bn | exact F0.out.call bn : Four w X ⟨0, xc, xd, xt, 1⟩ ⟨1, yc, yd, yt, 1⟩ ⟨0, xc + 1, xd + 1, xt + 1, 1⟩ ⟨1, yc, xt, xt, 1⟩ wn)); (have kn := six fn))
    | (go_at_call 18; (with_reducible refine (H2.out _).mono ?_); rintro e wm ⟨rfl, bm⟩; (have fm := fn.call bm); (have km := six fm))
    | fail)
  have FM := Lib.hid fm
  obtain ⟨x0, x1, x2, x3, x4, y0, y1, y2, y3, y4, -⟩ := km
  clear kn fm bm fn bn KS KD F0 F1 H1 H2
  go_upto_region 15 with (fail)
  refine name_world (fun W => TkAt wm.heap.size 0 ⟨0, xc, xt, xt, 1⟩ W ∧ Four w X ⟨0, xc, xd, xt, 1⟩ ⟨1, yc, yd, yt, 1⟩ ⟨0, xc + 1, xd + 1, xt + 1, 1⟩ ⟨1, yc, xt, xt, 1⟩ W) ?_ ?_
  · refine ⟨⟨?_, ?_, ?_, ?_, ?_⟩, ?_⟩
    all_goals first | (simp [go_sem]; done) | skip
    exact FM.out.call (by repeat (first | exact Below.refl _ _ | refine Below.setCell ?_ (by first | omega | (simp; done) | (simp; omega)) _ | refine Below.alloc ?_ (by first | omega | (simp; done) | (simp; omega)) _))
  clear x0 x1 x2 x3 x4 y0 y1 y2 y3 y4 FM
  generalize wm.heap.size = Z at *
  rintro W2 ⟨tz, f2⟩
  have F0 := Lib.hid (And.intro tz f2)
  have F1 := Lib.hid (And.intro (tz.call ((Below.refl _ _).drew)) (f2.call ((Below.refl _ _).drew)))
  have CX : Hid (∀ w, Calls Try.prog 19 #[.agg #[.int .i64 (0), .int .i64 (xc), .int .i64 (xd), .int .i64 (xt), .int .i64 (1)]] w fun e w' => e = .returned (.bool true) ∧ Below w.heap.size w w') := Lib.hid (fun w => by
    have := chk_any ⟨0, xc, xd, xt, 1⟩ w
    rw [show chk ⟨0, xc, xd, xt, 1⟩ = true by rw [chk_iff]; simp only; omega] at this
    exact this)
  have CM : Hid (∀ w, Calls Try.prog 19 #[.agg #[.int .i64 (0), .int .i64 (xc + 1), .int .i64 (xd + 1), .int .i64 (xt + 1), .int .i64 (1)]] w fun e w' => e = .returned (.bool true) ∧ Below w.heap.size w w') := Lib.hid (fun w => by
    have := chk_any ⟨0, xc + 1, xd + 1, xt + 1, 1⟩ w
    rw [show chk ⟨0, xc + 1, xd + 1, xt + 1, 1⟩ = true by rw [chk_iff]; simp only; omega] at this
    exact this)
  have HX : Hid (∀ w, Calls Try.prog 18 #[.agg #[.int .i64 (0), .int .i64 (xc), .int .i64 (xd), .int .i64 (xt), .int .i64 (1)], .agg #[.int .i64 (0), .int .i64 (xc), .int .i64 (xd), .int .i64 (xt), .int .i64 (1)]] w fun e w' => e = .returned (.bool false) ∧ Below w.heap.size w w') := Lib.hid (fun w => by
    have := heavier_any ⟨0, xc, xd, xt, 1⟩ ⟨0, xc, xd, xt, 1⟩ w
    rw [heavy_self] at this
    exact this)
  have HS : Hid (yc ≤ xt → yc ≠ xc → ∀ w, Calls Try.prog 18 #[.agg #[.int .i64 (0), .int .i64 (xc), .int .i64 (xt), .int .i64 (xt), .int .i64 (1)], .agg #[.int .i64 (1), .int .i64 (yc), .int .i64 (xt), .int .i64 (xt), .int .i64 (1)]] w fun e w' => e = .returned (.bool (decide (yc < xc))) ∧ Below w.heap.size w w') := Lib.hid (fun h1 h2 w => by
    have := heavier_any ⟨0, xc, xt, xt, 1⟩ ⟨1, yc, xt, xt, 1⟩ w
    rw [heavy_same (by omega) (by omega) h2] at this
    exact this)
  obtain ⟨z0, z1, z2, z3, z4⟩ := cells_of tz
  obtain ⟨s0, s1, s2, s3, s4⟩ := cells_of f2.s
  clear hx hy tz f2
  rcases (show (xt < yc) ∨ (yc ≤ xt ∧ yc = xc) ∨ (yc ≤ xt ∧ ¬ yc = xc) by omega) with h1 | ⟨h1, rfl⟩ | ⟨h1, h2⟩
  · have hd : decide (yc ≤ xt) = false := decide_eq_false (by omega)
    have hd2 : ¬ yc ≤ xt := by omega
    go_quiet (fail)
    have FQ := Lib.hid (F0.out.2.call (below_drewN _ nq))
    clear F0 F1 z0 z1 z2 z3 z4 s0 s1 s2 s3 s4 HS
    obtain ⟨x0, x1, x2, x3, x4⟩ := cells_of FQ.out.x
    obtain ⟨m0, m1, m2, m3, m4⟩ := cells_of FQ.out.m
    go_wp2_with fail
    (with_reducible refine (CX.out _).mono ?_)
    rintro e w4 ⟨rfl, b4⟩
    have F4 := Lib.hid (FQ.out.call b4)
    clear b4 FQ CX x0 x1 x2 x3 x4 m0 m1 m2 m3 m4
    obtain ⟨m0, m1, m2, m3, m4⟩ := cells_of F4.out.m
    go_wp2_with fail
    (with_reducible refine (CM.out _).mono ?_)
    rintro e w5 ⟨rfl, b5⟩
    have F5 := Lib.hid (F4.out.call b5)
    clear b5 F4 CM m0 m1 m2 m3 m4
    obtain ⟨x0, x1, x2, x3, x4⟩ := cells_of F5.out.x
    go_wp2_with fail
    (with_reducible refine (HX.out _).mono ?_)
    rintro e w6 ⟨rfl, b6⟩
    have F6 := Lib.hid (F5.out.call b6)
    clear b6 F5 HX x0 x1 x2 x3 x4
    go_wp2
    go_ret
    exact ⟨rfl, F6.out.bel⟩
  · have hne : (yc != yc) = false := by simp
    go_quiet (fail)
    have FQ := Lib.hid (F0.out.2.call (below_drewN _ nq))
    clear F0 F1 z0 z1 z2 z3 z4 s0 s1 s2 s3 s4 HS
    obtain ⟨x0, x1, x2, x3, x4⟩ := cells_of FQ.out.x
    obtain ⟨m0, m1, m2, m3, m4⟩ := cells_of FQ.out.m
    go_wp2_with fail
    (with_reducible refine (CX.out _).mono ?_)
    rintro e w4 ⟨rfl, b4⟩
    have F4 := Lib.hid (FQ.out.call b4)
    clear b4 FQ CX x0 x1 x2 x3 x4 m0 m1 m2 m3 m4
    obtain ⟨m0, m1, m2, m3, m4⟩ := cells_of F4.out.m
    go_wp2_with fail
    (with_reducible refine (CM.out _).mono ?_)
    rintro e w5 ⟨rfl, b5⟩
    have F5 := Lib.hid (F4.out.call b5)
    clear b5 F4 CM m0 m1 m2 m3 m4
    obtain ⟨x0, x1, x2, x3, x4⟩ := cells_of F5.out.x
    go_wp2_with fail
    (with_reducible refine (HX.out _).mono ?_)
    rintro e w6 ⟨rfl, b6⟩
    have F6 := Lib.hid (F5.out.call b6)
    clear b6 F5 HX x0 x1 x2 x3 x4
    go_wp2
    go_ret
    exact ⟨rfl, F6.out.bel⟩
  · have hne : (yc != xc) = true := by simpa using h2
    have hne2 : (yc == xc) = false := by simpa using h2
    have H4 := Lib.hid (HS.out h1 h2)
    have KS := Lib.hid (seven F0.out.1 F0.out.2)
    have KD := Lib.hid (seven F1.out.1 F1.out.2)
    clear z0 z1 z2 z3 z4 s0 s1 s2 s3 s4 HS h2
    go_region_held3 (fun w' => w'.cell? ⟨Z, 0, none⟩ = some (.int .i64 (0)) ∧ w'.cell? ⟨Z, 1, none⟩ = some (.int .i64 (xc)) ∧ w'.cell? ⟨Z, 2, none⟩ = some (.int .i64 (xt)) ∧ w'.cell? ⟨Z, 3, none⟩ = some (.int .i64 (xt)) ∧ w'.cell? ⟨Z, 4, none⟩ = some (.int .i64 (1)) ∧ w'.cell? ⟨X + 1 + 1 + 1, 0, none⟩ = some (.int .i64 (1)) ∧ w'.cell? ⟨X + 1 + 1 + 1, 1, none⟩ = some (.int .i64 (yc)) ∧ w'.cell? ⟨X + 1 + 1 + 1, 2, none⟩ = some (.int .i64 (xt)) ∧ w'.cell? ⟨X + 1 + 1 + 1, 3, none⟩ = some (.int .i64 (xt)) ∧ w'.cell? ⟨X + 1 + 1 + 1, 4, none⟩ = some (.int .i64 (1)) ∧ TkAt Z 0 ⟨0, xc, xt, xt, 1⟩ w' ∧ Four w X ⟨0, xc, xd, xt, 1⟩ ⟨1, yc, yd, yt, 1⟩ ⟨0, xc + 1, xd + 1, xt + 1, 1⟩ ⟨1, yc, xt, xt, 1⟩ w') (first | exact KS.out | exact KD.out | assumption) (first
      | (go_at_call 18; (with_reducible refine (H4.out _).mono ?_); rintro e wn ⟨rfl, bn⟩; (have fn := (by first | exact ⟨F1.out.1.call bn, F1.out.2.call bn⟩ | exact ⟨F0.out.1.call bn, F0.out.2.call bn⟩ : TkAt Z 0 ⟨0, xc, xt, xt, 1⟩ wn ∧ Four w X ⟨0, xc, xd, xt, 1⟩ ⟨1, yc, yd, yt, 1⟩ ⟨0, xc + 1, xd + 1, xt + 1, 1⟩ ⟨1, yc, xt, xt, 1⟩ wn)); (have kn := seven fn.1 fn.2))
      | fail)
    have FQ := Lib.hid fn.2
    clear F0 F1 KS KD H4 kn bn fn
    obtain ⟨x0, x1, x2, x3, x4⟩ := cells_of FQ.out.x
    obtain ⟨m0, m1, m2, m3, m4⟩ := cells_of FQ.out.m
    go_wp2_with fail
    (with_reducible refine (CX.out _).mono ?_)
    rintro e w4 ⟨rfl, b4⟩
    have F4 := Lib.hid (FQ.out.call b4)
    clear b4 FQ CX x0 x1 x2 x3 x4 m0 m1 m2 m3 m4
    obtain ⟨m0, m1, m2, m3, m4⟩ := cells_of F4.out.m
    go_wp2_with fail
    (with_reducible refine (CM.out _).mono ?_)
    rintro e w5 ⟨rfl, b5⟩
    have F5 := Lib.hid (F4.out.call b5)
    clear b5 F4 CM m0 m1 m2 m3 m4
    obtain ⟨x0, x1, x2, x3, x4⟩ := cells_of F5.out.x
    go_wp2_with fail
    (with_reducible refine (HX.out _).mono ?_)
    rintro e w6 ⟨rfl, b6⟩
    have F6 := Lib.hid (F5.out.call b6)
    clear b6 F5 HX x0 x1 x2 x3 x4
    go_wp2
    go_ret
    exact ⟨rfl, F6.out.bel⟩

set_option maxRecDepth 100000 in
set_option maxHeartbeats 1600000 in
theorem lifted (os : Os) (started : os.Started) (H : Type) (enc : TypeId × Value → H) :
    ReturnsInHanded {} Try.checked os 8 .any (Rows.paramHeavierSpec.pre6 enc Try.prog Try.f8 Rows.paramHeavierRow.domain false) (Rows.paramHeavierSpec.post enc Try.prog Try.f8 false true false false) := by
  refine returnsInHanded_of_change (C := Try.checked) own started (by kernel_rfl) Try.func8
    (ChangeSpec.witness6 (enc := enc) (C := Try.checked) false ⟨#[], #[.agg #[.int .i64 0, .int .i64 0, .int .i64 0], .agg #[.int .i64 0, .int .i64 0, .int .i64 0]], []⟩ 8 (by kernel_rfl) (by kernel_rfl) (by kernel_rfl) (by kernel_rfl)) ?_
  intro W base args ds gs before hval0 hW hcnd _
  have hval : ∀ (j : Nat) t v, Try.f8.params[j]? = some t → args[j]? = some v → Value.okWide Try.prog W .any base t v := hval0
  have hW' := hW
  obtain ⟨p, q, hA0, hV, rfl, hfz, hnd⟩ := hW
  have hA : DataW.TrodAll enc Try.prog W 0 (fun _ => true) true Try.f8.params.toList args.toList ds p := hA0
  rw [Try.params8] at hA hval
  obtain ⟨v0, vs0, d0, ds0, p0, q0, hargs, rfl, rfl, h0, r0⟩ := trodAll_cons hA
  obtain ⟨v1, vs1, d1, ds1, p1, q1, rfl, rfl, rfl, h1, r1⟩ := trodAll_cons r0
  obtain ⟨rfl, rfl, rfl⟩ := trodAll_nil r1
  obtain rfl : args = #[v0, v1] := by cases args; simp_all
  obtain ⟨rfl, rfl⟩ := trodVars_none hV
  have lt0 : ∀ x ∈ p0, x.block < W.heap.size := by obtain ⟨m, hm⟩ := h0; exact DataW.trod_lt m _ _ _ hm
  obtain ⟨xa, rfl, oka⟩ := open_tri_v (hval 0 38 v0 rfl rfl) h0
  have lt1 : ∀ x ∈ p1, x.block < W.heap.size := by obtain ⟨m, hm⟩ := h1; exact DataW.trod_lt m _ _ _ hm
  obtain ⟨xb, rfl, okb⟩ := open_tri_v (hval 1 38 v1 rfl rfl) h1
  clear hA0 hval0
  refine (walk xa xb W oka okb).mono fun e W' ⟨he, bel⟩ => ?_
  subst he
  exact ⟨_, rfl, _, _, _, [], _, [], hW', trodAll_mk1 (shut_bool Try.underlying4 _), (trodAll_cons_mk (Below.trod laidOut (by kernel_rfl) (of_decide_eq_true (by kernel_rfl)) h0 bel lt0) (trodAll_cons_mk (Below.trod laidOut (by kernel_rfl) (of_decide_eq_true (by kernel_rfl)) h1 bel lt1) trodAll_mk0)), rfl, bel.frame _, fun h => by cases h⟩

theorem proved : Rows.ParamHeavierSaid :=
  OpenClaim.holds_of_wide 8 Try.f8 rfl rfl rfl rfl rfl rfl rfl ⟨rfl, rfl, rfl, rfl, rfl⟩ rfl rfl rfl rfl rfl (by kernel_rfl) Try.func8 (by kernel_rfl)
    (of_decide_eq_true (by kernel_rfl)) (by unfold Func.isWrapper; first | (rw [if_pos (by decide +kernel)]; kernel_rfl) | (rw [if_neg (by decide +kernel)]; exact ⟨rfl, rfl⟩))
    (fun os started H enc _ => lifted os started H enc)
#print axioms proved
end Go.Proofs.Ytcnfojbncmkdeaa.paramHeavier
