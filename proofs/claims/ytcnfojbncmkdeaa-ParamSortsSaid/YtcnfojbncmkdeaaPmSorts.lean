/- horariumlaw09.ParamSorts answers true at every row of three numbers: what is sorted has the same tasks, none behind one that is lighter. No condition. -/
import Derived.Test.YtcnfojbncmkdeaaPmN
import Derived.Test.YtcnfojbncmkdeaaPmU
import Derived.Deep.DeepCutAuto
import Derived.Deep.RegionHeld3
import Derived.BigQuiet
import Derived.Laws.StructEq
namespace Go.Proofs.Ytcnfojbncmkdeaa.paramSorts
open Go.ChangeShapes Go.WideShapes Go.ChangeAt Go.RowKit Go.Joins
set_option maxRecDepth 100000
set_option linter.unusedVariables false
set_option linter.unusedSimpArgs false
open Pm
set_option maxRecDepth 100000

/-- what is true of a row put in order -/
structure InOrder (T H : List Tk) : Prop where
  len : H.length = T.length
  of : ∀ (i : Nat) (x : Tk), H[i]? = some x → ∃ j : Nat, j < T.length ∧ x.id = (j : Int) ∧ T[j]? = some x
  inj : ∀ (i k : Nat) (x y : Tk), H[i]? = some x → H[k]? = some y → x.id = y.id → i = k
  next : ∀ (i : Nat) (x y : Tk), H[i]? = some x → H[i + 1]? = some y → heavy x y = true
  small : ∀ x ∈ H, 1 ≤ x.c ∧ x.c ≤ 24 ∧ 1 ≤ x.t ∧ x.t ≤ 24
theorem light_of {x y : Tk} (h : heavy x y = true) : x.c * y.t < y.c * x.t → False := by
  intro h1
  unfold heavy at h
  simp only [Bool.and_eq_true] at h
  obtain ⟨⟨⟨-, -⟩, h3⟩, -⟩ := h
  unfold light at h3
  simp at h3
  omega
theorem heavy_total {x y : Tk} (hx : chk x = true) (hy : chk y = true) (hn : x.id ≠ y.id) (h : heavy y x = false) : heavy x y = true := by
  unfold heavy at *
  rw [hx, hy] at *
  unfold light at *
  simp only [Bool.true_and] at *
  by_cases h1 : x.c * y.t < y.c * x.t
  · have h2 : ¬ y.c * x.t < x.c * y.t := by omega
    simp [h1, h2] at h
  · by_cases h2 : y.c * x.t < x.c * y.t
    · simp [h1, h2]
    · simp [h1, h2] at h ⊢
      omega
theorem inOrder {l : List Tri} {H : List Tk} (hp : H.Perm (madeL l)) (hs : SortedTo H (madeL l).length) : InOrder (madeL l) H := by
  have hlen := hp.length_eq
  have hT : ∀ (j : Nat) (x : Tk), (madeL l)[j]? = some x → x.id = (j : Int) ∧ chk x = true ∧ 1 ≤ x.c ∧ x.c ≤ 24 ∧ 1 ≤ x.t ∧ x.t ≤ 24 := by
    intro j x hj
    have hl := (List.getElem?_eq_some_iff.1 hj).1
    rw [madeL_len] at hl
    unfold madeL madeN at hj
    rw [List.getElem?_map, List.getElem?_range hl] at hj
    simp only [Option.map_some, Option.some.injEq] at hj
    subst hj
    have := mkT_in j (l.getD j default)
    exact ⟨rfl, mkT_chk (by omega) _, by omega, by omega, by omega, by omega⟩
  have hof : ∀ (i : Nat) (x : Tk), H[i]? = some x → ∃ j : Nat, j < (madeL l).length ∧ x.id = (j : Int) ∧ (madeL l)[j]? = some x := by
    intro i x hi
    have hm : x ∈ madeL l := hp.mem_iff.1 (List.mem_of_getElem? hi)
    obtain ⟨j, hj⟩ := List.mem_iff_getElem?.1 hm
    exact ⟨j, (List.getElem?_eq_some_iff.1 hj).1, (hT j x hj).1, hj⟩
  have hnd : (madeL l).Nodup := by
    rw [List.nodup_iff_pairwise_ne, List.pairwise_iff_getElem]
    intro i j hi hj hij e
    have h1 := (hT i _ (List.getElem?_eq_getElem hi)).1
    have h2 := (hT j _ (List.getElem?_eq_getElem hj)).1
    rw [e, h2] at h1
    omega
  have hnd2 : H.Nodup := hp.nodup_iff.2 hnd
  have hinj : ∀ (i k : Nat) (x y : Tk), H[i]? = some x → H[k]? = some y → x.id = y.id → i = k := by
    intro i k x y hi hk he
    obtain ⟨j, hj1, hj2, hj3⟩ := hof i x hi
    obtain ⟨m, hm1, hm2, hm3⟩ := hof k y hk
    have : j = m := by omega
    subst this
    rw [hj3] at hm3
    cases hm3
    obtain ⟨hi1, hi2⟩ := List.getElem?_eq_some_iff.1 hi
    obtain ⟨hk1, hk2⟩ := List.getElem?_eq_some_iff.1 hk
    exact (List.getElem_inj hnd2).1 (hi2.trans hk2.symm)
  have hck : ∀ (i : Nat) (x : Tk), H[i]? = some x → chk x = true := fun i x hi => by
    obtain ⟨j, -, -, hj⟩ := hof i x hi
    exact (hT j x hj).2.1
  refine ⟨hlen, hof, hinj, fun i x y hi hk => ?_, fun x hx => ?_⟩
  · refine heavy_total (hck i x hi) (hck _ y hk) (fun e => ?_) (hs i x y ?_ hi hk)
    · have := hinj _ _ _ _ hi hk e; omega
    · have := (List.getElem?_eq_some_iff.1 hk).1; omega
  · obtain ⟨j, hj⟩ := List.mem_iff_getElem?.1 (hp.mem_iff.1 hx)
    exact (hT j x hj).2.2
/-- which numbers were seen -/
def Seen (q : Nat) (f : Nat → Bool) (w : World) : Prop := ∀ j, j < 16 → w.cell? ⟨q, j, none⟩ = some (.bool (f j)) ∧ w.frozen? ⟨q, j, none⟩ = false
theorem Seen.call {q : Nat} {f : Nat → Bool} {w w' : World} (h : Seen q f w) (hb : Below w.heap.size w w') : Seen q f w' := fun j hj => ⟨carry hb (h j hj).1, carryf hb (h j hj).1 (h j hj).2⟩
theorem Seen.set {q : Nat} {f : Nat → Bool} {w : World} (h : Seen q f w) {j : Nat} (hj : j < 16) : Seen q (fun k => if k = j then true else f k) (w.setCell ⟨q, j, none⟩ (.bool true)) := fun k hk => by
  refine ⟨?_, by simp [go_sem, (h k hk).2]⟩
  by_cases e : k = j
  · subst e
    rw [World.cell?_setCell_same _ _ _ (h k hk).1]; simp
  · rw [World.cell?_setCell_other _ _ _ _ (by first | (simp; done) | (simp; omega)), (h k hk).1]; simp [e]
structure Sh (sa ta : Option Addr) (H T : List Tk) (q : Nat) (f : Nat → Bool) (w W : World) : Prop where
  s : Ts sa H W
  t : Ts ta T W
  seen : Seen q f W
  bel : Below w.heap.size w W
theorem Sh.call {sa ta : Option Addr} {H T : List Tk} {q : Nat} {f : Nat → Bool} {w W W' : World} (h : Sh sa ta H T q f w W) (hb : Below W.heap.size W W') : Sh sa ta H T q f w W' :=
  ⟨h.s.call hb, h.t.call hb, h.seen.call hb, h.bel.trans (hb.mono h.bel.size)⟩
/-- none of its blocks is q -/
def Off (ao : Option Addr) (q : Nat) : Prop := ∀ b off, ao = some ⟨b, off, none⟩ → b ≠ q
theorem Sh.set {sa ta : Option Addr} {H T : List Tk} {q : Nat} {f : Nat → Bool} {w W : World} (h : Sh sa ta H T q f w W) (hs : Off sa q) (ht : Off ta q) (hq : w.heap.size ≤ q) {j : Nat} (hj : j < 16) : Sh sa ta H T q (fun k => if k = j then true else f k) w (W.setCell ⟨q, j, none⟩ (.bool true)) :=
  ⟨h.s.of_blocks (by simp) (fun k off e _ => Below.heap_setCell _ _ _ _ (hs k off e)), h.t.of_blocks (by simp) (fun k off e _ => Below.heap_setCell _ _ _ _ (ht k off e)), h.seen.set hj, h.bel.setCell hq _⟩
theorem seen_new (w : World) (T : TypeId) (C : Array Value) (hC : C = Array.replicate 16 (.bool false)) : Seen w.heap.size (fun _ => false) (w.alloc (.cells C T)) := fun j hj => by
  subst hC
  constructor
  · simp [go_sem, hj]
  · simp [go_sem]
def PsRel (sa ta : Option Addr) (H T : List Tk) (q : Nat) (w : World) (m : Nat) (s : Value) (wx : World) : Prop :=
  ∃ (i : Nat) (f : Nat → Bool), i + m = H.length ∧ s = .int .i64 (i : Int) ∧ (∀ j, f j = true → ∃ k x, k < i ∧ H[k]? = some x ∧ x.id = (j : Int)) ∧ Sh sa ta H T q f w wx
theorem both_cells {b off J q : Nat} {ta : Option Addr} {H T : List Tk} {f : Nat → Bool} {w W : World} {xi xc xd xt xm yi yc yd yt ym : Int} (h : Sh (some ⟨b, off, none⟩) ta H T q f w W) (hx : H[J + 1]? = some ⟨xi, xc, xd, xt, xm⟩) (hy : H[J]? = some ⟨yi, yc, yd, yt, ym⟩) : W.cell? ⟨b, off + (J + 1) * 5, none⟩ = some (.int .i64 xi) ∧ W.cell? ⟨b, off + (J + 1) * 5 + 1, none⟩ = some (.int .i64 xc) ∧ W.cell? ⟨b, off + (J + 1) * 5 + 2, none⟩ = some (.int .i64 xd) ∧ W.cell? ⟨b, off + (J + 1) * 5 + 3, none⟩ = some (.int .i64 xt) ∧ W.cell? ⟨b, off + (J + 1) * 5 + 4, none⟩ = some (.int .i64 xm) ∧ W.cell? ⟨b, off + J * 5, none⟩ = some (.int .i64 yi) ∧ W.cell? ⟨b, off + J * 5 + 1, none⟩ = some (.int .i64 yc) ∧ W.cell? ⟨b, off + J * 5 + 2, none⟩ = some (.int .i64 yd) ∧ W.cell? ⟨b, off + J * 5 + 3, none⟩ = some (.int .i64 yt) ∧ W.cell? ⟨b, off + J * 5 + 4, none⟩ = some (.int .i64 ym) ∧ Sh (some ⟨b, off, none⟩) ta H T q f w W := by
  obtain ⟨b', o', e, -, hat⟩ := h.s (by have := (List.getElem?_eq_some_iff.1 hx).1; omega)
  cases e
  exact ⟨(hat _ _ hx).c0, (hat _ _ hx).c1, (hat _ _ hx).c2, (hat _ _ hx).c3, (hat _ _ hx).c4, (hat _ _ hy).c0, (hat _ _ hy).c1, (hat _ _ hy).c2, (hat _ _ hy).c3, (hat _ _ hy).c4, h⟩
set_option maxRecDepth 100000 in
set_option maxHeartbeats 8000000 in
theorem walk (l : List Tri) (ao : Option Addr) (cap : Nat) (w : World) (hT : Tris ao l w) (hl : l.length ≤ 9223372036854775807) (hok : ∀ x ∈ l, x.Ok) :
    Calls Try.prog 7 #[.slice ao l.length cap] w fun e w' => e = .returned (.bool true) ∧ Below w.heap.size w w' := by
  have AW := Lib.hid awake_any
  have MA := Lib.hid (fun w h => made_any l ao cap w h hl hok)
  have TI := Lib.hid hT
  have ml := madeL_len l
  have SR := Lib.hid (fun am cm w h => sort_any (madeL l) am cm w h (by omega) (fun x hx => by
    obtain ⟨i, hi⟩ := List.mem_iff_getElem?.1 hx
    have hi2 := (List.getElem?_eq_some_iff.1 hi).1
    obtain ⟨y, rfl⟩ := madeL_get hi
    exact mkT_chk (by omega) y))
  have IO := Lib.hid (fun (H : List Tk) hp hs => inOrder (l := l) (H := H) hp hs)
  have N16 : (madeL l).length ≤ 16 := by omega
  clear hT hok
  generalize madeL l = T at *
  go_enter Try.func7, Try.ntmps7
  go_wp2_with fail
  (with_reducible refine (AW.out _).mono ?_)
  rintro e w1 ⟨rfl, b1⟩
  have K1 := Lib.hid b1
  have M1 := Lib.hid (MA.out _ (TI.out.below b1 (Nat.le_refl _)))
  clear b1 AW MA TI ml
  go_wp2_with fail
  (with_reducible refine (M1.out).mono ?_)
  rintro e w2 ⟨v, rfl, tr, b2⟩
  obtain ⟨ta, cm, rfl, -, hts⟩ := tr.form
  have TS := Lib.hid hts
  have K2 := Lib.hid (K1.out.trans (b2.mono K1.out.size))
  have S2 := Lib.hid (SR.out ta cm _ hts)
  clear tr hts b2 K1 M1 SR
  go_wp2_with fail
  (with_reducible refine (S2.out).mono ?_)
  rintro e w3 ⟨vs, H, rfl, hperm, hsort, trs, b3⟩
  have IN := Lib.hid (IO.out H hperm hsort)
  have hlen := hperm.length_eq
  obtain ⟨sa, cs, rfl, -, hss⟩ := trs.form
  have hg : Hid (∀ b off, sa = some ⟨b, off, none⟩ → b ≠ w3.heap.size) := Lib.hid (fun b off e h => by
    have := (trs.lt b (by rw [e]; rfl)).2; omega)
  have K3 := Lib.hid (K2.out.trans (b3.mono K2.out.size))
  have T3 := Lib.hid (TS.out.call b3)
  have S3 := Lib.hid hss
  have OT : Hid (0 < T.length → Off ta w3.heap.size) := Lib.hid (fun h0 b off e h => by
    obtain ⟨b', o', e', hb', -⟩ := T3.out h0
    rw [e] at e'; cases e'; omega)
  rw [hlen]
  have hnn : ((T.length : Int) != (T.length : Int)) = false := by simp
  clear hperm hsort trs b3 hss TS K2 S2 IO
  go_upto_region 7 with (fail)
  refine name_world (fun W => Sh sa ta H T w3.heap.size (fun _ => false) w W) ?_ ?_
  · refine ⟨S3.out.call ((Below.refl _ _).alloc (Nat.le_refl _) _), T3.out.call ((Below.refl _ _).alloc (Nat.le_refl _) _), seen_new _ _ _ rfl, K3.out.alloc K3.out.size _⟩
  have QB : Hid (w.heap.size ≤ w3.heap.size) := Lib.hid K3.out.size
  clear S3 T3 K3
  generalize w3.heap.size = q at *
  intro W hsh
  have SH0 := Lib.hid hsh
  clear hsh
  go_wp2_with fail
  go_loopg [7] H.length (PsRel sa ta H T q w)
  case atStart => exact ⟨0, _, by omega, rfl, fun j h => by simp at h, SH0.out⟩
  case round =>
    obtain ⟨i, f, hi, rfl, hf, hsh⟩ := hrel
    have SHr := Lib.hid hsh
    clear SH0 hsh
    by_cases hlt : i < H.length
    · have hxs := List.getElem?_eq_getElem hlt
      obtain ⟨j, hj1, hj2, hj3⟩ := IN.out.of i _ hxs
      have hinj := IN.out.inj
      have hfj : f j = false := by
        cases e : f j
        · rfl
        · obtain ⟨k, y, h1, h2, h3⟩ := hf j e
          have := hinj k i y _ h2 hxs (by omega)
          omega
      have hoff := OT.out (by omega)
      obtain ⟨b, off, rfl, hb, hat⟩ := SHr.out.s (by omega)
      obtain ⟨bt, offt, rfl, hbt, hatt⟩ := SHr.out.t (by omega)
      have hgo : Off (some ⟨b, off, none⟩) q := hg.out
      have hx := hat i _ hxs
      have ht := hatt j _ hj3
      have hse := SHr.out.seen j (by omega)
      rw [hfj] at hse
      obtain ⟨se, sf⟩ := hse
      have NF : Hid (∀ j', (if j' = j then true else f j') = true → ∃ k x, k < i + 1 ∧ H[k]? = some x ∧ x.id = (j' : Int)) := Lib.hid (fun j' h => by
        by_cases e : j' = j
        · exact ⟨i, _, by omega, hxs, by rw [e]; exact hj2⟩
        · rw [if_neg e] at h
          obtain ⟨k, x, h1, h2, h3⟩ := hf j' h
          exact ⟨k, x, by omega, h2, h3⟩)
      have SHD := Lib.hid (fun n => SHr.out.call (below_drewN _ n))
      have SHN := Lib.hid (fun n => ((SHD.out n).set hgo hoff QB.out (j := j) (by omega)))
      have SHr := 0
      have HXS := Lib.hid hxs
      have NEXT := Lib.hid (fun (J : Nat) (hJ : i = J + 1) (y : Tk) (hy : H[J]? = some y) => IN.out.next J y H[i] hy (by rw [← hJ]; exact hxs))
      have SMALL := Lib.hid IN.out.small
      have SX := Lib.hid (SMALL.out _ (List.getElem_mem hlt))
      have hi1 : (i : Int) < (H.length : Int) := by omega
      have hi2 : (i : Int) < (T.length : Int) := by omega
      have hj4 : (j : Int) < (T.length : Int) := by omega
      have hj5 : (j : Int) < 16 := by omega
      have hj6 : j < 16 := by omega
      have hg0 : 0 < gk := by omega
      have HI := Lib.hid hi
      have HLT := Lib.hid hlt
      clear hat hatt hf hinj hj3 hfj SHr hgo hi hb hbt
      generalize H[i] = x at *
      obtain ⟨c0, c1, c2, c3, c4⟩ := hx
      obtain ⟨d0, d1, d2, d3, d4⟩ := ht
      obtain ⟨xi, xc, xd, xt, xm⟩ := x
      simp only at hj2 c0 c1 c2 c3 c4 d0 d1 d2 d3 d4
      subst hj2
      have hne : ¬ (j : Int) < 0 := by omega
      have hj0 : (0 : Int) ≤ (j : Int) := by omega
      go_wp2_with fail
      go_quiet (fail)
      have SN := Lib.hid (SHN.out nq)
      clear d0 d1 d2 d3 d4 SHD SHN
      go_upto_region 13 with (fail)
      refine name_world (fun W => Sh (some ⟨b, off, none⟩) (some ⟨bt, offt, none⟩) H T q (fun k => if k = j then true else f k) w W) SN.out ?_
      clear c0 c1 c2 c3 c4 se sf SN
      intro W5 hsh5
      have F0 := Lib.hid hsh5
      have F1 := Lib.hid (F0.out.call ((Below.refl _ _).drew))
      clear hsh5
      rcases Nat.eq_zero_or_pos i with h0 | h0
      · generalize hzz : (i : Int) = z
        have HZ := Lib.hid hzz
        have hz : z ≤ 0 := by omega
        have hz1 : decide (0 < z) = false := decide_eq_false (by omega)
        have hz2 : -1 < z := by omega
        clear hzz h0 hi1 hi2 hlt hxs
        go_region
        go_wp2
        go_roundg (gk - 1)
        case measure => omega
        case rel => exact ⟨i + 1, _, by have := HI.out; omega, by rw [← HZ.out]; go_num, NF.out, F1.out⟩
      · obtain ⟨J, rfl⟩ : ∃ J, i = J + 1 := ⟨i - 1, by omega⟩
        have hJH : J < H.length := by have := HLT.out; omega
        have hyy := List.getElem?_eq_getElem hJH
        have SY := Lib.hid (SMALL.out _ (List.getElem_mem hJH))
        have HVY := Lib.hid (NEXT.out J rfl _ hyy)
        have HE := Lib.hid (heavier_any H[J] ⟨(j : Int), xc, xd, xt, xm⟩)
        rw [HVY.out] at HE
        generalize H[J] = y at *
        have HC := fun W' => Lib.hid (fun h : Sh (some ⟨b, off, none⟩) (some ⟨bt, offt, none⟩) H T q (fun k => if k = j then true else f k) w W' => both_cells (J := J) (xi := (j : Int)) (xc := xc) (xd := xd) (xt := xt) (xm := xm) (yi := y.id) (yc := y.c) (yd := y.d) (yt := y.t) (ym := y.m) h HXS.out hyy)
        have LI := Lib.hid (light_of HVY.out)
        obtain ⟨yi, yc, yd, yt, ym⟩ := y
        unfold Tk.v at HE
        simp only at HE HC LI SY SX
        obtain ⟨sx1, sx2, sx3, sx4⟩ := SX.out
        obtain ⟨sy1, sy2, sy3, sy4⟩ := SY.out
        have a0 : 0 ≤ xc * yt := Int.mul_nonneg (by omega) (by omega)
        have a1 : xc * yt ≤ 24 * 24 := Int.mul_le_mul sx2 sy4 (by omega) (by omega)
        have g0 : 0 ≤ yc * xt := Int.mul_nonneg (by omega) (by omega)
        have g1 : yc * xt ≤ 24 * 24 := Int.mul_le_mul sy2 sx4 (by omega) (by omega)
        have ab : xc * yt ≤ yc * xt := by
          rcases Int.lt_or_le (yc * xt) (xc * yt) with h | h
          · exact absurd h LI.out
          · exact h
        generalize hA : xc * yt = A at *
        generalize hG : yc * xt = G at *
        have wA : IntKind.i64.wrap A = A := wrap_in (by omega) (by omega)
        have wG : IntKind.i64.wrap G = G := wrap_in (by omega) (by omega)
        have hcmp : decide (G < A) = false := decide_eq_false (by omega)
        have KS := Lib.hid ((HC _).out F0.out)
        have KD := Lib.hid ((HC _).out F1.out)
        have e1 : IntKind.i64.wrap (J : Int) = (J : Int) := by rw [IntKind.wrap_i64]; omega
        have e2 : IntKind.i64.wrap ((J : Int) + 1 - 1) = (J : Int) := by rw [IntKind.wrap_i64]; omega
        have hJi : (J : Int) + 1 < (T.length : Int) := by have := HLT.out; omega
        have hJi2 : (J : Int) < (T.length : Int) := by omega
        have hJl : J + 1 < T.length := by omega
        have hJl2 : J < T.length := by omega
        have hJ0 : (0 : Int) ≤ (J : Int) + 1 := by omega
        have hJ1 : (0 : Int) ≤ (J : Int) := by omega
        have hJ2 : decide ((0 : Int) < (J : Int) + 1) = true := decide_eq_true (by omega)
        clear LI SX SY SMALL NEXT HVY HXS hyy hxs h0 hlt hi1 hi2 a0 a1 g0 g1
        go_region_held3 (fun w' => w'.cell? ⟨b, off + (J + 1) * 5, none⟩ = some (.int .i64 (j : Int)) ∧ w'.cell? ⟨b, off + (J + 1) * 5 + 1, none⟩ = some (.int .i64 xc) ∧ w'.cell? ⟨b, off + (J + 1) * 5 + 2, none⟩ = some (.int .i64 xd) ∧ w'.cell? ⟨b, off + (J + 1) * 5 + 3, none⟩ = some (.int .i64 xt) ∧ w'.cell? ⟨b, off + (J + 1) * 5 + 4, none⟩ = some (.int .i64 xm) ∧ w'.cell? ⟨b, off + J * 5, none⟩ = some (.int .i64 yi) ∧ w'.cell? ⟨b, off + J * 5 + 1, none⟩ = some (.int .i64 yc) ∧ w'.cell? ⟨b, off + J * 5 + 2, none⟩ = some (.int .i64 yd) ∧ w'.cell? ⟨b, off + J * 5 + 3, none⟩ = some (.int .i64 yt) ∧ w'.cell? ⟨b, off + J * 5 + 4, none⟩ = some (.int .i64 ym) ∧ Sh (some ⟨b, off, none⟩) (some ⟨bt, offt, none⟩) H T q (fun k => if k = j then true else f k) w w') (first | exact KS.out | exact KD.out | assumption) (first
          | (go_at_call 18; (with_reducible refine (HE.out _).mono ?_); rintro e wn ⟨rfl, bn⟩; (have fn := (by first | exact F1.out.call bn | exact F0.out.call bn : Sh (some ⟨b, off, none⟩) (some ⟨bt, offt, none⟩) H T q (fun k => if k = j then true else f k) w wn)); (have kn := (HC _).out fn))
          | fail)
        all_goals
          have FN := Lib.hid fn
          clear kn KS KD F0 F1 HE HC fn
          go_wp2
          go_roundg (gk - 1)
          case measure => omega
          case rel => exact ⟨J + 1 + 1, _, by have := HI.out; omega, by go_num, NF.out, FN.out⟩
    · have hge : (T.length : Int) ≤ (i : Int) := by omega
      clear hlt hi hf
      go_wp2
      go_ret
      exact ⟨rfl, SHr.out.bel⟩

set_option maxRecDepth 100000 in
set_option maxHeartbeats 1600000 in
theorem lifted (os : Os) (started : os.Started) (H : Type) (enc : TypeId × Value → H) :
    ReturnsInHanded {} Try.checked os 7 .any (Rows.paramSortsSpec.pre6 enc Try.prog Try.f7 Rows.paramSortsRow.domain false) (Rows.paramSortsSpec.post enc Try.prog Try.f7 false true false false) := by
  refine returnsInHanded_of_change (C := Try.checked) own started (by kernel_rfl) Try.func7
    (ChangeSpec.witness6 (enc := enc) (C := Try.checked) false ⟨#[], #[.slice none 0 0], []⟩ 8 (by kernel_rfl) (by kernel_rfl) (by kernel_rfl) (by kernel_rfl)) ?_
  intro W base args ds gs before hval0 hW hcnd _
  have hval : ∀ (j : Nat) t v, Try.f7.params[j]? = some t → args[j]? = some v → Value.okWide Try.prog W .any base t v := hval0
  have hW' := hW
  obtain ⟨p, q, hA0, hV, rfl, hfz, hnd⟩ := hW
  have hA : DataW.TrodAll enc Try.prog W 0 (fun _ => true) true Try.f7.params.toList args.toList ds p := hA0
  rw [Try.params7] at hA hval
  obtain ⟨v0, vs0, d0, ds0, p0, q0, hargs, rfl, rfl, h0, r0⟩ := trodAll_cons hA
  obtain ⟨rfl, rfl, rfl⟩ := trodAll_nil r0
  obtain rfl : args = #[v0] := by cases args; simp_all
  obtain ⟨rfl, rfl⟩ := trodVars_none hV
  have lt0 : ∀ x ∈ p0, x.block < W.heap.size := by obtain ⟨m, hm⟩ := h0; exact DataW.trod_lt m _ _ _ hm
  obtain ⟨aol, ll, capl, rfl, lel, val, okl⟩ := open_tris (hval 0 23 v0 rfl rfl) h0
  clear hA0 hval0
  refine (walk ll aol capl W val lel okl).mono fun e W' ⟨he, bel⟩ => ?_
  subst he
  exact ⟨_, rfl, _, _, _, [], _, [], hW', trodAll_mk1 (shut_bool Try.underlying4 _), (trodAll_cons_mk (Below.trod laidOut (by kernel_rfl) (of_decide_eq_true (by kernel_rfl)) h0 bel lt0) trodAll_mk0), rfl, bel.frame _, fun h => by cases h⟩

theorem proved : Rows.ParamSortsSaid :=
  OpenClaim.holds_of_wide 7 Try.f7 rfl rfl rfl rfl rfl rfl rfl ⟨rfl, rfl, rfl, rfl, rfl⟩ rfl rfl rfl rfl rfl (by kernel_rfl) Try.func7 (by kernel_rfl)
    (of_decide_eq_true (by kernel_rfl)) (by unfold Func.isWrapper; first | (rw [if_pos (by decide +kernel)]; kernel_rfl) | (rw [if_neg (by decide +kernel)]; exact ⟨rfl, rfl⟩))
    (fun os started H enc _ => lifted os started H enc)
#print axioms proved
end Go.Proofs.Ytcnfojbncmkdeaa.paramSorts
