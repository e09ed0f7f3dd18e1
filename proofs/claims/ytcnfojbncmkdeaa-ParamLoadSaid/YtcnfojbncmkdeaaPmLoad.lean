/- horariumlaw09.ParamLoad answers true at every row of three numbers, and three numbers more: one task more loads just its own part more; what loads more than all there is is over. No condition. -/
import Derived.Test.YtcnfojbncmkdeaaPmN
import Derived.Deep.DeepCutAuto
import Derived.Deep.RegionHeld3
import Derived.BigQuiet
namespace Go.Proofs.Ytcnfojbncmkdeaa.paramLoad
open Go.ChangeShapes Go.WideShapes Go.ChangeAt Go.RowKit Go.Joins
set_option maxRecDepth 100000
set_option linter.unusedVariables false
set_option linter.unusedSimpArgs false
open Pm

theorem pers_append {l : List Tk} {x : Tk} : ∀ {p : Nat}, pers (l ++ [x]) p = (match pers l p with | some q => if 1048576 < Nat.lcm q x.t.toNat then none else some (Nat.lcm q x.t.toNat) | none => none) := by
  induction l with
  | nil => intro p; simp [pers]
  | cons y l ih =>
    intro p
    rw [List.cons_append, pers, pers]
    by_cases h : 1048576 < Nat.lcm p y.t.toNat
    · rw [if_pos h, if_pos h]
    · rw [if_neg h, if_neg h]; exact ih
theorem div_mul {q p t : Int} (ht : 0 < t) (h1 : p % t = 0) (h2 : q % p = 0) (hp : 0 < p) : q / t = (p / t) * (q / p) := by
  obtain ⟨j, rfl⟩ := Int.dvd_of_emod_eq_zero h1
  obtain ⟨k, rfl⟩ := Int.dvd_of_emod_eq_zero h2
  have ht0 : t ≠ 0 := by omega
  rw [Int.mul_ediv_cancel_left _ ht0, Int.mul_ediv_cancel_left _ (by omega), Int.mul_assoc, Int.mul_ediv_cancel_left _ ht0]
theorem work_more {l : List Tk} {p q : Int} (hp : 0 < p) (h : q % p = 0) (hl : ∀ x ∈ l, 0 < x.t ∧ p % x.t = 0) : work q l = work p l * (q / p) := by
  induction l with
  | nil => simp [work]
  | cons x l ih =>
    have hx := hl x (by simp)
    rw [work, work, ih (fun y hy => hl y (by simp [hy])), div_mul hx.1 hx.2 h hp, Int.add_mul, Int.mul_assoc]
theorem work_append {l : List Tk} {x : Tk} {q : Int} : work q (l ++ [x]) = work q l + x.c * (q / x.t) := by
  induction l with
  | nil => simp [work]
  | cons y l ih => rw [List.cons_append, work, work, ih]; omega
/-- what the law asks, where neither is too great -/
structure Ask (n p m q c t A D E G : Int) : Prop where
  p0 : 1 ≤ p
  p1 : p ≤ 1048576
  q0 : 1 ≤ q
  q1 : q ≤ 1048576
  t0 : 1 ≤ t
  r : q % p = 0
  d : q / p = D
  d1 : 0 ≤ D ∧ D ≤ 1048576
  a : n * D = A
  a1 : 0 ≤ A ∧ A ≤ 100000000
  e : q / t = E
  e1 : 0 ≤ E ∧ E ≤ 1048576
  g : c * E = G
  g1 : 0 ≤ G ∧ G ≤ 100000000
  m : m = A + G
theorem ask {T : List Tk} {X : Tk} (h5 : T.length ≤ 5) (hT : ∀ x ∈ T, chk x = true) (hX : chk X = true) (h1 : (loadR T).e = 0) (h2 : (loadR (T ++ [X])).e = 0) :
    ∃ A D E G, Ask (loadR T).n (loadR T).p (loadR (T ++ [X])).n (loadR (T ++ [X])).p X.c X.t A D E G := by
  have r1 : rowB T = true := rowB_yes (by omega) hT
  have hT2 : ∀ x ∈ T ++ [X], chk x = true := by
    intro x hx
    rcases List.mem_append.1 hx with h | h
    · exact hT x h
    · obtain rfl : x = X := by simpa using h
      exact hX
  have r2 : rowB (T ++ [X]) = true := rowB_yes (by simp; omega) hT2
  cases hp : pers T 1 with
  | none =>
    exfalso
    have : periodR T = (0, 16) := by unfold periodR; rw [if_pos r1, hp]
    unfold loadR at h1
    rw [this] at h1
    simp at h1
  | some p =>
    have e1 : periodR T = ((p : Int), 0) := by unfold periodR; rw [if_pos r1, hp]
    have l1 : loadR T = ⟨work p T, p, 0⟩ := by rw [load_yes (by rw [e1]), e1]
    have ha := pers_append (l := T) (x := X) (p := 1)
    rw [hp] at ha
    simp only at ha
    by_cases hov : 1048576 < Nat.lcm p X.t.toNat
    · exfalso
      rw [if_pos hov] at ha
      have : periodR (T ++ [X]) = (0, 16) := by unfold periodR; rw [if_pos r2, ha]
      unfold loadR at h2
      rw [this] at h2
      simp at h2
    · rw [if_neg hov] at ha
      obtain ⟨hp0, hp1, -, hpd⟩ := pers_pos (by omega) (by omega) hT hp
      have hq0 := pers_pos (by omega) (by omega) hT2 ha
      have hxx := chk_iff.1 hX
      have hdv : p ∣ Nat.lcm p X.t.toNat := Nat.dvd_lcm_left _ _
      generalize Nat.lcm p X.t.toNat = q at *
      have e2 : periodR (T ++ [X]) = ((q : Int), 0) := by unfold periodR; rw [if_pos r2, ha]
      have l2 : loadR (T ++ [X]) = ⟨work q (T ++ [X]), q, 0⟩ := by rw [load_yes (by rw [e2]), e2]
      rw [l1, l2]
      have hmod : (q : Int) % (p : Int) = 0 := by rw [← Int.natCast_emod, Nat.mod_eq_zero_of_dvd hdv]; rfl
      have hw := work_more (l := T) (p := (p : Int)) (q := (q : Int)) (by omega) hmod (fun x hx => by
        have h1 := chk_iff.1 (hT x hx)
        have h2 := hpd x hx
        have h3 : x.t = ((x.t.toNat : Nat) : Int) := by omega
        refine ⟨by omega, ?_⟩
        rw [h3, ← Int.natCast_emod, Nat.mod_eq_zero_of_dvd h2]; rfl)
      have hw2 := work_le (l := T) (p := (q : Int)) hT (by omega)
      have h3 : (T.length : Int) * (q : Int) ≤ 5 * 1048576 := Int.mul_le_mul (by omega) (by omega) (by omega) (by omega)
      have ht := term_le hX (p := (q : Int)) (by omega)
      refine ⟨work q T, (q : Int) / (p : Int), (q : Int) / X.t, X.c * ((q : Int) / X.t), ⟨by first | omega | (simp only; omega), by first | omega | (simp only; omega), by first | omega | (simp only; omega), by first | omega | (simp only; omega), by omega, hmod, rfl, ⟨Int.ediv_nonneg (by omega) (by omega), ?_⟩, hw.symm, ⟨hw2.1, by omega⟩, rfl, ⟨ht.2.2.1, by first | omega | (simp only; omega)⟩, rfl, ⟨ht.1, by omega⟩, work_append⟩⟩
      have := Int.ediv_le_self (a := (q : Int)) (p : Int) (by omega)
      first | omega | (simp only; omega)
theorem load_e {T : List Tk} (h16 : T.length ≤ 16) (hT : ∀ x ∈ T, chk x = true) : (loadR T).e = 0 ∨ (loadR T).e = 16 := by
  have r1 : rowB T = true := rowB_yes h16 hT
  unfold loadR
  split
  · left; rfl
  · right
    rename_i h
    unfold periodR at h ⊢
    rw [if_pos r1] at h ⊢
    cases hp : pers T 1 with
    | none => rfl
    | some p => rw [hp] at h; exact absurd rfl h
theorem tris_one (w : World) (a : Tri) (T : TypeId) : Tris (some ⟨w.heap.size, 0, none⟩) [a] (w.alloc (.cells #[.int .i64 a.a, .int .i64 a.b, .int .i64 a.c] T)) := fun _ => by
  refine ⟨_, _, rfl, by simp, fun i x hi => ?_⟩
  match i, hi with
  | 0, hi => obtain rfl : _ = x := by simpa using hi
             exact ⟨by simp [go_sem], by simp [go_sem], by simp [go_sem]⟩
  | i + 1, hi => simp at hi
theorem made_one (a : Tri) : madeL [a] = [mkT 0 a] := rfl
/-- what stands of the tasks behind the first cut -/
def CutRel (T : List Tk) (B : Nat) (w : World) (s : Value) (wx : World) : Prop := ∃ ao cap, s = .slice ao T.length cap ∧ Ts ao T wx ∧ Below B w wx
/-- what stands behind the second one -/
def Cut7 (M : Ld) (X : Tk) (xb : Nat) (am : Option Addr) (T : List Tk) (B : Nat) (w : World) (s11 s12 s13 : Value) (wx : World) : Prop :=
  s11 = .int .i64 M.n ∧ s12 = .int .i64 M.p ∧ s13 = .int .i64 M.e ∧ TkAt xb 0 X wx ∧ Ts am T wx ∧ Below B w wx
/-- what holds while the second row is made: S is what stood ahead of it -/
structure Hold (S : World) (X : Tk) (xb : Nat) (am : Option Addr) (T : List Tk) (W : World) : Prop where
  bel : Below S.heap.size S W
  x : TkAt xb 0 X S
  t : Ts am T S
theorem Hold.xx {S W : World} {X : Tk} {xb : Nat} {am : Option Addr} {T : List Tk} (h : Hold S X xb am T W) : TkAt xb 0 X W := h.x.call h.bel
theorem Hold.tt {S W : World} {X : Tk} {xb : Nat} {am : Option Addr} {T : List Tk} (h : Hold S X xb am T W) : Ts am T W := h.t.call h.bel
theorem Hold.go {S W W' : World} {X : Tk} {xb : Nat} {am : Option Addr} {T : List Tk} (h : Hold S X xb am T W) (b : Below S.heap.size W W') : Hold S X xb am T W' := ⟨h.bel.trans b, h.x, h.t⟩
theorem Hold.size {S W : World} {X : Tk} {xb : Nat} {am : Option Addr} {T : List Tk} (h : Hold S X xb am T W) : S.heap.size ≤ W.heap.size := h.bel.size
set_option maxRecDepth 100000 in
set_option maxHeartbeats 8000000 in
theorem walk (l : List Tri) (ao : Option Addr) (cap : Nat) (x : Tri) (w : World) (hT : Tris ao l w) (hl : l.length ≤ 9223372036854775807) (hok : ∀ x ∈ l, x.Ok) (hx : x.Ok) :
    Calls Try.prog 6 #[.slice ao l.length cap, .agg #[.int .i64 x.a, .int .i64 x.b, .int .i64 x.c]] w fun e w' => e = .returned (.bool true) ∧ Below w.heap.size w w' := by
  have AW := Lib.hid awake_any
  have MA := Lib.hid (fun w h => made_any l ao cap w h hl hok)
  have MX : Hid (∀ w, Calls Try.prog 12 #[.slice (some ⟨w.heap.size, 0, none⟩) 1 1] (w.alloc (.cells #[.int .i64 x.a, .int .i64 x.b, .int .i64 x.c] 38)) fun e w' => ∃ (xc xd xt : Int) (g cap : Nat), (1 ≤ xc ∧ xc ≤ xd ∧ xd ≤ xt ∧ xt ≤ 24) ∧ e = .returned (.slice (some ⟨g, 0, none⟩) 1 cap) ∧ g < w'.heap.size ∧ TkAt g 0 ⟨0, xc, xd, xt, 1⟩ w' ∧ Below w.heap.size w w') := Lib.hid (fun w => by
    refine (made_any [x] _ 1 _ (tris_one w x _) (by simp) (by simp [hx])).mono fun e w' ⟨v, he, tr, bb⟩ => ?_
    rw [made_one] at tr
    have m0 := mkT_in 0 x
    have bel : Below w.heap.size w w' := ((Below.refl _ _).alloc (Nat.le_refl _) _).trans (bb.mono (by simp))
    rcases tr.2 with ⟨-, h0⟩ | ⟨g, cap, cur, rfl, hB, hg, -⟩
    · simp at h0
    · obtain ⟨ao, cap', hv, -, hts⟩ := tr.form
      cases hv
      obtain ⟨g', off, hgo, hgl, hat⟩ := hts (by simp)
      cases hgo
      exact ⟨_, _, _, g, cap, ⟨m0.2.2.2.2.1, m0.2.2.2.2.2, m0.2.2.2.1, m0.2.1⟩, he, hgl, hat 0 _ rfl, bel⟩)
  have TI : Hid (∀ o, Tris ao l (w.alloc o)) := Lib.hid (fun o => hT.below ((Below.refl _ _).alloc (Nat.le_refl _) o) (Nat.le_refl _))
  have CKA : Hid (∀ x ∈ madeL l, chk x = true) := Lib.hid (fun x hx => by
    obtain ⟨i, hi⟩ := List.mem_iff_getElem?.1 hx
    have hlen := madeL_len l
    have hi2 := (List.getElem?_eq_some_iff.1 hi).1
    obtain ⟨y, rfl⟩ := madeL_get hi
    exact mkT_chk (by omega) y)
  have KA := Lib.hid (fun (o : Obj) => (Below.refl w.heap.size w).alloc (Nat.le_refl _) o)
  clear hT hok hx
  obtain ⟨xa, xb0, xc0⟩ := x
  simp only at MX ⊢
  go_enter Try.func6, Try.ntmps6
  go_wp2_with fail
  (with_reducible refine (AW.out _).mono ?_)
  rintro e w1 ⟨rfl, b1⟩
  have K1 := Lib.hid ((KA.out _).trans (b1.mono (by simp)))
  have M1 := Lib.hid (MA.out _ ((TI.out _).below b1 (Nat.le_refl _)))
  have a0 := carry b1 (p := ⟨w.heap.size, 0, none⟩) (v := .int .i64 xa) (by simp [go_sem])
  have a1 := carry b1 (p := ⟨w.heap.size, 1, none⟩) (v := .int .i64 xb0) (by simp [go_sem])
  have a2 := carry b1 (p := ⟨w.heap.size, 2, none⟩) (v := .int .i64 xc0) (by simp [go_sem])
  clear b1 MA AW TI KA
  go_wp2_with fail
  (with_reducible refine (M1.out).mono ?_)
  rintro e w2 ⟨v, rfl, tr, b2⟩
  obtain ⟨am, cm, rfl, hcm, hts⟩ := tr.form
  have a0 := carry b2 a0
  have a1 := carry b2 a1
  have a2 := carry b2 a2
  have TS := Lib.hid hts
  have K2 := Lib.hid (K1.out.trans (b2.mono K1.out.size))
  have hml := madeL_len l
  have CK : Hid (∀ x ∈ (madeL l).take 5, chk x = true) := Lib.hid (fun x hx => CKA.out x (List.mem_of_mem_take hx))
  have T6 : Hid (Ts am ((madeL l).take 5) w2) := Lib.hid (TS.out.take 5)
  have LN : Hid (((madeL l).take 5).length ≤ 5) := Lib.hid (by rw [List.length_take]; omega)
  have LE : Hid ((madeL l).length ≤ 5 → (madeL l).length = ((madeL l).take 5).length) := Lib.hid (fun h => by rw [List.length_take]; omega)
  have LF : Hid (5 < (madeL l).length → 5 = ((madeL l).take 5).length) := Lib.hid (fun h => by rw [List.length_take]; omega)
  generalize (madeL l).take 5 = T at *
  clear tr hts b2 K1 M1 TS CKA
  generalize (madeL l).length = m at *
  have hm : m ≤ 16 := by omega
  clear hml
  have KC : Hid (w2.cell? ⟨w.heap.size, 0, none⟩ = some (.int .i64 xa) ∧ w2.cell? ⟨w.heap.size, 1, none⟩ = some (.int .i64 xb0) ∧ w2.cell? ⟨w.heap.size, 2, none⟩ = some (.int .i64 xc0)) := Lib.hid ⟨a0, a1, a2⟩
  clear a0 a1 a2
  go_upto_if 21 with (fail)
  go_cut [6] (fun s wx => CutRel T w.heap.size w s wx ∧ wx.cell? ⟨w.heap.size, 0, none⟩ = some (.int .i64 xa) ∧ wx.cell? ⟨w.heap.size, 1, none⟩ = some (.int .i64 xb0) ∧ wx.cell? ⟨w.heap.size, 2, none⟩ = some (.int .i64 xc0))
  case first =>
    by_cases h6 : 5 < m
    · have h1 : (5 : Int) < (m : Int) := by omega
      have hc2 : 5 ≤ cm := by omega
      have e := LF.out h6
      have sl : (Instr.sliceAt 22 (.slice am m cm) none (some (.int .i64 5)) none).run Try.prog w2 = .ok (.slice am 5 cm) w2 := by
        rw [run_sliceAt_slice w2 _ _ _ _ _ (by kernel_rfl), run_slice_h w2 _ _ _ _ (by kernel_rfl) _ _ (by omega) (by omega)]
        have e : (sizeOf (Try.prog.elem 22)).run Try.prog w2 = .ok 5 w2 := by kernel_rfl
        rw [e]
        simp only [Result.andThen, sliced]
        have : am.map (fun x => x.add (0 * 5)) = am := by cases am <;> simp [Addr.add]
        rw [this]
        simp
      have EE := Lib.hid e
      clear h6 e
      go_wp2_with fail
      go_meet
      exact ⟨⟨am, cm, by rw [← EE.out], T6.out, K2.out⟩, KC.out⟩
    · have h1 : (m : Int) ≤ 5 := by omega
      have EE := Lib.hid (LE.out (by omega))
      clear h6
      go_wp2_with fail
      go_meet
      exact ⟨⟨am, cm, by rw [← EE.out], T6.out, K2.out⟩, KC.out⟩
  case rest =>
    obtain ⟨⟨an, cn, rfl, hts, hB⟩, a0, a1, a2⟩ := hcut
    have hlen := LN.out
    have TS := Lib.hid hts
    have KB := Lib.hid hB
    clear T6 K2 LE LF hts hB KC
    go_wp2_with fail
    (with_reducible refine (MX.out _).mono ?_)
    rintro e w3 ⟨xc, xd, xt, g, cp, hx, rfl, hg, tx, b3⟩
    have K3 := Lib.hid (KB.out.trans (b3.mono KB.out.size))
    have T3 := Lib.hid (TS.out.call b3)
    have x0 := tx.c0
    have x1 := tx.c1
    have x2 := tx.c2
    have x3 := tx.c3
    have x4 := tx.c4
    simp only [Nat.zero_add, Nat.reduceAdd] at x0 x1 x2 x3 x4
    clear a0 a1 a2 MX b3 TS KB tx
    go_upto_region 6 with (fail)
    refine name_world (fun W => TkAt w3.heap.size 0 ⟨0, xc, xd, xt, 1⟩ W ∧ Ts an T W ∧ Below w.heap.size w W) ?_ ?_
    · have hz := K3.out.size
      refine ⟨⟨?_, ?_, ?_, ?_, ?_⟩, ?_, ?_⟩
      all_goals first | (simp [go_sem]; done) | skip
      · exact T3.out.call (by repeat (first | exact Below.refl _ _ | refine Below.setCell ?_ (by first | omega | (simp; done) | (simp; omega)) _ | refine Below.alloc ?_ (by first | omega | (simp; done) | (simp; omega)) _))
      · repeat (first | exact K3.out | refine Below.setCell ?_ (by first | omega | (simp; done) | (simp; omega)) _ | refine Below.alloc ?_ (by first | omega | (simp; done) | (simp; omega)) _)
    clear x0 x1 x2 x3 x4 hg K3 T3
    generalize w3.heap.size = xb at *
    rintro W ⟨tx, tt, bW⟩
    have XK : chk ⟨0, xc, xd, xt, 1⟩ = true := by rw [chk_iff]; simp only; omega
    have ES := Lib.hid (load_e (T := T) (by omega) CK.out)
    have EM : Hid ((loadR (T ++ [⟨0, xc, xd, xt, 1⟩])).e = 0 ∨ (loadR (T ++ [⟨0, xc, xd, xt, 1⟩])).e = 16) := Lib.hid (load_e (by simp; omega) (fun y hy => by
      rcases List.mem_append.1 hy with h | h
      · exact CK.out y h
      · obtain rfl : y = _ := by simpa using h
        exact XK))
    have AS := Lib.hid (ask (T := T) hlen CK.out XK)
    have LOT := Lib.hid (fun w h => load_any T an cn w h (by omega))
    have OVT := Lib.hid (fun w h => over_any T an cn w h (by omega))
    have TX := Lib.hid tx
    have TT := Lib.hid tt
    have BW := Lib.hid bW
    clear hx XK tx tt bW CK LN
    go_wp2_with fail
    (with_reducible refine (LOT.out _ TT.out).mono ?_)
    rintro e S ⟨rfl, b4⟩
    have TX2 := Lib.hid (TX.out.call b4)
    have TT2 := Lib.hid (TT.out.call b4)
    have BS := Lib.hid (BW.out.trans (b4.mono BW.out.size))
    clear b4 TX TT BW LOT
    obtain ⟨X, hX⟩ : ∃ X : Tk, X = ⟨0, xc, xd, xt, 1⟩ := ⟨_, rfl⟩
    have HX := Lib.hid hX
    rw [← hX] at TX2 EM AS
    clear hX
    go_upto_region 7 with (fail)
    go_cut [11, 12, 13] (Cut7 (loadR (T ++ [X])) X xb an T w.heap.size w)
    case first =>
      have Hd := Lib.hid (show Hold S X xb an T S.drew from ⟨(Below.refl _ _).drew, TX2.out, TT2.out⟩)
      clear EM ES AS OVT HX TX2 TT2
      refine wp_region_any (by kernel_rfl) ?_
      (try (change wpAny _ _ _ _ _ _ _ (World.drew _)))
      refine wpAny_take (i := 1) (v := ?_) rfl (by kernel_rfl) (by kernel_rfl) (by kernel_rfl) (fun _ _ _ h => h) (Or.inl ⟨by rfl, ?_⟩) ?_
      rotate_left
      · (intro wS; go_simp; try with_reducible rfl)
      (try simp only [Act.put, List.getElem_toArray, List.getElem_cons_succ, List.getElem_cons_zero, List.setIfInBounds_toArray, List.set_cons_zero, List.set_cons_succ])
      refine wpAny_ready (rs := [0, 3]) (by kernel_rfl) (by simp) ?_
      refine AllReady.cons rfl (fun K hK => ?_) ?_
      · rw [if_pos (by rfl)]
        obtain ⟨v1, wz1, r0, t0, b0, ow0, sz0⟩ := build_none S.heap.size (S.drew) Hd.out.size
        refine wp_val (exec_none rfl r0) (hK _ _ ?_)
        have Hz1 := Lib.hid (Hd.out.go (b0.mono Hd.out.size))
        have R1 := Lib.hid t0
        have O1 := Lib.hid ow0
        have Z1 := Lib.hid sz0
        clear r0 t0 b0 ow0 sz0
        clear hK K
        (try simp only [Act.put, List.getElem_toArray, List.getElem_cons_succ, List.getElem_cons_zero, List.setIfInBounds_toArray, List.set_cons_zero, List.set_cons_succ])
        refine wpAny_ready (rs := [2, 3]) (by kernel_rfl) (by simp) ?_
        refine AllReady.cons rfl (fun K hK => ?_) ?_
        · rw [if_pos (by rfl)]
          obtain ⟨v2, wz2, r2, t2, b2, k2⟩ := trow_all S.heap.size wz1 v1 [] T an cn R1.out Hz1.out.tt Hz1.out.size (by simp; omega)
          refine Lib.wp_append_run _ _ _ _ _ rfl _ _ rfl rfl _ _ r2 (hK _ _ ?_)
          have Hz2 := Lib.hid (Hz1.out.go b2)
          have R2 : Hid (TRow S.heap.size wz2 v2 T) := Lib.hid (by (have := t2; rw [List.nil_append] at this; exact this))
          clear r2 t2 b2 k2 R1 O1 Z1
          clear hK K
          (try simp only [Act.put, List.getElem_toArray, List.getElem_cons_succ, List.getElem_cons_zero, List.setIfInBounds_toArray, List.set_cons_zero, List.set_cons_succ])
          refine wpAny_ready (rs := [3]) (by kernel_rfl) (by simp) ?_
          refine AllReady.cons rfl (fun K hK => ?_) ?_
          · rw [if_pos (by rfl)]
            refine wp_val (exec_load1 rfl rfl (load_tk Hz2.out.xx)) (hK _ _ ?_)
            clear hK K
            (try simp only [Act.put, List.getElem_toArray, List.getElem_cons_succ, List.getElem_cons_zero, List.setIfInBounds_toArray, List.set_cons_zero, List.set_cons_succ])
            refine wpAny_ready (rs := [4]) (by kernel_rfl) (by simp) ?_
            refine AllReady.cons rfl (fun K hK => ?_) ?_
            · rw [if_pos (by rfl)]
              obtain ⟨q, wz3, r4, q4, b4, eq4, sz4⟩ := build_one S.heap.size wz2 X
              refine wp_val (exec_build1 rfl rfl r4) (hK _ _ ?_)
              have Hz3 := Lib.hid (Hz2.out.go (b4.mono Hz2.out.size))
              have Q2 := Lib.hid q4
              have R4 := Lib.hid (R2.out.call b4)
              clear R2
              clear r4 q4 b4 eq4 sz4
              clear hK K
              (try simp only [Act.put, List.getElem_toArray, List.getElem_cons_succ, List.getElem_cons_zero, List.setIfInBounds_toArray, List.set_cons_zero, List.set_cons_succ])
              refine wpAny_ready (rs := [5]) (by kernel_rfl) (by simp) ?_
              refine AllReady.cons rfl (fun K hK => ?_) ?_
              · rw [if_pos (by rfl)]
                obtain ⟨v3, wz4, r5, t5, b5, -⟩ := trow_all S.heap.size wz3 v2 T [X] (some ⟨q, 0, none⟩) 1 R4.out (tk_ts Q2.out) Hz3.out.size (by simp; omega)
                refine Lib.wp_append_run _ _ _ _ _ rfl _ _ rfl rfl _ _ r5 (hK _ _ ?_)
                have Hz4 := Lib.hid (Hz3.out.go b5)
                obtain ⟨a3, c3, rfl, -, ts3⟩ := t5.form
                have LO0 := load_any (T ++ [X]) a3 c3 wz4 ts3 (by simp; omega)
                rw [show (T ++ [X]).length = T.length + 1 by simp] at LO0
                have LO := Lib.hid LO0
                clear LO0
                clear r5 t5 b5 ts3 R4 Q2
                clear hK K
                (try simp only [Act.put, List.getElem_toArray, List.getElem_cons_succ, List.getElem_cons_zero, List.setIfInBounds_toArray, List.set_cons_zero, List.set_cons_succ])
                refine wpAny_ready (rs := [6]) (by kernel_rfl) (by simp) ?_
                refine AllReady.cons rfl (fun K hK => ?_) ?_
                · rw [if_pos (by rfl)]
                  go_simp
                  (with_reducible refine (LO.out).mono ?_)
                  rintro e wz5 ⟨rfl, b6⟩
                  go_simp
                  refine hK _ _ ?_
                  have Hz5 := Lib.hid (Hz4.out.go (b6.mono Hz4.out.size))
                  clear b6 LO
                  clear hK K
                  (try simp only [Act.put, List.getElem_toArray, List.getElem_cons_succ, List.getElem_cons_zero, List.setIfInBounds_toArray, List.set_cons_zero, List.set_cons_succ])
                  refine wpAny_take (i := 7) (v := ?_) rfl (by kernel_rfl) (by kernel_rfl) (by kernel_rfl) (fun _ _ _ h => h) (Or.inl ⟨by rfl, ?_⟩) ?_
                  rotate_left
                  · (intro wS; go_simp; try with_reducible rfl)
                  (try simp only [Act.put, List.getElem_toArray, List.getElem_cons_succ, List.getElem_cons_zero, List.setIfInBounds_toArray, List.set_cons_zero, List.set_cons_succ])
                  refine wpAny_take (i := 8) (v := ?_) rfl (by kernel_rfl) (by kernel_rfl) (by kernel_rfl) (fun _ _ _ h => h) (Or.inl ⟨by rfl, ?_⟩) ?_
                  rotate_left
                  · (intro wS; go_simp; try with_reducible rfl)
                  (try simp only [Act.put, List.getElem_toArray, List.getElem_cons_succ, List.getElem_cons_zero, List.setIfInBounds_toArray, List.set_cons_zero, List.set_cons_succ])
                  refine wpAny_take (i := 11) (v := ?_) rfl (by kernel_rfl) (by kernel_rfl) (by kernel_rfl) (fun _ _ _ h => h) (Or.inl ⟨by rfl, ?_⟩) ?_
                  rotate_left
                  · (intro wS; go_simp; try with_reducible rfl)
                  (try simp only [Act.put, List.getElem_toArray, List.getElem_cons_succ, List.getElem_cons_zero, List.setIfInBounds_toArray, List.set_cons_zero, List.set_cons_succ])
                  refine wpAny_take (i := 9) (v := ?_) rfl (by kernel_rfl) (by kernel_rfl) (by kernel_rfl) (fun _ _ _ h => h) (Or.inl ⟨by rfl, ?_⟩) ?_
                  rotate_left
                  · (intro wS; go_simp; try with_reducible rfl)
                  (try simp only [Act.put, List.getElem_toArray, List.getElem_cons_succ, List.getElem_cons_zero, List.setIfInBounds_toArray, List.set_cons_zero, List.set_cons_succ])
                  refine wpAny_take (i := 12) (v := ?_) rfl (by kernel_rfl) (by kernel_rfl) (by kernel_rfl) (fun _ _ _ h => h) (Or.inl ⟨by rfl, ?_⟩) ?_
                  rotate_left
                  · (intro wS; go_simp; try with_reducible rfl)
                  (try simp only [Act.put, List.getElem_toArray, List.getElem_cons_succ, List.getElem_cons_zero, List.setIfInBounds_toArray, List.set_cons_zero, List.set_cons_succ])
                  refine wpAny_take (i := 10) (v := ?_) rfl (by kernel_rfl) (by kernel_rfl) (by kernel_rfl) (fun _ _ _ h => h) (Or.inl ⟨by rfl, ?_⟩) ?_
                  rotate_left
                  · (intro wS; go_simp; try with_reducible rfl)
                  (try simp only [Act.put, List.getElem_toArray, List.getElem_cons_succ, List.getElem_cons_zero, List.setIfInBounds_toArray, List.set_cons_zero, List.set_cons_succ])
                  refine wpAny_take (i := 13) (v := ?_) rfl (by kernel_rfl) (by kernel_rfl) (by kernel_rfl) (fun _ _ _ h => h) (Or.inl ⟨by rfl, ?_⟩) ?_
                  rotate_left
                  · (intro wS; go_simp; try with_reducible rfl)
                  (try simp only [Act.put, List.getElem_toArray, List.getElem_cons_succ, List.getElem_cons_zero, List.setIfInBounds_toArray, List.set_cons_zero, List.set_cons_succ])
                  refine wpAny_done (by kernel_rfl) ?_ _
                  go_wp2
                  go_meet
                  exact ⟨rfl, rfl, rfl, Hz5.out.xx, Hz5.out.tt, BS.out.trans (Hz5.out.bel.mono BS.out.size)⟩
                exact AllReady.nil
              exact AllReady.nil
            exact AllReady.nil
          exact AllReady.nil
        refine AllReady.cons rfl (fun K hK => ?_) ?_
        · rw [if_pos (by rfl)]
          refine wp_val (exec_load1 rfl rfl (load_tk Hz1.out.xx)) (hK _ _ ?_)
          clear hK K
          (try simp only [Act.put, List.getElem_toArray, List.getElem_cons_succ, List.getElem_cons_zero, List.setIfInBounds_toArray, List.set_cons_zero, List.set_cons_succ])
          refine wpAny_ready (rs := [2, 4]) (by kernel_rfl) (by simp) ?_
          refine AllReady.cons rfl (fun K hK => ?_) ?_
          · rw [if_pos (by rfl)]
            obtain ⟨v2, wz2, r2, t2, b2, k2⟩ := trow_all S.heap.size wz1 v1 [] T an cn R1.out Hz1.out.tt Hz1.out.size (by simp; omega)
            refine Lib.wp_append_run _ _ _ _ _ rfl _ _ rfl rfl _ _ r2 (hK _ _ ?_)
            have Hz2 := Lib.hid (Hz1.out.go b2)
            have R2 : Hid (TRow S.heap.size wz2 v2 T) := Lib.hid (by (have := t2; rw [List.nil_append] at this; exact this))
            clear r2 t2 b2 k2 R1 O1 Z1
            clear hK K
            (try simp only [Act.put, List.getElem_toArray, List.getElem_cons_succ, List.getElem_cons_zero, List.setIfInBounds_toArray, List.set_cons_zero, List.set_cons_succ])
            refine wpAny_ready (rs := [4]) (by kernel_rfl) (by simp) ?_
            refine AllReady.cons rfl (fun K hK => ?_) ?_
            · rw [if_pos (by rfl)]
              obtain ⟨q, wz3, r4, q4, b4, eq4, sz4⟩ := build_one S.heap.size wz2 X
              refine wp_val (exec_build1 rfl rfl r4) (hK _ _ ?_)
              have Hz3 := Lib.hid (Hz2.out.go (b4.mono Hz2.out.size))
              have Q2 := Lib.hid q4
              have R4 := Lib.hid (R2.out.call b4)
              clear R2
              clear r4 q4 b4 eq4 sz4
              clear hK K
              (try simp only [Act.put, List.getElem_toArray, List.getElem_cons_succ, List.getElem_cons_zero, List.setIfInBounds_toArray, List.set_cons_zero, List.set_cons_succ])
              refine wpAny_ready (rs := [5]) (by kernel_rfl) (by simp) ?_
              refine AllReady.cons rfl (fun K hK => ?_) ?_
              · rw [if_pos (by rfl)]
                obtain ⟨v3, wz4, r5, t5, b5, -⟩ := trow_all S.heap.size wz3 v2 T [X] (some ⟨q, 0, none⟩) 1 R4.out (tk_ts Q2.out) Hz3.out.size (by simp; omega)
                refine Lib.wp_append_run _ _ _ _ _ rfl _ _ rfl rfl _ _ r5 (hK _ _ ?_)
                have Hz4 := Lib.hid (Hz3.out.go b5)
                obtain ⟨a3, c3, rfl, -, ts3⟩ := t5.form
                have LO0 := load_any (T ++ [X]) a3 c3 wz4 ts3 (by simp; omega)
                rw [show (T ++ [X]).length = T.length + 1 by simp] at LO0
                have LO := Lib.hid LO0
                clear LO0
                clear r5 t5 b5 ts3 R4 Q2
                clear hK K
                (try simp only [Act.put, List.getElem_toArray, List.getElem_cons_succ, List.getElem_cons_zero, List.setIfInBounds_toArray, List.set_cons_zero, List.set_cons_succ])
                refine wpAny_ready (rs := [6]) (by kernel_rfl) (by simp) ?_
                refine AllReady.cons rfl (fun K hK => ?_) ?_
                · rw [if_pos (by rfl)]
                  go_simp
                  (with_reducible refine (LO.out).mono ?_)
                  rintro e wz5 ⟨rfl, b6⟩
                  go_simp
                  refine hK _ _ ?_
                  have Hz5 := Lib.hid (Hz4.out.go (b6.mono Hz4.out.size))
                  clear b6 LO
                  clear hK K
                  (try simp only [Act.put, List.getElem_toArray, List.getElem_cons_succ, List.getElem_cons_zero, List.setIfInBounds_toArray, List.set_cons_zero, List.set_cons_succ])
                  refine wpAny_take (i := 7) (v := ?_) rfl (by kernel_rfl) (by kernel_rfl) (by kernel_rfl) (fun _ _ _ h => h) (Or.inl ⟨by rfl, ?_⟩) ?_
                  rotate_left
                  · (intro wS; go_simp; try with_reducible rfl)
                  (try simp only [Act.put, List.getElem_toArray, List.getElem_cons_succ, List.getElem_cons_zero, List.setIfInBounds_toArray, List.set_cons_zero, List.set_cons_succ])
                  refine wpAny_take (i := 8) (v := ?_) rfl (by kernel_rfl) (by kernel_rfl) (by kernel_rfl) (fun _ _ _ h => h) (Or.inl ⟨by rfl, ?_⟩) ?_
                  rotate_left
                  · (intro wS; go_simp; try with_reducible rfl)
                  (try simp only [Act.put, List.getElem_toArray, List.getElem_cons_succ, List.getElem_cons_zero, List.setIfInBounds_toArray, List.set_cons_zero, List.set_cons_succ])
                  refine wpAny_take (i := 11) (v := ?_) rfl (by kernel_rfl) (by kernel_rfl) (by kernel_rfl) (fun _ _ _ h => h) (Or.inl ⟨by rfl, ?_⟩) ?_
                  rotate_left
                  · (intro wS; go_simp; try with_reducible rfl)
                  (try simp only [Act.put, List.getElem_toArray, List.getElem_cons_succ, List.getElem_cons_zero, List.setIfInBounds_toArray, List.set_cons_zero, List.set_cons_succ])
                  refine wpAny_take (i := 9) (v := ?_) rfl (by kernel_rfl) (by kernel_rfl) (by kernel_rfl) (fun _ _ _ h => h) (Or.inl ⟨by rfl, ?_⟩) ?_
                  rotate_left
                  · (intro wS; go_simp; try with_reducible rfl)
                  (try simp only [Act.put, List.getElem_toArray, List.getElem_cons_succ, List.getElem_cons_zero, List.setIfInBounds_toArray, List.set_cons_zero, List.set_cons_succ])
                  refine wpAny_take (i := 12) (v := ?_) rfl (by kernel_rfl) (by kernel_rfl) (by kernel_rfl) (fun _ _ _ h => h) (Or.inl ⟨by rfl, ?_⟩) ?_
                  rotate_left
                  · (intro wS; go_simp; try with_reducible rfl)
                  (try simp only [Act.put, List.getElem_toArray, List.getElem_cons_succ, List.getElem_cons_zero, List.setIfInBounds_toArray, List.set_cons_zero, List.set_cons_succ])
                  refine wpAny_take (i := 10) (v := ?_) rfl (by kernel_rfl) (by kernel_rfl) (by kernel_rfl) (fun _ _ _ h => h) (Or.inl ⟨by rfl, ?_⟩) ?_
                  rotate_left
                  · (intro wS; go_simp; try with_reducible rfl)
                  (try simp only [Act.put, List.getElem_toArray, List.getElem_cons_succ, List.getElem_cons_zero, List.setIfInBounds_toArray, List.set_cons_zero, List.set_cons_succ])
                  refine wpAny_take (i := 13) (v := ?_) rfl (by kernel_rfl) (by kernel_rfl) (by kernel_rfl) (fun _ _ _ h => h) (Or.inl ⟨by rfl, ?_⟩) ?_
                  rotate_left
                  · (intro wS; go_simp; try with_reducible rfl)
                  (try simp only [Act.put, List.getElem_toArray, List.getElem_cons_succ, List.getElem_cons_zero, List.setIfInBounds_toArray, List.set_cons_zero, List.set_cons_succ])
                  refine wpAny_done (by kernel_rfl) ?_ _
                  go_wp2
                  go_meet
                  exact ⟨rfl, rfl, rfl, Hz5.out.xx, Hz5.out.tt, BS.out.trans (Hz5.out.bel.mono BS.out.size)⟩
                exact AllReady.nil
              exact AllReady.nil
            exact AllReady.nil
          refine AllReady.cons rfl (fun K hK => ?_) ?_
          · rw [if_pos (by rfl)]
            obtain ⟨q, wz2, r4, q4, b4, eq4, sz4⟩ := build_one S.heap.size wz1 X
            refine wp_val (exec_build1 rfl rfl r4) (hK _ _ ?_)
            have Hz2 := Lib.hid (Hz1.out.go (b4.mono Hz1.out.size))
            have Q1 := Lib.hid q4
            have R3 := Lib.hid (R1.out.call b4)
            have NE : Hid (∀ k, v1.ownBlock = some k → k ≠ q) := Lib.hid (fun k hk => by (have h1 := Z1.out; have h2 := O1.out; rw [h2] at hk; cases hk; omega))
            clear R1
            have R1 := R3
            clear R3
            clear r4 q4 b4 eq4 sz4
            clear hK K
            (try simp only [Act.put, List.getElem_toArray, List.getElem_cons_succ, List.getElem_cons_zero, List.setIfInBounds_toArray, List.set_cons_zero, List.set_cons_succ])
            refine wpAny_ready (rs := [2]) (by kernel_rfl) (by simp) ?_
            refine AllReady.cons rfl (fun K hK => ?_) ?_
            · rw [if_pos (by rfl)]
              obtain ⟨v2, wz3, r2, t2, b2, k2⟩ := trow_all S.heap.size wz2 v1 [] T an cn R1.out Hz2.out.tt Hz2.out.size (by simp; omega)
              refine Lib.wp_append_run _ _ _ _ _ rfl _ _ rfl rfl _ _ r2 (hK _ _ ?_)
              have Hz3 := Lib.hid (Hz2.out.go b2)
              have Q2 := Lib.hid (Q1.out.of_block (k2 q Q1.out.lt (fun e => NE.out _ e rfl)))
              have R4 : Hid (TRow S.heap.size wz3 v2 T) := Lib.hid (by (have := t2; rw [List.nil_append] at this; exact this))
              clear Q1 NE
              clear r2 t2 b2 k2 R1 O1 Z1
              clear hK K
              (try simp only [Act.put, List.getElem_toArray, List.getElem_cons_succ, List.getElem_cons_zero, List.setIfInBounds_toArray, List.set_cons_zero, List.set_cons_succ])
              refine wpAny_ready (rs := [5]) (by kernel_rfl) (by simp) ?_
              refine AllReady.cons rfl (fun K hK => ?_) ?_
              · rw [if_pos (by rfl)]
                obtain ⟨v3, wz4, r5, t5, b5, -⟩ := trow_all S.heap.size wz3 v2 T [X] (some ⟨q, 0, none⟩) 1 R4.out (tk_ts Q2.out) Hz3.out.size (by simp; omega)
                refine Lib.wp_append_run _ _ _ _ _ rfl _ _ rfl rfl _ _ r5 (hK _ _ ?_)
                have Hz4 := Lib.hid (Hz3.out.go b5)
                obtain ⟨a3, c3, rfl, -, ts3⟩ := t5.form
                have LO0 := load_any (T ++ [X]) a3 c3 wz4 ts3 (by simp; omega)
                rw [show (T ++ [X]).length = T.length + 1 by simp] at LO0
                have LO := Lib.hid LO0
                clear LO0
                clear r5 t5 b5 ts3 R4 Q2
                clear hK K
                (try simp only [Act.put, List.getElem_toArray, List.getElem_cons_succ, List.getElem_cons_zero, List.setIfInBounds_toArray, List.set_cons_zero, List.set_cons_succ])
                refine wpAny_ready (rs := [6]) (by kernel_rfl) (by simp) ?_
                refine AllReady.cons rfl (fun K hK => ?_) ?_
                · rw [if_pos (by rfl)]
                  go_simp
                  (with_reducible refine (LO.out).mono ?_)
                  rintro e wz5 ⟨rfl, b6⟩
                  go_simp
                  refine hK _ _ ?_
                  have Hz5 := Lib.hid (Hz4.out.go (b6.mono Hz4.out.size))
                  clear b6 LO
                  clear hK K
                  (try simp only [Act.put, List.getElem_toArray, List.getElem_cons_succ, List.getElem_cons_zero, List.setIfInBounds_toArray, List.set_cons_zero, List.set_cons_succ])
                  refine wpAny_take (i := 7) (v := ?_) rfl (by kernel_rfl) (by kernel_rfl) (by kernel_rfl) (fun _ _ _ h => h) (Or.inl ⟨by rfl, ?_⟩) ?_
                  rotate_left
                  · (intro wS; go_simp; try with_reducible rfl)
                  (try simp only [Act.put, List.getElem_toArray, List.getElem_cons_succ, List.getElem_cons_zero, List.setIfInBounds_toArray, List.set_cons_zero, List.set_cons_succ])
                  refine wpAny_take (i := 8) (v := ?_) rfl (by kernel_rfl) (by kernel_rfl) (by kernel_rfl) (fun _ _ _ h => h) (Or.inl ⟨by rfl, ?_⟩) ?_
                  rotate_left
                  · (intro wS; go_simp; try with_reducible rfl)
                  (try simp only [Act.put, List.getElem_toArray, List.getElem_cons_succ, List.getElem_cons_zero, List.setIfInBounds_toArray, List.set_cons_zero, List.set_cons_succ])
                  refine wpAny_take (i := 11) (v := ?_) rfl (by kernel_rfl) (by kernel_rfl) (by kernel_rfl) (fun _ _ _ h => h) (Or.inl ⟨by rfl, ?_⟩) ?_
                  rotate_left
                  · (intro wS; go_simp; try with_reducible rfl)
                  (try simp only [Act.put, List.getElem_toArray, List.getElem_cons_succ, List.getElem_cons_zero, List.setIfInBounds_toArray, List.set_cons_zero, List.set_cons_succ])
                  refine wpAny_take (i := 9) (v := ?_) rfl (by kernel_rfl) (by kernel_rfl) (by kernel_rfl) (fun _ _ _ h => h) (Or.inl ⟨by rfl, ?_⟩) ?_
                  rotate_left
                  · (intro wS; go_simp; try with_reducible rfl)
                  (try simp only [Act.put, List.getElem_toArray, List.getElem_cons_succ, List.getElem_cons_zero, List.setIfInBounds_toArray, List.set_cons_zero, List.set_cons_succ])
                  refine wpAny_take (i := 12) (v := ?_) rfl (by kernel_rfl) (by kernel_rfl) (by kernel_rfl) (fun _ _ _ h => h) (Or.inl ⟨by rfl, ?_⟩) ?_
                  rotate_left
                  · (intro wS; go_simp; try with_reducible rfl)
                  (try simp only [Act.put, List.getElem_toArray, List.getElem_cons_succ, List.getElem_cons_zero, List.setIfInBounds_toArray, List.set_cons_zero, List.set_cons_succ])
                  refine wpAny_take (i := 10) (v := ?_) rfl (by kernel_rfl) (by kernel_rfl) (by kernel_rfl) (fun _ _ _ h => h) (Or.inl ⟨by rfl, ?_⟩) ?_
                  rotate_left
                  · (intro wS; go_simp; try with_reducible rfl)
                  (try simp only [Act.put, List.getElem_toArray, List.getElem_cons_succ, List.getElem_cons_zero, List.setIfInBounds_toArray, List.set_cons_zero, List.set_cons_succ])
                  refine wpAny_take (i := 13) (v := ?_) rfl (by kernel_rfl) (by kernel_rfl) (by kernel_rfl) (fun _ _ _ h => h) (Or.inl ⟨by rfl, ?_⟩) ?_
                  rotate_left
                  · (intro wS; go_simp; try with_reducible rfl)
                  (try simp only [Act.put, List.getElem_toArray, List.getElem_cons_succ, List.getElem_cons_zero, List.setIfInBounds_toArray, List.set_cons_zero, List.set_cons_succ])
                  refine wpAny_done (by kernel_rfl) ?_ _
                  go_wp2
                  go_meet
                  exact ⟨rfl, rfl, rfl, Hz5.out.xx, Hz5.out.tt, BS.out.trans (Hz5.out.bel.mono BS.out.size)⟩
                exact AllReady.nil
              exact AllReady.nil
            exact AllReady.nil
          exact AllReady.nil
        exact AllReady.nil
      refine AllReady.cons rfl (fun K hK => ?_) ?_
      · rw [if_pos (by rfl)]
        refine wp_val (exec_load1 rfl rfl (load_tk Hd.out.xx)) (hK _ _ ?_)
        clear hK K
        (try simp only [Act.put, List.getElem_toArray, List.getElem_cons_succ, List.getElem_cons_zero, List.setIfInBounds_toArray, List.set_cons_zero, List.set_cons_succ])
        refine wpAny_ready (rs := [0, 4]) (by kernel_rfl) (by simp) ?_
        refine AllReady.cons rfl (fun K hK => ?_) ?_
        · rw [if_pos (by rfl)]
          obtain ⟨v1, wz1, r0, t0, b0, ow0, sz0⟩ := build_none S.heap.size (S.drew) Hd.out.size
          refine wp_val (exec_none rfl r0) (hK _ _ ?_)
          have Hz1 := Lib.hid (Hd.out.go (b0.mono Hd.out.size))
          have R1 := Lib.hid t0
          have O1 := Lib.hid ow0
          have Z1 := Lib.hid sz0
          clear r0 t0 b0 ow0 sz0
          clear hK K
          (try simp only [Act.put, List.getElem_toArray, List.getElem_cons_succ, List.getElem_cons_zero, List.setIfInBounds_toArray, List.set_cons_zero, List.set_cons_succ])
          refine wpAny_ready (rs := [2, 4]) (by kernel_rfl) (by simp) ?_
          refine AllReady.cons rfl (fun K hK => ?_) ?_
          · rw [if_pos (by rfl)]
            obtain ⟨v2, wz2, r2, t2, b2, k2⟩ := trow_all S.heap.size wz1 v1 [] T an cn R1.out Hz1.out.tt Hz1.out.size (by simp; omega)
            refine Lib.wp_append_run _ _ _ _ _ rfl _ _ rfl rfl _ _ r2 (hK _ _ ?_)
            have Hz2 := Lib.hid (Hz1.out.go b2)
            have R2 : Hid (TRow S.heap.size wz2 v2 T) := Lib.hid (by (have := t2; rw [List.nil_append] at this; exact this))
            clear r2 t2 b2 k2 R1 O1 Z1
            clear hK K
            (try simp only [Act.put, List.getElem_toArray, List.getElem_cons_succ, List.getElem_cons_zero, List.setIfInBounds_toArray, List.set_cons_zero, List.set_cons_succ])
            refine wpAny_ready (rs := [4]) (by kernel_rfl) (by simp) ?_
            refine AllReady.cons rfl (fun K hK => ?_) ?_
            · rw [if_pos (by rfl)]
              obtain ⟨q, wz3, r4, q4, b4, eq4, sz4⟩ := build_one S.heap.size wz2 X
              refine wp_val (exec_build1 rfl rfl r4) (hK _ _ ?_)
              have Hz3 := Lib.hid (Hz2.out.go (b4.mono Hz2.out.size))
              have Q2 := Lib.hid q4
              have R4 := Lib.hid (R2.out.call b4)
              clear R2
              clear r4 q4 b4 eq4 sz4
              clear hK K
              (try simp only [Act.put, List.getElem_toArray, List.getElem_cons_succ, List.getElem_cons_zero, List.setIfInBounds_toArray, List.set_cons_zero, List.set_cons_succ])
              refine wpAny_ready (rs := [5]) (by kernel_rfl) (by simp) ?_
              refine AllReady.cons rfl (fun K hK => ?_) ?_
              · rw [if_pos (by rfl)]
                obtain ⟨v3, wz4, r5, t5, b5, -⟩ := trow_all S.heap.size wz3 v2 T [X] (some ⟨q, 0, none⟩) 1 R4.out (tk_ts Q2.out) Hz3.out.size (by simp; omega)
                refine Lib.wp_append_run _ _ _ _ _ rfl _ _ rfl rfl _ _ r5 (hK _ _ ?_)
                have Hz4 := Lib.hid (Hz3.out.go b5)
                obtain ⟨a3, c3, rfl, -, ts3⟩ := t5.form
                have LO0 := load_any (T ++ [X]) a3 c3 wz4 ts3 (by simp; omega)
                rw [show (T ++ [X]).length = T.length + 1 by simp] at LO0
                have LO := Lib.hid LO0
                clear LO0
                clear r5 t5 b5 ts3 R4 Q2
                clear hK K
                (try simp only [Act.put, List.getElem_toArray, List.getElem_cons_succ, List.getElem_cons_zero, List.setIfInBounds_toArray, List.set_cons_zero, List.set_cons_succ])
                refine wpAny_ready (rs := [6]) (by kernel_rfl) (by simp) ?_
                refine AllReady.cons rfl (fun K hK => ?_) ?_
                · rw [if_pos (by rfl)]
                  go_simp
                  (with_reducible refine (LO.out).mono ?_)
                  rintro e wz5 ⟨rfl, b6⟩
                  go_simp
                  refine hK _ _ ?_
                  have Hz5 := Lib.hid (Hz4.out.go (b6.mono Hz4.out.size))
                  clear b6 LO
                  clear hK K
                  (try simp only [Act.put, List.getElem_toArray, List.getElem_cons_succ, List.getElem_cons_zero, List.setIfInBounds_toArray, List.set_cons_zero, List.set_cons_succ])
                  refine wpAny_take (i := 7) (v := ?_) rfl (by kernel_rfl) (by kernel_rfl) (by kernel_rfl) (fun _ _ _ h => h) (Or.inl ⟨by rfl, ?_⟩) ?_
                  rotate_left
                  · (intro wS; go_simp; try with_reducible rfl)
                  (try simp only [Act.put, List.getElem_toArray, List.getElem_cons_succ, List.getElem_cons_zero, List.setIfInBounds_toArray, List.set_cons_zero, List.set_cons_succ])
                  refine wpAny_take (i := 8) (v := ?_) rfl (by kernel_rfl) (by kernel_rfl) (by kernel_rfl) (fun _ _ _ h => h) (Or.inl ⟨by rfl, ?_⟩) ?_
                  rotate_left
                  · (intro wS; go_simp; try with_reducible rfl)
                  (try simp only [Act.put, List.getElem_toArray, List.getElem_cons_succ, List.getElem_cons_zero, List.setIfInBounds_toArray, List.set_cons_zero, List.set_cons_succ])
                  refine wpAny_take (i := 11) (v := ?_) rfl (by kernel_rfl) (by kernel_rfl) (by kernel_rfl) (fun _ _ _ h => h) (Or.inl ⟨by rfl, ?_⟩) ?_
                  rotate_left
                  · (intro wS; go_simp; try with_reducible rfl)
                  (try simp only [Act.put, List.getElem_toArray, List.getElem_cons_succ, List.getElem_cons_zero, List.setIfInBounds_toArray, List.set_cons_zero, List.set_cons_succ])
                  refine wpAny_take (i := 9) (v := ?_) rfl (by kernel_rfl) (by kernel_rfl) (by kernel_rfl) (fun _ _ _ h => h) (Or.inl ⟨by rfl, ?_⟩) ?_
                  rotate_left
                  · (intro wS; go_simp; try with_reducible rfl)
                  (try simp only [Act.put, List.getElem_toArray, List.getElem_cons_succ, List.getElem_cons_zero, List.setIfInBounds_toArray, List.set_cons_zero, List.set_cons_succ])
                  refine wpAny_take (i := 12) (v := ?_) rfl (by kernel_rfl) (by kernel_rfl) (by kernel_rfl) (fun _ _ _ h => h) (Or.inl ⟨by rfl, ?_⟩) ?_
                  rotate_left
                  · (intro wS; go_simp; try with_reducible rfl)
                  (try simp only [Act.put, List.getElem_toArray, List.getElem_cons_succ, List.getElem_cons_zero, List.setIfInBounds_toArray, List.set_cons_zero, List.set_cons_succ])
                  refine wpAny_take (i := 10) (v := ?_) rfl (by kernel_rfl) (by kernel_rfl) (by kernel_rfl) (fun _ _ _ h => h) (Or.inl ⟨by rfl, ?_⟩) ?_
                  rotate_left
                  · (intro wS; go_simp; try with_reducible rfl)
                  (try simp only [Act.put, List.getElem_toArray, List.getElem_cons_succ, List.getElem_cons_zero, List.setIfInBounds_toArray, List.set_cons_zero, List.set_cons_succ])
                  refine wpAny_take (i := 13) (v := ?_) rfl (by kernel_rfl) (by kernel_rfl) (by kernel_rfl) (fun _ _ _ h => h) (Or.inl ⟨by rfl, ?_⟩) ?_
                  rotate_left
                  · (intro wS; go_simp; try with_reducible rfl)
                  (try simp only [Act.put, List.getElem_toArray, List.getElem_cons_succ, List.getElem_cons_zero, List.setIfInBounds_toArray, List.set_cons_zero, List.set_cons_succ])
                  refine wpAny_done (by kernel_rfl) ?_ _
                  go_wp2
                  go_meet
                  exact ⟨rfl, rfl, rfl, Hz5.out.xx, Hz5.out.tt, BS.out.trans (Hz5.out.bel.mono BS.out.size)⟩
                exact AllReady.nil
              exact AllReady.nil
            exact AllReady.nil
          refine AllReady.cons rfl (fun K hK => ?_) ?_
          · rw [if_pos (by rfl)]
            obtain ⟨q, wz2, r4, q4, b4, eq4, sz4⟩ := build_one S.heap.size wz1 X
            refine wp_val (exec_build1 rfl rfl r4) (hK _ _ ?_)
            have Hz2 := Lib.hid (Hz1.out.go (b4.mono Hz1.out.size))
            have Q1 := Lib.hid q4
            have R3 := Lib.hid (R1.out.call b4)
            have NE : Hid (∀ k, v1.ownBlock = some k → k ≠ q) := Lib.hid (fun k hk => by (have h1 := Z1.out; have h2 := O1.out; rw [h2] at hk; cases hk; omega))
            clear R1
            have R1 := R3
            clear R3
            clear r4 q4 b4 eq4 sz4
            clear hK K
            (try simp only [Act.put, List.getElem_toArray, List.getElem_cons_succ, List.getElem_cons_zero, List.setIfInBounds_toArray, List.set_cons_zero, List.set_cons_succ])
            refine wpAny_ready (rs := [2]) (by kernel_rfl) (by simp) ?_
            refine AllReady.cons rfl (fun K hK => ?_) ?_
            · rw [if_pos (by rfl)]
              obtain ⟨v2, wz3, r2, t2, b2, k2⟩ := trow_all S.heap.size wz2 v1 [] T an cn R1.out Hz2.out.tt Hz2.out.size (by simp; omega)
              refine Lib.wp_append_run _ _ _ _ _ rfl _ _ rfl rfl _ _ r2 (hK _ _ ?_)
              have Hz3 := Lib.hid (Hz2.out.go b2)
              have Q2 := Lib.hid (Q1.out.of_block (k2 q Q1.out.lt (fun e => NE.out _ e rfl)))
              have R4 : Hid (TRow S.heap.size wz3 v2 T) := Lib.hid (by (have := t2; rw [List.nil_append] at this; exact this))
              clear Q1 NE
              clear r2 t2 b2 k2 R1 O1 Z1
              clear hK K
              (try simp only [Act.put, List.getElem_toArray, List.getElem_cons_succ, List.getElem_cons_zero, List.setIfInBounds_toArray, List.set_cons_zero, List.set_cons_succ])
              refine wpAny_ready (rs := [5]) (by kernel_rfl) (by simp) ?_
              refine AllReady.cons rfl (fun K hK => ?_) ?_
              · rw [if_pos (by rfl)]
                obtain ⟨v3, wz4, r5, t5, b5, -⟩ := trow_all S.heap.size wz3 v2 T [X] (some ⟨q, 0, none⟩) 1 R4.out (tk_ts Q2.out) Hz3.out.size (by simp; omega)
                refine Lib.wp_append_run _ _ _ _ _ rfl _ _ rfl rfl _ _ r5 (hK _ _ ?_)
                have Hz4 := Lib.hid (Hz3.out.go b5)
                obtain ⟨a3, c3, rfl, -, ts3⟩ := t5.form
                have LO0 := load_any (T ++ [X]) a3 c3 wz4 ts3 (by simp; omega)
                rw [show (T ++ [X]).length = T.length + 1 by simp] at LO0
                have LO := Lib.hid LO0
                clear LO0
                clear r5 t5 b5 ts3 R4 Q2
                clear hK K
                (try simp only [Act.put, List.getElem_toArray, List.getElem_cons_succ, List.getElem_cons_zero, List.setIfInBounds_toArray, List.set_cons_zero, List.set_cons_succ])
                refine wpAny_ready (rs := [6]) (by kernel_rfl) (by simp) ?_
                refine AllReady.cons rfl (fun K hK => ?_) ?_
                · rw [if_pos (by rfl)]
                  go_simp
                  (with_reducible refine (LO.out).mono ?_)
                  rintro e wz5 ⟨rfl, b6⟩
                  go_simp
                  refine hK _ _ ?_
                  have Hz5 := Lib.hid (Hz4.out.go (b6.mono Hz4.out.size))
                  clear b6 LO
                  clear hK K
                  (try simp only [Act.put, List.getElem_toArray, List.getElem_cons_succ, List.getElem_cons_zero, List.setIfInBounds_toArray, List.set_cons_zero, List.set_cons_succ])
                  refine wpAny_take (i := 7) (v := ?_) rfl (by kernel_rfl) (by kernel_rfl) (by kernel_rfl) (fun _ _ _ h => h) (Or.inl ⟨by rfl, ?_⟩) ?_
                  rotate_left
                  · (intro wS; go_simp; try with_reducible rfl)
                  (try simp only [Act.put, List.getElem_toArray, List.getElem_cons_succ, List.getElem_cons_zero, List.setIfInBounds_toArray, List.set_cons_zero, List.set_cons_succ])
                  refine wpAny_take (i := 8) (v := ?_) rfl (by kernel_rfl) (by kernel_rfl) (by kernel_rfl) (fun _ _ _ h => h) (Or.inl ⟨by rfl, ?_⟩) ?_
                  rotate_left
                  · (intro wS; go_simp; try with_reducible rfl)
                  (try simp only [Act.put, List.getElem_toArray, List.getElem_cons_succ, List.getElem_cons_zero, List.setIfInBounds_toArray, List.set_cons_zero, List.set_cons_succ])
                  refine wpAny_take (i := 11) (v := ?_) rfl (by kernel_rfl) (by kernel_rfl) (by kernel_rfl) (fun _ _ _ h => h) (Or.inl ⟨by rfl, ?_⟩) ?_
                  rotate_left
                  · (intro wS; go_simp; try with_reducible rfl)
                  (try simp only [Act.put, List.getElem_toArray, List.getElem_cons_succ, List.getElem_cons_zero, List.setIfInBounds_toArray, List.set_cons_zero, List.set_cons_succ])
                  refine wpAny_take (i := 9) (v := ?_) rfl (by kernel_rfl) (by kernel_rfl) (by kernel_rfl) (fun _ _ _ h => h) (Or.inl ⟨by rfl, ?_⟩) ?_
                  rotate_left
                  · (intro wS; go_simp; try with_reducible rfl)
                  (try simp only [Act.put, List.getElem_toArray, List.getElem_cons_succ, List.getElem_cons_zero, List.setIfInBounds_toArray, List.set_cons_zero, List.set_cons_succ])
                  refine wpAny_take (i := 12) (v := ?_) rfl (by kernel_rfl) (by kernel_rfl) (by kernel_rfl) (fun _ _ _ h => h) (Or.inl ⟨by rfl, ?_⟩) ?_
                  rotate_left
                  · (intro wS; go_simp; try with_reducible rfl)
                  (try simp only [Act.put, List.getElem_toArray, List.getElem_cons_succ, List.getElem_cons_zero, List.setIfInBounds_toArray, List.set_cons_zero, List.set_cons_succ])
                  refine wpAny_take (i := 10) (v := ?_) rfl (by kernel_rfl) (by kernel_rfl) (by kernel_rfl) (fun _ _ _ h => h) (Or.inl ⟨by rfl, ?_⟩) ?_
                  rotate_left
                  · (intro wS; go_simp; try with_reducible rfl)
                  (try simp only [Act.put, List.getElem_toArray, List.getElem_cons_succ, List.getElem_cons_zero, List.setIfInBounds_toArray, List.set_cons_zero, List.set_cons_succ])
                  refine wpAny_take (i := 13) (v := ?_) rfl (by kernel_rfl) (by kernel_rfl) (by kernel_rfl) (fun _ _ _ h => h) (Or.inl ⟨by rfl, ?_⟩) ?_
                  rotate_left
                  · (intro wS; go_simp; try with_reducible rfl)
                  (try simp only [Act.put, List.getElem_toArray, List.getElem_cons_succ, List.getElem_cons_zero, List.setIfInBounds_toArray, List.set_cons_zero, List.set_cons_succ])
                  refine wpAny_done (by kernel_rfl) ?_ _
                  go_wp2
                  go_meet
                  exact ⟨rfl, rfl, rfl, Hz5.out.xx, Hz5.out.tt, BS.out.trans (Hz5.out.bel.mono BS.out.size)⟩
                exact AllReady.nil
              exact AllReady.nil
            exact AllReady.nil
          exact AllReady.nil
        refine AllReady.cons rfl (fun K hK => ?_) ?_
        · rw [if_pos (by rfl)]
          obtain ⟨q, wz1, r4, q4, b4, eq4, sz4⟩ := build_one S.heap.size (S.drew) X
          refine wp_val (exec_build1 rfl rfl r4) (hK _ _ ?_)
          have Hz1 := Lib.hid (Hd.out.go (b4.mono Hd.out.size))
          have Q0 := Lib.hid q4
          have QL := Lib.hid sz4
          clear r4 q4 b4 eq4 sz4
          clear hK K
          (try simp only [Act.put, List.getElem_toArray, List.getElem_cons_succ, List.getElem_cons_zero, List.setIfInBounds_toArray, List.set_cons_zero, List.set_cons_succ])
          refine wpAny_ready (rs := [0]) (by kernel_rfl) (by simp) ?_
          refine AllReady.cons rfl (fun K hK => ?_) ?_
          · rw [if_pos (by rfl)]
            obtain ⟨v1, wz2, r0, t0, b0, ow0, sz0⟩ := build_none S.heap.size wz1 Hz1.out.size
            refine wp_val (exec_none rfl r0) (hK _ _ ?_)
            have Hz2 := Lib.hid (Hz1.out.go (b0.mono Hz1.out.size))
            have R1 := Lib.hid t0
            have O1 := Lib.hid ow0
            have Z1 := Lib.hid sz0
            have Q1 := Lib.hid (Q0.out.call b0)
            have NE : Hid (∀ k, v1.ownBlock = some k → k ≠ q) := Lib.hid (fun k hk => by (have h1 := QL.out; have h2 := O1.out; rw [h2] at hk; cases hk; omega))
            clear Q0 QL
            clear r0 t0 b0 ow0 sz0
            clear hK K
            (try simp only [Act.put, List.getElem_toArray, List.getElem_cons_succ, List.getElem_cons_zero, List.setIfInBounds_toArray, List.set_cons_zero, List.set_cons_succ])
            refine wpAny_ready (rs := [2]) (by kernel_rfl) (by simp) ?_
            refine AllReady.cons rfl (fun K hK => ?_) ?_
            · rw [if_pos (by rfl)]
              obtain ⟨v2, wz3, r2, t2, b2, k2⟩ := trow_all S.heap.size wz2 v1 [] T an cn R1.out Hz2.out.tt Hz2.out.size (by simp; omega)
              refine Lib.wp_append_run _ _ _ _ _ rfl _ _ rfl rfl _ _ r2 (hK _ _ ?_)
              have Hz3 := Lib.hid (Hz2.out.go b2)
              have Q2 := Lib.hid (Q1.out.of_block (k2 q Q1.out.lt (fun e => NE.out _ e rfl)))
              have R4 : Hid (TRow S.heap.size wz3 v2 T) := Lib.hid (by (have := t2; rw [List.nil_append] at this; exact this))
              clear Q1 NE
              clear r2 t2 b2 k2 R1 O1 Z1
              clear hK K
              (try simp only [Act.put, List.getElem_toArray, List.getElem_cons_succ, List.getElem_cons_zero, List.setIfInBounds_toArray, List.set_cons_zero, List.set_cons_succ])
              refine wpAny_ready (rs := [5]) (by kernel_rfl) (by simp) ?_
              refine AllReady.cons rfl (fun K hK => ?_) ?_
              · rw [if_pos (by rfl)]
                obtain ⟨v3, wz4, r5, t5, b5, -⟩ := trow_all S.heap.size wz3 v2 T [X] (some ⟨q, 0, none⟩) 1 R4.out (tk_ts Q2.out) Hz3.out.size (by simp; omega)
                refine Lib.wp_append_run _ _ _ _ _ rfl _ _ rfl rfl _ _ r5 (hK _ _ ?_)
                have Hz4 := Lib.hid (Hz3.out.go b5)
                obtain ⟨a3, c3, rfl, -, ts3⟩ := t5.form
                have LO0 := load_any (T ++ [X]) a3 c3 wz4 ts3 (by simp; omega)
                rw [show (T ++ [X]).length = T.length + 1 by simp] at LO0
                have LO := Lib.hid LO0
                clear LO0
                clear r5 t5 b5 ts3 R4 Q2
                clear hK K
                (try simp only [Act.put, List.getElem_toArray, List.getElem_cons_succ, List.getElem_cons_zero, List.setIfInBounds_toArray, List.set_cons_zero, List.set_cons_succ])
                refine wpAny_ready (rs := [6]) (by kernel_rfl) (by simp) ?_
                refine AllReady.cons rfl (fun K hK => ?_) ?_
                · rw [if_pos (by rfl)]
                  go_simp
                  (with_reducible refine (LO.out).mono ?_)
                  rintro e wz5 ⟨rfl, b6⟩
                  go_simp
                  refine hK _ _ ?_
                  have Hz5 := Lib.hid (Hz4.out.go (b6.mono Hz4.out.size))
                  clear b6 LO
                  clear hK K
                  (try simp only [Act.put, List.getElem_toArray, List.getElem_cons_succ, List.getElem_cons_zero, List.setIfInBounds_toArray, List.set_cons_zero, List.set_cons_succ])
                  refine wpAny_take (i := 7) (v := ?_) rfl (by kernel_rfl) (by kernel_rfl) (by kernel_rfl) (fun _ _ _ h => h) (Or.inl ⟨by rfl, ?_⟩) ?_
                  rotate_left
                  · (intro wS; go_simp; try with_reducible rfl)
                  (try simp only [Act.put, List.getElem_toArray, List.getElem_cons_succ, List.getElem_cons_zero, List.setIfInBounds_toArray, List.set_cons_zero, List.set_cons_succ])
                  refine wpAny_take (i := 8) (v := ?_) rfl (by kernel_rfl) (by kernel_rfl) (by kernel_rfl) (fun _ _ _ h => h) (Or.inl ⟨by rfl, ?_⟩) ?_
                  rotate_left
                  · (intro wS; go_simp; try with_reducible rfl)
                  (try simp only [Act.put, List.getElem_toArray, List.getElem_cons_succ, List.getElem_cons_zero, List.setIfInBounds_toArray, List.set_cons_zero, List.set_cons_succ])
                  refine wpAny_take (i := 11) (v := ?_) rfl (by kernel_rfl) (by kernel_rfl) (by kernel_rfl) (fun _ _ _ h => h) (Or.inl ⟨by rfl, ?_⟩) ?_
                  rotate_left
                  · (intro wS; go_simp; try with_reducible rfl)
                  (try simp only [Act.put, List.getElem_toArray, List.getElem_cons_succ, List.getElem_cons_zero, List.setIfInBounds_toArray, List.set_cons_zero, List.set_cons_succ])
                  refine wpAny_take (i := 9) (v := ?_) rfl (by kernel_rfl) (by kernel_rfl) (by kernel_rfl) (fun _ _ _ h => h) (Or.inl ⟨by rfl, ?_⟩) ?_
                  rotate_left
                  · (intro wS; go_simp; try with_reducible rfl)
                  (try simp only [Act.put, List.getElem_toArray, List.getElem_cons_succ, List.getElem_cons_zero, List.setIfInBounds_toArray, List.set_cons_zero, List.set_cons_succ])
                  refine wpAny_take (i := 12) (v := ?_) rfl (by kernel_rfl) (by kernel_rfl) (by kernel_rfl) (fun _ _ _ h => h) (Or.inl ⟨by rfl, ?_⟩) ?_
                  rotate_left
                  · (intro wS; go_simp; try with_reducible rfl)
                  (try simp only [Act.put, List.getElem_toArray, List.getElem_cons_succ, List.getElem_cons_zero, List.setIfInBounds_toArray, List.set_cons_zero, List.set_cons_succ])
                  refine wpAny_take (i := 10) (v := ?_) rfl (by kernel_rfl) (by kernel_rfl) (by kernel_rfl) (fun _ _ _ h => h) (Or.inl ⟨by rfl, ?_⟩) ?_
                  rotate_left
                  · (intro wS; go_simp; try with_reducible rfl)
                  (try simp only [Act.put, List.getElem_toArray, List.getElem_cons_succ, List.getElem_cons_zero, List.setIfInBounds_toArray, List.set_cons_zero, List.set_cons_succ])
                  refine wpAny_take (i := 13) (v := ?_) rfl (by kernel_rfl) (by kernel_rfl) (by kernel_rfl) (fun _ _ _ h => h) (Or.inl ⟨by rfl, ?_⟩) ?_
                  rotate_left
                  · (intro wS; go_simp; try with_reducible rfl)
                  (try simp only [Act.put, List.getElem_toArray, List.getElem_cons_succ, List.getElem_cons_zero, List.setIfInBounds_toArray, List.set_cons_zero, List.set_cons_succ])
                  refine wpAny_done (by kernel_rfl) ?_ _
                  go_wp2
                  go_meet
                  exact ⟨rfl, rfl, rfl, Hz5.out.xx, Hz5.out.tt, BS.out.trans (Hz5.out.bel.mono BS.out.size)⟩
                exact AllReady.nil
              exact AllReady.nil
            exact AllReady.nil
          exact AllReady.nil
        exact AllReady.nil
      exact AllReady.nil
    case rest =>
      obtain ⟨rfl, rfl, rfl, tx, tt, bw⟩ := hcut
      obtain rfl := HX.out
      have OV := Lib.hid (OVT.out wc tt)
      have BW := Lib.hid bw
      have TX := Lib.hid tx
      obtain ⟨-, x1, -, x3, -⟩ := tx
      try simp only [Nat.zero_add] at x1 x3
      try simp only at AS
      clear OVT tt bw TX2 TT2 BS HX
      generalize loadR (T ++ [⟨0, xc, xd, xt, 1⟩]) = M at *
      generalize loadR T = N at *
      obtain ⟨mn, mp, me⟩ := M
      obtain ⟨nn, np, ne⟩ := N
      try simp only at *
      rcases ES.out with rfl | rfl
      · rcases EM.out with rfl | rfl
        · obtain ⟨A, D, E, G, hask⟩ := AS.out rfl rfl
          obtain ⟨p0, p1, q0, q1, t0, r, d, d1, a, a1, e, e1, g, g1, rfl⟩ := hask
          obtain ⟨d1, d2⟩ := d1
          obtain ⟨a1, a2⟩ := a1
          obtain ⟨e1, e2⟩ := e1
          obtain ⟨g1, g2⟩ := g1
          have pz : ¬ np = 0 := by omega
          have pzb : (np == 0) = false := by simpa using pz
          have tz : ¬ xt = 0 := by omega
          have tzb : (xt == 0) = false := by simpa using tz
          have r' : mp.tmod np = 0 := by rw [Int.tmod_eq_emod_of_nonneg (by omega)]; exact r
          have d' : mp.tdiv np = D := by rw [Int.tdiv_eq_ediv_of_nonneg (by omega)]; exact d
          have e' : mp.tdiv xt = E := by rw [Int.tdiv_eq_ediv_of_nonneg (by omega)]; exact e
          have wD : IntKind.i64.wrap D = D := wrap_in (by omega) (by omega)
          have wE : IntKind.i64.wrap E = E := wrap_in (by omega) (by omega)
          have wA : IntKind.i64.wrap A = A := wrap_in (by omega) (by omega)
          have wG : IntKind.i64.wrap G = G := wrap_in (by omega) (by omega)
          have wS : IntKind.i64.wrap (A + G) = A + G := wrap_in (by omega) (by omega)
          clear AS ES EM
          go_wp2_with fail
          (with_reducible refine (OV.out).mono ?_)
          rintro e5 w5 ⟨rfl, b5⟩
          have BZ := Lib.hid (BW.out.trans (b5.mono BW.out.size))
          have x1 := carry b5 x1
          have x3 := carry b5 x3
          generalize hbo : decide (np < nn) = bo at *
          have bb : (bo == bo) = true := by cases bo <;> rfl
          have HBO := Lib.hid hbo
          clear b5 BW OV TX
          go_wp2_with fail
          go_quiet (fail)
          have BQ := Lib.hid (BZ.out.trans ((below_drewN _ nq).mono BZ.out.size))
          clear BZ
          go_wp2
          go_ret
          refine ⟨?_, BQ.out⟩
          first | rfl | (show Ending.returned (.bool (bo == decide (np < nn))) = _; rw [HBO.out, bb])
        · clear AS ES EM OV TX
          go_wp2
          go_ret
          exact ⟨rfl, BW.out⟩
      · clear AS ES EM OV TX
        go_wp2
        go_ret
        exact ⟨rfl, BW.out⟩

set_option maxRecDepth 100000 in
set_option maxHeartbeats 1600000 in
theorem lifted (os : Os) (started : os.Started) (H : Type) (enc : TypeId × Value → H) :
    ReturnsInHanded {} Try.checked os 6 .any (Rows.paramLoadSpec.pre6 enc Try.prog Try.f6 Rows.paramLoadRow.domain false) (Rows.paramLoadSpec.post enc Try.prog Try.f6 false true false false) := by
  refine returnsInHanded_of_change (C := Try.checked) own started (by kernel_rfl) Try.func6
    (ChangeSpec.witness6 (enc := enc) (C := Try.checked) false ⟨#[], #[.slice none 0 0, .agg #[.int .i64 0, .int .i64 0, .int .i64 0]], []⟩ 8 (by kernel_rfl) (by kernel_rfl) (by kernel_rfl) (by kernel_rfl)) ?_
  intro W base args ds gs before hval0 hW hcnd _
  have hval : ∀ (j : Nat) t v, Try.f6.params[j]? = some t → args[j]? = some v → Value.okWide Try.prog W .any base t v := hval0
  have hW' := hW
  obtain ⟨p, q, hA0, hV, rfl, hfz, hnd⟩ := hW
  have hA : DataW.TrodAll enc Try.prog W 0 (fun _ => true) true Try.f6.params.toList args.toList ds p := hA0
  rw [Try.params6] at hA hval
  obtain ⟨v0, vs0, d0, ds0, p0, q0, hargs, rfl, rfl, h0, r0⟩ := trodAll_cons hA
  obtain ⟨v1, vs1, d1, ds1, p1, q1, rfl, rfl, rfl, h1, r1⟩ := trodAll_cons r0
  obtain ⟨rfl, rfl, rfl⟩ := trodAll_nil r1
  obtain rfl : args = #[v0, v1] := by cases args; simp_all
  obtain ⟨rfl, rfl⟩ := trodVars_none hV
  have lt0 : ∀ x ∈ p0, x.block < W.heap.size := by obtain ⟨m, hm⟩ := h0; exact DataW.trod_lt m _ _ _ hm
  obtain ⟨aol, ll, capl, rfl, lel, val, okl⟩ := open_tris (hval 0 23 v0 rfl rfl) h0
  have lt1 : ∀ x ∈ p1, x.block < W.heap.size := by obtain ⟨m, hm⟩ := h1; exact DataW.trod_lt m _ _ _ hm
  obtain ⟨xx, rfl, okx⟩ := open_tri_v (hval 1 38 v1 rfl rfl) h1
  clear hA0 hval0
  refine (walk ll aol capl xx W val lel okl okx).mono fun e W' ⟨he, bel⟩ => ?_
  subst he
  exact ⟨_, rfl, _, _, _, [], _, [], hW', trodAll_mk1 (shut_bool Try.underlying4 _), (trodAll_cons_mk (Below.trod laidOut (by kernel_rfl) (of_decide_eq_true (by kernel_rfl)) h0 bel lt0) (trodAll_cons_mk (Below.trod laidOut (by kernel_rfl) (of_decide_eq_true (by kernel_rfl)) h1 bel lt1) trodAll_mk0)), rfl, bel.frame _, fun h => by cases h⟩

theorem proved : Rows.ParamLoadSaid :=
  OpenClaim.holds_of_wide 6 Try.f6 rfl rfl rfl rfl rfl rfl rfl ⟨rfl, rfl, rfl, rfl, rfl⟩ rfl rfl rfl rfl rfl (by kernel_rfl) Try.func6 (by kernel_rfl)
    (of_decide_eq_true (by kernel_rfl)) (by unfold Func.isWrapper; first | (rw [if_pos (by decide +kernel)]; kernel_rfl) | (rw [if_neg (by decide +kernel)]; exact ⟨rfl, rfl⟩))
    (fun os started H enc _ => lifted os started H enc)
#print axioms proved
end Go.Proofs.Ytcnfojbncmkdeaa.paramLoad
