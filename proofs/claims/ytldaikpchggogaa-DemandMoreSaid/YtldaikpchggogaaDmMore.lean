/- horariumlaw10.DemandMore answers true at every three numbers, every number and every time: a task with more work, an earlier deadline, or a shorter period asks for at least as much by each time. No condition. -/
import Derived.Test.YtldaikpchggogaaDmK
import Derived.Deep.DeepCutAuto
import Derived.Deep.RegionHeld3
import Derived.BigQuiet
namespace Go.Proofs.Ytldaikpchggogaa.demandMore
open Go.ChangeShapes Go.WideShapes Go.ChangeAt Go.RowKit Go.Joins
set_option maxRecDepth 100000
set_option linter.unusedVariables false
set_option linter.unusedSimpArgs false
open Pm Dm

theorem and_pow (n m : Int) (k : Nat) (hk : k ≤ 62) (hm : (BitVec.ofInt 64 m).toNat = 2 ^ k - 1) : bits .and .i64 n m = n % ((2 ^ k : Nat) : Int) := by
  have key : (BitVec.ofInt 64 n &&& BitVec.ofInt 64 m).toNat = (n % ((2 ^ 64 : Nat) : Int)).toNat % 2 ^ k := by
    rw [BitVec.toNat_and, BitVec.toNat_ofInt, hm, Nat.and_two_pow_sub_one_eq_mod]
  show IntKind.i64.wrap ((BitVec.ofInt 64 n &&& BitVec.ofInt 64 m).toNat : Nat) = n % ((2 ^ k : Nat) : Int)
  rw [key, IntKind.wrap_i64]
  have h2 : 2 ^ k ∣ 2 ^ 64 := Nat.pow_dvd_pow 2 (by omega)
  have h3 : 2 ^ k ≤ 2 ^ 62 := Nat.pow_le_pow_right (by omega) hk
  have h4 : 0 < 2 ^ k := Nat.pow_pos (by omega)
  generalize 2 ^ k = p at *
  have e : n % (p : Int) = (((n % ((2 ^ 64 : Nat) : Int)).toNat % p : Nat) : Int) := by
    rw [Int.natCast_emod, Int.toNat_of_nonneg (Int.emod_nonneg _ (by decide))]
    rw [Int.emod_emod_of_dvd]
    exact Int.natCast_dvd_natCast.2 h2
  rw [e]
  have := Nat.mod_lt (n % ((2 ^ 64 : Nat) : Int)).toNat h4
  omega
theorem tris_one (w : World) (a : Tri) (T : TypeId) : Tris (some ⟨w.heap.size, 0, none⟩) [a] (w.alloc (.cells #[.int .i64 a.a, .int .i64 a.b, .int .i64 a.c] T)) := fun _ => by
  refine ⟨_, _, rfl, by simp, fun i x hi => ?_⟩
  match i, hi with
  | 0, hi => obtain rfl : _ = x := by simpa using hi
             exact ⟨by simp [go_sem], by simp [go_sem], by simp [go_sem]⟩
  | i + 1, hi => simp at hi
theorem made_one (a : Tri) : made8 [a] = [mkT 0 a] := rfl
/-- s asks for as much as t, or more -/
structure Mo (t s : Tk) : Prop where
  hs : chk s = true
  c : t.c ≤ s.c
  d : s.d ≤ t.d
  t : s.t ≤ t.t
theorem more_of {t s : Tk} {k : Int} (ht : chk t = true) (h : Mo t s) (k0 : 0 ≤ k) (k1 : k ≤ 1048575) : oneR t k ≤ oneR s k ∧ ofR [s, t] k = oneR s k + oneR t k := by
  have h1 := chk_iff.1 ht
  have h2 := chk_iff.1 h.hs
  have hk : isTime k = true := isTime_iff.2 ⟨by omega, by omega⟩
  constructor
  · rw [one_yes ht hk, one_yes h.hs hk]
    exact one_more (by omega) (by omega) h.c h.d h.t k
  · rw [ofR_yes (by simp [rowB, ht, h.hs])]
    simp [sumR]
/-- what stands behind the switch: t in its box q, s in p -/
def MoRel (t : Tk) (q p : Nat) (w : World) (v : Value) (wx : World) : Prop := ∃ s : Tk, Mo t s ∧ TkAt q 0 t wx ∧ TkAt p 0 s wx ∧ Below w.heap.size w wx
theorem ten_call {W0 w1 w' : World} {p q : Nat} {s t : Tk} (h : w1.cell? ⟨p, 0, none⟩ = some (.int .i64 s.id) ∧ w1.cell? ⟨p, 1, none⟩ = some (.int .i64 s.c) ∧ w1.cell? ⟨p, 2, none⟩ = some (.int .i64 s.d) ∧ w1.cell? ⟨p, 3, none⟩ = some (.int .i64 s.t) ∧ w1.cell? ⟨p, 4, none⟩ = some (.int .i64 s.m) ∧ w1.cell? ⟨q, 0, none⟩ = some (.int .i64 t.id) ∧ w1.cell? ⟨q, 1, none⟩ = some (.int .i64 t.c) ∧ w1.cell? ⟨q, 2, none⟩ = some (.int .i64 t.d) ∧ w1.cell? ⟨q, 3, none⟩ = some (.int .i64 t.t) ∧ w1.cell? ⟨q, 4, none⟩ = some (.int .i64 t.m) ∧ Below W0.heap.size W0 w1) (hb : Below w1.heap.size w1 w') : w'.cell? ⟨p, 0, none⟩ = some (.int .i64 s.id) ∧ w'.cell? ⟨p, 1, none⟩ = some (.int .i64 s.c) ∧ w'.cell? ⟨p, 2, none⟩ = some (.int .i64 s.d) ∧ w'.cell? ⟨p, 3, none⟩ = some (.int .i64 s.t) ∧ w'.cell? ⟨p, 4, none⟩ = some (.int .i64 s.m) ∧ w'.cell? ⟨q, 0, none⟩ = some (.int .i64 t.id) ∧ w'.cell? ⟨q, 1, none⟩ = some (.int .i64 t.c) ∧ w'.cell? ⟨q, 2, none⟩ = some (.int .i64 t.d) ∧ w'.cell? ⟨q, 3, none⟩ = some (.int .i64 t.t) ∧ w'.cell? ⟨q, 4, none⟩ = some (.int .i64 t.m) ∧ Below W0.heap.size W0 w' := by
  obtain ⟨a0, a1, a2, a3, a4, b0, b1, b2, b3, b4, k⟩ := h
  exact ⟨carry hb a0, carry hb a1, carry hb a2, carry hb a3, carry hb a4, carry hb b0, carry hb b1, carry hb b2, carry hb b3, carry hb b4, k.trans (hb.mono k.size)⟩
theorem ten_drew {W0 w1 : World} {p q : Nat} {s t : Tk} (h : w1.cell? ⟨p, 0, none⟩ = some (.int .i64 s.id) ∧ w1.cell? ⟨p, 1, none⟩ = some (.int .i64 s.c) ∧ w1.cell? ⟨p, 2, none⟩ = some (.int .i64 s.d) ∧ w1.cell? ⟨p, 3, none⟩ = some (.int .i64 s.t) ∧ w1.cell? ⟨p, 4, none⟩ = some (.int .i64 s.m) ∧ w1.cell? ⟨q, 0, none⟩ = some (.int .i64 t.id) ∧ w1.cell? ⟨q, 1, none⟩ = some (.int .i64 t.c) ∧ w1.cell? ⟨q, 2, none⟩ = some (.int .i64 t.d) ∧ w1.cell? ⟨q, 3, none⟩ = some (.int .i64 t.t) ∧ w1.cell? ⟨q, 4, none⟩ = some (.int .i64 t.m) ∧ Below W0.heap.size W0 w1) : w1.drew.cell? ⟨p, 0, none⟩ = some (.int .i64 s.id) ∧ w1.drew.cell? ⟨p, 1, none⟩ = some (.int .i64 s.c) ∧ w1.drew.cell? ⟨p, 2, none⟩ = some (.int .i64 s.d) ∧ w1.drew.cell? ⟨p, 3, none⟩ = some (.int .i64 s.t) ∧ w1.drew.cell? ⟨p, 4, none⟩ = some (.int .i64 s.m) ∧ w1.drew.cell? ⟨q, 0, none⟩ = some (.int .i64 t.id) ∧ w1.drew.cell? ⟨q, 1, none⟩ = some (.int .i64 t.c) ∧ w1.drew.cell? ⟨q, 2, none⟩ = some (.int .i64 t.d) ∧ w1.drew.cell? ⟨q, 3, none⟩ = some (.int .i64 t.t) ∧ w1.drew.cell? ⟨q, 4, none⟩ = some (.int .i64 t.m) ∧ Below W0.heap.size W0 w1.drew := by
  obtain ⟨a0, a1, a2, a3, a4, b0, b1, b2, b3, b4, k⟩ := h
  exact ⟨a0, a1, a2, a3, a4, b0, b1, b2, b3, b4, k.drew⟩
theorem two_ts (w : World) (s t : Tk) (T : TypeId) : Ts (some ⟨w.heap.size, 0, none⟩) [s, t] (w.alloc (.cells #[.int .i64 s.id, .int .i64 s.c, .int .i64 s.d, .int .i64 s.t, .int .i64 s.m, .int .i64 t.id, .int .i64 t.c, .int .i64 t.d, .int .i64 t.t, .int .i64 t.m] T)) := fun _ => by
  refine ⟨_, _, rfl, by simp, fun i x hi => ?_⟩
  match i, hi with
  | 0, hi => obtain rfl : s = x := by simpa using hi
             exact ⟨by simp [go_sem], by simp [go_sem], by simp [go_sem], by simp [go_sem], by simp [go_sem]⟩
  | 1, hi => obtain rfl : t = x := by simpa using hi
             exact ⟨by simp [go_sem], by simp [go_sem], by simp [go_sem], by simp [go_sem], by simp [go_sem]⟩
  | i + 2, hi => simp at hi
set_option maxRecDepth 100000 in
set_option maxHeartbeats 8000000 in
theorem walk (x : Tri) (how k : Int) (w : World) (hx : x.Ok) (hh : I64 how) :
    Calls Try.prog 8 #[.agg #[.int .i64 x.a, .int .i64 x.b, .int .i64 x.c], .int .i64 how, .int .i64 k] w fun e w' => e = .returned (.bool true) ∧ Below w.heap.size w w' := by
  have AW := Lib.hid awake_any
  have MX : Hid (∀ w, Calls Try.prog 12 #[.slice (some ⟨w.heap.size, 0, none⟩) 1 1] (w.alloc (.cells #[.int .i64 x.a, .int .i64 x.b, .int .i64 x.c] 37)) fun e w' => ∃ (xc xd xt : Int) (g cap : Nat), (1 ≤ xc ∧ xc ≤ xd ∧ xd ≤ xt ∧ xt ≤ 24) ∧ e = .returned (.slice (some ⟨g, 0, none⟩) 1 cap) ∧ g < w'.heap.size ∧ TkAt g 0 ⟨0, xc, xd, xt, 1⟩ w' ∧ Below w.heap.size w w') := Lib.hid (fun w => by
    refine (made_any [x] _ 1 _ (tris_one w x _) (by simp) (by simp [hx])).mono fun e w' ⟨v, he, tr, bb⟩ => ?_
    rw [made_one] at tr
    have m0 := mkT_in 0 x
    have bel : Below w.heap.size w w' := ((Below.refl _ _).alloc (Nat.le_refl _) _).trans (bb.mono (by simp))
    rcases tr.2 with ⟨-, h0⟩ | ⟨g, cap, cur, rfl, hB, hg, -⟩
    · simp at h0
    · obtain ⟨ao, cap', hv, -, hts⟩ := tr.form
      cases hv
      obtain ⟨g', off, hgo, hgl, hat⟩ := hts (by simp)
      cases hgo
      exact ⟨_, _, _, g, cap, ⟨m0.2.2.2.2.1, m0.2.2.2.2.2, m0.2.2.2.1, m0.2.1⟩, he, hgl, hat 0 _ rfl, bel⟩)
  have KA := Lib.hid (fun (o : Obj) => (Below.refl w.heap.size w).alloc (Nat.le_refl _) o)
  obtain ⟨K, hk, k0, k1⟩ : ∃ K, bits .and .i64 k 1048575 = K ∧ 0 ≤ K ∧ K ≤ 1048575 := ⟨_, and_pow k 1048575 20 (by decide) (by decide), by omega, by omega⟩
  obtain ⟨r1, p1, q1⟩ := rest_eq (x := how) (m := 3) (by omega)
  have m1 := Int.emod_nonneg how (show (3 : Int) ≠ 0 by omega)
  have m2 := Int.emod_lt_of_pos how (show (0 : Int) < 3 by omega)
  generalize hR : how % 3 = R at *
  clear hR hh hx
  obtain ⟨xa, xb0, xc0⟩ := x
  simp only at MX ⊢
  go_enter Try.func8, Try.ntmps8
  go_wp2_with fail
  (with_reducible refine (AW.out _).mono ?_)
  rintro e w1 ⟨rfl, b1⟩
  have K1 := Lib.hid ((KA.out _).trans (b1.mono (by simp)))
  have a0 := carry b1 (p := ⟨w.heap.size, 0, none⟩) (v := .int .i64 xa) (by simp [go_sem])
  have a1 := carry b1 (p := ⟨w.heap.size, 1, none⟩) (v := .int .i64 xb0) (by simp [go_sem])
  have a2 := carry b1 (p := ⟨w.heap.size, 2, none⟩) (v := .int .i64 xc0) (by simp [go_sem])
  clear b1 AW KA
  go_wp2_with fail
  (with_reducible refine (MX.out _).mono ?_)
  rintro e w3 ⟨xc, xd, xt, g, cp, hx, rfl, hg, tx, b3⟩
  have K3 := Lib.hid (K1.out.trans (b3.mono K1.out.size))
  have x0 := tx.c0
  have x1 := tx.c1
  have x2 := tx.c2
  have x3 := tx.c3
  have x4 := tx.c4
  simp only [Nat.zero_add, Nat.reduceAdd] at x0 x1 x2 x3 x4
  clear a0 a1 a2 MX b3 tx K1
  obtain ⟨hx1, hx2, hx3, hx4⟩ := hx
  go_upto_block 0 with (fail)
  go_cut [24] (MoRel ⟨0, xc, xd, xt, 1⟩ w3.heap.size (w3.heap.size + 1) w)
  case first =>
    rcases (show R = 0 ∨ R = 1 ∨ R = 2 by omega) with rfl | rfl | rfl
    · clear m1 m2
      by_cases hh : xc < xd
      · go_wp2_with fail
        go_meet
        exact ⟨⟨0, xc + 1, xd, xt, 1⟩, ⟨by rw [chk_iff]; simp only; omega, by simp only; omega, by simp only; omega, by simp only; omega⟩, ⟨by simp [go_sem], by simp [go_sem], by simp [go_sem], by simp [go_sem], by simp [go_sem]⟩, ⟨by simp [go_sem], by simp [go_sem], by simp [go_sem], by simp [go_sem], by simp [go_sem]⟩, by repeat (first | exact K3.out | refine Below.setCell ?_ (by have := K3.out.size; first | omega | (simp; done) | (simp; omega)) _ | refine Below.alloc ?_ (by have := K3.out.size; first | omega | (simp; done) | (simp; omega)) _)⟩
      · have hh2 : xd ≤ xc := by omega
        clear hh
        go_wp2_with fail
        go_meet
        exact ⟨⟨0, xc, xd, xt, 1⟩, ⟨by rw [chk_iff]; simp only; omega, by simp only; omega, by simp only; omega, by simp only; omega⟩, ⟨by simp [go_sem], by simp [go_sem], by simp [go_sem], by simp [go_sem], by simp [go_sem]⟩, ⟨by simp [go_sem], by simp [go_sem], by simp [go_sem], by simp [go_sem], by simp [go_sem]⟩, by repeat (first | exact K3.out | refine Below.setCell ?_ (by have := K3.out.size; first | omega | (simp; done) | (simp; omega)) _ | refine Below.alloc ?_ (by have := K3.out.size; first | omega | (simp; done) | (simp; omega)) _)⟩
    · clear m1 m2
      by_cases hh : xc < xd
      · go_wp2_with fail
        go_meet
        exact ⟨⟨0, xc, xd - 1, xt, 1⟩, ⟨by rw [chk_iff]; simp only; omega, by simp only; omega, by simp only; omega, by simp only; omega⟩, ⟨by simp [go_sem], by simp [go_sem], by simp [go_sem], by simp [go_sem], by simp [go_sem]⟩, ⟨by simp [go_sem], by simp [go_sem], by simp [go_sem], by simp [go_sem], by simp [go_sem]⟩, by repeat (first | exact K3.out | refine Below.setCell ?_ (by have := K3.out.size; first | omega | (simp; done) | (simp; omega)) _ | refine Below.alloc ?_ (by have := K3.out.size; first | omega | (simp; done) | (simp; omega)) _)⟩
      · have hh2 : xd ≤ xc := by omega
        clear hh
        go_wp2_with fail
        go_meet
        exact ⟨⟨0, xc, xd, xt, 1⟩, ⟨by rw [chk_iff]; simp only; omega, by simp only; omega, by simp only; omega, by simp only; omega⟩, ⟨by simp [go_sem], by simp [go_sem], by simp [go_sem], by simp [go_sem], by simp [go_sem]⟩, ⟨by simp [go_sem], by simp [go_sem], by simp [go_sem], by simp [go_sem], by simp [go_sem]⟩, by repeat (first | exact K3.out | refine Below.setCell ?_ (by have := K3.out.size; first | omega | (simp; done) | (simp; omega)) _ | refine Below.alloc ?_ (by have := K3.out.size; first | omega | (simp; done) | (simp; omega)) _)⟩
    · clear m1 m2
      by_cases hh : xd < xt
      · go_wp2_with fail
        go_meet
        exact ⟨⟨0, xc, xd, xt - 1, 1⟩, ⟨by rw [chk_iff]; simp only; omega, by simp only; omega, by simp only; omega, by simp only; omega⟩, ⟨by simp [go_sem], by simp [go_sem], by simp [go_sem], by simp [go_sem], by simp [go_sem]⟩, ⟨by simp [go_sem], by simp [go_sem], by simp [go_sem], by simp [go_sem], by simp [go_sem]⟩, by repeat (first | exact K3.out | refine Below.setCell ?_ (by have := K3.out.size; first | omega | (simp; done) | (simp; omega)) _ | refine Below.alloc ?_ (by have := K3.out.size; first | omega | (simp; done) | (simp; omega)) _)⟩
      · have hh2 : xt ≤ xd := by omega
        clear hh
        go_wp2_with fail
        go_meet
        exact ⟨⟨0, xc, xd, xt, 1⟩, ⟨by rw [chk_iff]; simp only; omega, by simp only; omega, by simp only; omega, by simp only; omega⟩, ⟨by simp [go_sem], by simp [go_sem], by simp [go_sem], by simp [go_sem], by simp [go_sem]⟩, ⟨by simp [go_sem], by simp [go_sem], by simp [go_sem], by simp [go_sem], by simp [go_sem]⟩, by repeat (first | exact K3.out | refine Below.setCell ?_ (by have := K3.out.size; first | omega | (simp; done) | (simp; omega)) _ | refine Below.alloc ?_ (by have := K3.out.size; first | omega | (simp; done) | (simp; omega)) _)⟩
  case rest =>
    obtain ⟨s, mo, hq, hp, hB⟩ := hcut
    have hct : chk ⟨0, xc, xd, xt, 1⟩ = true := by rw [chk_iff]; simp only; omega
    obtain ⟨le, sm⟩ := more_of hct mo k0 k1
    have OS := Lib.hid (one_any s K)
    have OT := Lib.hid (one_any ⟨0, xc, xd, xt, 1⟩ K)
    have OF : Hid (∀ W, Calls Try.prog 14 #[.slice (some ⟨W.heap.size, 0, none⟩) 2 2, .int .i64 K] (W.alloc (.cells #[.int .i64 s.id, .int .i64 s.c, .int .i64 s.d, .int .i64 s.t, .int .i64 s.m, .int .i64 0, .int .i64 xc, .int .i64 xd, .int .i64 xt, .int .i64 1] 30)) fun e w' => e = .returned (.int .i64 (oneR s K + oneR ⟨0, xc, xd, xt, 1⟩ K)) ∧ Below W.heap.size W w') := Lib.hid (fun W => by
      refine (of_any [s, ⟨0, xc, xd, xt, 1⟩] _ 2 K _ (two_ts W s ⟨0, xc, xd, xt, 1⟩ 30) (by simp)).mono fun e w' ⟨he, hb⟩ => ?_
      rw [sm] at he
      exact ⟨he, ((Below.refl _ _).alloc (Nat.le_refl _) _).trans (hb.mono (by simp))⟩)
    have ha := oneR_le s K
    have hb := oneR_le ⟨0, xc, xd, xt, 1⟩ K
    clear sm mo hct K3 x0 x1 x2 x3 x4 hg
    generalize oneR s K = A at *
    generalize oneR ⟨0, xc, xd, xt, 1⟩ K = B at *
    obtain ⟨ha0, ha1⟩ := ha
    obtain ⟨hb0, hb1⟩ := hb
    generalize w3.heap.size + 1 = p at *
    generalize w3.heap.size = q at *
    obtain ⟨si, sc, sd, st, sm⟩ := s
    unfold Tk.v at OS OT
    simp only at OS OT OF
    have F0 : Hid (wc.cell? ⟨p, 0, none⟩ = some (.int .i64 si) ∧ wc.cell? ⟨p, 1, none⟩ = some (.int .i64 sc) ∧ wc.cell? ⟨p, 2, none⟩ = some (.int .i64 sd) ∧ wc.cell? ⟨p, 3, none⟩ = some (.int .i64 st) ∧ wc.cell? ⟨p, 4, none⟩ = some (.int .i64 sm) ∧ wc.cell? ⟨q, 0, none⟩ = some (.int .i64 0) ∧ wc.cell? ⟨q, 1, none⟩ = some (.int .i64 xc) ∧ wc.cell? ⟨q, 2, none⟩ = some (.int .i64 xd) ∧ wc.cell? ⟨q, 3, none⟩ = some (.int .i64 xt) ∧ wc.cell? ⟨q, 4, none⟩ = some (.int .i64 1) ∧ Below w.heap.size w wc) := Lib.hid ⟨hp.c0, by simpa using hp.c1, by simpa using hp.c2, by simpa using hp.c3, by simpa using hp.c4, hq.c0, by simpa using hq.c1, by simpa using hq.c2, by simpa using hq.c3, by simpa using hq.c4, hB⟩
    have F1 := Lib.hid (ten_drew (p := p) (q := q) (s := ⟨si, sc, sd, st, sm⟩) (t := ⟨0, xc, xd, xt, 1⟩) F0.out)
    have TC : Hid (∀ w1 w' : World, (w1.cell? ⟨p, 0, none⟩ = some (.int .i64 si) ∧ w1.cell? ⟨p, 1, none⟩ = some (.int .i64 sc) ∧ w1.cell? ⟨p, 2, none⟩ = some (.int .i64 sd) ∧ w1.cell? ⟨p, 3, none⟩ = some (.int .i64 st) ∧ w1.cell? ⟨p, 4, none⟩ = some (.int .i64 sm) ∧ w1.cell? ⟨q, 0, none⟩ = some (.int .i64 0) ∧ w1.cell? ⟨q, 1, none⟩ = some (.int .i64 xc) ∧ w1.cell? ⟨q, 2, none⟩ = some (.int .i64 xd) ∧ w1.cell? ⟨q, 3, none⟩ = some (.int .i64 xt) ∧ w1.cell? ⟨q, 4, none⟩ = some (.int .i64 1) ∧ Below w.heap.size w w1) → Below w1.heap.size w1 w' → (w'.cell? ⟨p, 0, none⟩ = some (.int .i64 si) ∧ w'.cell? ⟨p, 1, none⟩ = some (.int .i64 sc) ∧ w'.cell? ⟨p, 2, none⟩ = some (.int .i64 sd) ∧ w'.cell? ⟨p, 3, none⟩ = some (.int .i64 st) ∧ w'.cell? ⟨p, 4, none⟩ = some (.int .i64 sm) ∧ w'.cell? ⟨q, 0, none⟩ = some (.int .i64 0) ∧ w'.cell? ⟨q, 1, none⟩ = some (.int .i64 xc) ∧ w'.cell? ⟨q, 2, none⟩ = some (.int .i64 xd) ∧ w'.cell? ⟨q, 3, none⟩ = some (.int .i64 xt) ∧ w'.cell? ⟨q, 4, none⟩ = some (.int .i64 1) ∧ Below w.heap.size w w')) := Lib.hid (fun w1 w' h hb => ten_call (p := p) (q := q) (s := ⟨si, sc, sd, st, sm⟩) (t := ⟨0, xc, xd, xt, 1⟩) h hb)
    have ge1 : decide (B ≤ A) = true := decide_eq_true le
    have ww : IntKind.i64.wrap (A + B) = A + B := wrap_in (by omega) (by omega)
    obtain ⟨c0, c1, c2, c3, c4, d0, d1, d2, d3, d4, -⟩ := F0.out
    clear hp hq hB
    go_wp2_with fail
    go_region_held3 (fun w' => w'.cell? ⟨p, 0, none⟩ = some (.int .i64 si) ∧ w'.cell? ⟨p, 1, none⟩ = some (.int .i64 sc) ∧ w'.cell? ⟨p, 2, none⟩ = some (.int .i64 sd) ∧ w'.cell? ⟨p, 3, none⟩ = some (.int .i64 st) ∧ w'.cell? ⟨p, 4, none⟩ = some (.int .i64 sm) ∧ w'.cell? ⟨q, 0, none⟩ = some (.int .i64 0) ∧ w'.cell? ⟨q, 1, none⟩ = some (.int .i64 xc) ∧ w'.cell? ⟨q, 2, none⟩ = some (.int .i64 xd) ∧ w'.cell? ⟨q, 3, none⟩ = some (.int .i64 xt) ∧ w'.cell? ⟨q, 4, none⟩ = some (.int .i64 1) ∧ Below w.heap.size w w') (first | exact F0.out | exact F1.out | assumption | exact TC.out _ _ f5 ((Below.refl _ _).alloc (Nat.le_refl _) _)) (first
      | (go_at_call 17; (with_reducible refine (OS.out _).mono ?_); rintro e w4 ⟨rfl, b4⟩; (have f4 := (by first | exact TC.out _ _ F1.out b4 | exact TC.out _ _ F0.out b4 : w4.cell? ⟨p, 0, none⟩ = some (.int .i64 si) ∧ w4.cell? ⟨p, 1, none⟩ = some (.int .i64 sc) ∧ w4.cell? ⟨p, 2, none⟩ = some (.int .i64 sd) ∧ w4.cell? ⟨p, 3, none⟩ = some (.int .i64 st) ∧ w4.cell? ⟨p, 4, none⟩ = some (.int .i64 sm) ∧ w4.cell? ⟨q, 0, none⟩ = some (.int .i64 0) ∧ w4.cell? ⟨q, 1, none⟩ = some (.int .i64 xc) ∧ w4.cell? ⟨q, 2, none⟩ = some (.int .i64 xd) ∧ w4.cell? ⟨q, 3, none⟩ = some (.int .i64 xt) ∧ w4.cell? ⟨q, 4, none⟩ = some (.int .i64 1) ∧ Below w.heap.size w w4)))
      | (go_at_call 17; (with_reducible refine (OT.out _).mono ?_); rintro e w5 ⟨rfl, b5⟩; (have f5 := TC.out _ _ f4 b5))
      | (go_at_call 14; (with_reducible refine (OF.out _).mono ?_); rintro e w6 ⟨rfl, b6⟩; (have f6 := TC.out _ _ f5 b6))
      | (go_at_call 17; (with_reducible refine (OS.out _).mono ?_); rintro e w7 ⟨rfl, b7⟩; (have f7 := TC.out _ _ f6 b7))
      | (go_at_call 17; (with_reducible refine (OT.out _).mono ?_); rintro e w8 ⟨rfl, b8⟩; (have f8 := TC.out _ _ f7 b8))
      | fail)
    all_goals
      have BK := Lib.hid f8.2.2.2.2.2.2.2.2.2.2
      clear f4 f5 f6 f7 f8 F0 F1 TC
      go_wp2
      go_ret
      exact ⟨rfl, BK.out⟩

set_option maxRecDepth 100000 in
set_option maxHeartbeats 1600000 in
theorem lifted (os : Os) (started : os.Started) (H : Type) (enc : TypeId × Value → H) :
    ReturnsInHanded {} Try.checked os 8 .any (Rows.demandMoreSpec.pre6 enc Try.prog Try.f8 Rows.demandMoreRow.domain false) (Rows.demandMoreSpec.post enc Try.prog Try.f8 false true false false) := by
  refine returnsInHanded_of_change (C := Try.checked) own started (by kernel_rfl) Try.func8
    (ChangeSpec.witness6 (enc := enc) (C := Try.checked) false ⟨#[], #[.agg #[.int .i64 0, .int .i64 0, .int .i64 0], .int .i64 0, .int .i64 0], []⟩ 8 (by kernel_rfl) (by kernel_rfl) (by kernel_rfl) (by kernel_rfl)) ?_
  intro W base args ds gs before hval0 hW hcnd _
  have hval : ∀ (j : Nat) t v, Try.f8.params[j]? = some t → args[j]? = some v → Value.okWide Try.prog W .any base t v := hval0
  have hW' := hW
  obtain ⟨p, q, hA0, hV, rfl, hfz, hnd⟩ := hW
  have hA : DataW.TrodAll enc Try.prog W 0 (fun _ => true) true Try.f8.params.toList args.toList ds p := hA0
  rw [Try.params8] at hA hval
  obtain ⟨v0, vs0, d0, ds0, p0, q0, hargs, rfl, rfl, h0, r0⟩ := trodAll_cons hA
  obtain ⟨v1, vs1, d1, ds1, p1, q1, rfl, rfl, rfl, h1, r1⟩ := trodAll_cons r0
  obtain ⟨v2, vs2, d2, ds2, p2, q2, rfl, rfl, rfl, h2, r2⟩ := trodAll_cons r1
  obtain ⟨rfl, rfl, rfl⟩ := trodAll_nil r2
  obtain rfl : args = #[v0, v1, v2] := by cases args; simp_all
  obtain ⟨rfl, rfl⟩ := trodVars_none hV
  have lt0 : ∀ x ∈ p0, x.block < W.heap.size := by obtain ⟨m, hm⟩ := h0; exact DataW.trod_lt m _ _ _ hm
  obtain ⟨xx, rfl, okx⟩ := open_tri_v (hval 0 37 v0 rfl rfl) h0
  have lt1 : ∀ x ∈ p1, x.block < W.heap.size := by obtain ⟨m, hm⟩ := h1; exact DataW.trod_lt m _ _ _ hm
  obtain ⟨n, e1, -, -, wfn⟩ := open_int Try.underlying3 (hval 1 3 v1 rfl rfl) h1
  subst e1
  have lt2 : ∀ x ∈ p2, x.block < W.heap.size := by obtain ⟨m, hm⟩ := h2; exact DataW.trod_lt m _ _ _ hm
  obtain ⟨k, e2, -, -, wfk⟩ := open_int Try.underlying2 (hval 2 2 v2 rfl rfl) h2
  subst e2
  clear hA0 hval0
  refine (walk xx n k W okx (i64_wf wfn)).mono fun e W' ⟨he, bel⟩ => ?_
  subst he
  exact ⟨_, rfl, _, _, _, [], _, [], hW', trodAll_mk1 (shut_bool Try.underlying4 _), (trodAll_cons_mk (Below.trod laidOut (by kernel_rfl) (of_decide_eq_true (by kernel_rfl)) h0 bel lt0) (trodAll_cons_mk (Below.trod laidOut (by kernel_rfl) (of_decide_eq_true (by kernel_rfl)) h1 bel lt1) (trodAll_cons_mk (Below.trod laidOut (by kernel_rfl) (of_decide_eq_true (by kernel_rfl)) h2 bel lt2) trodAll_mk0))), rfl, bel.frame _, fun h => by cases h⟩

theorem proved : Rows.DemandMoreSaid :=
  OpenClaim.holds_of_wide 8 Try.f8 rfl rfl rfl rfl rfl rfl rfl ⟨rfl, rfl, rfl, rfl, rfl⟩ rfl rfl rfl rfl rfl (by kernel_rfl) Try.func8 (by kernel_rfl)
    (of_decide_eq_true (by kernel_rfl)) (by unfold Func.isWrapper; first | (rw [if_pos (by decide +kernel)]; kernel_rfl) | (rw [if_neg (by decide +kernel)]; exact ⟨rfl, rfl⟩))
    (fun os started H enc _ => lifted os started H enc)
#print axioms proved
end Go.Proofs.Ytldaikpchggogaa.demandMore
