/- horariumlaw17.GuardApart answers true at every two rows of numbers: releases that are let are at least a period apart; one that is that far is let. No condition. -/
import Derived.Test.YtcmgdllofkgaoaaGdK
namespace Go.Proofs.Ytcmgdllofkgaoaa.guardApart
open Go.ChangeShapes Go.WideShapes Go.ChangeAt Go.RowKit Go.Joins
set_option maxRecDepth 100000
set_option linter.unusedVariables false
set_option linter.unusedSimpArgs false
open Gd
/-- i slots were tried -/
def ApRel (n : Nat) (w : World) (B g : Nat) (m : Nat) (s7 s8 s9 s10 : Value) (wr : World) : Prop :=
  ∃ (i : Nat) (mo : Option Nat) (L : List Kn) (now last next : Int), i + m = n ∧ s7 = .int .i64 now ∧ s8 = .int .i64 last ∧ s9 = .int .i64 next ∧ s10 = .int .i64 (i : Int) ∧ Gm B wr g mo L ∧ L.length ≤ i ∧ Below B w wr ∧
    0 ≤ now ∧ now ≤ 31 * (i : Int) ∧ next ≤ 31 * (i : Int) + 16 ∧ 0 ≤ next ∧ nextOf L 7 = next ∧ ((isIn L 7 = true ∧ lastOf L 7 = last) ∨ (isIn L 7 = false ∧ next = 0))

set_option maxRecDepth 100000 in
set_option maxHeartbeats 16000000 in
theorem walk (l q : List Int) (lo qo : Option Addr) (lc qc : Nat) (w : World) (hl : l.length ≤ 9223372036854775807) (hL : Ns lo l w) (hq : q.length ≤ 9223372036854775807) (hQ : Ns qo q w) : Calls Try.prog 4 #[.slice lo l.length lc, .slice qo q.length qc] w fun e w' => e = .returned (.bool true) ∧ Below w.heap.size w w' := by
  have AW := Lib.hid awake_any
  have NW := Lib.hid new_any
  have RE := Lib.hid (fun g mo L i p n hi hL W h hB => release_any w.heap.size g mo L i p n hi hL W h hB)
  have NE := Lib.hid (fun g mo L i hi W h => next_any w.heap.size g mo L i hi W h)
  have LA := Lib.hid (fun g mo L i hi W h => last_any w.heap.size g mo L i hi W h)
  have NS := Lib.hid hL
  have NQ := Lib.hid hQ
  clear hL hQ
  go_enter Try.func4, Try.ntmps4
  go_wp2_with fail
  (with_reducible refine (AW.out _).mono ?_)
  rintro e w1 ⟨rfl, b1⟩
  have B1 := Lib.hid b1
  clear b1 AW
  go_wp2_with fail
  (with_reducible refine (NW.out _).mono ?_)
  rintro e w2 ⟨rfl, rfl⟩
  have H0 := Lib.hid (gm_new w1)
  have B2 : Hid (Below w.heap.size w (w1.alloc (.cells #[.map none] 47))) := Lib.hid (B1.out.alloc B1.out.size _)
  have hB0 : w.heap.size ≤ w1.heap.size := B1.out.size
  generalize w1.alloc (.cells #[.map none] 47) = W1 at *
  have H1 := Lib.hid (H0.out.mono hB0)
  generalize w1.heap.size = g at *
  clear H0 B1 NW hB0
  go_wp2_with fail
  go_loopg [7, 8, 9, 10] (min (min l.length q.length) 40) (ApRel (min (min l.length q.length) 40) w w.heap.size g)
  case atStart => exact ⟨0, none, [], 0, -1, 0, by omega, rfl, rfl, rfl, rfl, H1.out, by simp, B2.out, by omega, by omega, by omega, by omega, rfl, .inr ⟨rfl, rfl⟩⟩
  case round =>
    obtain ⟨i, mo, L, now, last, next, hi, rfl, rfl, rfl, rfl, hgm, hLl, hb, n0, n1, x1, x0, hnx, hls⟩ := hrel
    have HG := Lib.hid hgm
    have HB := Lib.hid hb
    clear H1 B2 hgm hb
    by_cases hlt : i < l.length ∧ i < q.length ∧ i < 40
    · obtain ⟨hl1, hl2, hl3⟩ := hlt
      obtain ⟨gl, off, rfl, hg, hat⟩ := (NS.out.below HB.out (Nat.le_refl _)) (by omega)
      obtain ⟨gq, offq, rfl, hgq, hatq⟩ := (NQ.out.below HB.out (Nat.le_refl _)) (by omega)
      obtain ⟨x, hx⟩ : ∃ x, l[i]? = some x := ⟨_, List.getElem?_eq_getElem hl1⟩
      obtain ⟨y, hy⟩ : ∃ y, q[i]? = some y := ⟨_, List.getElem?_eq_getElem hl2⟩
      have cx := hat i x hx
      have cy := hatq i y hy
      have hil : (i : Int) < (l.length : Int) := by omega
      have hiq : (i : Int) < (q.length : Int) := by omega
      have hi40 : (i : Int) < 40 := by omega
      have hi1w : IntKind.i64.wrap ((i : Int) + 1) = (i : Int) + 1 := IntWalk.i64_in _ (by omega)
      obtain ⟨u, hu, u0, u1⟩ : ∃ u, bits .and .i64 x 31 = u ∧ 0 ≤ u ∧ u ≤ 31 := ⟨_, and_pow x 31 5 (by decide) (by decide), by omega, by omega⟩
      obtain ⟨v, hv, v0, v1⟩ : ∃ v, bits .and .i64 y 15 = v ∧ 0 ≤ v ∧ v ≤ 15 := ⟨_, and_pow y 15 4 (by decide) (by decide), by omega, by omega⟩
      obtain ⟨N, hN⟩ : ∃ N, N = now + u := ⟨_, rfl⟩
      obtain ⟨p, hp⟩ : ∃ p, p = 1 + v := ⟨_, rfl⟩
      have huw : IntKind.i64.wrap u = u := IntWalk.i64_in _ (by omega)
      have hvw : IntKind.i64.wrap v = v := IntWalk.i64_in _ (by omega)
      have hNw : IntKind.i64.wrap (now + u) = N := by rw [hN]; exact IntWalk.i64_in _ (by omega)
      have hpw : IntKind.i64.wrap (1 + v) = p := by rw [hp]; exact IntWalk.i64_in _ (by omega)
      have hNp : IntKind.i64.wrap (N + p) = N + p := IntWalk.i64_in _ (by omega)
      have hm : may p N = true := decide_eq_true (by omega)
      have b0 : 0 ≤ N := by omega
      have b1 : N ≤ 31 * (i : Int) + 31 := by omega
      have p0 : 1 ≤ p := by omega
      have p1 : p ≤ 16 := by omega
      have HI := Lib.hid hi
      have hg0 : 0 < gk := by omega
      have HX := Lib.hid hnx
      have HLS := Lib.hid hls
      clear hat hatq hx hy hi hN hp n0 n1 u0 u1 v0 v1 hnx hls
      go_wp2_with fail
      (with_reducible refine (RE.out g mo L 7 p N (by omega) (by omega) _ HG.out HB.out.size).mono ?_)
      rintro e w3 ⟨rfl, mo3, h3, m3, -⟩
      have B3 := Lib.hid (m3.gm HG.out HB.out)
      clear m3
      by_cases hnl : N < next
      · have eA : relA L 7 p N = 19 := by unfold relA; rw [hm, HX.out, if_pos hnl]; rfl
        have eL : relL L 7 p N = L := by unfold relL; rw [hm, HX.out, if_pos hnl]; rfl
        rw [eL] at h3
        rw [eA]
        obtain ⟨hin, hla⟩ : isIn L 7 = true ∧ lastOf L 7 = last := by
          rcases HLS.out with h | ⟨-, h⟩
          · exact h
          · omega
        have H3 := Lib.hid h3
        have hle : ¬ next ≤ N := by omega
        clear h3 eA eL hm HG HB
        go_wp2_with fail
        (with_reducible refine (LA.out g mo3 L 7 (by omega) _ H3.out).mono ?_)
        rintro e w4 ⟨rfl, b4⟩
        have H4 := Lib.hid (H3.out.call b4)
        have B4 := Lib.hid (B3.out.trans (b4.mono B3.out.size))
        rw [hin, hla]
        have ell : (last != last) = false := by simp
        have enn : (next != next) = false := by simp
        clear b4 H3 B3
        go_wp2_with fail
        (with_reducible refine (NE.out g mo3 L 7 (by omega) _ H4.out).mono ?_)
        rintro e w5 ⟨rfl, b5⟩
        have H5 := Lib.hid (H4.out.call b5)
        have B5 := Lib.hid (B4.out.trans (b5.mono B4.out.size))
        rw [HX.out]
        clear b5 H4 B4
        go_wp2
        go_roundg (gk - 1)
        case measure => omega
        case rel => exact ⟨i + 1, mo3, L, N, last, next, by have := HI.out; omega, rfl, rfl, rfl, by go_num, H5.out, by omega, B5.out, b0, by omega, by omega, x0, HX.out, HLS.out⟩
      · have eA : relA L 7 p N = 0 := by unfold relA; rw [hm, HX.out, if_neg hnl]; rfl
        obtain ⟨L3, hL3⟩ : ∃ L3, L3 = put L ⟨7, N, N + p⟩ := ⟨_, rfl⟩
        have eL : relL L 7 p N = L3 := by unfold relL; rw [hm, HX.out, if_neg hnl, hL3]; rfl
        rw [eL] at h3
        rw [eA]
        have hlk : lookK L3 7 = some ⟨7, N, N + p⟩ := by rw [hL3, look_put]; rfl
        have hin : isIn L3 7 = true := by unfold isIn; rw [hlk]; rfl
        have hla : lastOf L3 7 = N := by unfold lastOf; rw [hlk]
        have hne : nextOf L3 7 = N + p := by unfold nextOf; rw [hlk]
        have hl3 : L3.length ≤ i + 1 := by rw [hL3]; have := put_len L ⟨7, N, N + p⟩; omega
        have H3 := Lib.hid h3
        have hle : next ≤ N := by omega
        clear h3 eA eL hm HG HB hlk hL3
        go_wp2_with fail
        (with_reducible refine (LA.out g mo3 L3 7 (by omega) _ H3.out).mono ?_)
        rintro e w4 ⟨rfl, b4⟩
        have H4 := Lib.hid (H3.out.call b4)
        have B4 := Lib.hid (B3.out.trans (b4.mono B3.out.size))
        have F3 := Lib.hid (And.intro hne (And.intro hin hla))
        rw [hin, hla]
        have ell : (N != N) = false := by simp
        have enn : (N + p != N + p) = false := by simp
        clear b4 H3 B3 hin hla
        go_wp2_with fail
        (with_reducible refine (NE.out g mo3 L3 7 (by omega) _ H4.out).mono ?_)
        rintro e w5 ⟨rfl, b5⟩
        have H5 := Lib.hid (H4.out.call b5)
        have B5 := Lib.hid (B4.out.trans (b5.mono B4.out.size))
        rw [hne]
        clear b5 H4 B4
        go_wp2
        go_roundg (gk - 1)
        case measure => omega
        case rel => exact ⟨i + 1, mo3, L3, N, N, N + p, by have := HI.out; omega, rfl, rfl, rfl, by go_num, H5.out, by omega, B5.out, b0, by omega, by omega, by omega, F3.out.1, .inl F3.out.2⟩
    · by_cases h1 : i < l.length
      · have hil : (i : Int) < (l.length : Int) := by omega
        by_cases h2 : i < q.length
        · have hiq : (i : Int) < (q.length : Int) := by omega
          have hi40 : ¬ (i : Int) < 40 := by omega
          have hdec : decide (i < 40) = false := decide_eq_false (by omega)
          clear hlt
          go_wp2
          go_ret
          exact ⟨rfl, HB.out⟩
        · have hge : (q.length : Int) ≤ (i : Int) := by omega
          have hdec : decide (i < q.length) = false := decide_eq_false (by omega)
          clear hlt
          go_wp2
          go_ret
          exact ⟨rfl, HB.out⟩
      · have hge : (l.length : Int) ≤ (i : Int) := by omega
        have hdec : decide (i < l.length) = false := decide_eq_false (by omega)
        clear hlt
        go_wp2
        go_ret
        exact ⟨rfl, HB.out⟩

set_option maxRecDepth 100000 in
set_option maxHeartbeats 1600000 in
theorem lifted (os : Os) (started : os.Started) (H : Type) (enc : TypeId × Value → H) :
    ReturnsInHanded {} Try.checked os 4 .any (Rows.guardApartSpec.pre6 enc Try.prog Try.f4 Rows.guardApartRow.domain false) (Rows.guardApartSpec.post enc Try.prog Try.f4 false true false false) := by
  refine returnsInHanded_of_change (C := Try.checked) own started (by kernel_rfl) Try.func4
    (ChangeSpec.witness6 (enc := enc) (C := Try.checked) false ⟨#[], #[.slice none 0 0, .slice none 0 0], []⟩ 8 (by kernel_rfl) (by kernel_rfl) (by kernel_rfl) (by kernel_rfl)) ?_
  intro W base args ds gs before hval0 hW hcnd _
  have hval : ∀ (j : Nat) t v, Try.f4.params[j]? = some t → args[j]? = some v → Value.okWide Try.prog W .any base t v := hval0
  have hW' := hW
  obtain ⟨p, q, hA0, hV, rfl, hfz, hnd⟩ := hW
  have hA : DataW.TrodAll enc Try.prog W 0 (fun _ => true) true Try.f4.params.toList args.toList ds p := hA0
  rw [Try.params4] at hA hval
  obtain ⟨v0, vs0, d0, ds0, p0, q0, hargs, rfl, rfl, h0, r0⟩ := trodAll_cons hA
  obtain ⟨v1, vs1, d1, ds1, p1, q1, rfl, rfl, rfl, h1, r1⟩ := trodAll_cons r0
  obtain ⟨rfl, rfl, rfl⟩ := trodAll_nil r1
  obtain rfl : args = #[v0, v1] := by cases args; simp_all
  obtain ⟨rfl, rfl⟩ := trodVars_none hV
  have lt0 : ∀ x ∈ p0, x.block < W.heap.size := by obtain ⟨m, hm⟩ := h0; exact DataW.trod_lt m _ _ _ hm
  obtain ⟨lo, l, lc, rfl, ll, ls⟩ := open_nums (hval 0 38 v0 rfl rfl) h0
  have lt1 : ∀ x ∈ p1, x.block < W.heap.size := by obtain ⟨m, hm⟩ := h1; exact DataW.trod_lt m _ _ _ hm
  obtain ⟨qo, q, qc, rfl, ql, qs⟩ := open_nums (hval 1 38 v1 rfl rfl) h1
  clear hA0 hval0
  refine (walk l q lo qo lc qc W ll ls ql qs).mono fun e W' ⟨he, bel⟩ => ?_
  subst he
  exact ⟨_, rfl, _, _, _, [], _, [], hW', trodAll_mk1 (shut_bool Try.underlying4 _), (trodAll_cons_mk (Below.trod laidOut (by kernel_rfl) (of_decide_eq_true (by kernel_rfl)) h0 bel lt0) (trodAll_cons_mk (Below.trod laidOut (by kernel_rfl) (of_decide_eq_true (by kernel_rfl)) h1 bel lt1) trodAll_mk0)), rfl, bel.frame _, fun h => by cases h⟩

theorem proved : Rows.GuardApartSaid :=
  OpenClaim.holds_of_wide 4 Try.f4 rfl rfl rfl rfl rfl rfl rfl ⟨rfl, rfl, rfl, rfl, rfl⟩ rfl rfl rfl rfl rfl (by kernel_rfl) Try.func4 (by kernel_rfl)
    (of_decide_eq_true (by kernel_rfl)) (by unfold Func.isWrapper; first | (rw [if_pos (by decide +kernel)]; kernel_rfl) | (rw [if_neg (by decide +kernel)]; exact ⟨rfl, rfl⟩))
    (fun os started H enc _ => lifted os started H enc)
#print axioms proved
end Go.Proofs.Ytcmgdllofkgaoaa.guardApart
