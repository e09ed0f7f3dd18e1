/- horariumlaw17.GuardOrder answers true at every row of numbers: what is known is told by rising numbers, each once. No condition. -/
import Derived.Test.YtcmgdllofkgaoaaGdK
namespace Go.Proofs.Ytcmgdllofkgaoaa.guardOrder
open Go.ChangeShapes Go.WideShapes Go.ChangeAt Go.RowKit Go.Joins
set_option maxRecDepth 100000
set_option linter.unusedVariables false
set_option linter.unusedSimpArgs false
open Gd
/-- i numbers were told -/
def OrRel (n : Nat) (w : World) (B g : Nat) (m : Nat) (s5 s6 : Value) (wr : World) : Prop :=
  ∃ (i : Nat) (mo : Option Nat) (L : List Kn), i + m = n ∧ s5 = .int .i64 (L.length : Int) ∧ s6 = .int .i64 (i : Int) ∧ Gm B wr g mo L ∧ L.length ≤ i ∧ Below B w wr ∧ ∀ k ∈ L, 100 ≤ k.next
def OjRel (n : Nat) (W : World) (m : Nat) (s12 : Value) (wr : World) : Prop := ∃ j : Nat, j + m = n ∧ s12 = .int .i64 ((j : Int) + 1) ∧ Qt W wr
theorem ids_adj {L : List Kn} (h : Rise L) {k : Nat} {x y : Int} (hx : (ids L)[k]? = some x) (hy : (ids L)[k + 1]? = some y) : x < y := by
  have hp : (ids L).Pairwise (· < ·) := List.pairwise_map.2 h
  obtain ⟨h1, rfl⟩ := List.getElem?_eq_some_iff.1 hx
  obtain ⟨h2, rfl⟩ := List.getElem?_eq_some_iff.1 hy
  exact List.pairwise_iff_getElem.1 hp k (k + 1) h1 h2 (by omega)

set_option maxRecDepth 100000 in
set_option maxHeartbeats 16000000 in
theorem walk (l : List Int) (lo : Option Addr) (lc : Nat) (w : World) (hl : l.length ≤ 9223372036854775807) (hL : Ns lo l w) : Calls Try.prog 6 #[.slice lo l.length lc] w fun e w' => e = .returned (.bool true) ∧ Below w.heap.size w w' := by
  have AW := Lib.hid awake_any
  have NW := Lib.hid new_any
  have RE := Lib.hid (fun g mo L i p n hi hL W h hB => release_any w.heap.size g mo L i p n hi hL W h hB)
  have LA := Lib.hid (fun g mo L i hi W h => last_any w.heap.size g mo L i hi W h)
  have ID := Lib.hid (fun g mo L hL W h => ids_any w.heap.size g mo L hL W h)
  have LE := Lib.hid (fun g mo L W h => len_any w.heap.size g mo L W h)
  have NS := Lib.hid hL
  clear hL
  go_enter Try.func6, Try.ntmps6
  go_wp2_with fail
  (with_reducible refine (AW.out _).mono ?_)
  rintro e w1 ⟨rfl, b1⟩
  have B1 := Lib.hid b1
  clear b1 AW
  go_wp2_with fail
  (with_reducible refine (NW.out _).mono ?_)
  rintro e w2 ⟨rfl, rfl⟩
  have H0 := Lib.hid (gm_new w1)
  have B2 : Hid (Below w.heap.size w (w1.alloc (.cells #[.map none] 47))) := Lib.hid (B1.out.alloc B1.out.size _)
  have hB0 : w.heap.size ≤ w1.heap.size := B1.out.size
  generalize w1.alloc (.cells #[.map none] 47) = W1 at *
  have H1 := Lib.hid (H0.out.mono hB0)
  generalize w1.heap.size = g at *
  clear H0 B1 NW hB0
  go_wp2_with fail
  go_loopg [5, 6] (min l.length 30) (OrRel (min l.length 30) w w.heap.size g)
  case atStart => exact ⟨0, none, [], by omega, rfl, rfl, H1.out, by simp, B2.out, by simp⟩
  case round =>
    obtain ⟨i, mo, L, hi, rfl, rfl, hgm, hLl, hb, hkn⟩ := hrel
    have HG := Lib.hid hgm
    have HB := Lib.hid hb
    clear H1 B2 hgm hb
    by_cases hlt : i < l.length ∧ i < 30
    · obtain ⟨hl1, hl2⟩ := hlt
      obtain ⟨gl, off, rfl, hg, hat⟩ := (NS.out.below HB.out (Nat.le_refl _)) (by omega)
      obtain ⟨x, hx⟩ : ∃ x, l[i]? = some x := ⟨_, List.getElem?_eq_getElem hl1⟩
      have cx := hat i x hx
      have hil : (i : Int) < (l.length : Int) := by omega
      have hi30 : (i : Int) < 30 := by omega
      have hiw : IntKind.i64.wrap (i : Int) = (i : Int) := IntWalk.i64_in _ (by omega)
      have hi1w : IntKind.i64.wrap ((i : Int) + 1) = (i : Int) + 1 := IntWalk.i64_in _ (by omega)
      obtain ⟨u, hu, u0, u1⟩ : ∃ u, bits .and .i64 x 63 = u ∧ 0 ≤ u ∧ u ≤ 63 := ⟨_, and_pow x 63 6 (by decide) (by decide), by omega, by omega⟩
      have huw : IntKind.i64.wrap u = u := IntWalk.i64_in _ (by omega)
      have wu : -9223372036854775808 ≤ u ∧ u ≤ 9223372036854775807 := by omega
      have hm : may 100 (i : Int) = true := decide_eq_true (by omega)
      have HI := Lib.hid hi
      have hg0 : 0 < gk := by omega
      have HM := Lib.hid hm
      have HKN := Lib.hid hkn
      clear hat hx hi u0 u1 hm hkn
      go_wp2_with fail
      (with_reducible refine (LA.out g mo L u wu _ HG.out).mono ?_)
      rintro e w3 ⟨rfl, b3⟩
      have H3 := Lib.hid (HG.out.call b3)
      have B3 := Lib.hid (HB.out.trans (b3.mono HB.out.size))
      clear b3 HG HB
      go_wp2_with fail
      (with_reducible refine (RE.out g mo L u 100 (i : Int) wu (by omega) _ H3.out B3.out.size).mono ?_)
      rintro e w4 ⟨rfl, mo4, h4, m4, -⟩
      have B4 := Lib.hid (m4.gm H3.out B3.out)
      cases hin : isIn L u with
      | true =>
        have hnx : 100 ≤ nextOf L u := by
          unfold isIn at hin
          unfold nextOf
          cases hk : lookK L u with
          | none => rw [hk] at hin; cases hin
          | some k => exact HKN.out k (look_mem hk).1
        have eA : relA L u 100 (i : Int) = 19 := by unfold relA; rw [HM.out, if_pos (show (i : Int) < nextOf L u by omega)]; rfl
        have eL : relL L u 100 (i : Int) = L := by unfold relL; rw [HM.out, if_pos (show (i : Int) < nextOf L u by omega)]; rfl
        rw [eL] at h4
        rw [eA]
        have H4 := Lib.hid h4
        obtain ⟨c, hc⟩ : ∃ c, L.length = c + 1 := ⟨L.length - 1, by
          have : L.length ≠ 0 := fun e => by rw [List.eq_nil_of_length_eq_zero e] at hin; cases hin
          omega⟩
        have HK := Lib.hid HKN.out
        obtain ⟨L3, hL3⟩ : ∃ L3, L3 = L := ⟨_, rfl⟩
        rw [← hL3] at H4 HK hc hLl
        rw [← hL3]
        rw [hc]
        have hc31 : c + 1 ≤ 30 := by omega
        clear h4 m4 eA eL hnx hL3 H3 B3 HM HKN
        go_wp2_with fail
        (with_reducible refine (ID.out g mo4 L3 (by omega) _ H4.out).mono ?_)
        rintro e w5 ⟨v, rfl, rv, b5⟩
        have H5 := Lib.hid (H4.out.call b5)
        have B5 := Lib.hid (B4.out.trans (b5.mono B4.out.size))
        obtain ⟨ao, cap, rfl, -, hns⟩ := rv.form
        have NV := Lib.hid hns
        have hidl : (ids L3).length = c + 1 := by rw [ids_len]; exact hc
        rw [hidl]
        clear rv b5 hns H4 B4
        go_wp2_with fail
        (with_reducible refine (LE.out g mo4 L3 _ H5.out).mono ?_)
        rintro e w6 ⟨rfl, rfl⟩
        rw [hc]
        have ecc : (((c + 1 : Nat) : Int) != ((c : Int) + 1)) = false := by simp
        have ecd : (((c : Int) + 1) != ((c : Int) + 1)) = false := by simp
        go_wp2_with fail
        have HC := Lib.hid hc
        have HID := Lib.hid hidl
        clear hc hidl
        go_loopg [12] c (OjRel c w6)
        case atStart => exact ⟨0, by omega, rfl, Qt.refl _⟩
        case round =>
          obtain ⟨j, hj, rfl, hq⟩ := hrel
          have Q := Lib.hid hq
          by_cases hji : j < c
          · obtain ⟨y, hy⟩ : ∃ y, (ids L3)[j]? = some y := ⟨_, List.getElem?_eq_getElem (by rw [HID.out]; omega)⟩
            obtain ⟨z, hz⟩ : ∃ z, (ids L3)[j + 1]? = some z := ⟨_, List.getElem?_eq_getElem (by rw [HID.out]; omega)⟩
            have hyz := ids_adj H5.out.rise hy hz
            obtain ⟨g1, o1, rfl, -, hat⟩ := (NV.out.call (hq.below _)) (by rw [HID.out]; omega)
            have cy := hat j y hy
            have cz := hat (j + 1) z hz
            have hj1 : (j : Int) + 1 < (c : Int) + 1 := by omega
            have hj2 : (j : Int) < (c : Int) + 1 := by omega
            have hj3 : (0 : Int) ≤ (j : Int) := by omega
            have hj4 : (0 : Int) ≤ (j : Int) + 1 := by omega
            have hjw : IntKind.i64.wrap (j : Int) = (j : Int) := IntWalk.i64_in _ (by omega)
            have hjw1 : IntKind.i64.wrap ((j : Int) + 1) = (j : Int) + 1 := IntWalk.i64_in _ (by omega)
            have hjw2 : IntKind.i64.wrap ((j : Int) + 1 + 1) = (j : Int) + 1 + 1 := IntWalk.i64_in _ (by omega)
            have hjw3 : IntKind.i64.wrap ((j : Int) + 1 - 1) = (j : Int) := by rw [IntWalk.i64_in _ (by omega)]; omega
            have hdz : decide (z ≤ y) = false := decide_eq_false (by omega)
            have HJ := Lib.hid hj
            have hgj : 0 < gk := by omega
            clear hat hy hz hq hj hyz
            go_wp2_with fail
            go_quiet (fail)
            have Q2 := Lib.hid (qt_drewN Q.out nq)
            go_wp2
            go_roundg (gk - 1)
            case measure => omega
            case rel => exact ⟨j + 1, by have := HJ.out; omega, by go_num, Q2.out⟩
          · have e : j = c := by omega
            subst e
            have hge : (j : Int) + 1 ≤ (j : Int) + 1 := by omega
            have hdec : decide ((j : Int) + 1 < (j : Int) + 1) = false := decide_eq_false (by omega)
            have H7 := Lib.hid (H5.out.call (hq.below _))
            have B7 := Lib.hid (B5.out.trans ((hq.below _).mono B5.out.size))
            clear hq Q H5 B5 NV hj hji
            go_wp2
            go_roundg (min l.length 30 - (i + 1))
            case measure => have := HI.out; omega
            case rel => exact ⟨i + 1, mo4, L3, by have := HI.out; omega, by rw [HC.out]; rfl, by go_num, H7.out, by have := HC.out; omega, B7.out, HK.out⟩
      | false =>
        have hnx : nextOf L u = 0 := by
          unfold isIn at hin
          unfold nextOf
          cases hk : lookK L u with
          | none => rfl
          | some k => rw [hk] at hin; cases hin
        have eA : relA L u 100 (i : Int) = 0 := by unfold relA; rw [HM.out, hnx, if_neg (show ¬ (i : Int) < 0 by omega)]; rfl
        obtain ⟨L3, hL3⟩ : ∃ L3, L3 = put L ⟨u, i, i + 100⟩ := ⟨_, rfl⟩
        have eL : relL L u 100 (i : Int) = L3 := by unfold relL; rw [HM.out, hnx, if_neg (show ¬ (i : Int) < 0 by omega), hL3]; rfl
        rw [eL] at h4
        rw [eA]
        have H4 := Lib.hid h4
        have hc : L3.length = L.length + 1 := by rw [hL3, put_length H3.out.rise]; simp [hin]
        obtain ⟨c, hcl⟩ : ∃ c, L.length = c := ⟨_, rfl⟩
        rw [hcl] at hc
        rw [hcl]
        have HK : Hid (∀ k ∈ L3, 100 ≤ k.next) := Lib.hid (fun k hk => by
          rw [hL3] at hk
          rcases mem_ins.1 hk with rfl | hk
          · show (100 : Int) ≤ (i : Int) + 100
            omega
          · exact HKN.out k (mem_cut.1 hk).1)
        have hc31 : c + 1 ≤ 30 := by omega
        have hcw : IntKind.i64.wrap ((c : Int) + 1) = (c : Int) + 1 := IntWalk.i64_in _ (by omega)
        clear h4 m4 eA eL hnx hL3 H3 B3 HM HKN
        go_wp2_with fail
        (with_reducible refine (ID.out g mo4 L3 (by omega) _ H4.out).mono ?_)
        rintro e w5 ⟨v, rfl, rv, b5⟩
        have H5 := Lib.hid (H4.out.call b5)
        have B5 := Lib.hid (B4.out.trans (b5.mono B4.out.size))
        obtain ⟨ao, cap, rfl, -, hns⟩ := rv.form
        have NV := Lib.hid hns
        have hidl : (ids L3).length = c + 1 := by rw [ids_len]; exact hc
        rw [hidl]
        clear rv b5 hns H4 B4
        go_wp2_with fail
        (with_reducible refine (LE.out g mo4 L3 _ H5.out).mono ?_)
        rintro e w6 ⟨rfl, rfl⟩
        rw [hc]
        have ecc : (((c + 1 : Nat) : Int) != ((c : Int) + 1)) = false := by simp
        have ecd : (((c : Int) + 1) != ((c : Int) + 1)) = false := by simp
        go_wp2_with fail
        have HC := Lib.hid hc
        have HID := Lib.hid hidl
        clear hc hidl
        go_loopg [12] c (OjRel c w6)
        case atStart => exact ⟨0, by omega, rfl, Qt.refl _⟩
        case round =>
          obtain ⟨j, hj, rfl, hq⟩ := hrel
          have Q := Lib.hid hq
          by_cases hji : j < c
          · obtain ⟨y, hy⟩ : ∃ y, (ids L3)[j]? = some y := ⟨_, List.getElem?_eq_getElem (by rw [HID.out]; omega)⟩
            obtain ⟨z, hz⟩ : ∃ z, (ids L3)[j + 1]? = some z := ⟨_, List.getElem?_eq_getElem (by rw [HID.out]; omega)⟩
            have hyz := ids_adj H5.out.rise hy hz
            obtain ⟨g1, o1, rfl, -, hat⟩ := (NV.out.call (hq.below _)) (by rw [HID.out]; omega)
            have cy := hat j y hy
            have cz := hat (j + 1) z hz
            have hj1 : (j : Int) + 1 < (c : Int) + 1 := by omega
            have hj2 : (j : Int) < (c : Int) + 1 := by omega
            have hj3 : (0 : Int) ≤ (j : Int) := by omega
            have hj4 : (0 : Int) ≤ (j : Int) + 1 := by omega
            have hjw : IntKind.i64.wrap (j : Int) = (j : Int) := IntWalk.i64_in _ (by omega)
            have hjw1 : IntKind.i64.wrap ((j : Int) + 1) = (j : Int) + 1 := IntWalk.i64_in _ (by omega)
            have hjw2 : IntKind.i64.wrap ((j : Int) + 1 + 1) = (j : Int) + 1 + 1 := IntWalk.i64_in _ (by omega)
            have hjw3 : IntKind.i64.wrap ((j : Int) + 1 - 1) = (j : Int) := by rw [IntWalk.i64_in _ (by omega)]; omega
            have hdz : decide (z ≤ y) = false := decide_eq_false (by omega)
            have HJ := Lib.hid hj
            have hgj : 0 < gk := by omega
            clear hat hy hz hq hj hyz
            go_wp2_with fail
            go_quiet (fail)
            have Q2 := Lib.hid (qt_drewN Q.out nq)
            go_wp2
            go_roundg (gk - 1)
            case measure => omega
            case rel => exact ⟨j + 1, by have := HJ.out; omega, by go_num, Q2.out⟩
          · have e : j = c := by omega
            subst e
            have hge : (j : Int) + 1 ≤ (j : Int) + 1 := by omega
            have hdec : decide ((j : Int) + 1 < (j : Int) + 1) = false := decide_eq_false (by omega)
            have H7 := Lib.hid (H5.out.call (hq.below _))
            have B7 := Lib.hid (B5.out.trans ((hq.below _).mono B5.out.size))
            clear hq Q H5 B5 NV hj hji
            go_wp2
            go_roundg (min l.length 30 - (i + 1))
            case measure => have := HI.out; omega
            case rel => exact ⟨i + 1, mo4, L3, by have := HI.out; omega, by rw [HC.out]; rfl, by go_num, H7.out, by have := HC.out; omega, B7.out, HK.out⟩
    · have FN := Lib.hid (HB.out)
      clear HG HB
      rcases Nat.lt_or_ge i l.length with h1 | h1
      · have h2 : (30 : Int) ≤ (i : Int) := by omega
        have h3 : (i : Int) < (l.length : Int) := by omega
        clear hlt hi
        go_wp2
        go_ret
        exact ⟨rfl, FN.out⟩
      · have h3 : (l.length : Int) ≤ (i : Int) := by omega
        have hdec : decide (i < l.length) = false := decide_eq_false (by omega)
        clear hlt hi
        go_wp2
        go_ret
        exact ⟨rfl, FN.out⟩

set_option maxRecDepth 100000 in
set_option maxHeartbeats 1600000 in
theorem lifted (os : Os) (started : os.Started) (H : Type) (enc : TypeId × Value → H) :
    ReturnsInHanded {} Try.checked os 6 .any (Rows.guardOrderSpec.pre6 enc Try.prog Try.f6 Rows.guardOrderRow.domain false) (Rows.guardOrderSpec.post enc Try.prog Try.f6 false true false false) := by
  refine returnsInHanded_of_change (C := Try.checked) own started (by kernel_rfl) Try.func6
    (ChangeSpec.witness6 (enc := enc) (C := Try.checked) false ⟨#[], #[.slice none 0 0], []⟩ 8 (by kernel_rfl) (by kernel_rfl) (by kernel_rfl) (by kernel_rfl)) ?_
  intro W base args ds gs before hval0 hW hcnd _
  have hval : ∀ (j : Nat) t v, Try.f6.params[j]? = some t → args[j]? = some v → Value.okWide Try.prog W .any base t v := hval0
  have hW' := hW
  obtain ⟨p, q, hA0, hV, rfl, hfz, hnd⟩ := hW
  have hA : DataW.TrodAll enc Try.prog W 0 (fun _ => true) true Try.f6.params.toList args.toList ds p := hA0
  rw [Try.params6] at hA hval
  obtain ⟨v0, vs0, d0, ds0, p0, q0, hargs, rfl, rfl, h0, r0⟩ := trodAll_cons hA
  obtain ⟨rfl, rfl, rfl⟩ := trodAll_nil r0
  obtain rfl : args = #[v0] := by cases args; simp_all
  obtain ⟨rfl, rfl⟩ := trodVars_none hV
  have lt0 : ∀ x ∈ p0, x.block < W.heap.size := by obtain ⟨m, hm⟩ := h0; exact DataW.trod_lt m _ _ _ hm
  obtain ⟨lo, l, lc, rfl, ll, ls⟩ := open_nums (hval 0 38 v0 rfl rfl) h0
  clear hA0 hval0
  refine (walk l lo lc W ll ls).mono fun e W' ⟨he, bel⟩ => ?_
  subst he
  exact ⟨_, rfl, _, _, _, [], _, [], hW', trodAll_mk1 (shut_bool Try.underlying4 _), (trodAll_cons_mk (Below.trod laidOut (by kernel_rfl) (of_decide_eq_true (by kernel_rfl)) h0 bel lt0) trodAll_mk0), rfl, bel.frame _, fun h => by cases h⟩

theorem proved : Rows.GuardOrderSaid :=
  OpenClaim.holds_of_wide 6 Try.f6 rfl rfl rfl rfl rfl rfl rfl ⟨rfl, rfl, rfl, rfl, rfl⟩ rfl rfl rfl rfl rfl (by kernel_rfl) Try.func6 (by kernel_rfl)
    (of_decide_eq_true (by kernel_rfl)) (by unfold Func.isWrapper; first | (rw [if_pos (by decide +kernel)]; kernel_rfl) | (rw [if_neg (by decide +kernel)]; exact ⟨rfl, rfl⟩))
    (fun os started H enc _ => lifted os started H enc)
#print axioms proved
end Go.Proofs.Ytcmgdllofkgaoaa.guardOrder
