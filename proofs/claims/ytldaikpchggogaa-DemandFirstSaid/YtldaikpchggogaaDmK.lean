/- The statements' functions few, made, awake of layer 10. -/
import Derived.Test.YtldaikpchggogaaDmR
import Derived.Test.YtldaikpchggogaaPmN
namespace Go.Proofs.Ytldaikpchggogaa.Dm
open Go.ChangeShapes Go.WideShapes Go.ChangeAt Go.RowKit Go.Joins
open Pm
set_option maxRecDepth 100000
set_option maxRecDepth 100000
set_option linter.unusedVariables false
set_option linter.unusedSimpArgs false
def made8 (l : List Tri) : List Tk := madeN l (min l.length 8)
theorem made8_len (l : List Tri) : (made8 l).length = min l.length 8 := madeN_len l _
theorem made8_get {l : List Tri} {i : Nat} {t : Tk} (h : (made8 l)[i]? = some t) : ∃ x : Tri, t = mkT i x := by
  unfold made8 madeN at h
  obtain ⟨hi, rfl⟩ := List.getElem?_eq_some_iff.1 h
  exact ⟨l.getD i default, by simp⟩
theorem made8_mem {l : List Tri} {t : Tk} (h : t ∈ made8 l) : chk t = true ∧ t.t ≤ 24 := by
  obtain ⟨i, hi⟩ := List.mem_iff_getElem?.1 h
  have hlen := made8_len l
  have hi2 := (List.getElem?_eq_some_iff.1 hi).1
  obtain ⟨x, rfl⟩ := made8_get hi
  exact ⟨mkT_chk (by omega) x, (mkT_in i x).2.1⟩
theorem made8_row (l : List Tri) : rowB (made8 l) = true := rowB_yes (by have := made8_len l; omega) (fun t ht => (made8_mem ht).1)
theorem few_any (l : List Tk) (ao : Option Addr) (cap : Nat) (w : World) (hl : l.length ≤ 9223372036854775807) (hc : l.length ≤ cap) :
    Calls Try.prog 11 #[.slice ao l.length cap] w fun e w' => e = .returned (.slice ao (l.take 5).length cap) ∧ w' = w := by
  by_cases h : 5 < l.length
  · have e : (l.take 5).length = 5 := by rw [List.length_take]; omega
    rw [e]
    have h1 : (5 : Int) < (l.length : Int) := by omega
    have hc2 : 5 ≤ cap := by omega
    have sl : (Instr.sliceAt 22 (.slice ao l.length cap) none (some (.int .i64 5)) none).run Try.prog w = .ok (.slice ao 5 cap) w := by
      rw [run_sliceAt_slice w _ _ _ _ _ (by kernel_rfl), run_slice_h w _ _ _ _ (by kernel_rfl) _ _ (by omega) (by omega)]
      have e : (sizeOf (Try.prog.elem 22)).run Try.prog w = .ok 5 w := by kernel_rfl
      rw [e]
      simp only [Result.andThen, sliced]
      have : ao.map (fun x => x.add (0 * 5)) = ao := by cases ao <;> simp [Addr.add]
      rw [this]
      simp
    clear e h
    go_enter Try.func11, Try.ntmps11
    go_wp2
    go_ret
    exact ⟨rfl, rfl⟩
  · rw [List.take_of_length_le (by omega)]
    have h1 : (l.length : Int) ≤ 5 := by omega
    clear h
    go_enter Try.func11, Try.ntmps11
    go_wp2
    go_ret
    exact ⟨rfl, rfl⟩
def MaRel (l : List Tri) (w : World) (g : Nat) (s t : Value) (wx : World) : Prop :=
  ∃ (i : Nat) (v : Value), i + g = min l.length 8 ∧ t = .int .i64 (i : Int) ∧ v = s ∧ TRow w.heap.size wx v (madeN l i) ∧ Below w.heap.size w wx
set_option maxHeartbeats 4000000 in
theorem made_any (l : List Tri) (ao : Option Addr) (cap : Nat) (w : World) (hT : Tris ao l w) (hl : l.length ≤ 9223372036854775807) (hok : ∀ x ∈ l, x.Ok) :
    Calls Try.prog 12 #[.slice ao l.length cap] w fun e w' => ∃ v, e = .returned v ∧ TRow w.heap.size w' v (made8 l) ∧ Below w.heap.size w w' := by
  have T := Lib.hid hT
  have OK := Lib.hid hok
  clear hT hok
  go_enter Try.func12, Try.ntmps12
  go_wp2_with fail
  go_loopg [3, 4] (min l.length 8) (MaRel l w)
  case atStart => exact ⟨0, _, by omega, rfl, rfl, trow_nil _ _, Below.refl _ _⟩
  case round =>
    obtain ⟨i, v0, hi, rfl, rfl, hr, hB⟩ := hrel
    have TQ := T.out.below hB (Nat.le_refl _)
    by_cases hlt : i < l.length ∧ i < 8
    · obtain ⟨h1, h2⟩ := hlt
      obtain ⟨b, off, rfl, hb, hat⟩ := TQ (by omega)
      have hx := hat i l[i] (List.getElem?_eq_getElem h1)
      have hxo := OK.out _ (List.getElem_mem h1)
      have AP := trow_append w.heap.size wr _ _ (mkT i l[i]) hr hB.size (by rw [madeN_len]; omega)
      rw [← madeN_succ h1] at AP
      have HI := Lib.hid hi
      have KB := Lib.hid hB
      have hg0 : 0 < gk := by omega
      clear hi hat TQ hB hr
      generalize hNX : madeN l (i + 1) = NX at *
      have HN := Lib.hid hNX
      clear hNX
      generalize l[i] = x at *
      obtain ⟨c0, c1, c2⟩ := hx
      obtain ⟨xa, xb, xc⟩ := x
      obtain ⟨oa, ob, oc⟩ := hxo
      unfold I64 at oa ob oc
      unfold mkT at AP
      simp only at *
      obtain ⟨r1, p1, q1⟩ := rest_eq (x := xc) (m := 24) (by omega)
      have m1 := Int.emod_nonneg xc (show (24 : Int) ≠ 0 by omega)
      have m2 := Int.emod_lt_of_pos xc (show (0 : Int) < 24 by omega)
      generalize hR : xc % 24 = R at *
      obtain ⟨r2, p2, q2⟩ := rest_eq (x := xb) (m := 1 + R) (by omega)
      have m3 := Int.emod_nonneg xb (show 1 + R ≠ 0 by omega)
      have m4 := Int.emod_lt_of_pos xb (show 0 < 1 + R by omega)
      generalize hQ : xb % (1 + R) = Q at *
      obtain ⟨r3, p3, q3⟩ := rest_eq (x := xa) (m := 1 + Q) (by omega)
      have m5 := Int.emod_nonneg xa (show 1 + Q ≠ 0 by omega)
      have m6 := Int.emod_lt_of_pos xa (show 0 < 1 + Q by omega)
      generalize hS : xa % (1 + Q) = S at *
      clear hR hQ hS
      obtain ⟨v', w', hap, hrow, hbw⟩ := AP
      have HRW := Lib.hid hrow
      have HBW := Lib.hid hbw
      clear hrow hbw
      have i1 : (i : Int) < (l.length : Int) := by omega
      have i2 : (i : Int) < 8 := by omega
      go_wp2_with (at_builtin; refine Lib.wpList_append_run _ rfl _ _ _ _ rfl _ _ rfl rfl _ _ hap ?_)
      go_roundg (gk - 1)
      case measure => omega
      case rel => exact ⟨i + 1, _, by have := HI.out; omega, by go_num, rfl, by rw [HN.out]; exact HRW.out, KB.out.trans (HBW.out)⟩
    · have hge : (l.length : Int) ≤ (i : Int) ∨ ((i : Int) < (l.length : Int) ∧ (8 : Int) ≤ (i : Int)) := by omega
      have e : i = min l.length 8 := by omega
      have RW : Hid (TRow w.heap.size wr v0 (made8 l)) := Lib.hid (by unfold made8; rw [← e]; exact hr)
      have K2 := Lib.hid hB
      clear hB TQ hi hlt e hr
      rcases hge with hge | ⟨hge1, hge2⟩
      · go_wp2
        go_ret
        exact ⟨_, rfl, RW.out, K2.out⟩
      · go_wp2
        go_ret
        exact ⟨_, rfl, RW.out, K2.out⟩
/-- the chapter's example -/
def exT : Tk := ⟨1, 1, 2, 3, 1⟩
theorem exT_of : ofR [exT] 2 = 1 ∧ ofR [exT] 4 = 1 ∧ ofR [exT] 5 = 2 := by decide
theorem exT_ts (w : World) (T : TypeId) : Ts (some ⟨w.heap.size, 0, none⟩) [exT] (w.alloc (.cells #[.int .i64 1, .int .i64 1, .int .i64 2, .int .i64 3, .int .i64 1] T)) := fun _ => by
  refine ⟨_, _, rfl, by simp, fun i x hi => ?_⟩
  match i, hi with
  | 0, hi => obtain rfl : _ = x := by simpa using hi
             exact ⟨by simp [go_sem, exT], by simp [go_sem, exT], by simp [go_sem, exT], by simp [go_sem, exT], by simp [go_sem, exT]⟩
  | i + 1, hi => simp at hi
theorem awake_any (w : World) :
    Calls Try.prog 9 #[] w fun e w' => e = .returned (.bool true) ∧ Below w.heap.size w w' := by
  have TS := Lib.hid (exT_ts w 30)
  have KA := Lib.hid ((Below.refl w.heap.size w).alloc (Nat.le_refl _) (.cells #[.int .i64 1, .int .i64 1, .int .i64 2, .int .i64 3, .int .i64 1] 30))
  have OF := fun x r (e : ofR [exT] x = r) => Lib.hid (fun W (h : Ts (some ⟨w.heap.size, 0, none⟩) [exT] W) => (of_any [exT] (some ⟨w.heap.size, 0, none⟩) 1 x W h (by decide)).mono fun e' w' hh => (⟨hh.1.trans (by rw [e]), hh.2⟩ : e' = .returned (.int .i64 r) ∧ Below W.heap.size W w'))
  have O2 := OF 2 1 exT_of.1
  have O4 := OF 4 1 exT_of.2.1
  have O5 := OF 5 2 exT_of.2.2
  clear OF
  simp only [List.length_singleton] at O2 O4 O5
  go_enter Try.func9, Try.ntmps9
  go_wp2_with fail
  (with_reducible refine (O2.out _ TS.out).mono ?_)
  rintro e w1 ⟨rfl, b1⟩
  have T1 := Lib.hid (TS.out.call b1)
  have K1 := Lib.hid (KA.out.trans (b1.mono KA.out.size))
  clear b1 TS KA O2
  go_wp2_with fail
  (with_reducible refine (O4.out _ T1.out).mono ?_)
  rintro e w2 ⟨rfl, b2⟩
  have T2 := Lib.hid (T1.out.call b2)
  have K2 := Lib.hid (K1.out.trans (b2.mono K1.out.size))
  clear b2 T1 K1 O4
  go_wp2_with fail
  (with_reducible refine (O5.out _ T2.out).mono ?_)
  rintro e w3 ⟨rfl, b3⟩
  have K3 := Lib.hid (K2.out.trans (b3.mono K2.out.size))
  go_wp2
  go_ret
  exact ⟨rfl, K3.out⟩
end Go.Proofs.Ytldaikpchggogaa.Dm
