/- The statements' functions few, made, awake of layer 9. -/
import Derived.Test.YtcnfojbncmkdeaaPmM
namespace Go.Proofs.Ytcnfojbncmkdeaa.Pm
open Go.ChangeShapes Go.WideShapes Go.ChangeAt Go.RowKit Go.Joins
set_option maxRecDepth 100000
set_option maxRecDepth 100000
set_option linter.unusedVariables false
set_option linter.unusedSimpArgs false
/-- a task by numbers -/
def mkT (i : Nat) (x : Tri) : Tk := ⟨(i : Int), 1 + x.a % (1 + x.b % (1 + x.c % 24)), 1 + x.b % (1 + x.c % 24), 1 + x.c % 24, 1⟩
def madeN (l : List Tri) (n : Nat) : List Tk := (List.range n).map fun i => mkT i (l.getD i default)
def madeL (l : List Tri) : List Tk := madeN l (min l.length 16)
theorem madeN_zero (l : List Tri) : madeN l 0 = [] := rfl
theorem madeN_len (l : List Tri) (n : Nat) : (madeN l n).length = n := by simp [madeN]
theorem madeL_len (l : List Tri) : (madeL l).length = min l.length 16 := madeN_len l _
theorem madeN_succ {l : List Tri} {i : Nat} (h : i < l.length) : madeN l (i + 1) = madeN l i ++ [mkT i l[i]] := by
  unfold madeN
  rw [List.range_succ, List.map_append]
  simp [List.getD, h]
theorem madeL_get {l : List Tri} {i : Nat} {t : Tk} (h : (madeL l)[i]? = some t) : ∃ x : Tri, t = mkT i x := by
  unfold madeL madeN at h
  obtain ⟨hi, rfl⟩ := List.getElem?_eq_some_iff.1 h
  exact ⟨l.getD i default, by simp⟩
theorem mkT_in (i : Nat) (x : Tri) : 1 ≤ (mkT i x).t ∧ (mkT i x).t ≤ 24 ∧ 1 ≤ (mkT i x).d ∧ (mkT i x).d ≤ (mkT i x).t ∧ 1 ≤ (mkT i x).c ∧ (mkT i x).c ≤ (mkT i x).d := by
  unfold mkT
  simp only
  have h1 := Int.emod_nonneg x.c (show (24 : Int) ≠ 0 by omega)
  have h2 := Int.emod_lt_of_pos x.c (show (0 : Int) < 24 by omega)
  generalize x.c % 24 = r at *
  have h3 := Int.emod_nonneg x.b (show 1 + r ≠ 0 by omega)
  have h4 := Int.emod_lt_of_pos x.b (show 0 < 1 + r by omega)
  generalize x.b % (1 + r) = q at *
  have h5 := Int.emod_nonneg x.a (show 1 + q ≠ 0 by omega)
  have h6 := Int.emod_lt_of_pos x.a (show 0 < 1 + q by omega)
  omega
theorem mkT_chk {i : Nat} (hi : i ≤ 1023) (x : Tri) : chk (mkT i x) = true := by
  have := mkT_in i x
  have h0 : (mkT i x).id = (i : Int) := rfl
  have h1 : (mkT i x).m = 1 := rfl
  rw [chk_iff]; omega
theorem rest_eq {x m : Int} (hm : 0 < m) : (x.tmod m + m) % m = x % m ∧ -m < x.tmod m ∧ x.tmod m < m := by
  have hb : (x.tmod m).natAbs < m.natAbs := tmod_lt (by omega)
  refine ⟨?_, by omega, by omega⟩
  rw [Int.add_emod_right]
  have h := Int.mul_tdiv_add_tmod x m
  have : x.tmod m = x - m * x.tdiv m := by omega
  rw [this, Int.sub_mul_emod_self_left]
theorem few_any (l : List Tk) (ao : Option Addr) (cap : Nat) (w : World) (hl : l.length ≤ 9223372036854775807) (hc : l.length ≤ cap) :
    Calls Try.prog 11 #[.slice ao l.length cap] w fun e w' => e = .returned (.slice ao (l.take 18).length cap) ∧ w' = w := by
  by_cases h : 18 < l.length
  · have e : (l.take 18).length = 18 := by rw [List.length_take]; omega
    rw [e]
    have h1 : (18 : Int) < (l.length : Int) := by omega
    have hc2 : 18 ≤ cap := by omega
    have sl : (Instr.sliceAt 22 (.slice ao l.length cap) none (some (.int .i64 18)) none).run Try.prog w = .ok (.slice ao 18 cap) w := by
      rw [run_sliceAt_slice w _ _ _ _ _ (by kernel_rfl), run_slice_h w _ _ _ _ (by kernel_rfl) _ _ (by omega) (by omega)]
      have e : (sizeOf (Try.prog.elem 22)).run Try.prog w = .ok 5 w := by kernel_rfl
      rw [e]
      simp only [Result.andThen, sliced]
      have : ao.map (fun x => x.add (0 * 5)) = ao := by cases ao <;> simp [Addr.add]
      rw [this]
      simp
    clear e h
    go_enter Try.func11, Try.ntmps11
    go_wp2
    go_ret
    exact ⟨rfl, rfl⟩
  · rw [List.take_of_length_le (by omega)]
    have h1 : (l.length : Int) ≤ 18 := by omega
    clear h
    go_enter Try.func11, Try.ntmps11
    go_wp2
    go_ret
    exact ⟨rfl, rfl⟩
def MaRel (l : List Tri) (w : World) (g : Nat) (s t : Value) (wx : World) : Prop :=
  ∃ (i : Nat) (v : Value), i + g = min l.length 16 ∧ t = .int .i64 (i : Int) ∧ v = s ∧ TRow w.heap.size wx v (madeN l i) ∧ Below w.heap.size w wx
set_option maxHeartbeats 4000000 in
theorem made_any (l : List Tri) (ao : Option Addr) (cap : Nat) (w : World) (hT : Tris ao l w) (hl : l.length ≤ 9223372036854775807) (hok : ∀ x ∈ l, x.Ok) :
    Calls Try.prog 12 #[.slice ao l.length cap] w fun e w' => ∃ v, e = .returned v ∧ TRow w.heap.size w' v (madeL l) ∧ Below w.heap.size w w' := by
  have T := Lib.hid hT
  have OK := Lib.hid hok
  clear hT hok
  go_enter Try.func12, Try.ntmps12
  go_wp2_with fail
  go_loopg [3, 4] (min l.length 16) (MaRel l w)
  case atStart => exact ⟨0, _, by omega, rfl, rfl, trow_nil _ _, Below.refl _ _⟩
  case round =>
    obtain ⟨i, v0, hi, rfl, rfl, hr, hB⟩ := hrel
    have TQ := T.out.below hB (Nat.le_refl _)
    by_cases hlt : i < l.length ∧ i < 16
    · obtain ⟨h1, h2⟩ := hlt
      obtain ⟨b, off, rfl, hb, hat⟩ := TQ (by omega)
      have hx := hat i l[i] (List.getElem?_eq_getElem h1)
      have hxo := OK.out _ (List.getElem_mem h1)
      have AP := trow_append w.heap.size wr _ _ (mkT i l[i]) hr hB.size (by rw [madeN_len]; omega)
      rw [← madeN_succ h1] at AP
      have HI := Lib.hid hi
      have KB := Lib.hid hB
      have hg0 : 0 < gk := by omega
      clear hi hat TQ hB hr
      generalize hNX : madeN l (i + 1) = NX at *
      have HN := Lib.hid hNX
      clear hNX
      generalize l[i] = x at *
      obtain ⟨c0, c1, c2⟩ := hx
      obtain ⟨xa, xb, xc⟩ := x
      obtain ⟨oa, ob, oc⟩ := hxo
      unfold I64 at oa ob oc
      unfold mkT at AP
      simp only at *
      obtain ⟨r1, p1, q1⟩ := rest_eq (x := xc) (m := 24) (by omega)
      have m1 := Int.emod_nonneg xc (show (24 : Int) ≠ 0 by omega)
      have m2 := Int.emod_lt_of_pos xc (show (0 : Int) < 24 by omega)
      generalize hR : xc % 24 = R at *
      obtain ⟨r2, p2, q2⟩ := rest_eq (x := xb) (m := 1 + R) (by omega)
      have m3 := Int.emod_nonneg xb (show 1 + R ≠ 0 by omega)
      have m4 := Int.emod_lt_of_pos xb (show 0 < 1 + R by omega)
      generalize hQ : xb % (1 + R) = Q at *
      obtain ⟨r3, p3, q3⟩ := rest_eq (x := xa) (m := 1 + Q) (by omega)
      have m5 := Int.emod_nonneg xa (show 1 + Q ≠ 0 by omega)
      have m6 := Int.emod_lt_of_pos xa (show 0 < 1 + Q by omega)
      generalize hS : xa % (1 + Q) = S at *
      clear hR hQ hS
      obtain ⟨v', w', hap, hrow, hbw⟩ := AP
      have HRW := Lib.hid hrow
      have HBW := Lib.hid hbw
      clear hrow hbw
      have i1 : (i : Int) < (l.length : Int) := by omega
      have i2 : (i : Int) < 16 := by omega
      go_wp2_with (at_builtin; refine Lib.wpList_append_run _ rfl _ _ _ _ rfl _ _ rfl rfl _ _ hap ?_)
      go_roundg (gk - 1)
      case measure => omega
      case rel => exact ⟨i + 1, _, by have := HI.out; omega, by go_num, rfl, by rw [HN.out]; exact HRW.out, KB.out.trans (HBW.out)⟩
    · have hge : (l.length : Int) ≤ (i : Int) ∨ ((i : Int) < (l.length : Int) ∧ (16 : Int) ≤ (i : Int)) := by omega
      have e : i = min l.length 16 := by omega
      have RW : Hid (TRow w.heap.size wr v0 (madeL l)) := Lib.hid (by unfold madeL; rw [← e]; exact hr)
      have K2 := Lib.hid hB
      clear hB TQ hi hlt e hr
      rcases hge with hge | ⟨hge1, hge2⟩
      · go_wp2
        go_ret
        exact ⟨_, rfl, RW.out, K2.out⟩
      · go_wp2
        go_ret
        exact ⟨_, rfl, RW.out, K2.out⟩
/-- the chapter's example -/
def exL : List Tk := [⟨1, 1, 4, 4, 1⟩, ⟨2, 1, 6, 6, 1⟩]
theorem exL_per : periodR exL = (12, 0) := by decide +kernel
theorem exL_work : work 12 exL = 5 := by decide
theorem exL_load : loadR exL = ⟨5, 12, 0⟩ := by rw [load_yes (by rw [exL_per]), exL_per]; rw [exL_work]
theorem exL_ts (w : World) (T : TypeId) : Ts (some ⟨w.heap.size, 0, none⟩) exL (w.alloc (.cells #[.int .i64 1, .int .i64 1, .int .i64 4, .int .i64 4, .int .i64 1, .int .i64 2, .int .i64 1, .int .i64 6, .int .i64 6, .int .i64 1] T)) := fun _ => by
  refine ⟨_, _, rfl, by simp, fun i x hi => ?_⟩
  match i, hi with
  | 0, hi => obtain rfl : _ = x := by simpa [exL] using hi
             exact ⟨by simp [go_sem], by simp [go_sem], by simp [go_sem], by simp [go_sem], by simp [go_sem]⟩
  | 1, hi => obtain rfl : _ = x := by simpa [exL] using hi
             exact ⟨by simp [go_sem], by simp [go_sem], by simp [go_sem], by simp [go_sem], by simp [go_sem]⟩
  | i + 2, hi => simp [exL] at hi
theorem awake_any (w : World) :
    Calls Try.prog 9 #[] w fun e w' => e = .returned (.bool true) ∧ Below w.heap.size w w' := by
  have LO : Hid (∀ w T, Calls Try.prog 15 #[.slice (some ⟨w.heap.size, 0, none⟩) 2 2] (w.alloc (.cells #[.int .i64 1, .int .i64 1, .int .i64 4, .int .i64 4, .int .i64 1, .int .i64 2, .int .i64 1, .int .i64 6, .int .i64 6, .int .i64 1] T)) fun e w' => e = .returned (.tuple #[.int .i64 5, .int .i64 12, .int .i64 0]) ∧ Below w.heap.size w w') := Lib.hid (fun w T => by
    refine (load_any exL _ 2 _ (exL_ts w T) (by decide)).mono fun e w' ⟨he, hb⟩ => ?_
    rw [exL_load] at he
    exact ⟨he, ((Below.refl _ _).alloc (Nat.le_refl _) _).trans (hb.mono (by simp))⟩)
  go_enter Try.func9, Try.ntmps9
  go_wp2_with fail
  (with_reducible refine (LO.out _ _).mono ?_)
  rintro e w1 ⟨rfl, b1⟩
  go_wp2
  go_ret
  exact ⟨rfl, b1⟩
end Go.Proofs.Ytcnfojbncmkdeaa.Pm
