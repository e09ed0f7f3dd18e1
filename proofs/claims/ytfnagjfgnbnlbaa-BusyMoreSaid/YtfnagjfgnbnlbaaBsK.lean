/- The statements' functions few, made, awake of layer 11. -/
import Derived.Test.YtfnagjfgnbnlbaaBsG
import Derived.Test.YtfnagjfgnbnlbaaPmM
namespace Go.Proofs.Ytfnagjfgnbnlbaa.Bs
open Go.ChangeShapes Go.WideShapes Go.ChangeAt Go.RowKit Go.Joins
open Pm
set_option maxRecDepth 100000
set_option maxRecDepth 100000
set_option linter.unusedVariables false
set_option linter.unusedSimpArgs false
theorem i64_and7 (n : Int) : bits .and .i64 n 7 = n % 8 := by
  have hm : (BitVec.ofInt 64 7).toNat = 2 ^ 3 - 1 := by decide
  have key : (BitVec.ofInt 64 n &&& BitVec.ofInt 64 7).toNat = (n % ((2 ^ 64 : Nat) : Int)).toNat % 2 ^ 3 := by
    rw [BitVec.toNat_and, BitVec.toNat_ofInt, hm, Nat.and_two_pow_sub_one_eq_mod]
  show IntKind.i64.wrap ((BitVec.ofInt 64 n &&& BitVec.ofInt 64 7).toNat : Nat) = n % 8
  rw [key, IntKind.wrap_i64]
  omega
/-- the periods -/
def per (k : Nat) : Int := [2, 3, 4, 5, 6, 8, 10, 12].getD k 2
theorem per_in (k : Nat) : 2 ≤ per k ∧ per k ≤ 12 := by
  unfold per
  match k with
  | 0 => decide
  | 1 => decide
  | 2 => decide
  | 3 => decide
  | 4 => decide
  | 5 => decide
  | 6 => decide
  | 7 => decide
  | k + 8 => simp
theorem per_dvd (k : Nat) : (per k).toNat ∣ 120 := by
  unfold per
  match k with
  | 0 => decide
  | 1 => decide
  | 2 => decide
  | 3 => decide
  | 4 => decide
  | 5 => decide
  | 6 => decide
  | 7 => decide
  | k + 8 => simp
def perOf (z : Int) : Int := per (z % 8).toNat
/-- a task by numbers -/
def mkP (i : Nat) (x : Tri) : Tk := ⟨(i : Int), 1 + x.a % (1 + x.b % perOf x.c), 1 + x.b % perOf x.c, perOf x.c, 1⟩
def madeP (l : List Tri) (n : Nat) : List Tk := (List.range n).map fun i => mkP i (l.getD i default)
def made8 (l : List Tri) : List Tk := madeP l (min l.length 8)
theorem madeP_len (l : List Tri) (n : Nat) : (madeP l n).length = n := by simp [madeP]
theorem madeP_succ {l : List Tri} {i : Nat} (h : i < l.length) : madeP l (i + 1) = madeP l i ++ [mkP i l[i]] := by
  unfold madeP
  rw [List.range_succ, List.map_append]
  simp [List.getD, h]
theorem made8_len (l : List Tri) : (made8 l).length = min l.length 8 := madeP_len l _
theorem made8_get {l : List Tri} {i : Nat} {t : Tk} (h : (made8 l)[i]? = some t) : ∃ x : Tri, t = mkP i x := by
  unfold made8 madeP at h
  obtain ⟨hi, rfl⟩ := List.getElem?_eq_some_iff.1 h
  exact ⟨l.getD i default, by simp⟩
theorem mkP_in (i : Nat) (x : Tri) : 2 ≤ (mkP i x).t ∧ (mkP i x).t ≤ 12 ∧ 1 ≤ (mkP i x).d ∧ (mkP i x).d ≤ (mkP i x).t ∧ 1 ≤ (mkP i x).c ∧ (mkP i x).c ≤ (mkP i x).d := by
  unfold mkP
  simp only
  have h0 : 2 ≤ perOf x.c ∧ perOf x.c ≤ 12 := per_in _
  generalize perOf x.c = t at *
  have h3 := Int.emod_nonneg x.b (show t ≠ 0 by omega)
  have h4 := Int.emod_lt_of_pos x.b (show 0 < t by omega)
  generalize x.b % t = q at *
  have h5 := Int.emod_nonneg x.a (show 1 + q ≠ 0 by omega)
  have h6 := Int.emod_lt_of_pos x.a (show 0 < 1 + q by omega)
  omega
theorem mkP_chk {i : Nat} (hi : i ≤ 1023) (x : Tri) : chk (mkP i x) = true := by
  have := mkP_in i x
  have h0 : (mkP i x).id = (i : Int) := rfl
  have h1 : (mkP i x).m = 1 := rfl
  rw [chk_iff]; omega
theorem made8_mem {l : List Tri} {t : Tk} (h : t ∈ made8 l) : chk t = true ∧ t.t ≤ 12 ∧ t.t.toNat ∣ 120 := by
  obtain ⟨i, hi⟩ := List.mem_iff_getElem?.1 h
  have hlen := made8_len l
  have hi2 := (List.getElem?_eq_some_iff.1 hi).1
  obtain ⟨x, rfl⟩ := made8_get hi
  exact ⟨mkP_chk (by omega) x, (mkP_in i x).2.1, per_dvd _⟩
theorem made8_row (l : List Tri) : rowB (made8 l) = true := rowB_yes (by have := made8_len l; omega) (fun t ht => (made8_mem ht).1)
theorem rest_eq {x m : Int} (hm : 0 < m) : (x.tmod m + m) % m = x % m ∧ -m < x.tmod m ∧ x.tmod m < m := by
  have hb : (x.tmod m).natAbs < m.natAbs := tmod_lt (by omega)
  refine ⟨?_, by omega, by omega⟩
  rw [Int.add_emod_right]
  have h := Int.mul_tdiv_add_tmod x m
  have : x.tmod m = x - m * x.tdiv m := by omega
  rw [this, Int.sub_mul_emod_self_left]
theorem few_any (l : List Tk) (ao : Option Addr) (cap : Nat) (w : World) (hl : l.length ≤ 9223372036854775807) (hc : l.length ≤ cap) :
    Calls Try.prog 11 #[.slice ao l.length cap] w fun e w' => e = .returned (.slice ao (l.take 3).length cap) ∧ w' = w := by
  by_cases h : 3 < l.length
  · have e : (l.take 3).length = 3 := by rw [List.length_take]; omega
    rw [e]
    have h1 : (3 : Int) < (l.length : Int) := by omega
    have hc2 : 3 ≤ cap := by omega
    have sl : (Instr.sliceAt 22 (.slice ao l.length cap) none (some (.int .i64 3)) none).run Try.prog w = .ok (.slice ao 3 cap) w := by
      rw [run_sliceAt_slice w _ _ _ _ _ (by kernel_rfl), run_slice_h w _ _ _ _ (by kernel_rfl) _ _ (by omega) (by omega)]
      have e : (sizeOf (Try.prog.elem 22)).run Try.prog w = .ok 5 w := by kernel_rfl
      rw [e]
      simp only [Result.andThen, sliced]
      have : ao.map (fun x => x.add (0 * 5)) = ao := by cases ao <;> simp [Addr.add]
      rw [this]
      simp
    clear e h
    go_enter Try.func11, Try.ntmps11
    go_wp2
    go_ret
    exact ⟨rfl, rfl⟩
  · rw [List.take_of_length_le (by omega)]
    have h1 : (l.length : Int) ≤ 3 := by omega
    clear h
    go_enter Try.func11, Try.ntmps11
    go_wp2
    go_ret
    exact ⟨rfl, rfl⟩
def MaRel (l : List Tri) (w W : World) (g : Nat) (s t : Value) (wx : World) : Prop :=
  ∃ (i : Nat) (v : Value), i + g = min l.length 8 ∧ t = .int .i64 (i : Int) ∧ v = s ∧ TRow W.heap.size wx v (madeP l i) ∧ Below W.heap.size W wx
def perC : Obj := .cells #[.int .i64 2, .int .i64 3, .int .i64 4, .int .i64 5, .int .i64 6, .int .i64 8, .int .i64 10, .int .i64 12] 48
theorem per_cell (w : World) (k : Nat) (h : k < 8) : (w.alloc perC).cell? ⟨w.heap.size, k, none⟩ = some (.int .i64 (per k)) := by
  unfold perC
  match k, h with
  | 0, _ => simp [go_sem, per]
  | 1, _ => simp [go_sem, per]
  | 2, _ => simp [go_sem, per]
  | 3, _ => simp [go_sem, per]
  | 4, _ => simp [go_sem, per]
  | 5, _ => simp [go_sem, per]
  | 6, _ => simp [go_sem, per]
  | 7, _ => simp [go_sem, per]
set_option maxHeartbeats 4000000 in
theorem made_any (l : List Tri) (ao : Option Addr) (cap : Nat) (w : World) (hT : Tris ao l w) (hl : l.length ≤ 9223372036854775807) (hok : ∀ x ∈ l, x.Ok) :
    Calls Try.prog 12 #[.slice ao l.length cap] w fun e w' => ∃ v, e = .returned v ∧ TRow w.heap.size w' v (made8 l) ∧ Below w.heap.size w w' := by
  have T := Lib.hid (hT.below ((Below.refl _ _).alloc (Nat.le_refl _) perC) (Nat.le_refl _))
  have PC := Lib.hid (per_cell w)
  have K0 := Lib.hid ((Below.refl w.heap.size w).alloc (Nat.le_refl _) perC)
  have OK := Lib.hid hok
  unfold perC at T PC K0
  clear hT hok
  go_enter Try.func12, Try.ntmps12
  go_wp2_with fail
  generalize (w.alloc (.cells #[.int .i64 2, .int .i64 3, .int .i64 4, .int .i64 5, .int .i64 6, .int .i64 8, .int .i64 10, .int .i64 12] 48)) = W at *
  go_loopg [4, 5] (min l.length 8) (MaRel l w W)
  case atStart => exact ⟨0, _, by omega, rfl, rfl, trow_nil _ _, Below.refl _ _⟩
  case round =>
    obtain ⟨i, v0, hi, rfl, rfl, hr, hB⟩ := hrel
    have TQ := T.out.below hB (Nat.le_refl _)
    by_cases hlt : i < l.length ∧ i < 8
    · obtain ⟨h1, h2⟩ := hlt
      obtain ⟨b, off, rfl, hb, hat⟩ := TQ (by omega)
      have hx := hat i l[i] (List.getElem?_eq_getElem h1)
      have hxo := OK.out _ (List.getElem_mem h1)
      have AP := trow_append W.heap.size wr _ _ (mkP i l[i]) hr hB.size (by rw [madeP_len]; omega)
      rw [← madeP_succ h1] at AP
      have HI := Lib.hid hi
      have KB := Lib.hid hB
      have hg0 : 0 < gk := by omega
      have PQ := Lib.hid (fun k h => carry hB (PC.out k h))
      clear hi hat TQ hB hr
      generalize hNX : madeP l (i + 1) = NX at *
      have HN := Lib.hid hNX
      clear hNX
      generalize l[i] = x at *
      obtain ⟨c0, c1, c2⟩ := hx
      obtain ⟨xa, xb, xc⟩ := x
      obtain ⟨oa, ob, oc⟩ := hxo
      unfold I64 at oa ob oc
      unfold mkP at AP
      simp only at *
      have hz : bits .and .i64 xc 7 = (((xc % 8).toNat : Nat) : Int) := by rw [i64_and7]; omega
      have hk : (xc % 8).toNat < 8 := by omega
      have cp := PQ.out _ hk
      have hp0 : 2 ≤ perOf xc ∧ perOf xc ≤ 12 := per_in _
      have hpe : per (xc % 8).toNat = perOf xc := rfl
      rw [hpe] at cp
      generalize (xc % 8).toNat = k at *
      clear hpe
      generalize perOf xc = R at *
      obtain ⟨R1, R2⟩ := hp0
      have rz : ¬ R = 0 := by omega
      obtain ⟨r2, p2, q2⟩ := rest_eq (x := xb) (m := R) (by omega)
      have m3 := Int.emod_nonneg xb (show R ≠ 0 by omega)
      have m4 := Int.emod_lt_of_pos xb (show 0 < R by omega)
      generalize hQ : xb % R = Q at *
      obtain ⟨r3, p3, q3⟩ := rest_eq (x := xa) (m := 1 + Q) (by omega)
      have m5 := Int.emod_nonneg xa (show 1 + Q ≠ 0 by omega)
      have m6 := Int.emod_lt_of_pos xa (show 0 < 1 + Q by omega)
      generalize hS : xa % (1 + Q) = S at *
      clear hQ hS PQ
      obtain ⟨v', w', hap, hrow, hbw⟩ := AP
      have HRW := Lib.hid hrow
      have HBW := Lib.hid hbw
      clear hrow hbw
      have i1 : (i : Int) < (l.length : Int) := by omega
      have i2 : (i : Int) < 8 := by omega
      have k2 : (k : Int) < 8 := by omega
      go_wp2_with (at_builtin; refine Lib.wpList_append_run _ rfl _ _ _ _ rfl _ _ rfl rfl _ _ hap ?_)
      go_roundg (gk - 1)
      case measure => omega
      case rel => exact ⟨i + 1, _, by have := HI.out; omega, by go_num, rfl, by rw [HN.out]; exact HRW.out, KB.out.trans (HBW.out)⟩
    · have hge : (l.length : Int) ≤ (i : Int) ∨ ((i : Int) < (l.length : Int) ∧ (8 : Int) ≤ (i : Int)) := by omega
      have e : i = min l.length 8 := by omega
      have RW : Hid (TRow w.heap.size wr v0 (made8 l)) := Lib.hid (by unfold made8; rw [← e]; exact hr.mono K0.out.size)
      have K2 := Lib.hid (K0.out.trans (hB.mono K0.out.size))
      clear hB TQ hi hlt e hr
      rcases hge with hge | ⟨hge1, hge2⟩
      · go_wp2
        go_ret
        exact ⟨_, rfl, RW.out, K2.out⟩
      · go_wp2
        go_ret
        exact ⟨_, rfl, RW.out, K2.out⟩
/-- the chapter's example -/
def exB : List Tk := [⟨1, 2, 3, 5, 1⟩, ⟨2, 2, 4, 6, 1⟩]
theorem exB_per : periodR exB = (30, 0) := by decide +kernel
theorem exB_work : work 30 exB = 22 := by decide
theorem exB_load : loadR exB = ⟨22, 30, 0⟩ := by rw [load_yes (by rw [exB_per]), exB_per]; rw [exB_work]
theorem exB_len : Len exB 4 := by
  refine ⟨by omega, by decide, fun k h1 h2 => ?_⟩
  have : k = 1 ∨ k = 2 ∨ k = 3 := by omega
  rcases this with rfl | rfl | rfl <;> decide
theorem exB_length : lengthR exB = ⟨4, 0⟩ := lengthR_len (by rw [exB_load]) (by rw [exB_load]; decide) (by decide) exB_len (by rw [exB_load]; decide)
theorem exB_ts (w : World) (T : TypeId) : Ts (some ⟨w.heap.size, 0, none⟩) exB (w.alloc (.cells #[.int .i64 1, .int .i64 2, .int .i64 3, .int .i64 5, .int .i64 1, .int .i64 2, .int .i64 2, .int .i64 4, .int .i64 6, .int .i64 1] T)) := fun _ => by
  refine ⟨_, _, rfl, by simp, fun i x hi => ?_⟩
  match i, hi with
  | 0, hi => obtain rfl : _ = x := by simpa [exB] using hi
             exact ⟨by simp [go_sem], by simp [go_sem], by simp [go_sem], by simp [go_sem], by simp [go_sem]⟩
  | 1, hi => obtain rfl : _ = x := by simpa [exB] using hi
             exact ⟨by simp [go_sem], by simp [go_sem], by simp [go_sem], by simp [go_sem], by simp [go_sem]⟩
  | i + 2, hi => simp [exB] at hi
theorem awake_any (w : World) :
    Calls Try.prog 9 #[] w fun e w' => e = .returned (.bool true) ∧ Below w.heap.size w w' := by
  have LO : Hid (∀ w T, Calls Try.prog 14 #[.slice (some ⟨w.heap.size, 0, none⟩) 2 2] (w.alloc (.cells #[.int .i64 1, .int .i64 2, .int .i64 3, .int .i64 5, .int .i64 1, .int .i64 2, .int .i64 2, .int .i64 4, .int .i64 6, .int .i64 1] T)) fun e w' => e = .returned (.tuple #[.int .i64 4, .int .i64 0]) ∧ Below w.heap.size w w') := Lib.hid (fun w T => by
    refine (length_any exB _ 2 _ (exB_ts w T) (by decide)).mono fun e w' ⟨he, hb⟩ => ?_
    rw [exB_length] at he
    exact ⟨he, ((Below.refl _ _).alloc (Nat.le_refl _) _).trans (hb.mono (by simp))⟩)
  go_enter Try.func9, Try.ntmps9
  go_wp2_with fail
  (with_reducible refine (LO.out _ _).mono ?_)
  rintro e w1 ⟨rfl, b1⟩
  go_wp2
  go_ret
  exact ⟨rfl, b1⟩
end Go.Proofs.Ytfnagjfgnbnlbaa.Bs
