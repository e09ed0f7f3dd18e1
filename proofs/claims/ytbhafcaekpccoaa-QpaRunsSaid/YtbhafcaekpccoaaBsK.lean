/- The statements' functions few, made, awake of layer 11. -/
import Derived.Test.YtbhafcaekpccoaaBsG
import Derived.Test.YtbhafcaekpccoaaPmM
namespace Go.Proofs.Ytbhafcaekpccoaa.Bs
open Go.ChangeShapes Go.WideShapes Go.ChangeAt Go.RowKit Go.Joins
open Pm
set_option maxRecDepth 100000
set_option maxRecDepth 100000
set_option linter.unusedVariables false
set_option linter.unusedSimpArgs false
theorem i64_and7 (n : Int) : bits .and .i64 n 7 = n % 8 := by
  have hm : (BitVec.ofInt 64 7).toNat = 2 ^ 3 - 1 := by decide
  have key : (BitVec.ofInt 64 n &&& BitVec.ofInt 64 7).toNat = (n % ((2 ^ 64 : Nat) : Int)).toNat % 2 ^ 3 := by
    rw [BitVec.toNat_and, BitVec.toNat_ofInt, hm, Nat.and_two_pow_sub_one_eq_mod]
  show IntKind.i64.wrap ((BitVec.ofInt 64 n &&& BitVec.ofInt 64 7).toNat : Nat) = n % 8
  rw [key, IntKind.wrap_i64]
  omega
/-- the periods -/
def per (k : Nat) : Int := [2, 3, 4, 5, 6, 8, 10, 12].getD k 2
theorem per_in (k : Nat) : 2 ≤ per k ∧ per k ≤ 12 := by
  unfold per
  match k with
  | 0 => decide
  | 1 => decide
  | 2 => decide
  | 3 => decide
  | 4 => decide
  | 5 => decide
  | 6 => decide
  | 7 => decide
  | k + 8 => simp
theorem per_dvd (k : Nat) : (per k).toNat ∣ 120 := by
  unfold per
  match k with
  | 0 => decide
  | 1 => decide
  | 2 => decide
  | 3 => decide
  | 4 => decide
  | 5 => decide
  | 6 => decide
  | 7 => decide
  | k + 8 => simp
def perOf (z : Int) : Int := per (z % 8).toNat
/-- a task by numbers -/
def mkP (i : Nat) (x : Tri) : Tk := ⟨(i : Int), 1 + x.a % (1 + x.b % perOf x.c), 1 + x.b % perOf x.c, perOf x.c, 1⟩
def madeP (l : List Tri) (n : Nat) : List Tk := (List.range n).map fun i => mkP i (l.getD i default)
def made8 (l : List Tri) : List Tk := madeP l (min l.length 8)
theorem madeP_len (l : List Tri) (n : Nat) : (madeP l n).length = n := by simp [madeP]
theorem madeP_succ {l : List Tri} {i : Nat} (h : i < l.length) : madeP l (i + 1) = madeP l i ++ [mkP i l[i]] := by
  unfold madeP
  rw [List.range_succ, List.map_append]
  simp [List.getD, h]
theorem made8_len (l : List Tri) : (made8 l).length = min l.length 8 := madeP_len l _
theorem made8_get {l : List Tri} {i : Nat} {t : Tk} (h : (made8 l)[i]? = some t) : ∃ x : Tri, t = mkP i x := by
  unfold made8 madeP at h
  obtain ⟨hi, rfl⟩ := List.getElem?_eq_some_iff.1 h
  exact ⟨l.getD i default, by simp⟩
theorem mkP_in (i : Nat) (x : Tri) : 2 ≤ (mkP i x).t ∧ (mkP i x).t ≤ 12 ∧ 1 ≤ (mkP i x).d ∧ (mkP i x).d ≤ (mkP i x).t ∧ 1 ≤ (mkP i x).c ∧ (mkP i x).c ≤ (mkP i x).d := by
  unfold mkP
  simp only
  have h0 : 2 ≤ perOf x.c ∧ perOf x.c ≤ 12 := per_in _
  generalize perOf x.c = t at *
  have h3 := Int.emod_nonneg x.b (show t ≠ 0 by omega)
  have h4 := Int.emod_lt_of_pos x.b (show 0 < t by omega)
  generalize x.b % t = q at *
  have h5 := Int.emod_nonneg x.a (show 1 + q ≠ 0 by omega)
  have h6 := Int.emod_lt_of_pos x.a (show 0 < 1 + q by omega)
  omega
theorem mkP_chk {i : Nat} (hi : i ≤ 1023) (x : Tri) : chk (mkP i x) = true := by
  have := mkP_in i x
  have h0 : (mkP i x).id = (i : Int) := rfl
  have h1 : (mkP i x).m = 1 := rfl
  rw [chk_iff]; omega
theorem made8_mem {l : List Tri} {t : Tk} (h : t ∈ made8 l) : chk t = true ∧ t.t ≤ 12 ∧ t.t.toNat ∣ 120 := by
  obtain ⟨i, hi⟩ := List.mem_iff_getElem?.1 h
  have hlen := made8_len l
  have hi2 := (List.getElem?_eq_some_iff.1 hi).1
  obtain ⟨x, rfl⟩ := made8_get hi
  exact ⟨mkP_chk (by omega) x, (mkP_in i x).2.1, per_dvd _⟩
theorem made8_row (l : List Tri) : rowB (made8 l) = true := rowB_yes (by have := made8_len l; omega) (fun t ht => (made8_mem ht).1)
theorem rest_eq {x m : Int} (hm : 0 < m) : (x.tmod m + m) % m = x % m ∧ -m < x.tmod m ∧ x.tmod m < m := by
  have hb : (x.tmod m).natAbs < m.natAbs := tmod_lt (by omega)
  refine ⟨?_, by omega, by omega⟩
  rw [Int.add_emod_right]
  have h := Int.mul_tdiv_add_tmod x m
  have : x.tmod m = x - m * x.tdiv m := by omega
  rw [this, Int.sub_mul_emod_self_left]
def MaRel (l : List Tri) (w W : World) (g : Nat) (s t : Value) (wx : World) : Prop :=
  ∃ (i : Nat) (v : Value), i + g = min l.length 8 ∧ t = .int .i64 (i : Int) ∧ v = s ∧ TRow W.heap.size wx v (madeP l i) ∧ Below W.heap.size W wx
def perC : Obj := .cells #[.int .i64 2, .int .i64 3, .int .i64 4, .int .i64 5, .int .i64 6, .int .i64 8, .int .i64 10, .int .i64 12] 50
theorem per_cell (w : World) (k : Nat) (h : k < 8) : (w.alloc perC).cell? ⟨w.heap.size, k, none⟩ = some (.int .i64 (per k)) := by
  unfold perC
  match k, h with
  | 0, _ => simp [go_sem, per]
  | 1, _ => simp [go_sem, per]
  | 2, _ => simp [go_sem, per]
  | 3, _ => simp [go_sem, per]
  | 4, _ => simp [go_sem, per]
  | 5, _ => simp [go_sem, per]
  | 6, _ => simp [go_sem, per]
  | 7, _ => simp [go_sem, per]
/-- the chapter's example -/
def exB : List Tk := [⟨1, 2, 3, 5, 1⟩, ⟨2, 2, 4, 6, 1⟩]
theorem exB_per : periodR exB = (30, 0) := by decide +kernel
theorem exB_work : work 30 exB = 22 := by decide
theorem exB_load : loadR exB = ⟨22, 30, 0⟩ := by rw [load_yes (by rw [exB_per]), exB_per]; rw [exB_work]
theorem exB_len : Len exB 4 := by
  refine ⟨by omega, by decide, fun k h1 h2 => ?_⟩
  have : k = 1 ∨ k = 2 ∨ k = 3 := by omega
  rcases this with rfl | rfl | rfl <;> decide
theorem exB_length : lengthR exB = ⟨4, 0⟩ := lengthR_len (by rw [exB_load]) (by rw [exB_load]; decide) (by decide) exB_len (by rw [exB_load]; decide)
theorem exB_ts (w : World) (T : TypeId) : Ts (some ⟨w.heap.size, 0, none⟩) exB (w.alloc (.cells #[.int .i64 1, .int .i64 2, .int .i64 3, .int .i64 5, .int .i64 1, .int .i64 2, .int .i64 2, .int .i64 4, .int .i64 6, .int .i64 1] T)) := fun _ => by
  refine ⟨_, _, rfl, by simp, fun i x hi => ?_⟩
  match i, hi with
  | 0, hi => obtain rfl : _ = x := by simpa [exB] using hi
             exact ⟨by simp [go_sem], by simp [go_sem], by simp [go_sem], by simp [go_sem], by simp [go_sem]⟩
  | 1, hi => obtain rfl : _ = x := by simpa [exB] using hi
             exact ⟨by simp [go_sem], by simp [go_sem], by simp [go_sem], by simp [go_sem], by simp [go_sem]⟩
  | i + 2, hi => simp [exB] at hi
end Go.Proofs.Ytbhafcaekpccoaa.Bs
