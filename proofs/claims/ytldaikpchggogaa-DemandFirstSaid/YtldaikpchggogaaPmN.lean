/- The statements' functions few, made, awake of layer 9. -/
import Derived.Test.YtldaikpchggogaaPmM
namespace Go.Proofs.Ytldaikpchggogaa.Pm
open Go.ChangeShapes Go.WideShapes Go.ChangeAt Go.RowKit Go.Joins
set_option maxRecDepth 100000
set_option maxRecDepth 100000
set_option linter.unusedVariables false
set_option linter.unusedSimpArgs false
/-- a task by numbers -/
def mkT (i : Nat) (x : Tri) : Tk := ⟨(i : Int), 1 + x.a % (1 + x.b % (1 + x.c % 24)), 1 + x.b % (1 + x.c % 24), 1 + x.c % 24, 1⟩
def madeN (l : List Tri) (n : Nat) : List Tk := (List.range n).map fun i => mkT i (l.getD i default)
def madeL (l : List Tri) : List Tk := madeN l (min l.length 16)
theorem madeN_zero (l : List Tri) : madeN l 0 = [] := rfl
theorem madeN_len (l : List Tri) (n : Nat) : (madeN l n).length = n := by simp [madeN]
theorem madeL_len (l : List Tri) : (madeL l).length = min l.length 16 := madeN_len l _
theorem madeN_succ {l : List Tri} {i : Nat} (h : i < l.length) : madeN l (i + 1) = madeN l i ++ [mkT i l[i]] := by
  unfold madeN
  rw [List.range_succ, List.map_append]
  simp [List.getD, h]
theorem madeL_get {l : List Tri} {i : Nat} {t : Tk} (h : (madeL l)[i]? = some t) : ∃ x : Tri, t = mkT i x := by
  unfold madeL madeN at h
  obtain ⟨hi, rfl⟩ := List.getElem?_eq_some_iff.1 h
  exact ⟨l.getD i default, by simp⟩
theorem mkT_in (i : Nat) (x : Tri) : 1 ≤ (mkT i x).t ∧ (mkT i x).t ≤ 24 ∧ 1 ≤ (mkT i x).d ∧ (mkT i x).d ≤ (mkT i x).t ∧ 1 ≤ (mkT i x).c ∧ (mkT i x).c ≤ (mkT i x).d := by
  unfold mkT
  simp only
  have h1 := Int.emod_nonneg x.c (show (24 : Int) ≠ 0 by omega)
  have h2 := Int.emod_lt_of_pos x.c (show (0 : Int) < 24 by omega)
  generalize x.c % 24 = r at *
  have h3 := Int.emod_nonneg x.b (show 1 + r ≠ 0 by omega)
  have h4 := Int.emod_lt_of_pos x.b (show 0 < 1 + r by omega)
  generalize x.b % (1 + r) = q at *
  have h5 := Int.emod_nonneg x.a (show 1 + q ≠ 0 by omega)
  have h6 := Int.emod_lt_of_pos x.a (show 0 < 1 + q by omega)
  omega
theorem mkT_chk {i : Nat} (hi : i ≤ 1023) (x : Tri) : chk (mkT i x) = true := by
  have := mkT_in i x
  have h0 : (mkT i x).id = (i : Int) := rfl
  have h1 : (mkT i x).m = 1 := rfl
  rw [chk_iff]; omega
theorem rest_eq {x m : Int} (hm : 0 < m) : (x.tmod m + m) % m = x % m ∧ -m < x.tmod m ∧ x.tmod m < m := by
  have hb : (x.tmod m).natAbs < m.natAbs := tmod_lt (by omega)
  refine ⟨?_, by omega, by omega⟩
  rw [Int.add_emod_right]
  have h := Int.mul_tdiv_add_tmod x m
  have : x.tmod m = x - m * x.tdiv m := by omega
  rw [this, Int.sub_mul_emod_self_left]
def MaRel (l : List Tri) (w : World) (g : Nat) (s t : Value) (wx : World) : Prop :=
  ∃ (i : Nat) (v : Value), i + g = min l.length 16 ∧ t = .int .i64 (i : Int) ∧ v = s ∧ TRow w.heap.size wx v (madeN l i) ∧ Below w.heap.size w wx
/-- the chapter's example -/
def exL : List Tk := [⟨1, 1, 4, 4, 1⟩, ⟨2, 1, 6, 6, 1⟩]
theorem exL_per : periodR exL = (12, 0) := by decide +kernel
theorem exL_work : work 12 exL = 5 := by decide
theorem exL_load : loadR exL = ⟨5, 12, 0⟩ := by rw [load_yes (by rw [exL_per]), exL_per]; rw [exL_work]
theorem exL_ts (w : World) (T : TypeId) : Ts (some ⟨w.heap.size, 0, none⟩) exL (w.alloc (.cells #[.int .i64 1, .int .i64 1, .int .i64 4, .int .i64 4, .int .i64 1, .int .i64 2, .int .i64 1, .int .i64 6, .int .i64 6, .int .i64 1] T)) := fun _ => by
  refine ⟨_, _, rfl, by simp, fun i x hi => ?_⟩
  match i, hi with
  | 0, hi => obtain rfl : _ = x := by simpa [exL] using hi
             exact ⟨by simp [go_sem], by simp [go_sem], by simp [go_sem], by simp [go_sem], by simp [go_sem]⟩
  | 1, hi => obtain rfl : _ = x := by simpa [exL] using hi
             exact ⟨by simp [go_sem], by simp [go_sem], by simp [go_sem], by simp [go_sem], by simp [go_sem]⟩
  | i + 2, hi => simp [exL] at hi
end Go.Proofs.Ytldaikpchggogaa.Pm
