/- Contracts of package demand's Of; the document's Of. -/
import Derived.Test.YtfnagjfgnbnlbaaDmC
import Derived.Test.YtfnagjfgnbnlbaaPmC
namespace Go.Proofs.Ytfnagjfgnbnlbaa.Dm
open Go.ChangeShapes Go.WideShapes Go.ChangeAt Go.RowKit Go.Joins
open Pm (Tk chk chk_iff rowB rowB_all rowB_len TkAt Ts TRow chk_any rchk_any wrap_in below_drewN row_any rrow_any)
set_option maxRecDepth 100000
set_option maxRecDepth 100000
set_option linter.unusedVariables false
set_option linter.unusedSimpArgs false
/-- the sum of all, each as One tells it -/
def sumR : List Tk → Int → Int
  | [], _ => 0
  | t :: l, x => oneR t x + sumR l x
theorem oneR_le (t : Tk) (x : Int) : 0 ≤ oneR t x ∧ oneR t x ≤ 1101659111424 := by
  unfold oneR
  split
  · rename_i h
    have h1 := isTime_iff.1 h.2
    have h2 := one_le h.1 h1.1
    omega
  · omega
theorem sumR_le (l : List Tk) (x : Int) : 0 ≤ sumR l x ∧ sumR l x ≤ l.length * 1101659111424 := by
  induction l with
  | nil => simp [sumR]
  | cons t l ih =>
    have h1 := oneR_le t x
    simp only [sumR, List.length_cons]
    have : ((l.length + 1 : Nat) : Int) * 1101659111424 = l.length * 1101659111424 + 1101659111424 := by rw [Int.natCast_add, Int.add_mul]; simp
    omega
theorem sumR_append {l m : List Tk} {x : Int} : sumR (l ++ m) x = sumR l x + sumR m x := by
  induction l with
  | nil => simp [sumR]
  | cons t l ih => rw [List.cons_append, sumR, sumR, ih]; omega
theorem sumR_take {l : List Tk} {i : Nat} (h : i < l.length) (x : Int) : sumR (l.take (i + 1)) x = sumR (l.take i) x + oneR l[i] x := by
  rw [List.take_succ_eq_append_getElem h, sumR_append]; simp [sumR]
theorem sumR_zero {l : List Tk} {x : Int} (h : isTime x = false) : sumR l x = 0 := by
  induction l with
  | nil => rfl
  | cons t l ih => rw [sumR, ih, one_no2 h]; rfl
theorem sumR_sum {l : List Tk} {x : Int} (h : isTime x = true) (hl : ∀ t ∈ l, chk t = true) : sumR l x = sum l x := by
  induction l with
  | nil => rfl
  | cons t l ih => rw [sumR, sum, ih (fun a ha => hl a (by simp [ha])), one_yes (hl t (by simp)) h]; rfl
theorem ofR_yes {l : List Tk} {x : Int} (h : rowB l = true) : ofR l x = sumR l x := by
  unfold ofR
  cases hx : isTime x with
  | true => rw [if_pos ⟨h, rfl⟩, sumR_sum hx (rowB_all h)]
  | false => rw [if_neg (by simp), sumR_zero hx]
theorem ofR_no {l : List Tk} {x : Int} (h : rowB l = false) : ofR l x = 0 := by
  unfold ofR; rw [if_neg (by rw [h]; simp)]
/-- i tasks were counted -/
def OfRel (l : List Tk) (x : Int) (B : Nat) (w : World) (g : Nat) (s t : Value) (wx : World) : Prop :=
  ∃ i : Nat, i + g = l.length ∧ s = .int .i64 (sumR (l.take i) x) ∧ t = .int .i64 (i : Int) ∧ Below B w wx
/-- a round's numbers -/
structure Add (S M : Int) : Prop where
  s0 : 0 ≤ S
  s1 : S ≤ 35253091565568
  m0 : 0 ≤ M
  m1 : M ≤ 1101659111424
theorem add_of {l : List Tk} {i : Nat} (x : Int) (hl : l.length ≤ 16) (hlt : i < l.length) : ∃ S M, sumR (l.take i) x = S ∧ oneR l[i] x = M ∧ sumR (l.take (i + 1)) x = S + M ∧ Add S M := by
  have h1 := sumR_le (l.take i) x
  have h2 := oneR_le l[i] x
  have h3 : (l.take i).length ≤ 16 := by rw [List.length_take]; omega
  exact ⟨_, _, rfl, rfl, sumR_take hlt x, ⟨h1.1, by omega, h2.1, h2.2⟩⟩
end Go.Proofs.Ytfnagjfgnbnlbaa.Dm
