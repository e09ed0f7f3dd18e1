/- Ops by plain numbers, and sets by such ops: the mathematics of layer 15's statements. -/
import Derived.Test.YtgbnoifaknlkhaaJuMath
namespace Go.Proofs.Ytgbnoifaknlkhaa.Ju
open Pm (Tk chk chk_iff I64)
open Tb
open Ox (Od chkR chkR_iff tk0)
set_option maxRecDepth 100000
set_option maxRecDepth 100000
set_option linter.unusedVariables false
set_option linter.unusedSimpArgs false
/-- an op by plain numbers -/
structure Nm where
  kind : Int
  id : Int
  c : Int
  d : Int
  t : Int
  m : Int
  sv : Bool
/-- the low bits of a number -/
theorem and_low (n : Int) (k : Nat) (hk : k ≤ 31) : bits .and .i64 n ((2 ^ k : Nat) - 1 : Int) = n % ((2 ^ k : Nat) : Int) := by
  have h2 : 2 ^ k ≤ 2 ^ 31 := Nat.pow_le_pow_right (by omega) hk
  have h1 : 0 < 2 ^ k := Nat.two_pow_pos k
  have hm : (BitVec.ofInt 64 ((2 ^ k : Nat) - 1 : Int)).toNat = 2 ^ k - 1 := by
    rw [BitVec.toNat_ofInt]
    omega
  have hd : 2 ^ k ∣ 2 ^ 64 := Nat.pow_dvd_pow 2 (by omega)
  have key : (BitVec.ofInt 64 n &&& BitVec.ofInt 64 ((2 ^ k : Nat) - 1 : Int)).toNat = (n % ((2 ^ 64 : Nat) : Int)).toNat % 2 ^ k := by
    rw [BitVec.toNat_and, BitVec.toNat_ofInt, hm, Nat.and_two_pow_sub_one_eq_mod]
  show IntKind.i64.wrap ((BitVec.ofInt 64 n &&& BitVec.ofInt 64 ((2 ^ k : Nat) - 1 : Int)).toNat : Nat) = n % ((2 ^ k : Nat) : Int)
  rw [key]
  have e0 : 0 ≤ n % ((2 ^ 64 : Nat) : Int) := Int.emod_nonneg _ (by omega)
  have e1 : (((n % ((2 ^ 64 : Nat) : Int)).toNat % 2 ^ k : Nat) : Int) = n % ((2 ^ k : Nat) : Int) := by
    rw [Int.natCast_emod, Int.toNat_of_nonneg e0]
    exact Int.emod_emod_of_dvd n (Int.natCast_dvd_natCast.2 hd)
  rw [e1]
  have e2 : 0 ≤ n % ((2 ^ k : Nat) : Int) := Int.emod_nonneg _ (by omega)
  have e3 : n % ((2 ^ k : Nat) : Int) < ((2 ^ k : Nat) : Int) := Int.emod_lt_of_pos _ (by omega)
  exact IntWalk.i64_in _ (by omega)
theorem and1 (n : Int) : bits .and .i64 n 1 = n % 2 := and_low n 1 (by omega)
theorem and3 (n : Int) : bits .and .i64 n 3 = n % 4 := and_low n 2 (by omega)
theorem and7 (n : Int) : bits .and .i64 n 7 = n % 8 := and_low n 3 (by omega)
/-- a bit is 0 or 1 -/
theorem bit_two (k : Int) (x : Tk) : (bits .and .i64 (x.m / 2 ^ k.toNat) 1 == 0) = !bt k x := by
  unfold bt
  rw [and1]
  rcases (by omega : x.m / 2 ^ k.toNat % 2 = 0 ∨ x.m / 2 ^ k.toNat % 2 = 1) with h | h <;> rw [h] <;> rfl
/-- what is left, not below 0 -/
def rm (a m : Int) : Int := (a.tmod m + m).tmod m
theorem rm_in (a : Int) {m : Int} (hm : 0 < m) : 0 ≤ rm a m ∧ rm a m < m ∧ -m < a.tmod m ∧ a.tmod m < m := by
  have h1 := Int.tmod_lt_of_pos a hm
  have h2 := Int.lt_tmod_of_pos a hm
  unfold rm
  rw [Int.tmod_eq_emod_of_nonneg (by omega)]
  exact ⟨Int.emod_nonneg _ (by omega), Int.emod_lt_of_pos _ hm, h2, h1⟩
def perA : List Int := [2, 3, 4, 5, 6, 8, 10, 12]
def per (n : Int) : Int := perA.getD (n % 8).toNat 2
theorem per_in (n : Int) : 2 ≤ per n ∧ per n ≤ 12 ∧ (per n).toNat ∣ 120 ∧ perA[(n % 8).toNat]? = some (per n) := by
  unfold per
  have h : (n % 8).toNat < 8 := by omega
  generalize (n % 8).toNat = k at *
  rcases (by omega : k = 0 ∨ k = 1 ∨ k = 2 ∨ k = 3 ∨ k = 4 ∨ k = 5 ∨ k = 6 ∨ k = 7) with rfl | rfl | rfl | rfl | rfl | rfl | rfl | rfl <;> decide
def dR (n : Nm) : Int := if n.sv = true then per n.t else 1 + rm n.d (per n.t)
theorem dR_in (n : Nm) : 1 ≤ dR n ∧ dR n ≤ per n.t := by
  have h := per_in n.t
  have h2 := rm_in n.d (show 0 < per n.t by omega)
  unfold dR
  split <;> omega
/-- the task that is meant -/
def taskR (n : Nm) : Tk := ⟨n.id % 8, 1 + rm n.c (dR n), dR n, per n.t, 1 + rm n.m 15⟩
theorem task_chk (n : Nm) : chk (taskR n) = true := by
  have h := per_in n.t
  have h2 := dR_in n
  have h3 := rm_in n.c (show 0 < dR n by omega)
  have h4 := rm_in n.m (show (0 : Int) < 15 by omega)
  rw [chk_iff]
  unfold taskR
  simp only
  omega
theorem task_dv (n : Nm) : (taskR n).t.toNat ∣ 120 := (per_in n.t).2.2.1
/-- the op that is meant -/
def opR (n : Nm) : Od := if n.kind % 8 = 5 then ⟨2, tk0, false, n.id % 8, 0, 0⟩ else if n.kind % 8 = 6 then ⟨3, tk0, false, n.id % 8, (taskR n).c, 0⟩ else if n.kind % 8 = 7 then ⟨4, tk0, false, 0, 0, n.m % 4⟩ else ⟨1, taskR n, n.sv, 0, 0, 0⟩
theorem op_dv (n : Nm) : (opR n).kind = 1 → (opR n).task.t.toNat ∣ 120 := by
  unfold opR
  split
  · intro h; cases h
  · split
    · intro h; cases h
    · split
      · intro h; cases h
      · intro _; exact task_dv n
theorem apply_dv {t : Tb.Tb} {o : Od} (hd : DV t.rows) (ho : o.kind = 1 → o.task.t.toNat ∣ 120) : DV (applyR t o).1.rows := by
  have z : DV tb0.rows := fun r hr => by cases hr
  unfold applyR
  split
  · exact z
  · split
    · rename_i hk
      split
      · exact z
      · split
        · exact z
        · intro r hr
          rcases ins_mem.1 hr with rfl | hr
          · exact ho hk
          · exact hd r hr
    · split
      · exact hd
      · split
        · exact z
        · rename_i k hk
          split
          · split
            · exact z
            · rename_i r hr
              split
              · exact z
              · intro q hq
                rcases List.mem_append.1 hq with hq | hq
                · exact hd q (List.mem_of_mem_take hq)
                · rcases List.mem_cons.1 hq with rfl | hq
                  · exact hd r (List.mem_of_getElem? hr)
                  · exact hd q (List.mem_of_mem_drop hq)
          · intro q hq
            exact hd q ((cut_sub _ _).subset hq)
theorem may_dv {t : Tb.Tb} {o : Od} {ex : List Tk} (hd : DV t.rows) (ho : o.kind = 1 → o.task.t.toNat ∣ 120) (h : (mayR t o ex).2 = 0) : DV (mayR t o ex).1.rows := by
  rw [(may_zero h).1]; exact apply_dv hd ho
/-- an op that may be applied, or may be, or not -/
def stepJ (f : Bool) (t : Tb.Tb) (n : Nm) : Tb.Tb := if (if f = true then mayR t (opR n) [] else applyR t (opR n)).2 = 0 then (if f = true then mayR t (opR n) [] else applyR t (opR n)).1 else t
def madeN (f : Bool) (l : List Nm) (n : Nat) : Tb.Tb := (l.take n).foldl (stepJ f) tb0
def madeT (f : Bool) (l : List Nm) : Tb.Tb := madeN f l (min l.length 16)
theorem madeN_zero (f : Bool) (l : List Nm) : madeN f l 0 = tb0 := by simp [madeN]
theorem madeN_succ {f : Bool} {l : List Nm} {i : Nat} (h : i < l.length) : madeN f l (i + 1) = stepJ f (madeN f l i) l[i] := by
  unfold madeN
  rw [List.take_succ_eq_append_getElem h, List.foldl_append]; rfl
/-- what holds of no rows, and at each step, holds of what is made -/
theorem madeN_all {f : Bool} {P : Tb.Tb → Prop} (h0 : P tb0) (hs : ∀ t n, P t → P (stepJ f t n)) (l : List Nm) (n : Nat) : P (madeN f l n) := by
  unfold madeN
  generalize l.take n = m
  have key : ∀ (m : List Nm) (t : Tb.Tb), P t → P (m.foldl (stepJ f) t) := by
    intro m
    induction m with
    | nil => intro t h; exact h
    | cons o m ih => intro t h; exact ih _ (hs t o h)
  exact key m tb0 h0
theorem madeN_chk (f : Bool) (l : List Nm) (n : Nat) : chkT (madeN f l n) = true := by
  refine madeN_all (P := fun t => chkT t = true) chk_tb0 (fun t n h => ?_) l n
  unfold stepJ
  cases f
  · simp only [Bool.false_eq_true, if_false]
    split
    · rename_i h1; exact (apply_chk h1).1
    · exact h
  · simp only [if_true]
    split
    · rename_i h1; rw [(may_zero h1).1]; exact (apply_chk (may_zero h1).2.1).1
    · exact h
theorem madeN_dv (f : Bool) (l : List Nm) (n : Nat) : DV (madeN f l n).rows := by
  refine madeN_all (P := fun t => DV t.rows) (fun r hr => by cases hr) (fun t n h => ?_) l n
  unfold stepJ
  cases f
  · simp only [Bool.false_eq_true, if_false]
    split
    · exact apply_dv h (op_dv n)
    · exact h
  · simp only [if_true]
    split
    · rename_i h1; exact may_dv h (op_dv n) h1
    · exact h
theorem madeN_fits (l : List Nm) (n : Nat) : fitsR (madeN true l n) = 0 := by
  refine madeN_all (P := fun t => fitsR t = 0) fits_tb0 (fun t n h => ?_) l n
  unfold stepJ
  simp only [if_true]
  split
  · rename_i h1; exact may_fits h1
  · exact h
theorem made_chk (f : Bool) (l : List Nm) : chkT (madeT f l) = true := madeN_chk f l _
theorem made_dv (f : Bool) (l : List Nm) : DV (madeT f l).rows := madeN_dv f l _
theorem made_fits (l : List Nm) : fitsR (madeT true l) = 0 := madeN_fits l _
/-- extra tasks, to 4 -/
def tasksR (l : List Nm) : List Tk := (l.take 4).map taskR
theorem tasksR_len (l : List Nm) : (tasksR l).length ≤ 4 := by unfold tasksR; rw [List.length_map, List.length_take]; omega
end Go.Proofs.Ytgbnoifaknlkhaa.Ju
