/- Contracts of package param's Load, Over. -/
import Derived.Test.YtldaikpchggogaaPmP
namespace Go.Proofs.Ytldaikpchggogaa.Pm
open Go.ChangeShapes Go.WideShapes Go.ChangeAt Go.RowKit Go.Joins
set_option maxRecDepth 100000
set_option maxRecDepth 100000
set_option linter.unusedVariables false
set_option linter.unusedSimpArgs false
/-- i tasks were counted -/
def LoRel (l : List Tk) (p : Int) (B : Nat) (w : World) (g : Nat) (s t : Value) (wx : World) : Prop :=
  ∃ i : Nat, i + g = l.length ∧ s = .int .i64 (work p (l.take i)) ∧ t = .int .i64 (i : Int) ∧ Below B w wx
theorem load_yes {l : List Tk} (h : (periodR l).2 = 0) : loadR l = ⟨work (periodR l).1 l, (periodR l).1, 0⟩ := by unfold loadR; rw [if_pos h]
theorem load_no {l : List Tk} (h : (periodR l).2 ≠ 0) : loadR l = ⟨0, 0, (periodR l).2⟩ := by unfold loadR; rw [if_neg h]
theorem wrap_in {z : Int} (h0 : -9223372036854775808 ≤ z) (h1 : z ≤ 9223372036854775807) : IntKind.i64.wrap z = z := by rw [IntKind.wrap_i64]; omega
/-- a round's arithmetic -/
structure Step (S x p D M : Int) (t : Int) : Prop where
  d : p / t = D
  d' : p.tdiv t = D
  m : x * D = M
  wd : IntKind.i64.wrap D = D
  wm : IntKind.i64.wrap M = M
  ws : IntKind.i64.wrap (S + M) = S + M
  m0 : 0 ≤ M
  m1 : M ≤ 1048576
  s0 : 0 ≤ S
  s1 : S ≤ 16777216
  z : ¬ t = 0
  zb : (t == 0) = false
  t0 : 0 < t
theorem step_of {l : List Tk} {p : Nat} {i : Nat} (hr : rowB l = true) (hp : p ≤ 1048576) (hlt : i < l.length) :
    ∃ S D M, work p (l.take i) = S ∧ work p (l.take (i + 1)) = S + M ∧ Step S l[i].c p D M l[i].t := by
  have hx := rowB_all hr _ (List.getElem_mem hlt)
  have h1 := term_le hx (p := (p : Int)) (by omega)
  have h2 := work_le (l := l.take i) (p := (p : Int)) (fun x hx => rowB_all hr x (List.mem_of_mem_take hx)) (by omega)
  have hl := rowB_len hr
  have h3 : ((l.take i).length : Int) * (p : Int) ≤ 16 * 1048576 := Int.mul_le_mul (by simp; omega) (by omega) (by omega) (by omega)
  have hc := chk_iff.1 hx
  refine ⟨_, (p : Int) / l[i].t, l[i].c * ((p : Int) / l[i].t), rfl, work_take hlt _, ⟨rfl, ?_, rfl, wrap_in (by omega) (by omega), wrap_in (by omega) (by omega), wrap_in (by omega) (by omega), h1.1, by omega, h2.1, by omega, by omega, by simp; omega, by omega⟩⟩
  exact Int.tdiv_eq_ediv_of_nonneg (by omega)
end Go.Proofs.Ytldaikpchggogaa.Pm
