/- Tasks by their numbers: the mathematics. No dump is imported. -/
import Derived.WalkKit
import Derived.OpenShut
namespace Go.Proofs.Ytnaanahgflbihaa.Pm
set_option maxRecDepth 100000
set_option linter.unusedVariables false
def I64 (z : Int) : Prop := -9223372036854775808 ≤ z ∧ z ≤ 9223372036854775807
/-- a task -/
structure Tk where
  id : Int
  c : Int
  d : Int
  t : Int
  m : Int
structure Tk.Ok (x : Tk) : Prop where
  id : I64 x.id
  c : I64 x.c
  d : I64 x.d
  t : I64 x.t
  m : I64 x.m
def Tk.v (x : Tk) : Value := .agg #[.int .i64 x.id, .int .i64 x.c, .int .i64 x.d, .int .i64 x.t, .int .i64 x.m]
/-- may it be? -/
def chk (x : Tk) : Bool := decide (0 ≤ x.id ∧ x.id ≤ 1023 ∧ 1 ≤ x.c ∧ x.c ≤ x.d ∧ x.d ≤ x.t ∧ x.t ≤ 2147483648 ∧ 1 ≤ x.m ∧ x.m ≤ 15)
theorem chk_iff {x : Tk} : chk x = true ↔ 0 ≤ x.id ∧ x.id ≤ 1023 ∧ 1 ≤ x.c ∧ x.c ≤ x.d ∧ x.d ≤ x.t ∧ x.t ≤ 2147483648 ∧ 1 ≤ x.m ∧ x.m ≤ 15 := by simp [chk]
/-- may they be? -/
def rowB (l : List Tk) : Bool := decide (l.length ≤ 16) && l.all chk
theorem rowB_all {l : List Tk} (h : rowB l = true) : ∀ x ∈ l, chk x = true := by simp [rowB] at h; exact h.2
theorem rowB_len {l : List Tk} (h : rowB l = true) : l.length ≤ 16 := by simp [rowB] at h; exact h.1
/-- the least common period, from p on; none: it is too great -/
def pers : List Tk → Nat → Option Nat
  | [], p => some p
  | x :: l, p => if 1048576 < Nat.lcm p x.t.toNat then none else pers l (Nat.lcm p x.t.toNat)
def periodR (l : List Tk) : Int × Int := if rowB l then (match pers l 1 with | some p => ((p : Int), 0) | none => (0, (16 : Int))) else (0, 1)
/-- how much work comes in p -/
def work (p : Int) : List Tk → Int
  | [] => 0
  | x :: l => x.c * (p / x.t) + work p l
structure Ld where
  n : Int
  p : Int
  e : Int
def loadR (l : List Tk) : Ld := if (periodR l).2 = 0 then ⟨work (periodR l).1 l, (periodR l).1, 0⟩ else ⟨0, 0, (periodR l).2⟩
/-- has a less share of the time than b? -/
def light (a b : Tk) : Bool := decide (a.c * b.t < b.c * a.t)
def heavy (a b : Tk) : Bool := chk a && chk b && !light a b && (light b a || decide (a.id < b.id))
theorem gcd_step {a b : Int} : Int.gcd b (a.tmod b) = Int.gcd a b := by
  rw [Int.gcd_comm a b]
  unfold Int.gcd
  rw [Int.natAbs_tmod]
  rw [Nat.gcd_comm, ← Nat.gcd_rec]
theorem tmod_lt {a b : Int} (h : b ≠ 0) : (a.tmod b).natAbs < b.natAbs := by
  rw [Int.natAbs_tmod]; exact Nat.mod_lt _ (by omega)
theorem lcm_eq {p t : Nat} (hp : 0 < p) : p * (t / Nat.gcd p t) = Nat.lcm p t := by
  unfold Nat.lcm
  rw [Nat.mul_div_assoc _ (Nat.gcd_dvd_right p t)]
theorem lcm_eq' {p t : Nat} : p / Nat.gcd p t * t = Nat.lcm p t := by
  unfold Nat.lcm
  rw [Nat.mul_comm, ← Nat.mul_div_assoc _ (Nat.gcd_dvd_left p t), Nat.mul_comm]
theorem lcm_le {p t : Nat} (hp : p ≤ 1048576) (ht : t ≤ 2147483648) : Nat.lcm p t ≤ 2251799813685248 := by
  have : Nat.lcm p t ≤ p * t := Nat.div_le_self _ _
  have := Nat.mul_le_mul hp ht
  omega
theorem lcm_pos {p t : Nat} (hp : 0 < p) (ht : 0 < t) : 0 < Nat.lcm p t := Nat.lcm_pos hp ht
theorem work_take {l : List Tk} {i : Nat} (h : i < l.length) (p : Int) : work p (l.take (i + 1)) = work p (l.take i) + l[i].c * (p / l[i].t) := by
  induction l generalizing i with
  | nil => simp at h
  | cons x l ih =>
    cases i with
    | zero => simp [work]
    | succ i =>
      simp only [List.take_succ_cons, work, List.getElem_cons_succ]
      rw [ih (by simpa using h)]; omega
theorem term_le {x : Tk} {p : Int} (hx : chk x = true) (hp : 0 ≤ p) : 0 ≤ x.c * (p / x.t) ∧ x.c * (p / x.t) ≤ p ∧ 0 ≤ p / x.t ∧ p / x.t ≤ p := by
  obtain ⟨-, -, h1, h2, h3, -⟩ := chk_iff.1 hx
  have h0 : 0 ≤ p / x.t := Int.ediv_nonneg hp (by omega)
  refine ⟨Int.mul_nonneg (by omega) h0, ?_, h0, Int.ediv_le_self _ hp⟩
  have := Int.mul_le_mul_of_nonneg_right (show x.c ≤ x.t by omega) h0
  have h4 := Int.mul_ediv_self_le (x := p) (k := x.t) (by omega)
  omega
theorem work_le {l : List Tk} {p : Int} (hl : ∀ x ∈ l, chk x = true) (hp : 0 ≤ p) : 0 ≤ work p l ∧ work p l ≤ l.length * p := by
  induction l with
  | nil => simp [work]
  | cons x l ih =>
    have h1 := term_le (hl x (by simp)) hp
    have h2 := ih (fun y hy => hl y (by simp [hy]))
    simp only [work, List.length_cons]
    have : ((l.length + 1 : Nat) : Int) * p = l.length * p + p := by rw [Int.natCast_add, Int.add_mul]; simp
    omega
theorem pers_pos {l : List Tk} : ∀ {p q : Nat}, 0 < p → p ≤ 1048576 → (∀ x ∈ l, chk x = true) → pers l p = some q → 0 < q ∧ q ≤ 1048576 ∧ p ∣ q ∧ ∀ x ∈ l, x.t.toNat ∣ q := by
  induction l with
  | nil => intro p q hp h1 _ h; simp [pers] at h; subst h; exact ⟨hp, h1, Nat.dvd_refl _, by simp⟩
  | cons x l ih =>
    intro p q hp h1 hl h
    have hx := chk_iff.1 (hl x (by simp))
    rw [pers] at h
    split at h
    · cases h
    · obtain ⟨h2, h3, h4, h5⟩ := ih (lcm_pos hp (by omega)) (by omega) (fun y hy => hl y (by simp [hy])) h
      refine ⟨h2, h3, Nat.dvd_trans (Nat.dvd_lcm_left _ _) h4, fun y hy => ?_⟩
      rcases List.mem_cons.1 hy with rfl | hy
      · exact Nat.dvd_trans (Nat.dvd_lcm_right _ _) h4
      · exact h5 y hy
theorem period_ok {l : List Tk} (h : (periodR l).2 = 0) : rowB l = true ∧ ∃ p, pers l 1 = some p ∧ (periodR l).1 = (p : Int) ∧ 0 < p ∧ p ≤ 1048576 := by
  unfold periodR at h ⊢
  by_cases hr : rowB l = true
  · rw [if_pos hr] at h ⊢
    refine ⟨hr, ?_⟩
    cases hp : pers l 1 with
    | none => rw [hp] at h; simp at h
    | some p =>
      have := pers_pos (by omega) (by omega) (rowB_all hr) hp
      exact ⟨p, rfl, rfl, this.1, this.2.1⟩
  · rw [if_neg hr] at h; simp at h
end Go.Proofs.Ytnaanahgflbihaa.Pm
