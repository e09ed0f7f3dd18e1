/- Contract of package busy's Steps. -/
import Derived.Test.YtbhafcaekpccoaaBsG
import Derived.Test.YtbhafcaekpccoaaDmN
namespace Go.Proofs.Ytbhafcaekpccoaa.Bs
open Go.ChangeShapes Go.WideShapes Go.ChangeAt Go.RowKit Go.Joins Go.Shelf
open Pm (Tk chk chk_iff rowB rowB_all rowB_len TkAt Ts TRow loadR)
open Dm (isTime isTime_iff nums NRow Ns nrow_nil nrow_append)
attribute [local go_sem] Oper.semAt_some
set_option maxRecDepth 100000
set_option maxRecDepth 100000
set_option linter.unusedVariables false
set_option linter.unusedSimpArgs false
theorem wpListIn_append_run {F : Fence} {n : Nat} {P : Program} (w : World) {ops : Array Oper} {rest : List Oper} {o : Oper} {a : Act} {Q : Exit → Act → World → Prop} (hgd : o.guard = none) (s x : Operand) (t tn : TypeId)
    (hop : o.op = .call { callee := .builtin .append, args := #[s, x], argTypes := #[t, tn] }) (vs vx : Value) (hs : a.eval s = vs) (hx : a.eval x = vx)
    (v' : Value) (w' : World) (hr : (Builtin.append_ #[t, tn] o.type #[vs, vx]).run P w = .ok v' w') (h : wpListIn F n P ops Q rest (a.put o.dst v') w') : wpListIn F n P ops Q (o :: rest) a w := by
  refine wpListIn_plain hgd fun K hK' => ?_
  unfold Oper.wpIn
  refine ⟨?_, ?_⟩
  · simp [Oper.about, hop, resolve, Target.leads, Sem.run_pure]
  · rw [Oper.semAt_plain F _ _ (by rw [hop]; intro c hc'; cases hc')]
    simp [execOp, hop, resolve, invoke, builtin, hs, hx, hr, Result.andThen]
    exact hK' _ _ h
/-- each one is the work of the one ahead of it; all but the last one are below m, which is the last one -/
def fullW (l : List Tk) (m : Int) : Int → List Int → Prop
  | _, [] => False
  | x, y :: r => y = workR l x ∧ ((r = [] ∧ y = m) ∨ (y < m ∧ fullW l m y r))
theorem fullW_uniq {l : List Tk} {m : Int} : ∀ {r s : List Int} {x : Int}, fullW l m x r → fullW l m x s → r = s := by
  intro r
  induction r with
  | nil => intro s x h; exact h.elim
  | cons y r ih =>
    intro s x h k
    cases s with
    | nil => exact k.elim
    | cons z s =>
      obtain ⟨h1, h2⟩ := h
      obtain ⟨k1, k2⟩ := k
      obtain rfl : y = z := by omega
      congr 1
      rcases h2 with ⟨rfl, h2⟩ | ⟨h2, h3⟩
      · rcases k2 with ⟨rfl, k2⟩ | ⟨k2, k3⟩
        · rfl
        · omega
      · rcases k2 with ⟨rfl, k2⟩ | ⟨k2, k3⟩
        · omega
        · exact ih h3 k3
theorem fullW_snoc {l : List Tk} {m : Int} : ∀ {r : List Int} {x y : Int}, chainW l x (r ++ [y]) → (∀ z ∈ r, z < m) → y = m → fullW l m x (r ++ [y]) := by
  intro r
  induction r with
  | nil => intro x y h _ hy; exact ⟨h.1, .inl ⟨rfl, hy⟩⟩
  | cons z r ih => intro x y h hm hy; exact ⟨h.1, .inr ⟨hm z (by simp), ih h.2 (fun a ha => hm a (by simp [ha])) hy⟩⟩
/-- what Steps tells -/
def StepsOf (l : List Tk) (r : List Int) : Prop := (((lengthR l).e ≠ 0 ∨ l = []) ∧ r = []) ∨ ((lengthR l).e = 0 ∧ l ≠ [] ∧ fullW l (lengthR l).n 1 r)
theorem StepsOf.uniq {l : List Tk} {r s : List Int} (h : StepsOf l r) (k : StepsOf l s) : r = s := by
  rcases h with ⟨h1, rfl⟩ | ⟨h1, h2, h3⟩
  · rcases k with ⟨k1, rfl⟩ | ⟨k1, k2, k3⟩
    · rfl
    · rcases h1 with h1 | h1
      · exact absurd k1 h1
      · exact absurd h1 k2
  · rcases k with ⟨k1, rfl⟩ | ⟨k1, k2, k3⟩
    · rcases k1 with k1 | k1
      · exact absurd h1 k1
      · exact absurd k1 h2
    · exact fullW_uniq h3 k3
/-- Steps' own blocks: the length, the row so far -/
structure SpI (w : World) (L : Nat) (m : Int) (pre : List Int) (W : World) : Prop where
  len : W.heap[L]? = some (.cells #[.int .i64 m] 2 (0, 0))
  bel : Below w.heap.size w W
  h1 : (pre.length : Int) ≤ lastI 0 pre
  h2 : lastI 0 pre < m
  h3 : ∀ z ∈ pre, z < m
  row : ∃ v, W.heap[L + 1]? = some (.cells #[v] 30 (0, 0)) ∧ NRow (L + 7) W v pre
def SpX (id : Nat) (l : List Tk) (w : World) (L : Nat) (m : Int) (c : Code) (pre : List Int) (W : World) : Prop :=
  c = .exit id ∧ fullW l m 1 pre ∧ Below w.heap.size w W ∧ ∃ v, W.heap[L + 1]? = some (.cells #[v] 30 (0, 0)) ∧ NRow (L + 7) W v pre
theorem row_off {L lo hi : Nat} {A B : World} {v : Value} {r : List Int} (h : NRow (L + 7) A v r) (o : Off lo hi A B) (h1 : hi ≤ L + 7) : NRow (L + 7) B v r :=
  h.of_blocks fun k hk => o.block k (h.lt k hk).2 (.inr (by have := (h.lt k hk).1; omega))
theorem spI_off {w : World} {L : Nat} {m : Int} (h1 : w.heap.size ≤ L) (pre : List Int) (A B : World) (h : SpI w L m pre A) (o : Off (L + 3) (L + 7) A B) : SpI w L m pre B := by
  obtain ⟨a, b, c, d, e, v, f, g⟩ := h
  exact ⟨o.at (by omega) a, o.below (by omega) b (Nat.le_refl _), c, d, e, v, o.at (by omega) f, row_off g o (by omega)⟩
theorem spX_off {id : Nat} {l : List Tk} {w : World} {L : Nat} {m : Int} (h1 : w.heap.size ≤ L) (c : Code) (pre : List Int) (A B : World) (h : SpX id l w L m c pre A) (o : Off (L + 3) (L + 7) A B) : SpX id l w L m c pre B := by
  obtain ⟨a, b, c, v, f, g⟩ := h
  exact ⟨a, b, o.below (by omega) c (Nat.le_refl _), v, o.at (by omega) f, row_off g o (by omega)⟩
/-- one number more -/
theorem SpI.app {w W : World} {L : Nat} {m x : Int} {pre : List Int} {v : Value} (hw : w.heap.size ≤ L) (hz : L + 7 ≤ W.heap.size) (hlen : W.heap[L]? = some (.cells #[.int .i64 m] 2 (0, 0))) (hb : Below w.heap.size w W)
    (hv : W.heap[L + 1]? = some (.cells #[v] 30 (0, 0))) (hr : NRow (L + 7) W v pre) (hn : pre.length ≤ 4000000) :
    ∃ v' w', (Builtin.append_ #[30, 30] 30 #[v, .slice (some ⟨W.heap.size, 0, none⟩) 1 1]).run Try.prog (W.alloc (.cells #[.int .i64 x] 2)) = .ok v' w' ∧ w'.cell? ⟨L + 1, 0, none⟩ = some v ∧ w'.frozen? ⟨L + 1, 0, none⟩ = false ∧
      (w'.setCell ⟨L + 1, 0, none⟩ v').cell? ⟨L, 0, none⟩ = some (.int .i64 m) ∧
      (w'.setCell ⟨L + 1, 0, none⟩ v').heap[L]? = some (.cells #[.int .i64 m] 2 (0, 0)) ∧ (w'.setCell ⟨L + 1, 0, none⟩ v').heap[L + 1]? = some (.cells #[v'] 30 (0, 0)) ∧ NRow (L + 7) (w'.setCell ⟨L + 1, 0, none⟩ v') v' (pre ++ [x]) ∧ Below w.heap.size w (w'.setCell ⟨L + 1, 0, none⟩ v') ∧
      (∀ k, k < L + 7 → k ≠ L + 1 → (w'.setCell ⟨L + 1, 0, none⟩ v').heap[k]? = W.heap[k]?) ∧ KeepsFrom (L + 3) W (w'.setCell ⟨L + 1, 0, none⟩ v') := by
  obtain ⟨v', w', hap, ho, hbw, hk, hs⟩ := nrow_append (L + 7) W v pre x hr hz hn
  have hlt := fun k e => (hr.lt k e).1
  have b1 : w'.heap[L + 1]? = some (.cells #[v] 30 (0, 0)) := (hk _ (by omega) (fun e => by have := hlt _ e; omega)).trans hv
  have b0 : w'.heap[L]? = some (.cells #[.int .i64 m] 2 (0, 0)) := (hk _ (by omega) (fun e => by have := hlt _ e; omega)).trans hlen
  have other : ∀ k, k ≠ L + 1 → (w'.setCell ⟨L + 1, 0, none⟩ v').heap[k]? = w'.heap[k]? := fun k hn => Below.heap_setCell _ _ _ _ hn
  have hsz : (w'.setCell ⟨L + 1, 0, none⟩ v').heap.size = w'.heap.size := by simp [World.setCell]
  have c0 : (w'.setCell ⟨L + 1, 0, none⟩ v').heap[L]? = some (.cells #[.int .i64 m] 2 (0, 0)) := (other _ (by omega)).trans b0
  refine ⟨v', w', hap, by rw [Lib.cell_of_heap b1]; rfl, Lib.frozen_of_heap b1 0, by rw [Lib.cell_of_heap c0]; rfl, c0, ?_, ho.of_blocks fun k hk => other k (fun e => by have := (ho.lt k hk).1; omega), hb.trans ((hbw.mono (by have := hb.size; omega)).setCell (by simp; have := hb.size; omega) _), fun k hk1 hn1 => (other k hn1).trans (hk k (by omega) (fun e => by have := hlt _ e; omega)), ⟨by omega, fun k o hk1 ho1 hc1 => ?_⟩⟩
  · simp [World.setCell, Array.getElem?_modify, b1]
  · have hkl := (Array.getElem?_eq_some_iff.1 ho1).1
    rw [other k (fun e => by subst e; rw [hv] at ho1; cases ho1; cases hc1), hk k hkl (fun e => by obtain ⟨cur, hc⟩ := hr.block k e; rw [hc] at ho1; cases ho1; cases hc1)]
    exact ho1
end Go.Proofs.Ytbhafcaekpccoaa.Bs
