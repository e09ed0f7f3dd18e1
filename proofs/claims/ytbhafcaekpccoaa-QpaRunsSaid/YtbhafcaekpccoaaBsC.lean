/- Least, both. -/
import Derived.Test.YtbhafcaekpccoaaBsB
namespace Go.Proofs.Ytbhafcaekpccoaa.Bs
open Go.ChangeShapes Go.WideShapes Go.ChangeAt Go.RowKit Go.Joins
open Pm (Tk chk chk_iff rowB rowB_all rowB_len TkAt Ts TRow wrap_in row_any rrow_any below_drewN)
open Dm (isTime isTime_iff isDl nextR nextR_is nextR_none nextR_no ans next_any)
set_option maxRecDepth 100000
set_option maxRecDepth 100000
set_option linter.unusedVariables false
set_option linter.unusedSimpArgs false
theorem leastD_take {l : List Tk} : ∀ {m : Int} {i : Nat} (h : i < l.length), leastD m (l.take (i + 1)) = if l[i].d < leastD m (l.take i) then l[i].d else leastD m (l.take i) := by
  induction l with
  | nil => intro m i h; simp at h
  | cons t l ih =>
    intro m i h
    cases i with
    | zero => simp [leastD]
    | succ i =>
      rw [List.take_succ_cons, List.take_succ_cons, leastD, leastD, List.getElem_cons_succ]
      exact ih (by simpa using h)
theorem leastD_is {l : List Tk} : ∀ {m : Int}, leastD m l ≤ m ∧ (∀ t ∈ l, leastD m l ≤ t.d) ∧ (leastD m l = m ∨ ∃ t ∈ l, leastD m l = t.d) := by
  induction l with
  | nil => intro m; simp [leastD]
  | cons t l ih =>
    intro m
    rw [leastD]
    obtain ⟨h1, h2, h3⟩ := ih (m := if t.d < m then t.d else m)
    have h4 : (if t.d < m then t.d else m) ≤ m ∧ (if t.d < m then t.d else m) ≤ t.d ∧ ((if t.d < m then t.d else m) = m ∨ (if t.d < m then t.d else m) = t.d) := by
      split
      · exact ⟨by omega, by omega, .inr rfl⟩
      · exact ⟨by omega, by omega, .inl rfl⟩
    generalize (if t.d < m then t.d else m) = k at *
    refine ⟨by omega, fun u hu => ?_, ?_⟩
    · rcases List.mem_cons.1 hu with rfl | hu
      · omega
      · exact h2 u hu
    · rcases h3 with h3 | ⟨u, hu, h3⟩
      · rcases h4.2.2 with h5 | h5
        · left; omega
        · right; exact ⟨t, by simp, by omega⟩
      · right; exact ⟨u, by simp [hu], h3⟩
theorem leastR_cons {t : Tk} {r : List Tk} (h : rowB (t :: r) = true) : leastR (t :: r) = leastD t.d (t :: r) := by unfold leastR; simp only; rw [if_pos h]
theorem leastR_no {l : List Tk} (h : rowB l = false) : leastR l = 0 := by
  unfold leastR
  split
  · rfl
  · rw [if_neg (by rw [h]; simp)]
theorem leastR_nil : leastR [] = 0 := rfl
/-- the first deadline of all is the least D -/
theorem next_least (l : List Tk) : (nextR l 0 = some (leastR l)) ∨ (nextR l 0 = none ∧ leastR l = 0) := by
  cases hr : rowB l with
  | false => exact .inr ⟨nextR_no hr, leastR_no hr⟩
  | true =>
    cases l with
    | nil => exact .inr ⟨by decide, rfl⟩
    | cons t r =>
      have hl := rowB_all hr
      have hp : ∀ u ∈ t :: r, 0 < u.t := fun u hu => by have := chk_iff.1 (hl u hu); omega
      left
      have hd := fun u (hu : u ∈ t :: r) => chk_iff.1 (hl u hu)
      have own : ∀ u ∈ t :: r, isDl u u.d := fun u hu => ⟨Int.le_refl _, by simp⟩
      obtain ⟨h1, h2, h3⟩ := leastD_is (l := t :: r) (m := t.d)
      rw [leastR_cons hr]
      cases hn : nextR (t :: r) 0 with
      | none =>
        have := nextR_none hr (by decide) hp hn t (by simp) _ (own t (by simp)) (by have := hd t (by simp); omega)
        have := hd t (by simp)
        omega
      | some y =>
        obtain ⟨-, -, ⟨v, hv, hdv⟩, h5⟩ := nextR_is hp hn
        have h6 := h2 v hv
        have h7 := hdv.1
        rcases h3 with h3 | ⟨u, hu, h3⟩
        · have h8 := h5 t (by simp) _ (own t (by simp)) (by have := hd t (by simp); omega)
          congr 1; omega
        · have h8 := h5 u hu _ (own u hu) (by have := hd u hu; omega)
          congr 1; omega
set_option maxHeartbeats 1000000 in
theorem least_any (l : List Tk) (ao : Option Addr) (cap : Nat) (w : World) (hT : Ts ao l w) (hl : l.length ≤ 9223372036854775807) :
    Calls Try.prog 43 #[.slice ao l.length cap] w fun e w' => e = .returned (.int .i64 (leastR l)) ∧ Below w.heap.size w w' := by
  have NE := Lib.hid (next_any l ao cap 0 w hT hl)
  obtain ⟨b, hy⟩ : ∃ b, ans (nextR l 0) = .tuple #[.int .i64 (leastR l), .bool b] := by
    rcases next_least l with h | ⟨h, h2⟩
    · exact ⟨true, by rw [h]; rfl⟩
    · exact ⟨false, by rw [h, h2]; rfl⟩
  rw [hy] at NE
  clear hy hT
  generalize leastR l = r at *
  go_enter Try.func43, Try.ntmps43
  go_wp2_with fail
  (with_reducible refine NE.out.mono ?_)
  rintro e w1 ⟨rfl, b1⟩
  go_wp2
  go_ret
  exact ⟨rfl, b1⟩
/-- i tasks were looked at -/
def LdRel (l : List Tk) (m : Int) (w : World) (g : Nat) (s t : Value) (wx : World) : Prop :=
  ∃ i : Nat, i + g = l.length ∧ s = .int .i64 (leastD m (l.take i)) ∧ t = .int .i64 (i : Int) ∧ Below w.heap.size w wx
set_option maxHeartbeats 4000000 in
theorem rleast_any (l : List Tk) (ao : Option Addr) (cap : Nat) (w : World) (hT : Ts ao l w) (hl : l.length ≤ 1000000) :
    Calls Try.prog 32 #[.slice ao l.length cap] w fun e w' => e = .returned (.int .i64 (leastR l)) ∧ Below w.heap.size w w' := by
  have RO := Lib.hid (fun w h => rrow_any l ao cap w h hl)
  have T := Lib.hid hT
  cases hr : rowB l with
  | false =>
    have E := Lib.hid (leastR_no hr)
    rw [hr] at RO
    generalize leastR l = r at *
    clear hr
    go_enter Try.func32, Try.ntmps32
    go_wp2_with fail
    (with_reducible refine (RO.out _ hT).mono ?_)
    rintro e w1 ⟨rfl, b1⟩
    have K1 := Lib.hid b1
    clear b1 hT
    go_wp2
    go_ret
    exact ⟨by rw [E.out]; rfl, K1.out⟩
  | true =>
    rw [hr] at RO
    by_cases h0 : l.length = 0
    · have E : Hid (leastR l = 0) := Lib.hid (by rw [List.eq_nil_of_length_eq_zero h0]; rfl)
      have e0 : ((l.length : Int) == 0) = true := by rw [h0]; rfl
      generalize leastR l = r at *
      generalize l.length = n at *
      clear hr h0
      go_enter Try.func32, Try.ntmps32
      go_wp2_with fail
      (with_reducible refine (RO.out _ hT).mono ?_)
      rintro e w1 ⟨rfl, b1⟩
      have K1 := Lib.hid b1
      clear b1 hT
      go_wp2
      go_ret
      exact ⟨by rw [E.out]; rfl, K1.out⟩
    · have h1 : 0 < l.length := by omega
      have E : Hid (leastR l = leastD l[0].d l) := Lib.hid (by
        cases l with
        | nil => simp at h1
        | cons t r => exact leastR_cons hr)
      have e0 : ((l.length : Int) == 0) = false := beq_eq_false_iff_ne.2 (by omega)
      have e1 : ¬ (l.length : Int) = 0 := by omega
      have f0 : (0 : Int) < (l.length : Int) := by omega
      obtain ⟨b, off, rfl, hb, hat⟩ := hT h1
      have hx0 := hat 0 l[0] (List.getElem?_eq_getElem h1)
      have HX := Lib.hid hx0
      have HA := Lib.hid hat
      have TT := Lib.hid hT
      obtain ⟨-, -, a2, -, -⟩ := hx0
      have a2' : w.cell? ⟨b, off + 2, none⟩ = some (.int .i64 l[0].d) := by simpa using a2
      have A2 := Lib.hid a2'
      clear hr h0 hat a2 a2' hT
      generalize leastR l = r at *
      generalize l[0].d = m at *
      go_enter Try.func32, Try.ntmps32
      go_wp2_with fail
      (with_reducible refine (RO.out _ TT.out).mono ?_)
      rintro e w1 ⟨rfl, b1⟩
      have K1 := Lib.hid b1
      have a2 := carry b1 A2.out
      clear b1
      go_wp2_with fail
      go_loopg [4, 5] l.length (LdRel l m w)
      case atStart => exact ⟨0, by omega, by simp [leastD], rfl, K1.out⟩
      case round =>
        obtain ⟨i, hi, rfl, rfl, hB⟩ := hrel
        have KB := Lib.hid hB
        have K2 := hB
        by_cases hlt : i < l.length
        · have hx := (HA.out i l[i] (List.getElem?_eq_getElem hlt)).below hB hb
          have e := leastD_take (m := m) hlt
          have HI := Lib.hid hi
          have hg0 : 0 < gk := by omega
          have hlt' : (i : Int) < (l.length : Int) := by omega
          clear hi hB K2 a2
          generalize leastD m (l.take i) = M at *
          generalize l[i] = t at *
          obtain ⟨c0, c1, c2, c3, c4⟩ := hx
          by_cases h : t.d < M
          · have HN := Lib.hid (e.trans (if_pos h))
            clear e
            go_wp2
            go_roundg (gk - 1)
            case measure => omega
            case rel => exact ⟨i + 1, by have := HI.out; omega, by rw [HN.out], by go_num, KB.out⟩
          · have HN := Lib.hid (e.trans (if_neg h))
            have h' : M ≤ t.d := by omega
            clear e h
            go_wp2
            go_roundg (gk - 1)
            case measure => omega
            case rel => exact ⟨i + 1, by have := HI.out; omega, by rw [HN.out], by go_num, KB.out⟩
        · have hge : (l.length : Int) ≤ (i : Int) := by omega
          rw [List.take_of_length_le (by omega)]
          clear hB K2 hi hlt a2
          go_wp2
          go_ret
          exact ⟨by rw [E.out]; rfl, KB.out⟩
end Go.Proofs.Ytbhafcaekpccoaa.Bs
