/- The statements' function run of layer 12: a run of its own, slot by slot. -/
import Derived.Test.YtbhafcaekpccoaaQpV
import Derived.Test.YtbhafcaekpccoaaQpH
import Derived.BigQuiet
namespace Go.Proofs.Ytbhafcaekpccoaa.Qp
open Go.ChangeShapes Go.WideShapes Go.ChangeAt Go.RowKit Go.Joins
open Pm (Tk chk chk_iff rowB rowB_all rowB_len TkAt Ts TRow loadR below_drewN wrap_in)
set_option maxRecDepth 100000
set_option maxRecDepth 100000
set_option linter.unusedVariables false
set_option linter.unusedSimpArgs false
def leF (S : List St) (j : Nat) : Int := match S[j]? with | some s => s.le | none => 0
def duF (S : List St) (j : Nat) : Int := match S[j]? with | some s => s.du | none => 0
theorem leF_at {S : List St} {j : Nat} {s : St} (h : S[j]? = some s) : leF S j = s.le := by unfold leF; rw [h]
theorem duF_at {S : List St} {j : Nat} {s : St} (h : S[j]? = some s) : duF S j = s.du := by unfold duF; rw [h]
theorem leF_set {S : List St} {k : Nat} {y : St} (hk : k < S.length) (j : Nat) : leF (S.set k y) j = if j = k then y.le else leF S j := by
  by_cases h : j = k
  · subst h; rw [if_pos rfl]; exact leF_at (List.getElem?_set_self hk)
  · rw [if_neg h]; unfold leF; rw [List.getElem?_set_ne (fun e => h e.symm)]
theorem duF_set {S : List St} {k : Nat} {y : St} (hk : k < S.length) (j : Nat) : duF (S.set k y) j = if j = k then y.du else duF S j := by
  by_cases h : j = k
  · subst h; rw [if_pos rfl]; exact duF_at (List.getElem?_set_self hk)
  · rw [if_neg h]; unfold duF; rw [List.getElem?_set_ne (fun e => h e.symm)]
/-- the two arrays in memory -/
structure Two8 (A : Nat) (S : List St) (w : World) : Prop where
  le : Ar 8 A (leF S) w
  du : Ar 8 (A + 1) (duF S) w
theorem Two8.call {A : Nat} {S : List St} {w w' : World} (h : Two8 A S w) (hb : Below w.heap.size w w') : Two8 A S w' := ⟨h.le.call hb, h.du.call hb⟩
/-- the k-th is turned, its two cells written over -/
theorem Two8.put {A : Nat} {S : List St} {w : World} (h : Two8 A S w) {k : Nat} (hk : k < S.length) (y : St) : Two8 A (S.set k y) ((w.setCell ⟨A, k, none⟩ (.int .i64 y.le)).setCell ⟨A + 1, k, none⟩ (.int .i64 y.du)) :=
  ⟨((h.le.set y.le).other (by omega)).congr fun j _ => (leF_set hk j).symm, ((h.du.other (by omega)).set y.du).congr fun j _ => (duF_set hk j).symm⟩
theorem Two8.dec {A : Nat} {S : List St} {w : World} (h : Two8 A S w) {k : Nat} {s : St} (hs : S[k]? = some s) : Two8 A (S.set k (decS s)) (w.setCell ⟨A, k, none⟩ (.int .i64 (s.le - 1))) := by
  have hk := (List.getElem?_eq_some_iff.1 hs).1
  refine ⟨(h.le.set (s.le - 1)).congr fun j _ => (leF_set (y := decS s) hk j).symm, (h.du.other (by omega)).congr fun j _ => ?_⟩
  rw [duF_set hk]
  by_cases e : j = k
  · subst e; rw [if_pos rfl, duF_at hs]; rfl
  · rw [if_neg e]
/-- whose deadline is the earliest of the first i: b; -1: none has work -/
def Best (R : List St) (i : Nat) (b : Int) : Prop :=
  (b = -1 ∧ ∀ j, j < i → ∀ s, R[j]? = some s → s.le ≤ 0) ∨ (∃ k s, b = ((k : Nat) : Int) ∧ k < i ∧ R[k]? = some s ∧ 0 < s.le ∧ ∀ j, j < i → ∀ q, R[j]? = some q → 0 < q.le → s.du ≤ q.du)
theorem best_zero (R : List St) : Best R 0 (-1) := .inl ⟨rfl, fun j h => absurd h (by omega)⟩
theorem best_skip {R : List St} {i : Nat} {b : Int} {s : St} (h : Best R i b) (hs : R[i]? = some s) (h0 : s.le ≤ 0 ∨ ∃ k q, b = ((k : Nat) : Int) ∧ R[k]? = some q ∧ q.du ≤ s.du) : Best R (i + 1) b := by
  rcases h with ⟨rfl, h1⟩ | ⟨k, q, rfl, hk, hq, h1, h2⟩
  · refine .inl ⟨rfl, fun j hj t ht => ?_⟩
    by_cases e : j = i
    · subst e
      rw [hs] at ht; cases ht
      rcases h0 with h0 | ⟨k, q, e, -, -⟩
      · exact h0
      · omega
    · exact h1 j (by omega) t ht
  · refine .inr ⟨k, q, rfl, by omega, hq, h1, fun j hj t ht h3 => ?_⟩
    by_cases e : j = i
    · subst e
      rw [hs] at ht; cases ht
      rcases h0 with h0 | ⟨k', q', e, hq', h4⟩
      · omega
      · obtain rfl : k = k' := by omega
        rw [hq] at hq'; cases hq'; exact h4
    · exact h2 j (by omega) t ht h3
theorem best_take {R : List St} {i : Nat} {b : Int} {s : St} (h : Best R i b) (hs : R[i]? = some s) (h0 : 0 < s.le) (hb : b = -1 ∨ ∃ k q, b = ((k : Nat) : Int) ∧ R[k]? = some q ∧ s.du < q.du) : Best R (i + 1) (i : Int) := by
  refine .inr ⟨i, s, rfl, by omega, hs, h0, fun j hj t ht h3 => ?_⟩
  by_cases e : j = i
  · subst e; rw [hs] at ht; cases ht; omega
  · rcases h with ⟨rfl, h1⟩ | ⟨k, q, rfl, hk, hq, h1, h2⟩
    · have := h1 j (by omega) t ht; omega
    · rcases hb with hb | ⟨k', q', e, hq', h4⟩
      · omega
      · obtain rfl : k = k' := by omega
        rw [hq] at hq'; cases hq'
        have := h2 j (by omega) t ht h3
        omega
theorem best_end {R : List St} {b : Int} (h : Best R R.length b) : (b = -1 ∧ ∀ s ∈ R, s.le ≤ 0) ∨ (∃ k s, b = ((k : Nat) : Int) ∧ R[k]? = some s ∧ 0 < s.le ∧ ∀ q ∈ R, 0 < q.le → s.du ≤ q.du) := by
  rcases h with ⟨rfl, h1⟩ | ⟨k, q, rfl, hk, hq, h1, h2⟩
  · refine .inl ⟨rfl, fun s hs => ?_⟩
    obtain ⟨j, hj⟩ := List.mem_iff_getElem?.1 hs
    exact h1 j (List.getElem?_eq_some_iff.1 hj).1 s hj
  · refine .inr ⟨k, q, rfl, hq, h1, fun s hs h3 => ?_⟩
    obtain ⟨j, hj⟩ := List.mem_iff_getElem?.1 hs
    exact h2 j (List.getElem?_eq_some_iff.1 hj).1 s hj h3
def MnRel (l : List Tk) (p : Int) (w : World) (g : Nat) (s : Value) (wx : World) : Prop :=
  ∃ (n : Int) (S : List St), n + g = p + 1 ∧ s = .int .i64 n ∧ Inv l n S ∧ Two8 w.heap.size S wx ∧ Below w.heap.size w wx
def M1Rel (S : List St) (n : Int) (W : World) (g : Nat) (s : Value) (wx : World) : Prop :=
  ∃ i : Nat, i + g = S.length ∧ s = .int .i64 (i : Int) ∧ wx = W ∧ ∀ j, j < i → ∀ s, S[j]? = some s → ¬ late n s
def M2Rel (S : List St) (n : Int) (w : World) (g : Nat) (s : Value) (wx : World) : Prop :=
  ∃ i : Nat, i + g = S.length ∧ s = .int .i64 (i : Int) ∧ Two8 w.heap.size (mixF (relS n) S i) wx ∧ Below w.heap.size w wx
def M3Rel (R : List St) (w : World) (g : Nat) (s t : Value) (wx : World) : Prop :=
  ∃ (i : Nat) (b : Int), i + g = R.length ∧ t = .int .i64 (i : Int) ∧ s = .int .i64 b ∧ Best R i b ∧ Two8 w.heap.size R wx ∧ Below w.heap.size w wx
def z8 : Obj := .cells #[.int .i64 0, .int .i64 0, .int .i64 0, .int .i64 0, .int .i64 0, .int .i64 0, .int .i64 0, .int .i64 0] 57
theorem two8_new (l : List Tk) (w : World) : Two8 w.heap.size (l.map fun t => ⟨t, 0, 0⟩) ((w.alloc z8).alloc z8) := by
  have e1 : ∀ j, leF (l.map fun t => (⟨t, 0, 0⟩ : St)) j = 0 := fun j => by
    unfold leF; rw [List.getElem?_map]; cases l[j]? <;> rfl
  have e2 : ∀ j, duF (l.map fun t => (⟨t, 0, 0⟩ : St)) j = 0 := fun j => by
    unfold duF; rw [List.getElem?_map]; cases l[j]? <;> rfl
  have key : ∀ j, j < 8 → j = 0 ∨ j = 1 ∨ j = 2 ∨ j = 3 ∨ j = 4 ∨ j = 5 ∨ j = 6 ∨ j = 7 := fun j h => by omega
  unfold z8
  refine ⟨⟨fun j hj => ?_, fun j hj => ?_⟩, fun j hj => ?_, fun j hj => ?_⟩ <;> first | rw [e1] | rw [e2] | skip
  all_goals rcases key j hj with rfl | rfl | rfl | rfl | rfl | rfl | rfl | rfl <;> simp [go_sem]
theorem inv_tk {l : List Tk} {n : Int} {S : List St} (h : Inv l n S) {i : Nat} {s : St} (hs : S[i]? = some s) : l[i]? = some s.t := by
  rw [← h.tks, List.getElem?_map, hs]; rfl
theorem inv_len {l : List Tk} {n : Int} {S : List St} (h : Inv l n S) : S.length = l.length := by rw [← h.tks, List.length_map]
theorem lpos {l : List Tk} (h : rowB l = true) : ∀ t ∈ l, Pos t := fun t ht => by
  have := chk_iff.1 (rowB_all h t ht)
  exact ⟨by omega, by omega, by omega, by omega⟩
set_option maxHeartbeats 8000000 in
theorem run_any (l : List Tk) (ao : Option Addr) (cap : Nat) (p : Int) (w : World) (hT : Ts ao l w) (h8 : l.length ≤ 8) (hm : May l) (hp : p = (loadR l).p) :
    Calls Try.prog 20 #[.slice ao l.length cap, .int .i64 p] w fun e w' => e = .returned (.int .i64 (missN l)) ∧ Below w.heap.size w w' := by
  have hP := lpos hm.row
  have hp1 : p ≤ 1048576 := by rw [hp]; exact hm.p1
  have hp0 : 0 < p := by rw [hp]; exact hm.p0
  have LATE : Hid (∀ n S s, Inv l n S → s ∈ S → late n s → n ≤ p → missN l = n) := Lib.hid (fun n S s hi hs hl hn => missN_least hm (inv_late hP hi hs hl) (by omega))
  have NONE : Hid (∀ n S, Inv l n S → n = p + 1 → missN l = 0) := Lib.hid (fun n S hi hn => missN_none hm (fun s h1 h2 => hi.old s h1 (by omega)))
  have IDLE : Hid (∀ n S, Inv l n S → (∀ s ∈ S, ¬ late n s) → (∀ s ∈ S.map (relS n), s.le ≤ 0) → Inv l (n + 1) (S.map (relS n))) := Lib.hid (fun n S hi h1 h2 => inv_idle hP hi h1 h2)
  have RUN : Hid (∀ n S, Inv l n S → (∀ s ∈ S, ¬ late n s) → ∀ (k : Nat) s, (S.map (relS n))[k]? = some s → 0 < s.le → (∀ q ∈ S.map (relS n), 0 < q.le → s.du ≤ q.du) → Inv l (n + 1) ((S.map (relS n)).set k (decS s))) := Lib.hid (fun n S hi h1 k s hk hs hb => inv_run hP hi h1 hk hs hb)
  have CK : Hid (∀ t ∈ l, chk t = true) := Lib.hid (rowB_all hm.row)
  have T := Lib.hid hT
  have bel0 := ((Below.refl w.heap.size w).alloc (Nat.le_refl _) z8).alloc (by simp) z8
  have S0 : Hid (MnRel l p w (p + 1).toNat (.int .i64 0) ((w.alloc z8).alloc z8)) := Lib.hid ⟨0, _, by omega, rfl, inv_start hP, two8_new l w, bel0⟩
  unfold z8 at S0
  generalize missN l = M at *
  clear hT hm hp hP bel0
  go_enter Try.func20, Try.ntmps20
  go_wp2_with fail
  go_loopg [7] (p + 1).toNat (MnRel l p w)
  case atStart => exact S0.out
  case round =>
    obtain ⟨n, S, hg, rfl, hI, h2, hB⟩ := hrel
    have hn0 := hI.n0
    have hSl := inv_len hI
    have HG := Lib.hid hg
    by_cases hle : n ≤ p
    · have HI := Lib.hid hI
      have H2 := Lib.hid h2
      have KB := Lib.hid hB
      clear hg hI h2 hB S0 NONE
      go_wp2_with fail
      go_loopg [8] S.length (M1Rel S n wr)
      case atStart => exact ⟨0, by omega, rfl, rfl, fun j h => absurd h (by omega)⟩
      case round =>
        obtain ⟨i, hi, rfl, rfl, hno⟩ := hrel
        by_cases hlt : i < S.length
        · obtain ⟨s, hs⟩ : ∃ s, S[i]? = some s := ⟨S[i], List.getElem?_eq_getElem hlt⟩
          have c0 := H2.out.le.c i (by omega)
          have d0 := H2.out.du.c i (by omega)
          rw [leF_at hs] at c0
          rw [duF_at hs] at d0
          have i1 : (i : Int) < (l.length : Int) := by omega
          have i8 : (i : Int) < 8 := by omega
          have HI1 := Lib.hid hi
          have HNO := Lib.hid hno
          have hg0 : 0 < gk := by omega
          have LT : Hid (late n s → M = n) := Lib.hid (fun h => LATE.out n S s HI.out (List.mem_of_getElem? hs) h hle)
          have NX : Hid (¬ late n s → ∀ j, j < i + 1 → ∀ s, S[j]? = some s → ¬ late n s) := Lib.hid (fun h j hj q hq => by
            by_cases e : j = i
            · subst e; rw [hs] at hq; cases hq; exact h
            · exact hno j (by omega) q hq)
          clear hs hi hno LATE IDLE RUN
          obtain ⟨st, sl, sd⟩ := s
          simp only at c0 d0
          by_cases h0 : 0 < sl
          · have h0' : sl > 0 := h0
            by_cases h1 : sd ≤ n
            · have E := Lib.hid (LT.out ⟨h0, h1⟩)
              clear LT NX
              go_wp2
              go_ret
              exact ⟨by rw [E.out]; rfl, KB.out⟩
            · have h1' : n < sd := by omega
              have NX2 := Lib.hid (NX.out (fun h => h1 h.2))
              clear LT NX h1
              go_wp2
              go_roundg (gk - 1)
              case measure => omega
              case rel => exact ⟨i + 1, by have := HI1.out; omega, by go_num, rfl, NX2.out⟩
          · have h0' : sl ≤ 0 := by omega
            have NX2 := Lib.hid (NX.out (fun h => h0 h.1))
            clear LT NX h0
            go_wp2
            go_roundg (gk - 1)
            case measure => omega
            case rel => exact ⟨i + 1, by have := HI1.out; omega, by go_num, rfl, NX2.out⟩
        · have hge : (l.length : Int) ≤ (i : Int) := by omega
          have NO : Hid (∀ s ∈ S, ¬ late n s) := Lib.hid (fun s hs => by
            obtain ⟨j, hj⟩ := List.mem_iff_getElem?.1 hs
            exact hno j (by have := (List.getElem?_eq_some_iff.1 hj).1; omega) s hj)
          have hdec : decide (i < l.length) = false := decide_eq_false (by omega)
          have R0 : Hid (M2Rel S n w S.length (.int .i64 0) wr) := Lib.hid ⟨0, by omega, rfl, by rw [mixF_zero]; exact H2.out, KB.out⟩
          clear hi hno hlt H2 KB LATE
          go_wp2_with fail
          go_loopg [9] S.length (M2Rel S n w)
          case atStart => exact R0.out
          case round =>
            obtain ⟨i, hi, rfl, h2, hB⟩ := hrel
            by_cases hlt : i < S.length
            · obtain ⟨s, hs⟩ : ∃ s, S[i]? = some s := ⟨S[i], List.getElem?_eq_getElem hlt⟩
              have hs' : S[i] = s := (List.getElem?_eq_some_iff.1 hs).2
              have htk := inv_tk HI.out hs
              obtain ⟨b, off, rfl, hb, hat⟩ := T.out.call hB (by omega)
              obtain ⟨x0, x1, x2, x3, x4⟩ := hat i _ htk
              have hck := chk_iff.1 (CK.out _ (List.mem_of_getElem? htk))
              have i1 : (i : Int) < (l.length : Int) := by omega
              have i8 : (i : Int) < 8 := by omega
              have HI1 := Lib.hid hi
              have hg0 : 0 < gk := by omega
              have f0 := h2.le.z i (by omega)
              have c0 := h2.le.c i (by omega)
              have f1 := h2.du.z i (by omega)
              have d0 := h2.du.c i (by omega)
              have MX := mixF_set (f := relS n) hlt
              rw [hs'] at MX
              obtain ⟨st, sl, sd⟩ := s
              simp only at x0 x1 x2 x3 x4 hck
              have rz : ¬ st.t = 0 := by omega
              have tm : n.tmod st.t = n % st.t := Int.tmod_eq_emod_of_nonneg hn0
              by_cases hr : n % st.t = 0
              · have e : relS n ⟨st, sl, sd⟩ = ⟨st, st.c, n + st.d⟩ := by unfold relS; rw [if_pos hr]
                rw [e] at MX
                have P2 := h2.put (k := i) (by rw [mixF_len]; exact hlt) ⟨st, st.c, n + st.d⟩
                rw [MX] at P2
                have PP := Lib.hid P2
                have KP := Lib.hid ((hB.setCell (p := ⟨w.heap.size, i, none⟩) (Nat.le_refl _) (.int .i64 st.c)).setCell (p := ⟨w.heap.size + 1, i, none⟩) (by show w.heap.size ≤ w.heap.size + 1; omega) (.int .i64 (n + st.d)))
                have hA : Hid (b < w.heap.size) := Lib.hid (by
                  obtain ⟨b', off', e', hb', -⟩ := T.out (by omega)
                  cases e'; exact hb')
                have y2 : (wr.setCell ⟨w.heap.size, i, none⟩ (.int .i64 st.c)).cell? ⟨b, off + i * 5 + 2, none⟩ = some (.int .i64 st.d) := by
                  have := hA.out
                  have ne : ¬ w.heap.size = b := by omega
                  have ne' : ¬ b = w.heap.size := by omega
                  simp [go_sem, ne, ne', x2]
                clear MX P2 h2 hB hat hb htk hs hs' hi e IDLE RUN R0 HG
                go_wp2
                go_roundg (gk - 1)
                case measure => omega
                case rel => exact ⟨i + 1, by have := HI1.out; omega, by go_num, PP.out, KP.out⟩
              · have e : relS n ⟨st, sl, sd⟩ = ⟨st, sl, sd⟩ := by unfold relS; rw [if_neg hr]
                rw [e] at MX
                have eM : mixF (relS n) S i = mixF (relS n) S (i + 1) := by
                  rw [← MX]
                  refine List.ext_getElem? fun j => ?_
                  by_cases hj : i = j
                  · subst hj
                    rw [List.getElem?_set_self (by rw [mixF_len]; exact hlt), mixF_get hlt, hs']
                  · rw [List.getElem?_set_ne hj]
                rw [eM] at h2
                have PP := Lib.hid h2
                have KP := Lib.hid hB
                have hr2 : (n % st.t == 0) = false := by simpa using hr
                clear MX eM h2 hB hat hb htk hs hs' hi e IDLE RUN R0 HG
                go_wp2
                go_roundg (gk - 1)
                case measure => omega
                case rel => exact ⟨i + 1, by have := HI1.out; omega, by go_num, PP.out, KP.out⟩
            · obtain rfl : i = S.length := by omega
              rw [mixF_all] at h2
              have hge : (l.length : Int) ≤ (S.length : Int) := by omega
              have hdec : decide (S.length < l.length) = false := decide_eq_false (by omega)
              have ID := Lib.hid (IDLE.out n S HI.out NO.out)
              have RN := Lib.hid (RUN.out n S HI.out NO.out)
              have hRl : (S.map (relS n)).length = l.length := by rw [List.length_map]; exact hSl
              generalize S.map (relS n) = R at *
              have Z0 : Hid (M3Rel R w R.length (.int .i64 (-1)) (.int .i64 0) wr) := Lib.hid ⟨0, -1, by omega, rfl, rfl, best_zero R, h2, hB⟩
              clear hi hlt h2 hB IDLE RUN R0 NO HI
              go_wp2_with fail
              go_loopg [10, 11] R.length (M3Rel R w)
              case atStart => exact Z0.out
              case round =>
                obtain ⟨i, b, hi, rfl, rfl, hbest, h2, hB⟩ := hrel
                by_cases hlt : i < R.length
                · obtain ⟨s, hs⟩ : ∃ s, R[i]? = some s := ⟨R[i], List.getElem?_eq_getElem hlt⟩
                  have c0 := h2.le.c i (by omega)
                  have d0 := h2.du.c i (by omega)
                  rw [leF_at hs] at c0
                  rw [duF_at hs] at d0
                  have i1 : (i : Int) < (l.length : Int) := by omega
                  have i8 : (i : Int) < 8 := by omega
                  have i0 : (0 : Int) ≤ (i : Int) := by omega
                  have HI1 := Lib.hid hi
                  have hg0 : 0 < gk := by omega
                  have KB := Lib.hid hB
                  have P2 := Lib.hid h2
                  have BS := Lib.hid (fun h => best_skip hbest hs h)
                  have BT := Lib.hid (fun h h' => best_take hbest hs h h')
                  by_cases h0 : 0 < s.le
                  · have g0 : decide (0 < s.le) = true := decide_eq_true h0
                    have h0' : s.le > 0 := h0
                    rcases hbest with ⟨rfl, -⟩ | ⟨k, q, rfl, hk, hq, -, -⟩
                    · have BB := Lib.hid (BT.out h0 (.inl rfl))
                      clear BS BT hs hi h2 hB Z0 ID RN HG
                      have gb : decide ((-1 : Int) < 0) = true := rfl
                      go_wp2_with fail
                      go_quiet (fail)
                      have K6 := Lib.hid (KB.out.trans ((below_drewN _ nq).mono KB.out.size))
                      have P6 := Lib.hid (P2.out.call (below_drewN _ nq))
                      clear c0 d0 KB P2
                      generalize wr.drewN nq = w6 at *
                      go_wp2
                      go_roundg (gk - 1)
                      case measure => omega
                      case rel => exact ⟨i + 1, (i : Int), by have := HI1.out; omega, by go_num, rfl, BB.out, P6.out, K6.out⟩
                    · have d1 := h2.du.c k (by omega)
                      rw [duF_at hq] at d1
                      have k8 : (k : Int) < 8 := by omega
                      have k0 : (0 : Int) ≤ (k : Int) := by omega
                      have gb : decide ((k : Int) < 0) = false := decide_eq_false (by omega)
                      by_cases hd : s.du < q.du
                      · have BB := Lib.hid (BT.out h0 (.inr ⟨k, q, rfl, hq, hd⟩))
                        have gd : decide (s.du < q.du) = true := decide_eq_true hd
                        clear BS BT hs hi h2 hB Z0 ID RN HG hq
                        clear h0
                        go_wp2_with fail
                        go_quiet (fail)
                        have K6 := Lib.hid (KB.out.trans ((below_drewN _ nq).mono KB.out.size))
                        have P6 := Lib.hid (P2.out.call (below_drewN _ nq))
                        clear c0 d0 d1 KB P2
                        generalize wr.drewN nq = w6 at *
                        go_wp2
                        go_roundg (gk - 1)
                        case measure => omega
                        case rel => exact ⟨i + 1, (i : Int), by have := HI1.out; omega, by go_num, rfl, BB.out, P6.out, K6.out⟩
                      · have BB := Lib.hid (BS.out (.inr ⟨k, q, rfl, hq, by omega⟩))
                        have gd : decide (s.du < q.du) = false := decide_eq_false hd
                        have hd' : q.du ≤ s.du := by omega
                        clear BS BT hs hi h2 hB Z0 ID RN HG hq hd
                        clear h0
                        go_wp2_with fail
                        go_quiet (fail)
                        have K6 := Lib.hid (KB.out.trans ((below_drewN _ nq).mono KB.out.size))
                        have P6 := Lib.hid (P2.out.call (below_drewN _ nq))
                        clear c0 d0 d1 KB P2
                        generalize wr.drewN nq = w6 at *
                        go_wp2
                        go_roundg (gk - 1)
                        case measure => omega
                        case rel => exact ⟨i + 1, (k : Int), by have := HI1.out; omega, by go_num, rfl, BB.out, P6.out, K6.out⟩
                  · have BB := Lib.hid (BS.out (.inl (by omega)))
                    have g0 : decide (0 < s.le) = false := decide_eq_false h0
                    have h0' : s.le ≤ 0 := by omega
                    clear BS BT hs hi h2 hB Z0 ID RN HG h0 hbest
                    have hh := h0'
                    go_wp2_with fail
                    go_quiet (fail)
                    have K6 := Lib.hid (KB.out.trans ((below_drewN _ nq).mono KB.out.size))
                    have P6 := Lib.hid (P2.out.call (below_drewN _ nq))
                    clear c0 d0 KB P2
                    generalize wr.drewN nq = w6 at *
                    go_wp2
                    go_roundg (gk - 1)
                    case measure => omega
                    case rel => exact ⟨i + 1, b, by have := HI1.out; omega, by go_num, rfl, BB.out, P6.out, K6.out⟩
                · obtain rfl : i = R.length := by omega
                  have hge : (l.length : Int) ≤ (R.length : Int) := by omega
                  have hdec : decide (R.length < l.length) = false := decide_eq_false (by omega)
                  have hn1 : n + 1 ≤ 9223372036854775807 := by omega
                  have KB := Lib.hid hB
                  rcases best_end hbest with ⟨rfl, hz⟩ | ⟨k, s, rfl, hk, h0, hmin⟩
                  · have I2 := Lib.hid (ID.out hz)
                    have P2 := Lib.hid h2
                    clear hi hlt h2 hB Z0 ID RN hbest hz
                    go_wp2
                    go_roundg (p - n).toNat
                    case measure => have := HG.out; omega
                    case rel => exact ⟨n + 1, R, by have := HG.out; omega, by go_num, I2.out, P2.out, KB.out⟩
                  · have I2 := Lib.hid (RN.out k s hk h0 hmin)
                    have hkl := (List.getElem?_eq_some_iff.1 hk).1
                    have P2 := Lib.hid (h2.dec hk)
                    have K2 := Lib.hid (KB.out.setCell (p := ⟨w.heap.size, k, none⟩) (Nat.le_refl _) (.int .i64 (s.le - 1)))
                    have c0 := h2.le.c k (by omega)
                    have f0 := h2.le.z k (by omega)
                    rw [leF_at hk] at c0
                    have k8 : (k : Int) < 8 := by omega
                    have k0 : (0 : Int) ≤ (k : Int) := by omega
                    have hle1 : s.le ≤ 2147483649 := by
                      have e := List.getElem?_set_self (l := R) (a := decS s) hkl
                      have o1 := (I2.out.ok _ (List.mem_of_getElem? e)).hi
                      have o2 := chk_iff.1 (CK.out _ (List.mem_of_getElem? (inv_tk I2.out e)))
                      simp only [decS] at o1 o2
                      omega
                    clear hi hlt h2 hB Z0 ID RN hbest hmin hk KB
                    go_wp2
                    go_roundg (p - n).toNat
                    case measure => have := HG.out; omega
                    case rel => exact ⟨n + 1, _, by have := HG.out; omega, by go_num, I2.out, P2.out, K2.out⟩
    · have E := Lib.hid (NONE.out n S hI (by omega))
      have KB := Lib.hid hB
      have hgt : p < n := by omega
      clear hI h2 hB hle LATE NONE IDLE RUN S0
      go_wp2
      go_ret
      exact ⟨by rw [E.out]; rfl, KB.out⟩
end Go.Proofs.Ytbhafcaekpccoaa.Qp
