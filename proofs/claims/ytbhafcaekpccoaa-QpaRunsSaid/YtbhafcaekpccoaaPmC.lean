/- Contracts of package param's Row, Period; the document's Row, Period. -/
import Derived.Test.YtbhafcaekpccoaaPmB
import Derived.Deep.RegionWith
namespace Go.Proofs.Ytbhafcaekpccoaa.Pm
open Go.ChangeShapes Go.WideShapes Go.ChangeAt Go.RowKit Go.Joins
set_option maxRecDepth 100000
set_option maxRecDepth 100000
set_option linter.unusedVariables false
set_option linter.unusedSimpArgs false
/-- i tasks were looked at -/
def RoRel (l : List Tk) (w : World) (g : Nat) (s : Value) (wx : World) : Prop :=
  ∃ i : Nat, i + g = l.length ∧ s = .int .i64 (i : Int) ∧ (∀ x ∈ l.take i, chk x = true) ∧ Below w.heap.size w wx
theorem take_next {l : List Tk} {i : Nat} (h : i < l.length) (h1 : ∀ x ∈ l.take i, chk x = true) (h2 : chk l[i] = true) : ∀ x ∈ l.take (i + 1), chk x = true := by
  intro x hx
  rw [List.take_succ_eq_append_getElem h] at hx
  rcases List.mem_append.1 hx with hx | hx
  · exact h1 x hx
  · obtain rfl : x = l[i] := by simpa using hx
    exact h2
theorem rowB_no {l : List Tk} {x : Tk} (h : x ∈ l) (hx : chk x = false) : rowB l = false := by
  cases e : rowB l
  · rfl
  · have := rowB_all e x h
    rw [hx] at this; cases this
theorem rowB_yes {l : List Tk} (h : l.length ≤ 16) (hx : ∀ x ∈ l, chk x = true) : rowB l = true := by
  simp [rowB, h]; exact hx
theorem rowB_long {l : List Tk} (h : 16 < l.length) : rowB l = false := by
  have : ¬ l.length ≤ 16 := by omega
  simp [rowB, this]
set_option maxHeartbeats 2000000 in
theorem row_any (l : List Tk) (ao : Option Addr) (cap : Nat) (w : World) (hT : Ts ao l w) (hl : l.length ≤ 9223372036854775807) :
    Calls Try.prog 38 #[.slice ao l.length cap] w fun e w' => e = .returned (.bool (rowB l)) ∧ Below w.heap.size w w' := by
  by_cases h16 : 16 < l.length
  · have E := Lib.hid (rowB_long h16)
    clear hT
    have h16' : (16 : Int) < (l.length : Int) := by omega
    clear h16
    go_enter Try.func38, Try.ntmps38
    go_wp2
    go_ret
    exact ⟨by rw [E.out]; rfl, Below.refl _ _⟩
  · have T := Lib.hid hT
    have h16' : (l.length : Int) ≤ 16 := by omega
    have YES : Hid ((∀ x ∈ l, chk x = true) → rowB l = true) := Lib.hid (fun h => rowB_yes (by omega) h)
    have NO : Hid (∀ x ∈ l, chk x = false → rowB l = false) := Lib.hid (fun x h h1 => rowB_no h h1)
    clear h16 hT
    go_enter Try.func38, Try.ntmps38
    go_wp2_with fail
    go_loopg [10] l.length (RoRel l w)
    case atStart => exact ⟨0, by omega, rfl, by simp, Below.refl _ _⟩
    case round =>
      obtain ⟨i, hi, rfl, hc, hB⟩ := hrel
      have TW := T.out.below hB (Nat.le_refl _)
      by_cases hlt : i < l.length
      · obtain ⟨b, off, rfl, hb, hat⟩ := TW (by omega)
        have hx := hat i l[i] (List.getElem?_eq_getElem hlt)
        have HN := Lib.hid (take_next hlt hc)
        have HM := Lib.hid (NO.out l[i] (List.getElem_mem hlt))
        have CK := Lib.hid (chk_any l[i])
        have K := Lib.hid hB
        have HI := Lib.hid hi
        clear hc hB hi TW hat
        generalize l[i] = x at *
        generalize chk x = ck at *
        obtain ⟨c0, c1, c2, c3, c4⟩ := hx
        obtain ⟨xi, xc, xd, xt, xm⟩ := x
        unfold Tk.v at CK
        simp only at CK c0 c1 c2 c3 c4
        have KA := Lib.hid (fun o => K.out.alloc (by have := K.out.size; omega) o)
        clear K
        go_wp2_with fail
        (with_reducible refine (CK.out _).mono ?_)
        rintro e w1 ⟨rfl, b1⟩
        have K1 := Lib.hid ((KA.out _).trans (b1.mono (KA.out _).size))
        clear b1 KA
        cases ck
        · have E := Lib.hid (HM.out rfl)
          go_wp2
          go_ret
          exact ⟨by rw [E.out]; rfl, K1.out⟩
        · have hg0 : 0 < gk := by have := HI.out; omega
          go_wp2
          go_roundg (gk - 1)
          case measure => omega
          case rel => exact ⟨i + 1, by have := HI.out; omega, by go_num, HN.out (by first | trivial | rfl), K1.out⟩
      · have hge : (l.length : Int) ≤ (i : Int) := by omega
        have E := Lib.hid (YES.out (by rw [List.take_of_length_le (by omega)] at hc; exact hc))
        have K := Lib.hid hB
        clear hB TW hc hi hlt
        go_wp2
        go_ret
        exact ⟨by rw [E.out]; rfl, K.out⟩
set_option maxHeartbeats 2000000 in
theorem rrow_any (l : List Tk) (ao : Option Addr) (cap : Nat) (w : World) (hT : Ts ao l w) (hl : l.length ≤ 1000000) :
    Calls Try.prog 36 #[.slice ao l.length cap] w fun e w' => e = .returned (.bool (rowB l)) ∧ Below w.heap.size w w' := by
  have T := Lib.hid hT
  have YES : Hid ((∀ x ∈ l, chk x = true) → decide ((l.length : Int) ≤ 16) = rowB l) := Lib.hid (fun h => by
    have : l.all chk = true := by simpa using h
    unfold rowB; rw [this, Bool.and_true]; apply decide_eq_decide.2; omega)
  have NO : Hid (∀ x ∈ l, chk x = false → rowB l = false) := Lib.hid (fun x h h1 => rowB_no h h1)
  clear hT
  go_enter Try.func36, Try.ntmps36
  go_wp2_with fail
  go_loopg [3] l.length (RoRel l w)
  case atStart => exact ⟨0, by omega, rfl, by simp, Below.refl _ _⟩
  case round =>
    obtain ⟨i, hi, rfl, hc, hB⟩ := hrel
    have TW := T.out.below hB (Nat.le_refl _)
    by_cases hlt : i < l.length
    · obtain ⟨b, off, rfl, hb, hat⟩ := TW (by omega)
      have hx := hat i l[i] (List.getElem?_eq_getElem hlt)
      have HN := Lib.hid (take_next hlt hc)
      have HM := Lib.hid (NO.out l[i] (List.getElem_mem hlt))
      have CK := Lib.hid (rchk_any l[i])
      have K := Lib.hid hB
      have HI := Lib.hid hi
      clear hc hB hi TW hat
      generalize l[i] = x at *
      generalize chk x = ck at *
      obtain ⟨c0, c1, c2, c3, c4⟩ := hx
      obtain ⟨xi, xc, xd, xt, xm⟩ := x
      unfold Tk.v at CK
      simp only at CK c0 c1 c2 c3 c4
      go_wp2_with fail
      (with_reducible refine (CK.out _).mono ?_)
      rintro e w1 ⟨rfl, b1⟩
      have K1 := Lib.hid (K.out.trans (b1.mono K.out.size))
      clear b1 K
      cases ck
      · have E := Lib.hid (HM.out rfl)
        go_wp2
        go_ret
        exact ⟨by rw [E.out]; rfl, K1.out⟩
      · have hg0 : 0 < gk := by have := HI.out; omega
        go_wp2
        go_roundg (gk - 1)
        case measure => omega
        case rel => exact ⟨i + 1, by have := HI.out; omega, by go_num, HN.out (by first | trivial | rfl), K1.out⟩
    · have hge : (l.length : Int) ≤ (i : Int) := by omega
      have E := Lib.hid (YES.out (by rw [List.take_of_length_le (by omega)] at hc; exact hc))
      have K := Lib.hid hB
      clear hB TW hc hi hlt
      go_wp2
      go_ret
      exact ⟨by rw [← E.out]; rfl, K.out⟩
end Go.Proofs.Ytbhafcaekpccoaa.Pm
