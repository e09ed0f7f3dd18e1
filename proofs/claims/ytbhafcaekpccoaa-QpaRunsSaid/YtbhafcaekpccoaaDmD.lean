/- Contracts of package demand's Of; the document's Of. -/
import Derived.Test.YtbhafcaekpccoaaDmC
import Derived.Test.YtbhafcaekpccoaaPmC
namespace Go.Proofs.Ytbhafcaekpccoaa.Dm
open Go.ChangeShapes Go.WideShapes Go.ChangeAt Go.RowKit Go.Joins
open Pm (Tk chk chk_iff rowB rowB_all rowB_len TkAt Ts TRow chk_any rchk_any wrap_in below_drewN row_any rrow_any)
set_option maxRecDepth 100000
set_option maxRecDepth 100000
set_option linter.unusedVariables false
set_option linter.unusedSimpArgs false
/-- the sum of all, each as One tells it -/
def sumR : List Tk → Int → Int
  | [], _ => 0
  | t :: l, x => oneR t x + sumR l x
theorem oneR_le (t : Tk) (x : Int) : 0 ≤ oneR t x ∧ oneR t x ≤ 1101659111424 := by
  unfold oneR
  split
  · rename_i h
    have h1 := isTime_iff.1 h.2
    have h2 := one_le h.1 h1.1
    omega
  · omega
theorem sumR_le (l : List Tk) (x : Int) : 0 ≤ sumR l x ∧ sumR l x ≤ l.length * 1101659111424 := by
  induction l with
  | nil => simp [sumR]
  | cons t l ih =>
    have h1 := oneR_le t x
    simp only [sumR, List.length_cons]
    have : ((l.length + 1 : Nat) : Int) * 1101659111424 = l.length * 1101659111424 + 1101659111424 := by rw [Int.natCast_add, Int.add_mul]; simp
    omega
theorem sumR_append {l m : List Tk} {x : Int} : sumR (l ++ m) x = sumR l x + sumR m x := by
  induction l with
  | nil => simp [sumR]
  | cons t l ih => rw [List.cons_append, sumR, sumR, ih]; omega
theorem sumR_take {l : List Tk} {i : Nat} (h : i < l.length) (x : Int) : sumR (l.take (i + 1)) x = sumR (l.take i) x + oneR l[i] x := by
  rw [List.take_succ_eq_append_getElem h, sumR_append]; simp [sumR]
theorem sumR_zero {l : List Tk} {x : Int} (h : isTime x = false) : sumR l x = 0 := by
  induction l with
  | nil => rfl
  | cons t l ih => rw [sumR, ih, one_no2 h]; rfl
theorem sumR_sum {l : List Tk} {x : Int} (h : isTime x = true) (hl : ∀ t ∈ l, chk t = true) : sumR l x = sum l x := by
  induction l with
  | nil => rfl
  | cons t l ih => rw [sumR, sum, ih (fun a ha => hl a (by simp [ha])), one_yes (hl t (by simp)) h]; rfl
theorem ofR_yes {l : List Tk} {x : Int} (h : rowB l = true) : ofR l x = sumR l x := by
  unfold ofR
  cases hx : isTime x with
  | true => rw [if_pos ⟨h, rfl⟩, sumR_sum hx (rowB_all h)]
  | false => rw [if_neg (by simp), sumR_zero hx]
theorem ofR_no {l : List Tk} {x : Int} (h : rowB l = false) : ofR l x = 0 := by
  unfold ofR; rw [if_neg (by rw [h]; simp)]
/-- i tasks were counted -/
def OfRel (l : List Tk) (x : Int) (B : Nat) (w : World) (g : Nat) (s t : Value) (wx : World) : Prop :=
  ∃ i : Nat, i + g = l.length ∧ s = .int .i64 (sumR (l.take i) x) ∧ t = .int .i64 (i : Int) ∧ Below B w wx
/-- a round's numbers -/
structure Add (S M : Int) : Prop where
  s0 : 0 ≤ S
  s1 : S ≤ 35253091565568
  m0 : 0 ≤ M
  m1 : M ≤ 1101659111424
theorem add_of {l : List Tk} {i : Nat} (x : Int) (hl : l.length ≤ 16) (hlt : i < l.length) : ∃ S M, sumR (l.take i) x = S ∧ oneR l[i] x = M ∧ sumR (l.take (i + 1)) x = S + M ∧ Add S M := by
  have h1 := sumR_le (l.take i) x
  have h2 := oneR_le l[i] x
  have h3 : (l.take i).length ≤ 16 := by rw [List.length_take]; omega
  exact ⟨_, _, rfl, rfl, sumR_take hlt x, ⟨h1.1, by omega, h2.1, h2.2⟩⟩
set_option maxHeartbeats 2000000 in
theorem of_any (l : List Tk) (ao : Option Addr) (cap : Nat) (x : Int) (w : World) (hT : Ts ao l w) (hl : l.length ≤ 9223372036854775807) :
    Calls Try.prog 45 #[.slice ao l.length cap, .int .i64 x] w fun e w' => e = .returned (.int .i64 (ofR l x)) ∧ Below w.heap.size w w' := by
  have RO := Lib.hid (fun w h => row_any l ao cap w h hl)
  have T := Lib.hid hT
  cases hr : rowB l with
  | false =>
    have E := Lib.hid (ofR_no (x := x) hr)
    rw [hr] at RO
    generalize ofR l x = r at *
    clear hr
    go_enter Try.func45, Try.ntmps45
    go_wp2_with fail
    (with_reducible refine (RO.out _ hT).mono ?_)
    rintro e w1 ⟨rfl, b1⟩
    have K1 := Lib.hid b1
    clear b1 hT
    go_wp2
    go_ret
    exact ⟨by rw [E.out]; rfl, K1.out⟩
  | true =>
    have E := Lib.hid (ofR_yes (x := x) hr)
    have hlen := rowB_len hr
    rw [hr] at RO
    have AD := Lib.hid (fun i (hlt : i < l.length) => add_of x hlen hlt)
    generalize ofR l x = r at *
    clear hr
    go_enter Try.func45, Try.ntmps45
    go_wp2_with fail
    (with_reducible refine (RO.out _ hT).mono ?_)
    rintro e w1 ⟨rfl, b1⟩
    have K1 := Lib.hid b1
    clear b1 hT RO
    go_wp2_with fail
    go_loopg [5, 13] l.length (OfRel l x w.heap.size w)
    case atStart => exact ⟨0, by omega, by simp [sumR], rfl, K1.out⟩
    case round =>
      obtain ⟨i, hi, rfl, rfl, hB⟩ := hrel
      have TQ := T.out.below hB (Nat.le_refl _)
      by_cases hlt : i < l.length
      · obtain ⟨b, off, rfl, hb, hat⟩ := TQ (by omega)
        have hx := hat i l[i] (List.getElem?_eq_getElem hlt)
        obtain ⟨S, M, e1, e2, e3, s0, s1, m0, m1⟩ := AD.out i hlt
        have ON := Lib.hid (one_any l[i] x)
        rw [e2] at ON
        rw [e1]
        have HI := Lib.hid hi
        have KB := Lib.hid (fun o => hB.alloc hB.size o)
        have NX := Lib.hid e3
        have hg0 : 0 < gk := by omega
        clear hi hat TQ hB e1 e2 e3
        generalize l[i] = t at *
        obtain ⟨c0, c1, c2, c3, c4⟩ := hx
        obtain ⟨ti, tc, td, tt, tm⟩ := t
        unfold Tk.v at ON
        simp only at c0 c1 c2 c3 c4 ON
        go_wp2_with fail
        (with_reducible refine (ON.out _).mono ?_)
        rintro e w2 ⟨rfl, b2⟩
        have K2 := Lib.hid ((KB.out _).trans (b2.mono (KB.out _).size))
        clear b2 KB c0 c1 c2 c3 c4 ON
        go_wp2
        go_roundg (gk - 1)
        case measure => omega
        case rel => exact ⟨i + 1, by have := HI.out; omega, by rw [NX.out], by go_num, K2.out⟩
      · have hge : (l.length : Int) ≤ (i : Int) := by omega
        rw [List.take_of_length_le (by omega)]
        have K2 := Lib.hid hB
        clear hB TQ hi hlt AD
        go_wp2
        go_ret
        exact ⟨by rw [E.out]; rfl, K2.out⟩
set_option maxHeartbeats 2000000 in
theorem rof_any (l : List Tk) (ao : Option Addr) (cap : Nat) (x : Int) (w : World) (hT : Ts ao l w) (hl : l.length ≤ 1000000) :
    Calls Try.prog 24 #[.slice ao l.length cap, .int .i64 x] w fun e w' => e = .returned (.int .i64 (ofR l x)) ∧ Below w.heap.size w w' := by
  have RO := Lib.hid (fun w h => rrow_any l ao cap w h hl)
  have T := Lib.hid hT
  cases hr : rowB l with
  | false =>
    have E := Lib.hid (ofR_no (x := x) hr)
    rw [hr] at RO
    generalize ofR l x = r at *
    clear hr
    go_enter Try.func24, Try.ntmps24
    go_wp2_with fail
    (with_reducible refine (RO.out _ hT).mono ?_)
    rintro e w1 ⟨rfl, b1⟩
    have K1 := Lib.hid b1
    clear b1 hT
    go_wp2_with fail
    go_loopg [6, 7] 0 (fun _ s t wx => s = .int .i64 0 ∧ t = .int .i64 0 ∧ wx = w1)
    case atStart => exact ⟨rfl, rfl, rfl⟩
    case round =>
      obtain ⟨rfl, rfl, rfl⟩ := hrel
      by_cases h0 : 0 < l.length
      · have h1 : (0 : Int) < (l.length : Int) := by omega
        clear h0
        go_wp2
        go_ret
        exact ⟨by rw [E.out]; rfl, K1.out⟩
      · have h1 : (l.length : Int) ≤ 0 := by omega
        have h2 : decide (0 < l.length) = false := decide_eq_false h0
        clear h0
        go_wp2
        go_ret
        exact ⟨by rw [E.out]; rfl, K1.out⟩
  | true =>
    have E := Lib.hid (ofR_yes (x := x) hr)
    have hlen := rowB_len hr
    rw [hr] at RO
    have AD := Lib.hid (fun i (hlt : i < l.length) => add_of x hlen hlt)
    generalize ofR l x = r at *
    clear hr
    go_enter Try.func24, Try.ntmps24
    go_wp2_with fail
    (with_reducible refine (RO.out _ hT).mono ?_)
    rintro e w1 ⟨rfl, b1⟩
    have K1 := Lib.hid b1
    clear b1 hT RO
    go_wp2_with fail
    go_loopg [6, 7] l.length (OfRel l x w.heap.size w)
    case atStart => exact ⟨0, by omega, by simp [sumR], rfl, K1.out⟩
    case round =>
      obtain ⟨i, hi, rfl, rfl, hB⟩ := hrel
      have TQ := T.out.below hB (Nat.le_refl _)
      by_cases hlt : i < l.length
      · obtain ⟨b, off, rfl, hb, hat⟩ := TQ (by omega)
        have hx := hat i l[i] (List.getElem?_eq_getElem hlt)
        obtain ⟨S, M, e1, e2, e3, s0, s1, m0, m1⟩ := AD.out i hlt
        have ON := Lib.hid (rone_any l[i] x)
        rw [e2] at ON
        rw [e1]
        have HI := Lib.hid hi
        have KB := Lib.hid hB
        have NX := Lib.hid e3
        have hg0 : 0 < gk := by omega
        have hlt' : (i : Int) < (l.length : Int) := by omega
        clear hi hat TQ hB e1 e2 e3
        generalize l[i] = t at *
        obtain ⟨c0, c1, c2, c3, c4⟩ := hx
        obtain ⟨ti, tc, td, tt, tm⟩ := t
        unfold Tk.v at ON
        simp only at c0 c1 c2 c3 c4 ON
        go_wp2_with fail
        (with_reducible refine (ON.out _).mono ?_)
        rintro e w2 ⟨rfl, b2⟩
        have K2 := Lib.hid (KB.out.trans (b2.mono KB.out.size))
        clear b2 KB c0 c1 c2 c3 c4 ON
        go_wp2
        go_roundg (gk - 1)
        case measure => omega
        case rel => exact ⟨i + 1, by have := HI.out; omega, by rw [NX.out], by go_num, K2.out⟩
      · have hge : (l.length : Int) ≤ (i : Int) := by omega
        rw [List.take_of_length_le (by omega)]
        have K2 := Lib.hid hB
        have hdec : decide (i < l.length) = false := decide_eq_false hlt
        clear hB TQ hi hlt AD
        go_wp2
        go_ret
        exact ⟨by rw [E.out]; rfl, K2.out⟩
end Go.Proofs.Ytbhafcaekpccoaa.Dm
