/- Contracts of the document's Next, Before of layer 10. -/
import Derived.Test.YtldaikpchggogaaDmP
namespace Go.Proofs.Ytldaikpchggogaa.Dm
open Go.ChangeShapes Go.WideShapes Go.ChangeAt Go.RowKit Go.Joins
open Pm (Tk chk chk_iff rowB rowB_all rowB_len TkAt Ts TRow chk_any wrap_in below_drewN rrow_any)
set_option maxRecDepth 100000
set_option maxRecDepth 100000
set_option linter.unusedVariables false
set_option linter.unusedSimpArgs false
theorem nxts_snoc {l : List Tk} {t : Tk} {x : Int} : nxts (l ++ [t]) x = match nxts l x with | none => some (nxt t x) | some y => some (if nxt t x < y then nxt t x else y) := by
  induction l with
  | nil => rfl
  | cons a l ih =>
    rw [List.cons_append, nxts, nxts, ih]
    cases nxts l x with
    | none =>
      simp only [Option.some.injEq]
      repeat' split
      all_goals omega
    | some y =>
      simp only [Option.some.injEq]
      repeat' split
      all_goals omega
theorem nxts_take {l : List Tk} {x m : Int} {i : Nat} (h : i < l.length) (hm : nxts (l.take i) x = some m) : nxts (l.take (i + 1)) x = some (if nxt l[i] x < m then nxt l[i] x else m) := by
  rw [List.take_succ_eq_append_getElem h, nxts_snoc, hm]
theorem nxts_first {l : List Tk} {x : Int} (h : 0 < l.length) : nxts (l.take 1) x = some (nxt l[0] x) := by
  cases l with
  | nil => simp at h
  | cons t l => simp [nxts]
theorem nextR_nil {x : Int} : nextR [] x = none := by unfold nextR; split <;> rfl
theorem nextR_some {l : List Tk} {x y : Int} (hr : rowB l = true) (hx : isTime x = true) (h : nxts l x = some y) : nextR l x = if 1099511627776 < y then none else some y := by
  unfold nextR; rw [if_pos ⟨hr, hx⟩, h]
/-- i tasks were looked at, m is the least one -/
def RnRel (l : List Tk) (x : Int) (B : Nat) (w : World) (g : Nat) (s t : Value) (wx : World) : Prop :=
  ∃ (i : Nat) (m : Int), i + g = l.length ∧ 1 ≤ i ∧ s = .int .i64 m ∧ t = .int .i64 (i : Int) ∧ nxts (l.take i) x = some m ∧ Below B w wx
set_option maxHeartbeats 4000000 in
theorem rnexts_any (l : List Tk) (ao : Option Addr) (cap : Nat) (x : Int) (w : World) (hT : Ts ao l w) (hl : l.length ≤ 1000000) :
    Calls Try.prog 19 #[.slice ao l.length cap, .int .i64 x] w fun e w' => e = .returned (ans (nextR l x)) ∧ Below w.heap.size w w' := by
  have RO := Lib.hid (fun w h => rrow_any l ao cap w h hl)
  have TM := Lib.hid (time_any x)
  have T := Lib.hid hT
  by_cases hall : rowB l = true ∧ isTime x = true ∧ 0 < l.length
  · obtain ⟨hr, hx, h0⟩ := hall
    have hlen := rowB_len hr
    have hck := rowB_all hr
    have ht := isTime_iff.1 hx
    rw [hr] at RO
    rw [hx] at TM
    have E := Lib.hid (fun y h => nextR_some (y := y) hr hx h)
    have NA := Lib.hid (fun i (h : i < l.length) w => rnext_any l[i] x w (hck _ (List.getElem_mem h)) ht.1 ht.2)
    have N1 := Lib.hid (nxts_first (x := x) h0)
    have NT := Lib.hid (fun i m (h : i < l.length) hm => nxts_take (x := x) (m := m) h hm)
    generalize nextR l x = r at *
    clear hr hx hck ht
    have hl0 : (0 : Int) < (l.length : Int) := by omega
    have hz : ((l.length : Int) == 0) = false := beq_eq_false_iff_ne.2 (by omega)
    obtain ⟨b, off, rfl, hb, hat⟩ := hT h0
    have hx := hat 0 l[0] (List.getElem?_eq_getElem h0)
    have NA0 := Lib.hid (NA.out 0 h0)
    have HT := Lib.hid hT
    have K0 := Lib.hid (fun w' (h : Below w.heap.size w w') => (⟨carry h hx.c0, carry h hx.c1, carry h hx.c2, carry h hx.c3, carry h hx.c4⟩ : TkAt b (off + 0 * 5) l[0] w'))
    clear hat hT hb hx
    generalize nxt l[0] x = n0 at *
    generalize l[0] = t0 at *
    simp only [Nat.zero_mul, Nat.add_zero] at K0
    obtain ⟨ti, tc, td, tt, tm⟩ := t0
    unfold Tk.v at NA0
    simp only at NA0 K0
    have hln : ¬ l.length = 0 := by omega
    go_enter Try.func19, Try.ntmps19
    go_wp2_with fail
    (with_reducible refine (RO.out _ HT.out).mono ?_)
    rintro e w1 ⟨rfl, b1⟩
    have K1 := Lib.hid b1
    have X1 := Lib.hid (K0.out w1 b1)
    clear b1 RO HT K0
    go_wp2_with fail
    (with_reducible refine (TM.out _).mono ?_)
    rintro e w2 ⟨rfl, rfl⟩
    clear TM
    obtain ⟨c0, c1, c2, c3, c4⟩ := X1.out
    simp only at c0 c1 c2 c3 c4
    go_wp2_with fail
    (with_reducible refine (NA0.out _).mono ?_)
    rintro e w3 ⟨rfl, b3⟩
    have K3 := Lib.hid (K1.out.trans (b3.mono K1.out.size))
    clear b3 c0 c1 c2 c3 c4 X1 NA0 K1
    go_wp2_with fail
    go_loopg [8, 9] (l.length - 1) (RnRel l x w.heap.size w)
    case atStart => exact ⟨1, n0, by omega, by omega, rfl, rfl, N1.out, K3.out⟩
    case round =>
      obtain ⟨i, m, hi, hi1, rfl, rfl, hm, hB⟩ := hrel
      have TQ := T.out.below hB (Nat.le_refl _)
      by_cases hlt : i < l.length
      · obtain ⟨b, off, e0, hb, hat⟩ := TQ (by omega)
        cases e0
        have hx := hat i l[i] (List.getElem?_eq_getElem hlt)
        have ON := Lib.hid (NA.out i hlt)
        have NX := Lib.hid (NT.out i m hlt hm)
        have HI := Lib.hid hi
        have KB := Lib.hid hB
        have hg0 : 0 < gk := by omega
        have hi2 : (i : Int) < (l.length : Int) := by omega
        clear hi hat TQ hB hm NT NA
        generalize nxt l[i] x = n at *
        generalize l[i] = t at *
        obtain ⟨c0, c1, c2, c3, c4⟩ := hx
        obtain ⟨ti, tc, td, tt, tm⟩ := t
        unfold Tk.v at ON
        simp only at c0 c1 c2 c3 c4 ON
        go_wp2_with fail
        (with_reducible refine (ON.out _).mono ?_)
        rintro e w2 ⟨rfl, b2⟩
        have K2 := Lib.hid (KB.out.trans (b2.mono KB.out.size))
        clear b2 KB c0 c1 c2 c3 c4 ON
        by_cases hnm : n < m
        · have NE := Lib.hid (NX.out.trans (by rw [if_pos hnm]))
          clear NX
          go_wp2
          go_roundg (gk - 1)
          case measure => omega
          case rel => exact ⟨i + 1, n, by have := HI.out; omega, by omega, rfl, by go_num, NE.out, K2.out⟩
        · have NE := Lib.hid (NX.out.trans (by rw [if_neg hnm]))
          have hnm' : m ≤ n := by omega
          clear NX hnm
          go_wp2
          go_roundg (gk - 1)
          case measure => omega
          case rel => exact ⟨i + 1, m, by have := HI.out; omega, by omega, rfl, by go_num, NE.out, K2.out⟩
      · have hge : (l.length : Int) ≤ (i : Int) := by omega
        rw [List.take_of_length_le (by omega)] at hm
        have E1 := Lib.hid (E.out m hm)
        have K2 := Lib.hid hB
        clear hB TQ hi hlt hm E NA NT
        by_cases hg : 1099511627776 < m
        · have E2 := Lib.hid (E1.out.trans (by rw [if_pos hg]))
          clear E1
          go_wp2
          exact bodyPost_ret (v := .tuple #[.int .i64 0, .bool false]) (by simp [results, Try.results19, go_sem]) rfl ⟨by rw [E2.out]; rfl, K2.out⟩
        · have E2 := Lib.hid (E1.out.trans (by rw [if_neg hg]))
          have hg' : m ≤ 1099511627776 := by omega
          clear E1 hg
          go_wp2
          exact bodyPost_ret (v := .tuple #[.int .i64 m, .bool true]) (by simp [results, Try.results19, go_sem]) rfl ⟨by rw [E2.out]; rfl, K2.out⟩
  · have E : Hid (nextR l x = none) := Lib.hid (by
      cases hr : rowB l with
      | false => exact nextR_no hr
      | true =>
        cases hx : isTime x with
        | false => exact nextR_no2 hx
        | true =>
          have : l = [] := List.eq_nil_of_length_eq_zero (by
            rcases Nat.eq_zero_or_pos l.length with h | h
            · exact h
            · exact absurd ⟨hr, hx, h⟩ hall)
          rw [this]; exact nextR_nil)
    have HA := Lib.hid hall
    generalize nextR l x = r at *
    generalize rowB l = rb at *
    generalize isTime x = tb at *
    clear hall
    go_enter Try.func19, Try.ntmps19
    go_wp2_with fail
    (with_reducible refine (RO.out _ hT).mono ?_)
    rintro e w1 ⟨rfl, b1⟩
    have K1 := Lib.hid b1
    clear b1 hT RO T
    go_wp2_with fail
    (with_reducible refine (TM.out _).mono ?_)
    rintro e w2 ⟨rfl, rfl⟩
    clear TM
    cases rb
    · go_wp2
      exact bodyPost_ret (v := .tuple #[.int .i64 0, .bool false]) (by simp [results, Try.results19, go_sem]) rfl ⟨by rw [E.out]; rfl, K1.out⟩
    · cases tb
      · go_wp2
        exact bodyPost_ret (v := .tuple #[.int .i64 0, .bool false]) (by simp [results, Try.results19, go_sem]) rfl ⟨by rw [E.out]; rfl, K1.out⟩
      · have hz : l.length = 0 := by
          rcases Nat.eq_zero_or_pos l.length with h | h
          · exact h
          · exact absurd ⟨rfl, rfl, h⟩ HA.out
        have hz2 : ((l.length : Int) == 0) = true := by rw [hz]; rfl
        clear HA
        generalize l.length = ln at *
        subst hz
        go_wp2
        exact bodyPost_ret (v := .tuple #[.int .i64 0, .bool false]) (by simp [results, Try.results19, go_sem]) rfl ⟨by rw [E.out]; rfl, K1.out⟩
end Go.Proofs.Ytldaikpchggogaa.Dm
