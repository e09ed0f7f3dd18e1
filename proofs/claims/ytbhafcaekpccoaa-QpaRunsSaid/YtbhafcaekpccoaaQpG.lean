/- The tasks of a mode: package qpa's in, the document's Of. -/
import Derived.Test.YtbhafcaekpccoaaQpMath
import Derived.Test.YtbhafcaekpccoaaPmR
import Derived.BigQuiet
namespace Go.Proofs.Ytbhafcaekpccoaa.Qp
open Go.ChangeShapes Go.WideShapes Go.ChangeAt Go.RowKit Go.Joins
open Pm (Tk chk chk_iff rowB rowB_all rowB_len TkAt Ts TRow trow_nil trow_append below_drewN wrap_in)
set_option maxRecDepth 100000
set_option maxRecDepth 100000
set_option linter.unusedVariables false
set_option linter.unusedSimpArgs false
/-- is t in mode k? -/
def bt (k : Int) (t : Tk) : Bool := bits .and .i64 (t.m / 2 ^ k.toNat) 1 == 1
def inL (k : Int) (l : List Tk) : List Tk := l.filter (bt k)
theorem inL_take {k : Int} {l : List Tk} {i : Nat} (h : i < l.length) : inL k (l.take (i + 1)) = if bt k l[i] = true then inL k (l.take i) ++ [l[i]] else inL k (l.take i) := by
  unfold inL
  rw [List.take_succ_eq_append_getElem h, List.filter_append]
  cases hb : bt k l[i] <;> simp [hb]
theorem inL_len (k : Int) (l : List Tk) : (inL k l).length ≤ l.length := List.length_filter_le _ _
/-- i tasks were looked at -/
def InRel (l : List Tk) (k : Int) (w : World) (g : Nat) (s t : Value) (wx : World) : Prop :=
  ∃ (i : Nat), i + g = l.length ∧ t = .int .i64 (i : Int) ∧ TRow w.heap.size wx s (inL k (l.take i)) ∧ Below w.heap.size w wx
set_option maxHeartbeats 4000000 in
theorem in_any (l : List Tk) (ao : Option Addr) (cap : Nat) (k : Int) (w : World) (hT : Ts ao l w) (hl : l.length ≤ 100000) (hk0 : 0 ≤ k) (hk1 : k ≤ 3) :
    Calls Try.prog 39 #[.slice ao l.length cap, .int .i64 k] w fun e w' => ∃ v, e = .returned v ∧ TRow w.heap.size w' v (inL k l) ∧ Below w.heap.size w w' := by
  have T := Lib.hid hT
  have FL : Hid (inL k (l.take l.length) = inL k l) := Lib.hid (by rw [List.take_length])
  clear hT
  go_enter Try.func39, Try.ntmps39
  go_wp2_with fail
  go_loopg [5, 10] l.length (InRel l k w)
  case atStart => exact ⟨0, by omega, rfl, trow_nil _ _, Below.refl _ _⟩
  case round =>
    obtain ⟨i, hi, rfl, hr, hB⟩ := hrel
    have TQ := T.out.call hB
    by_cases hlt : i < l.length
    · obtain ⟨b, off, rfl, hb, hat⟩ := TQ (by omega)
      have hx := hat i l[i] (List.getElem?_eq_getElem hlt)
      have HI := Lib.hid hi
      have hlt' : (i : Int) < (l.length : Int) := by omega
      have hg0 : 0 < gk := by omega
      have TK := inL_take (k := k) hlt
      obtain ⟨c0, c1, c2, c3, c4⟩ := hx
      have hlen : (inL k (l.take i)).length ≤ 100000 := by have := inL_len k (l.take i); simp at this; omega
      generalize l[i] = t at *
      obtain ⟨ti, tc, td, tt, tm⟩ := t
      simp only at *
      have b1 := hB.alloc hB.size (.cells #[.int .i64 ti, .int .i64 tc, .int .i64 td, .int .i64 tt, .int .i64 tm] 42)
      have r1 := hr.call ((Below.refl wr.heap.size wr).alloc (Nat.le_refl _) (.cells #[.int .i64 ti, .int .i64 tc, .int .i64 td, .int .i64 tt, .int .i64 tm] 42))
      have x0 : (wr.alloc (.cells #[.int .i64 ti, .int .i64 tc, .int .i64 td, .int .i64 tt, .int .i64 tm] 42)).cell? ⟨wr.heap.size, 0, none⟩ = some (.int .i64 ti) := by simp [go_sem]
      have x1 : (wr.alloc (.cells #[.int .i64 ti, .int .i64 tc, .int .i64 td, .int .i64 tt, .int .i64 tm] 42)).cell? ⟨wr.heap.size, 1, none⟩ = some (.int .i64 tc) := by simp [go_sem]
      have x2 : (wr.alloc (.cells #[.int .i64 ti, .int .i64 tc, .int .i64 td, .int .i64 tt, .int .i64 tm] 42)).cell? ⟨wr.heap.size, 2, none⟩ = some (.int .i64 td) := by simp [go_sem]
      have x3 : (wr.alloc (.cells #[.int .i64 ti, .int .i64 tc, .int .i64 td, .int .i64 tt, .int .i64 tm] 42)).cell? ⟨wr.heap.size, 3, none⟩ = some (.int .i64 tt) := by simp [go_sem]
      have x4 : (wr.alloc (.cells #[.int .i64 ti, .int .i64 tc, .int .i64 td, .int .i64 tt, .int .i64 tm] 42)).cell? ⟨wr.heap.size, 4, none⟩ = some (.int .i64 tm) := by simp [go_sem]
      have RR := Lib.hid r1
      have BB := Lib.hid b1
      obtain ⟨qa, qc, rfl, -, -⟩ := hr.form
      clear hi hat TQ hr hB r1 b1
      go_upto_region 5 with (fail)
      generalize (wr.alloc (.cells #[.int .i64 ti, .int .i64 tc, .int .i64 td, .int .i64 tt, .int .i64 tm] 42)) = W at *
      have hb : bt k ⟨ti, tc, td, tt, tm⟩ = (bits .and .i64 (tm / 2 ^ k.toNat) 1 == 1) := rfl
      generalize hbb : bits .and .i64 (tm / 2 ^ k.toNat) 1 = z at *
      rw [hb] at TK
      clear hb
      by_cases hz : z = 1
      · have hz1 : (z == 1) = true := by simp [hz]
        rw [if_pos hz1] at TK
        obtain ⟨v', w', hap, hrow, hbw⟩ := trow_append w.heap.size W _ _ ⟨ti, tc, td, tt, tm⟩ RR.out BB.out.size hlen
        rw [← TK] at hrow
        have HR := Lib.hid hrow
        have HB := Lib.hid (BB.out.trans hbw)
        clear hrow hbw TK RR BB hz
        generalize (inL k (l.take i)).length = n2 at *
        go_wp2_with (at_builtin; refine Lib.wpList_append_run _ rfl _ _ _ _ rfl _ _ rfl rfl _ _ hap ?_)
        go_roundg (gk - 1)
        case measure => omega
        case rel => exact ⟨i + 1, by have := HI.out; omega, by go_num, HR.out, HB.out⟩
      · have hz1 : (z == 1) = false := by simp [hz]
        rw [if_neg (by rw [hz1]; decide)] at TK
        have HR : Hid (TRow w.heap.size W (.slice qa (inL k (l.take i)).length qc) (inL k (l.take (i + 1)))) := Lib.hid (by rw [TK]; exact RR.out)
        clear TK RR hz
        generalize (inL k (l.take i)).length = n2 at *
        go_wp2
        go_roundg (gk - 1)
        case measure => omega
        case rel => exact ⟨i + 1, by have := HI.out; omega, by go_num, HR.out, BB.out⟩
    · obtain rfl : i = l.length := by omega
      rw [FL.out] at hr
      have RW := Lib.hid (hr.mono (Nat.le_refl _))
      have KB := Lib.hid hB
      obtain ⟨qa, qc, rfl, -, -⟩ := hr.form
      have hge : (l.length : Int) ≤ (l.length : Int) := by omega
      have hdec : decide (l.length < l.length) = false := by simp
      clear hB TQ hi hr
      generalize (inL k l).length = n2 at *
      go_wp2
      go_ret
      exact ⟨_, rfl, RW.out, KB.out⟩
set_option maxHeartbeats 4000000 in
theorem rof12_any (l : List Tk) (ao : Option Addr) (cap : Nat) (k : Int) (w : World) (hT : Ts ao l w) (hl : l.length ≤ 100000) (hk0 : 0 ≤ k) (hk1 : k ≤ 3) :
    Calls Try.prog 26 #[.slice ao l.length cap, .int .i64 k] w fun e w' => ∃ v, e = .returned v ∧ TRow w.heap.size w' v (inL k l) ∧ Below w.heap.size w w' := by
  have T := Lib.hid hT
  have FL : Hid (inL k (l.take l.length) = inL k l) := Lib.hid (by rw [List.take_length])
  clear hT
  go_enter Try.func26, Try.ntmps26
  go_wp2_with fail
  go_loopg [5, 6] l.length (InRel l k w)
  case atStart => exact ⟨0, by omega, rfl, trow_nil _ _, Below.refl _ _⟩
  case round =>
    obtain ⟨i, hi, rfl, hr, hB⟩ := hrel
    have TQ := T.out.call hB
    by_cases hlt : i < l.length
    · obtain ⟨b, off, rfl, hb, hat⟩ := TQ (by omega)
      have hx := hat i l[i] (List.getElem?_eq_getElem hlt)
      have HI := Lib.hid hi
      have hlt' : (i : Int) < (l.length : Int) := by omega
      have hg0 : 0 < gk := by omega
      have TK := inL_take (k := k) hlt
      obtain ⟨c0, c1, c2, c3, c4⟩ := hx
      have hlen : (inL k (l.take i)).length ≤ 100000 := by have := inL_len k (l.take i); simp at this; omega
      generalize l[i] = t at *
      obtain ⟨ti, tc, td, tt, tm⟩ := t
      simp only at *
      have hb : bt k ⟨ti, tc, td, tt, tm⟩ = (bits .and .i64 (tm / 2 ^ k.toNat) 1 == 1) := rfl
      generalize hbb : bits .and .i64 (tm / 2 ^ k.toNat) 1 = z at *
      rw [hb] at TK
      have RR := Lib.hid hr
      have BB := Lib.hid hB
      obtain ⟨qa, qc, rfl, -, -⟩ := hr.form
      clear hb hi hat TQ hr hB
      by_cases hz : z = 1
      · have hz1 : (z == 1) = true := by simp [hz]
        rw [if_pos hz1] at TK
        obtain ⟨v', w', hap, hrow, hbw⟩ := trow_append w.heap.size wr _ _ ⟨ti, tc, td, tt, tm⟩ RR.out BB.out.size hlen
        rw [← TK] at hrow
        have HR := Lib.hid hrow
        have HB := Lib.hid (BB.out.trans hbw)
        clear hrow hbw TK RR BB hz
        generalize (inL k (l.take i)).length = n2 at *
        go_wp2_with (at_builtin; refine Lib.wpList_append_run _ rfl _ _ _ _ rfl _ _ rfl rfl _ _ hap ?_)
        go_roundg (gk - 1)
        case measure => omega
        case rel => exact ⟨i + 1, by have := HI.out; omega, by go_num, HR.out, HB.out⟩
      · have hz1 : (z == 1) = false := by simp [hz]
        rw [if_neg (by rw [hz1]; decide)] at TK
        have HR : Hid (TRow w.heap.size wr (.slice qa (inL k (l.take i)).length qc) (inL k (l.take (i + 1)))) := Lib.hid (by rw [TK]; exact RR.out)
        clear TK RR hz
        generalize (inL k (l.take i)).length = n2 at *
        go_wp2
        go_roundg (gk - 1)
        case measure => omega
        case rel => exact ⟨i + 1, by have := HI.out; omega, by go_num, HR.out, BB.out⟩
    · obtain rfl : i = l.length := by omega
      rw [FL.out] at hr
      have RW := Lib.hid (hr.mono (Nat.le_refl _))
      have KB := Lib.hid hB
      obtain ⟨qa, qc, rfl, -, -⟩ := hr.form
      have hge : (l.length : Int) ≤ (l.length : Int) := by omega
      have hdec : decide (l.length < l.length) = false := by simp
      clear hB TQ hi hr
      generalize (inL k l).length = n2 at *
      go_wp2
      go_ret
      exact ⟨_, rfl, RW.out, KB.out⟩
end Go.Proofs.Ytbhafcaekpccoaa.Qp
