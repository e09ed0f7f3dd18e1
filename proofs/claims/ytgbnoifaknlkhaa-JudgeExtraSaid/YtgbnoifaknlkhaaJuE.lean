/- Package judge's isIn, alike and Gone. -/
import Derived.Test.YtgbnoifaknlkhaaJuNum
import Derived.Test.YtgbnoifaknlkhaaMTt
namespace Go.Proofs.Ytgbnoifaknlkhaa.Ju
open Go.ChangeShapes Go.WideShapes Go.ChangeAt Go.RowKit Go.Joins
open Pm (Tk chk chk_iff)
open Ge (El Seen Row)
open Ox (Od chkR chkR_iff tk0)
open Tb
set_option maxRecDepth 100000
set_option maxRecDepth 100000
set_option linter.unusedVariables false
set_option linter.unusedSimpArgs false
theorem isin_any (r : Rw) (k : Int) (hk : 0 ≤ k ∧ k ≤ 3) (w : World) :
    Calls Try.prog 38 #[r.v, .int .i64 k] w fun e w' => e = .returned (.bool (bt k r.t)) ∧ Below w.heap.size w w' := by
  obtain ⟨⟨xi, xc, xd, xt, xm⟩, xs⟩ := r
  have H0 := Lib.hid ((bos_nil w).new #[.int .i64 xi, .int .i64 xc, .int .i64 xd, .int .i64 xt, .int .i64 xm, .bool xs] 48)
  unfold Rw.v
  simp only at *
  obtain ⟨c0, c1, c2, c3, c4, c5⟩ := cell6 (H0.out.cell 0 rfl)
  obtain ⟨hk0, hk1⟩ := hk
  have um : IntKind.u64.wrap k = k := IntWalk.u64_in _ (by omega)
  have um2 : k % 18446744073709551616 = k := by omega
  go_enter Try.func38, Try.ntmps38
  go_wp2
  go_ret
  exact ⟨rfl, H0.out.bl⟩
/-- the same but for work and modes -/
def alk (a b : Rw) : Bool := decide (a.t.d = b.t.d ∧ a.t.t = b.t.t ∧ a.s = b.s)
theorem alike_any (a b : Rw) (w : World) :
    Calls Try.prog 39 #[a.v, b.v] w fun e w' => e = .returned (.bool (alk a b)) ∧ Below w.heap.size w w' := by
  obtain ⟨⟨xi, xc, xd, xt, xm⟩, xs⟩ := a
  obtain ⟨⟨si, sc, sd, st, sm⟩, ss⟩ := b
  have H0 := Lib.hid (((bos_nil w).new #[.int .i64 xi, .int .i64 xc, .int .i64 xd, .int .i64 xt, .int .i64 xm, .bool xs] 48).new #[.int .i64 si, .int .i64 sc, .int .i64 sd, .int .i64 st, .int .i64 sm, .bool ss] 48)
  rw [World.size_alloc] at H0
  have E : Hid (alk ⟨⟨xi, xc, xd, xt, xm⟩, xs⟩ ⟨⟨si, sc, sd, st, sm⟩, ss⟩ = decide (xd = sd ∧ xt = st ∧ xs = ss)) := Lib.hid rfl
  unfold Rw.v
  simp only at *
  obtain ⟨c0, c1, c2, c3, c4, c5⟩ := cell6 (H0.out.cell 1 rfl)
  obtain ⟨d0, d1, d2, d3, d4, d5⟩ := cell6 (H0.out.cell 0 rfl)
  rw [E.out]
  go_enter Try.func39, Try.ntmps39
  by_cases h1 : xd = sd
  case neg =>
    have h1' : (xd == sd) = false := by simp [h1]
    have EE : Hid (decide (xd = sd ∧ xt = st ∧ xs = ss) = false) := Lib.hid (by simp [h1])
    clear h1
    go_wp2
    go_ret
    exact ⟨by rw [EE.out]; rfl, H0.out.bl⟩
  have h1' : (xd == sd) = true := by simp [h1]
  by_cases h2 : xt = st
  case neg =>
    have h2' : (xt == st) = false := by simp [h2]
    have EE : Hid (decide (xd = sd ∧ xt = st ∧ xs = ss) = false) := Lib.hid (by simp [h2])
    clear h1 h2
    go_wp2
    go_ret
    exact ⟨by rw [EE.out]; rfl, H0.out.bl⟩
  have h2' : (xt == st) = true := by simp [h2]
  have EE : Hid (decide (xd = sd ∧ xt = st ∧ xs = ss) = (xs == ss)) := Lib.hid (by cases xs <;> cases ss <;> simp [h1, h2])
  clear h1 h2
  go_wp2
  go_ret
  exact ⟨by rw [EE.out]; rfl, H0.out.bl⟩
/-- how much of r's work is in b, too -/
def keptR (mb : Int) (b : List Rw) (r : Rw) : Int :=
  match find b r.t.id with
  | none => 0
  | some s => if bt mb s.t = true ∧ alk r s = true then s.t.c else 0
theorem kept_none {mb : Int} {b : List Rw} {r : Rw} (h : find b r.t.id = none) : keptR mb b r = 0 := by unfold keptR; rw [h]
theorem kept_some {mb : Int} {b : List Rw} {r s : Rw} (h : find b r.t.id = some s) : keptR mb b r = if bt mb s.t = true ∧ alk r s = true then s.t.c else 0 := by unfold keptR; rw [h]
theorem find_findR (l : List Rw) (id : Int) : (find l id = none ∧ findR l id = (rw0, false)) ∨ ∃ s, find l id = some s ∧ s ∈ l ∧ findR l id = (s, true) := by
  cases h : at_ l id with
  | none => exact .inl ⟨(at_none h).2, by unfold findR; rw [h]⟩
  | some k =>
    obtain ⟨s, h1, -, h3⟩ := at_some h
    exact .inr ⟨s, h3, List.mem_of_getElem? h1, by unfold findR; rw [h]; simp only; rw [h1]⟩
/-- what is gone of r, by what is kept -/
theorem goneOne_kept {mb : Int} {b : List Rw} {r : Rw} (hb : ∀ q ∈ b, chk q.t = true) (hr : chk r.t = true) : goneOne mb b r = if keptR mb b r < r.t.c then [{ r.t with c := r.t.c - keptR mb b r }] else [] := by
  have h1 := chk_iff.1 hr
  unfold goneOne
  cases hf : find b r.t.id with
  | none =>
    rw [kept_none hf, if_pos (by omega), Int.sub_zero]
  | some s =>
    have h2 := chk_iff.1 (hb s (List.mem_of_find?_eq_some hf))
    rw [kept_some hf]
    simp only
    by_cases hc : bt mb s.t = true ∧ alk r s = true
    · rw [if_pos hc]
      have ha : r.t.d = s.t.d ∧ r.t.t = s.t.t ∧ r.s = s.s := by have := hc.2; unfold alk at this; exact of_decide_eq_true this
      rw [if_neg (by rw [hc.1, ha.1, ha.2.1, ha.2.2]; simp)]
    · have hg : bt mb s.t = false ∨ s.t.d ≠ r.t.d ∨ s.t.t ≠ r.t.t ∨ s.s ≠ r.s := Classical.byContradiction (fun hn => hc (by
        simp only [not_or, Decidable.not_not] at hn
        refine ⟨by have := hn.1; cases hbt : bt mb s.t <;> simp_all, ?_⟩
        unfold alk
        exact decide_eq_true ⟨hn.2.1.symm, hn.2.2.1.symm, hn.2.2.2.symm⟩))
      rw [if_neg hc, if_pos hg, if_pos (show (0 : Int) < r.t.c by omega), Int.sub_zero]
theorem kept_in {mb : Int} {b : List Rw} {r : Rw} (hb : ∀ q ∈ b, chk q.t = true) : 0 ≤ keptR mb b r ∧ keptR mb b r ≤ 2147483648 := by
  cases hf : find b r.t.id with
  | none => rw [kept_none hf]; omega
  | some s =>
    have h2 := chk_iff.1 (hb s (List.mem_of_find?_eq_some hf))
    rw [kept_some hf]
    split <;> omega
set_option maxHeartbeats 4000000 in
theorem gone1_any (b : Tb.Tb) (r : Rw) (p : Nat) (bo : Option Addr) (bc : Nat) (w : World) (h0 : w.cell? ⟨p, 0, none⟩ = some (.slice bo b.rows.length bc)) (h1 : w.cell? ⟨p, 1, none⟩ = some (.int .i64 b.mode)) (hS : Seen Rw.cs 6 bo b.rows w) (hc : chkT b = true) :
    Calls Try.prog 36 #[r.v, .pointer (some ⟨p, 0, none⟩)] w fun e w' => e = .returned (.int .i64 (keptR b.mode b.rows r)) ∧ Below w.heap.size w w' := by
  have H0 := Lib.hid ((bos_nil w).new #[.int .i64 r.t.id, .int .i64 r.t.c, .int .i64 r.t.d, .int .i64 r.t.t, .int .i64 r.t.m, .bool r.s] 48)
  have P0 : Hid (∀ W, Below w.heap.size w W → W.cell? ⟨p, 0, none⟩ = some (.slice bo b.rows.length bc) ∧ W.cell? ⟨p, 1, none⟩ = some (.int .i64 b.mode)) := Lib.hid (fun W hb => ⟨carry hb h0, carry hb h1⟩)
  have FI := Lib.hid (find_any b r.t.id bo bc _ (hS.below H0.out.bl (Nat.le_refl _)) hc)
  have IS : Hid (∀ (s : Rw) W, Calls Try.prog 38 #[s.v, .int .i64 b.mode] W fun e w' => e = .returned (.bool (bt b.mode s.t)) ∧ Below W.heap.size W w') := Lib.hid (fun s W => isin_any s b.mode ⟨(chkT_iff.1 hc).2.2.2.1, (chkT_iff.1 hc).2.2.2.2⟩ W)
  have AL : Hid (∀ (s : Rw) W, Calls Try.prog 39 #[r.v, s.v] W fun e w' => e = .returned (.bool (alk r s)) ∧ Below W.heap.size W w') := Lib.hid (fun s W => alike_any r s W)
  have KN : Hid (find b.rows r.t.id = none → keptR b.mode b.rows r = 0) := Lib.hid kept_none
  have KS : Hid (∀ s, find b.rows r.t.id = some s → keptR b.mode b.rows r = if bt b.mode s.t = true ∧ alk r s = true then s.t.c else 0) := Lib.hid (fun s => kept_some)
  have FF := Lib.hid (find_findR b.rows r.t.id)
  generalize keptR b.mode b.rows r = K at *
  generalize findR b.rows r.t.id = F at *
  obtain ⟨s, th⟩ := F
  obtain ⟨B, m⟩ := b
  obtain ⟨⟨xi, xc, xd, xt, xm⟩, xs⟩ := r
  obtain ⟨⟨si, sc, sd, st, sm⟩, ss⟩ := s
  have IC := Lib.hid (IS.out ⟨⟨si, sc, sd, st, sm⟩, ss⟩)
  have AC := Lib.hid (AL.out ⟨⟨si, sc, sd, st, sm⟩, ss⟩)
  have KS2 := Lib.hid (KS.out ⟨⟨si, sc, sd, st, sm⟩, ss⟩)
  unfold tv Rw.v at *
  simp only at *
  obtain ⟨p0, p1⟩ := P0.out _ H0.out.bl
  obtain ⟨c0, c1, c2, c3, c4, c5⟩ := cell6 (H0.out.cell 0 rfl)
  clear hS hc h0 h1 IS AL KS
  generalize bt m ⟨si, sc, sd, st, sm⟩ = q at *
  generalize alk ⟨⟨xi, xc, xd, xt, xm⟩, xs⟩ ⟨⟨si, sc, sd, st, sm⟩, ss⟩ = z at *
  generalize B.length = n at *
  go_enter Try.func36, Try.ntmps36
  go_wp2_with fail
  (with_reducible refine FI.out.mono ?_)
  rintro e w1 ⟨rfl, b1⟩
  have H1 := Lib.hid (H0.out.call b1)
  have H2 := Lib.hid (H1.out.new #[.int .i64 si, .int .i64 sc, .int .i64 sd, .int .i64 st, .int .i64 sm, .bool ss] 48)
  clear b1 FI H0 c0 c1 c2 c3 c4 c5 p0 p1 H1
  obtain ⟨p0, p1⟩ := P0.out _ H2.out.bl
  obtain ⟨d0, d1, d2, d3, d4, d5⟩ := cell6 (H2.out.cell 0 rfl)
  obtain ⟨c0, c1, c2, c3, c4, c5⟩ := cell6 (H2.out.cell 1 rfl)
  cases th
  · have E : Hid (K = 0) := Lib.hid (by
      rcases FF.out with ⟨h, -⟩ | ⟨s, -, -, h⟩
      · exact KN.out h
      · cases h)
    clear FF KN KS2
    go_wp2
    go_ret
    exact ⟨by rw [E.out]; rfl, H2.out.bl⟩
  have E : Hid (K = if q = true ∧ z = true then sc else 0) := Lib.hid (by
    rcases FF.out with ⟨-, h⟩ | ⟨s', h1, -, h⟩
    · cases h
    · cases h; exact KS2.out h1)
  clear FF KN KS2
  go_wp2_with fail
  (with_reducible refine (IC.out _).mono ?_)
  rintro e w3 ⟨rfl, b3⟩
  have H3 := Lib.hid (H2.out.call b3)
  clear b3 IC H2 c0 c1 c2 c3 c4 c5 d0 d1 d2 d3 d4 d5 p0 p1
  obtain ⟨d0, d1, d2, d3, d4, d5⟩ := cell6 (H3.out.cell 0 rfl)
  obtain ⟨c0, c1, c2, c3, c4, c5⟩ := cell6 (H3.out.cell 1 rfl)
  cases q
  · have EE : Hid (K = 0) := Lib.hid (E.out.trans (if_neg (by simp)))
    clear E
    go_wp2
    go_ret
    exact ⟨by rw [EE.out]; rfl, H3.out.bl⟩
  go_wp2_with fail
  (with_reducible refine (AC.out _).mono ?_)
  rintro e w4 ⟨rfl, b4⟩
  have H4 := Lib.hid (H3.out.call b4)
  clear b4 AC H3 c0 c1 c2 c3 c4 c5 d0 d1 d2 d3 d4 d5
  obtain ⟨d0, d1, d2, d3, d4, d5⟩ := cell6 (H4.out.cell 0 rfl)
  cases z
  · have EE : Hid (K = 0) := Lib.hid (E.out.trans (if_neg (by simp)))
    clear E
    go_wp2
    go_ret
    exact ⟨by rw [EE.out]; rfl, H4.out.bl⟩
  have EE : Hid (K = sc) := Lib.hid (E.out.trans (if_pos (by simp)))
  clear E
  go_wp2
  go_ret
  exact ⟨by rw [EE.out]; rfl, H4.out.bl⟩
end Go.Proofs.Ytgbnoifaknlkhaa.Ju
