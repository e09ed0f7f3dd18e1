/- Contracts of Modes: package qpa's, the document's. -/
import Derived.Test.YtbhafcaekpccoaaQpB
import Derived.Test.YtbhafcaekpccoaaQpE
import Derived.Test.YtbhafcaekpccoaaQpG
namespace Go.Proofs.Ytbhafcaekpccoaa.Qp
open Go.ChangeShapes Go.WideShapes Go.ChangeAt Go.RowKit Go.Joins
open Pm (Tk chk chk_iff rowB rowB_all rowB_len TkAt Ts TRow row_any rrow_any)
set_option maxRecDepth 100000
set_option maxRecDepth 100000
set_option linter.unusedVariables false
set_option linter.unusedSimpArgs false
/-- n numbers in block b -/
structure Ar (n b : Nat) (f : Nat → Int) (w : World) : Prop where
  c : ∀ j, j < n → w.cell? ⟨b, j, none⟩ = some (.int .i64 (f j))
  z : ∀ j, j < n → w.frozen? ⟨b, j, none⟩ = false
theorem Ar.congr {n b : Nat} {f g : Nat → Int} {w : World} (h : Ar n b f w) (e : ∀ j, j < n → f j = g j) : Ar n b g w := ⟨fun j hj => by rw [← e j hj]; exact h.c j hj, h.z⟩
theorem Ar.lt {n b : Nat} {f : Nat → Int} {w : World} (h : Ar n b f w) (hn : 0 < n) : b < w.heap.size := World.block_lt_of_cell? _ _ (h.c 0 hn)
theorem Ar.call {n b : Nat} {f : Nat → Int} {w w' : World} (h : Ar n b f w) (hb : Below w.heap.size w w') : Ar n b f w' := by
  by_cases hn : 0 < n
  · have hl := h.lt hn
    exact ⟨fun j hj => carry hb (h.c j hj), fun j hj => by rw [hb.frozen (p := ⟨b, j, none⟩) hl]; exact h.z j hj⟩
  · exact ⟨fun j hj => absurd hj (by omega), fun j hj => absurd hj (by omega)⟩
theorem Ar.below {n b B : Nat} {f : Nat → Int} {w w' : World} (h : Ar n b f w) (hb : Below B w w') (hl : b < B) : Ar n b f w' :=
  ⟨fun j hj => by rw [hb.cell (p := ⟨b, j, none⟩) hl]; exact h.c j hj, fun j hj => by rw [hb.frozen (p := ⟨b, j, none⟩) hl]; exact h.z j hj⟩
theorem Ar.set {n b i : Nat} {f : Nat → Int} {w : World} (h : Ar n b f w) (v : Int) : Ar n b (fun j => if j = i then v else f j) (w.setCell ⟨b, i, none⟩ (.int .i64 v)) :=
  ⟨fun j hj => by
    by_cases hji : j = i
    · subst hji; simp [go_sem, h.c j hj]
    · have hij : ¬ i = j := fun e => hji e.symm
      simp [go_sem, hji, hij, h.c j hj], fun j hj => by simp [go_sem, h.z j hj]⟩
theorem Ar.other {n b g o : Nat} {f : Nat → Int} {w : World} {v : Value} (h : Ar n b f w) (hne : ¬ g = b) : Ar n b f (w.setCell ⟨g, o, none⟩ v) :=
  ⟨fun j hj => by
    have hne' : ¬ b = g := fun e => hne e.symm
    simp [go_sem, hne, hne', h.c j hj], fun j hj => by simp [go_sem, h.z j hj]⟩
/-- what Modes tells of a mode -/
def mdR (l : List Tk) (k : Nat) : Int := if rowB l = true then testR (inL (k : Int) l) else 1
def MdRel (l : List Tk) (b : Nat) (W : World) (g : Nat) (t : Value) (wx : World) : Prop :=
  ∃ i : Nat, i + g = 4 ∧ t = .int .i64 (i : Int) ∧ Ar 4 b (fun j => if j < i then mdR l j else 0) wx ∧ Below b W wx
theorem md_next {l : List Tk} {i b : Nat} {w : World} {x : Int} (h : Ar 4 b (fun j => if j < i then mdR l j else 0) w) (e : x = mdR l i) : Ar 4 b (fun j => if j < i + 1 then mdR l j else 0) (w.setCell ⟨b, i, none⟩ (.int .i64 x)) :=
  (h.set x).congr fun j hj => by
    by_cases h1 : j = i
    · subst h1; rw [if_pos rfl, if_pos (by omega), e]
    · rw [if_neg h1]
      by_cases h2 : j < i
      · rw [if_pos h2, if_pos (by omega)]
      · rw [if_neg h2, if_neg (by omega)]
set_option maxHeartbeats 4000000 in
theorem modes_any (l : List Tk) (ao : Option Addr) (cap : Nat) (w : World) (hT : Ts ao l w) (hl : l.length ≤ 100000) :
    Calls Try.prog 25 #[.slice ao l.length cap] w fun e w' => e = .returned (.agg #[.int .i64 (mdR l 0), .int .i64 (mdR l 1), .int .i64 (mdR l 2), .int .i64 (mdR l 3)]) ∧ Below w.heap.size w w' := by
  have RW := Lib.hid (fun w h => row_any l ao cap w h (by omega))
  have IN := Lib.hid (fun (k : Int) h1 h2 w h => in_any l ao cap k w h hl h1 h2)
  have TE := Lib.hid (fun (k : Int) am cm w h => test_any (inL k l) am cm w h (by have := inL_len k l; omega))
  have M1 : Hid (rowB l = false → ∀ k, mdR l k = 1) := Lib.hid (fun h k => by unfold mdR; rw [h]; rfl)
  have M2 : Hid (rowB l = true → ∀ (k : Nat), testR (inL (k : Int) l) = mdR l k) := Lib.hid (fun h k => by unfold mdR; rw [if_pos h])
  have bel0 := ((Below.refl w.heap.size w).alloc (Nat.le_refl _) (.cells #[.int .i64 0, .int .i64 0, .int .i64 0, .int .i64 0] 47)).alloc (by simp) (.cells #[.int .i64 0, .int .i64 0, .int .i64 0, .int .i64 0] 47)
  have T1 := Lib.hid (hT.call bel0)
  have T := Lib.hid hT
  have lay : Ar 4 w.heap.size (fun _ => 0) ((w.alloc (.cells #[.int .i64 0, .int .i64 0, .int .i64 0, .int .i64 0] 47)).alloc (.cells #[.int .i64 0, .int .i64 0, .int .i64 0, .int .i64 0] 47)) ∧ Ar 4 (w.heap.size + 1) (fun _ => 0) ((w.alloc (.cells #[.int .i64 0, .int .i64 0, .int .i64 0, .int .i64 0] 47)).alloc (.cells #[.int .i64 0, .int .i64 0, .int .i64 0, .int .i64 0] 47)) := by
    have key : ∀ j, j < 4 → j = 0 ∨ j = 1 ∨ j = 2 ∨ j = 3 := fun j h => by omega
    refine ⟨⟨fun j hj => ?_, fun j hj => ?_⟩, fun j hj => ?_, fun j hj => ?_⟩ <;> rcases key j hj with rfl | rfl | rfl | rfl <;> simp [go_sem]
  have hz : ((w.alloc (.cells #[.int .i64 0, .int .i64 0, .int .i64 0, .int .i64 0] 47)).alloc (.cells #[.int .i64 0, .int .i64 0, .int .i64 0, .int .i64 0] 47)).heap.size = w.heap.size + 2 := by simp
  have B0 := Lib.hid bel0
  clear hT bel0
  go_enter Try.func25, Try.ntmps25
  go_wp2_with fail
  generalize ((w.alloc (.cells #[.int .i64 0, .int .i64 0, .int .i64 0, .int .i64 0] 47)).alloc (.cells #[.int .i64 0, .int .i64 0, .int .i64 0, .int .i64 0] 47)) = W0 at *
  obtain ⟨L1, L2⟩ := lay
  (with_reducible refine (RW.out _ T1.out).mono ?_)
  rintro e w1 ⟨rfl, b1⟩
  have A1 := Lib.hid (L1.call b1)
  have A2 := L2.call b1
  have K1 := Lib.hid (B0.out.trans (b1.mono B0.out.size))
  have S0 : Hid (MdRel l (w.heap.size + 1) w1 4 (.int .i64 0) w1) := Lib.hid ⟨0, rfl, rfl, A2.congr (fun j _ => by simp), Below.refl _ _⟩
  have z1 : w.heap.size + 2 ≤ w1.heap.size := by have := b1.size; omega
  clear L1 L2 b1 RW T1 B0 A2
  obtain ⟨r, hr⟩ : ∃ r, rowB l = r := ⟨_, rfl⟩
  rw [hr]
  go_wp2_with fail
  go_loopg [8] 4 (MdRel l (w.heap.size + 1) w1)
  case atStart => exact S0.out
  case round =>
    obtain ⟨i, hi, rfl, hA, hB⟩ := hrel
    by_cases hlt : i < 4
    · have HI := Lib.hid hi
      have hlt' : (i : Int) < 4 := by omega
      have hg0 : 0 < gk := by omega
      have KB := Lib.hid hB
      have AA := Lib.hid hA
      have u0 := hA.c i hlt
      have u1 := hA.z i hlt
      have TW : Hid (Ts ao l wr) := Lib.hid (T.out.call (K1.out.trans (hB.mono (by omega))))
      clear hi hB
      cases r with
      | true =>
        have E := Lib.hid (M2.out hr i)
        go_wp2_with fail
        (with_reducible refine (IN.out (i : Int) (by omega) (by omega) _ TW.out).mono ?_)
        rintro e w2 ⟨v, rfl, tr, b2⟩
        obtain ⟨am, cm, rfl, -, hts⟩ := tr.form
        have A3 := Lib.hid (AA.out.call b2)
        have K3 := Lib.hid (KB.out.trans (b2.mono (by have := KB.out.size; omega)))
        have T3 := Lib.hid (TE.out (i : Int) am cm _ hts)
        rw [E.out] at T3
        clear tr hts b2 AA KB TW u0 u1 hA
        go_wp2_with fail
        (with_reducible refine T3.out.mono ?_)
        rintro e w3 ⟨rfl, b3⟩
        have A4 := Lib.hid (A3.out.call b3)
        have K4 := Lib.hid (K3.out.trans (b3.mono (by have := K3.out.size; omega)))
        have u0 := A4.out.c i hlt
        have u1 := A4.out.z i hlt
        have A5 := Lib.hid (md_next A4.out rfl)
        have K5 := Lib.hid (K4.out.setCell (p := ⟨w.heap.size + 1, i, none⟩) (Nat.le_refl _) (.int .i64 (mdR l i)))
        clear b3 A3 K3 T3 A4 K4
        go_wp2
        go_roundg (gk - 1)
        case measure => omega
        case rel => exact ⟨i + 1, by have := HI.out; omega, by go_num, A5.out, K5.out⟩
      | false =>
        have E := Lib.hid (M1.out hr i)
        have A5 := Lib.hid (md_next (x := 1) hA E.out.symm)
        have K5 := Lib.hid (KB.out.setCell (p := ⟨w.heap.size + 1, i, none⟩) (Nat.le_refl _) (.int .i64 1))
        clear hA
        go_wp2
        go_roundg (gk - 1)
        case measure => omega
        case rel => exact ⟨i + 1, by have := HI.out; omega, by go_num, A5.out, K5.out⟩
    · obtain rfl : i = 4 := by omega
      have q0 := hA.c 0 (by decide)
      have q1 := hA.c 1 (by decide)
      have q2 := hA.c 2 (by decide)
      have q3 := hA.c 3 (by decide)
      simp at q0 q1 q2 q3
      have AR := A1.out.below hB (by omega)
      have p0 := AR.c 0 (by decide)
      have p1 := AR.c 1 (by decide)
      have p2 := AR.c 2 (by decide)
      have p3 := AR.c 3 (by decide)
      have f0 := AR.z 0 (by decide)
      have f1 := AR.z 1 (by decide)
      have f2 := AR.z 2 (by decide)
      have f3 := AR.z 3 (by decide)
      have AE := (((AR.set (i := 0) (mdR l 0)).set (i := 1) (mdR l 1)).set (i := 2) (mdR l 2)).set (i := 3) (mdR l 3)
      have e0 := Lib.hid (AE.c 0 (by decide))
      have e1 := Lib.hid (AE.c 1 (by decide))
      have e2 := Lib.hid (AE.c 2 (by decide))
      have e3 := Lib.hid (AE.c 3 (by decide))
      have KB := Lib.hid ((((K1.out.trans (hB.mono (by omega))).setCell (p := ⟨w.heap.size, 0, none⟩) (Nat.le_refl _) (.int .i64 (mdR l 0))).setCell (p := ⟨w.heap.size, 1, none⟩) (Nat.le_refl _) (.int .i64 (mdR l 1))).setCell (p := ⟨w.heap.size, 2, none⟩) (Nat.le_refl _) (.int .i64 (mdR l 2)) |>.setCell (p := ⟨w.heap.size, 3, none⟩) (Nat.le_refl _) (.int .i64 (mdR l 3)))
      clear hA hB AR hi AE
      go_wp2
      have h0 := e0.out
      have h1 := e1.out
      have h2 := e2.out
      have h3 := e3.out
      simp only [if_true, if_false, Nat.reduceEqDiff, reduceIte] at h0 h1 h2 h3
      have KB' := KB.out
      generalize ((((wr.setCell { block := w.heap.size, off := 0 } (Value.int IntKind.i64 (mdR l 0))).setCell { block := w.heap.size, off := 1 } (Value.int IntKind.i64 (mdR l 1))).setCell { block := w.heap.size, off := 2 } (Value.int IntKind.i64 (mdR l 2))).setCell { block := w.heap.size, off := 3 } (Value.int IntKind.i64 (mdR l 3))) = WE at *
      exact bodyPost_ret (v := .agg #[.int .i64 (mdR l 0), .int .i64 (mdR l 1), .int .i64 (mdR l 2), .int .i64 (mdR l 3)]) (by simp [results, Try.results25, go_sem, h0, h1, h2, h3]) rfl ⟨rfl, KB'⟩
set_option maxHeartbeats 4000000 in
theorem rmodes_any (l : List Tk) (ao : Option Addr) (cap : Nat) (w : World) (hT : Ts ao l w) (hl : l.length ≤ 100000) :
    Calls Try.prog 28 #[.slice ao l.length cap] w fun e w' => e = .returned (.agg #[.int .i64 (mdR l 0), .int .i64 (mdR l 1), .int .i64 (mdR l 2), .int .i64 (mdR l 3)]) ∧ Below w.heap.size w w' := by
  have RW := Lib.hid (fun w h => rrow_any l ao cap w h (by omega))
  have IN := Lib.hid (fun (k : Int) h1 h2 w h => rof12_any l ao cap k w h hl h1 h2)
  have TE := Lib.hid (fun (k : Int) am cm w h => rtest_any (inL k l) am cm w h (by have := inL_len k l; omega))
  have M1 : Hid (rowB l = false → ∀ k, mdR l k = 1) := Lib.hid (fun h k => by unfold mdR; rw [h]; rfl)
  have M2 : Hid (rowB l = true → ∀ (k : Nat), testR (inL (k : Int) l) = mdR l k) := Lib.hid (fun h k => by unfold mdR; rw [if_pos h])
  have bel0 := ((Below.refl w.heap.size w).alloc (Nat.le_refl _) (.cells #[.int .i64 0, .int .i64 0, .int .i64 0, .int .i64 0] 47)).alloc (by simp) (.cells #[.int .i64 0, .int .i64 0, .int .i64 0, .int .i64 0] 47)
  have T1 := Lib.hid (hT.call bel0)
  have T := Lib.hid hT
  have lay : Ar 4 w.heap.size (fun _ => 0) ((w.alloc (.cells #[.int .i64 0, .int .i64 0, .int .i64 0, .int .i64 0] 47)).alloc (.cells #[.int .i64 0, .int .i64 0, .int .i64 0, .int .i64 0] 47)) ∧ Ar 4 (w.heap.size + 1) (fun _ => 0) ((w.alloc (.cells #[.int .i64 0, .int .i64 0, .int .i64 0, .int .i64 0] 47)).alloc (.cells #[.int .i64 0, .int .i64 0, .int .i64 0, .int .i64 0] 47)) := by
    have key : ∀ j, j < 4 → j = 0 ∨ j = 1 ∨ j = 2 ∨ j = 3 := fun j h => by omega
    refine ⟨⟨fun j hj => ?_, fun j hj => ?_⟩, fun j hj => ?_, fun j hj => ?_⟩ <;> rcases key j hj with rfl | rfl | rfl | rfl <;> simp [go_sem]
  have hz : ((w.alloc (.cells #[.int .i64 0, .int .i64 0, .int .i64 0, .int .i64 0] 47)).alloc (.cells #[.int .i64 0, .int .i64 0, .int .i64 0, .int .i64 0] 47)).heap.size = w.heap.size + 2 := by simp
  have B0 := Lib.hid bel0
  clear hT bel0
  go_enter Try.func28, Try.ntmps28
  go_wp2_with fail
  generalize ((w.alloc (.cells #[.int .i64 0, .int .i64 0, .int .i64 0, .int .i64 0] 47)).alloc (.cells #[.int .i64 0, .int .i64 0, .int .i64 0, .int .i64 0] 47)) = W0 at *
  obtain ⟨L1, L2⟩ := lay
  (with_reducible refine (RW.out _ T1.out).mono ?_)
  rintro e w1 ⟨rfl, b1⟩
  have A1 := Lib.hid (L1.call b1)
  have A2 := L2.call b1
  have K1 := Lib.hid (B0.out.trans (b1.mono B0.out.size))
  have S0 : Hid (MdRel l (w.heap.size + 1) w1 4 (.int .i64 0) w1) := Lib.hid ⟨0, rfl, rfl, A2.congr (fun j _ => by simp), Below.refl _ _⟩
  have z1 : w.heap.size + 2 ≤ w1.heap.size := by have := b1.size; omega
  clear L1 L2 b1 RW T1 B0 A2
  obtain ⟨r, hr⟩ : ∃ r, rowB l = r := ⟨_, rfl⟩
  rw [hr]
  go_wp2_with fail
  go_loopg [5] 4 (MdRel l (w.heap.size + 1) w1)
  case atStart => exact S0.out
  case round =>
    obtain ⟨i, hi, rfl, hA, hB⟩ := hrel
    by_cases hlt : i < 4
    · have HI := Lib.hid hi
      have hlt' : (i : Int) < 4 := by omega
      have hg0 : 0 < gk := by omega
      have KB := Lib.hid hB
      have AA := Lib.hid hA
      have u0 := hA.c i hlt
      have u1 := hA.z i hlt
      have TW : Hid (Ts ao l wr) := Lib.hid (T.out.call (K1.out.trans (hB.mono (by omega))))
      clear hi hB
      cases r with
      | true =>
        have E := Lib.hid (M2.out hr i)
        have AQ := Lib.hid (AA.out.set (i := i) 1)
        have KQ := Lib.hid (KB.out.setCell (p := ⟨w.heap.size + 1, i, none⟩) (Nat.le_refl _) (.int .i64 1))
        have TQ : Hid (Ts ao l (wr.setCell ⟨w.heap.size + 1, i, none⟩ (.int .i64 1))) := Lib.hid (T.out.call (K1.out.trans (KQ.out.mono (by omega))))
        clear hA
        go_wp2_with fail
        generalize (wr.setCell ⟨w.heap.size + 1, i, none⟩ (.int .i64 1)) = WQ at *
        (with_reducible refine (IN.out (i : Int) (by omega) (by omega) _ TQ.out).mono ?_)
        rintro e w2 ⟨v, rfl, tr, b2⟩
        obtain ⟨am, cm, rfl, -, hts⟩ := tr.form
        have A3 := Lib.hid (AQ.out.call b2)
        have K3 := Lib.hid (KQ.out.trans (b2.mono (by have := KQ.out.size; omega)))
        have T3 := Lib.hid (TE.out (i : Int) am cm _ hts)
        rw [E.out] at T3
        clear tr hts b2 AA KB TW u0 u1 AQ KQ TQ
        go_wp2_with fail
        (with_reducible refine T3.out.mono ?_)
        rintro e w3 ⟨rfl, b3⟩
        have A4 := Lib.hid (A3.out.call b3)
        have K4 := Lib.hid (K3.out.trans (b3.mono (by have := K3.out.size; omega)))
        have u0 := A4.out.c i hlt
        have u1 := A4.out.z i hlt
        have A5 : Hid (Ar 4 (w.heap.size + 1) (fun j => if j < i + 1 then mdR l j else 0) (w3.setCell ⟨w.heap.size + 1, i, none⟩ (.int .i64 (mdR l i)))) := Lib.hid ((A4.out.set (i := i) (mdR l i)).congr fun j hj => by
          by_cases h1 : j = i
          · subst h1; rw [if_pos rfl, if_pos (by omega)]
          · rw [if_neg h1, if_neg h1]
            by_cases h2 : j < i
            · rw [if_pos h2, if_pos (by omega)]
            · rw [if_neg h2, if_neg (by omega)])
        have K5 := Lib.hid (K4.out.setCell (p := ⟨w.heap.size + 1, i, none⟩) (Nat.le_refl _) (.int .i64 (mdR l i)))
        clear b3 A3 K3 T3 A4 K4
        go_wp2
        go_roundg (gk - 1)
        case measure => omega
        case rel => exact ⟨i + 1, by have := HI.out; omega, by go_num, A5.out, K5.out⟩
      | false =>
        have E := Lib.hid (M1.out hr i)
        have A5 := Lib.hid (md_next (x := 1) hA E.out.symm)
        have K5 := Lib.hid (KB.out.setCell (p := ⟨w.heap.size + 1, i, none⟩) (Nat.le_refl _) (.int .i64 1))
        clear hA
        go_wp2
        go_roundg (gk - 1)
        case measure => omega
        case rel => exact ⟨i + 1, by have := HI.out; omega, by go_num, A5.out, K5.out⟩
    · obtain rfl : i = 4 := by omega
      have q0 := hA.c 0 (by decide)
      have q1 := hA.c 1 (by decide)
      have q2 := hA.c 2 (by decide)
      have q3 := hA.c 3 (by decide)
      simp at q0 q1 q2 q3
      have AR := A1.out.below hB (by omega)
      have p0 := AR.c 0 (by decide)
      have p1 := AR.c 1 (by decide)
      have p2 := AR.c 2 (by decide)
      have p3 := AR.c 3 (by decide)
      have f0 := AR.z 0 (by decide)
      have f1 := AR.z 1 (by decide)
      have f2 := AR.z 2 (by decide)
      have f3 := AR.z 3 (by decide)
      have AE := (((AR.set (i := 0) (mdR l 0)).set (i := 1) (mdR l 1)).set (i := 2) (mdR l 2)).set (i := 3) (mdR l 3)
      have e0 := Lib.hid (AE.c 0 (by decide))
      have e1 := Lib.hid (AE.c 1 (by decide))
      have e2 := Lib.hid (AE.c 2 (by decide))
      have e3 := Lib.hid (AE.c 3 (by decide))
      have KB := Lib.hid ((((K1.out.trans (hB.mono (by omega))).setCell (p := ⟨w.heap.size, 0, none⟩) (Nat.le_refl _) (.int .i64 (mdR l 0))).setCell (p := ⟨w.heap.size, 1, none⟩) (Nat.le_refl _) (.int .i64 (mdR l 1))).setCell (p := ⟨w.heap.size, 2, none⟩) (Nat.le_refl _) (.int .i64 (mdR l 2)) |>.setCell (p := ⟨w.heap.size, 3, none⟩) (Nat.le_refl _) (.int .i64 (mdR l 3)))
      clear hA hB AR hi AE
      go_wp2
      have h0 := e0.out
      have h1 := e1.out
      have h2 := e2.out
      have h3 := e3.out
      simp only [if_true, if_false, Nat.reduceEqDiff, reduceIte] at h0 h1 h2 h3
      have KB' := KB.out
      generalize ((((wr.setCell { block := w.heap.size, off := 0 } (Value.int IntKind.i64 (mdR l 0))).setCell { block := w.heap.size, off := 1 } (Value.int IntKind.i64 (mdR l 1))).setCell { block := w.heap.size, off := 2 } (Value.int IntKind.i64 (mdR l 2))).setCell { block := w.heap.size, off := 3 } (Value.int IntKind.i64 (mdR l 3))) = WE at *
      exact bodyPost_ret (v := .agg #[.int .i64 (mdR l 0), .int .i64 (mdR l 1), .int .i64 (mdR l 2), .int .i64 (mdR l 3)]) (by simp [results, Try.results28, go_sem, h0, h1, h2, h3]) rfl ⟨rfl, KB'⟩
end Go.Proofs.Ytbhafcaekpccoaa.Qp
