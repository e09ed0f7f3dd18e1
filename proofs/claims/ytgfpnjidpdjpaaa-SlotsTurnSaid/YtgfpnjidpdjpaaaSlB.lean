/- Contracts of package slots' newestOf and snapOf. -/
import Derived.Test.YtgfpnjidpdjpaaaSlA
import Derived.Test.YtgfpnjidpdjpaaaSlMath
import Derived.BigRegion
import Derived.Deep.CutBlock
import Derived.Deep.DeepCutAuto
namespace Go.Proofs.Ytgfpnjidpdjpaaa.Sl
open Go.ChangeShapes Go.WideShapes Go.ChangeAt Go.RowKit Go.Joins
open Dk (Dk DS Own Moved ptr)
set_option maxRecDepth 100000
set_option linter.unusedVariables false
set_option linter.unusedSimpArgs false
/-- a row of texts that can be read -/
def Row (v : Value) (L : List (List UInt8)) (w : World) : Prop := ∃ g cap, v = .slice (some ⟨g, 0, none⟩) L.length cap ∧ g < w.heap.size ∧ ∀ j (hj : j < L.length), w.cell? ⟨g, j, none⟩ = some (.string (mkB L[j]))
theorem Row.call {v : Value} {L : List (List UInt8)} {w w' : World} (h : Row v L w) (hb : Below w.heap.size w w') : Row v L w' := by
  obtain ⟨g, cap, e, hg, hc⟩ := h
  exact ⟨g, cap, e, Nat.lt_of_lt_of_le hg hb.size, fun j hj => by rw [hb.cell (p := ⟨g, j, none⟩) hg]; exact hc j hj⟩
theorem max_u64 (a b : Nat) (w : World) : (Builtin.max_ #[31, 31] 31 #[.int .u64 (a : Int), .int .u64 (b : Int)]).run Try.prog w = .ok (.int .u64 ((max a b : Nat) : Int)) w := by
  simp [Builtin.max_, Builtin.max2]
  repeat' split
  all_goals first | (simp; omega) | omega | simp_all
def NwRel (L : List (List UInt8)) (w : World) (g : Nat) (s3 s11 : Value) (wx : World) : Prop :=
  ∃ i, i + g = L.length ∧ s11 = .int .i64 (i : Int) ∧ s3 = .int .u64 (newestTo L i : Int) ∧ Below w.heap.size w wx
theorem newestOf_any (v : Value) (L : List (List UInt8)) (w : World) (h : Row v L w) (hn : L.length ≤ 1000) :
    Calls Try.prog 21 #[v] w fun e w' => e = .returned (.int .u64 (newestL L : Int)) ∧ Below w.heap.size w w' := by
  obtain ⟨p, cap, rfl, hp, hc⟩ := h
  have HC := Lib.hid hc
  have HP := Lib.hid hp
  clear hc hp
  have NL : newestTo L L.length = newestL L := rfl
  have mx := max_u64
  go_enter Try.func21, Try.ntmps21
  go_wp2
  go_loopg [3, 11] L.length (NwRel L w)
  case atStart => exact ⟨0, by omega, rfl, by rw [newestTo_zero]; rfl, Below.refl _ _⟩
  case round =>
    obtain ⟨i, hi, rfl, rfl, bl⟩ := hrel
    rcases Nat.lt_or_ge i L.length with hlt | hge
    · have hcell : wr.cell? ⟨p, i, none⟩ = some (.string (mkB L[i])) := by rw [bl.cell (p := ⟨p, i, none⟩) HP.out]; exact HC.out i hlt
      have TG := Lib.hid (tag_any (mkB L[i]) wr)
      rw [mkB_data] at TG
      have N := Lib.hid (newestTo_succ hlt)
      have BL := Lib.hid bl
      have HI := Lib.hid hi
      have hg0 : 0 < gk := by omega
      have il : (i : Int) < (L.length : Int) := by omega
      have il2 : i < L.length := hlt
      clear bl
      generalize mkB L[i] = X at *
      generalize newestTo L i = M at *
      go_wp2_with fail
      (with_reducible refine TG.out.mono ?_)
      rintro e w1 ⟨rfl, b1⟩
      have B1 := Lib.hid (BL.out.trans (b1.mono BL.out.size))
      clear TG b1 BL hcell
      go_wp2
      go_roundg (gk - 1)
      case measure => omega
      case rel => exact ⟨i + 1, by have := HI.out; omega, by go_num, by rw [N.out], B1.out⟩
    · obtain rfl : i = L.length := by omega
      have BL := Lib.hid bl
      clear bl
      go_wp2
      go_ret
      rw [NL]
      exact ⟨rfl, BL.out⟩
/-- a snapshot in a block -/
def SnAt (w : World) (p : Nat) (e : Nat) (d : List UInt8) : Prop := w.heap[p]? = some (.cells #[.int .u64 (e : Int), .string (mkB d)] 33 (0, 0))
theorem SnAt.lt {w : World} {p e : Nat} {d : List UInt8} (h : SnAt w p e d) : p < w.heap.size := Dk.lt_of_heap h
theorem SnAt.call {w w' : World} {p e : Nat} {d : List UInt8} (h : SnAt w p e d) (hb : Below w.heap.size w w') : SnAt w' p e d := by unfold SnAt at *; rw [hb.block p (Dk.lt_of_heap h)]; exact h
theorem SnAt.of_block {w w' : World} {p e : Nat} {d : List UInt8} (h : SnAt w p e d) (hb : w'.heap[p]? = w.heap[p]?) : SnAt w' p e d := by unfold SnAt at *; rw [hb]; exact h
theorem SnAt.c0 {w : World} {p e : Nat} {d : List UInt8} (h : SnAt w p e d) : w.cell? ⟨p, 0, none⟩ = some (.int .u64 (e : Int)) := by rw [Lib.cell_of_heap h]; rfl
theorem SnAt.c1 {w : World} {p e : Nat} {d : List UInt8} (h : SnAt w p e d) : w.cell? ⟨p, 1, none⟩ = some (.string (mkB d)) := by rw [Lib.cell_of_heap h]; rfl
theorem SnAt.fz {w : World} {p e : Nat} {d : List UInt8} (h : SnAt w p e d) (o : Nat) : w.frozen? ⟨p, o, none⟩ = false := Lib.frozen_of_heap h o
theorem SnAt.setE {w : World} {p e : Nat} {d : List UInt8} (h : SnAt w p e d) {x : Int} {m : Nat} (hx : x = (m : Int)) : SnAt (w.setCell ⟨p, 0, none⟩ (.int .u64 x)) p m d := by
  subst hx; unfold SnAt at *; simp [World.setCell, Array.getElem?_modify, h]
theorem SnAt.setD {w : World} {p e : Nat} {d : List UInt8} (h : SnAt w p e d) {x : ByteArray} {m : List UInt8} (hx : x = mkB m) : SnAt (w.setCell ⟨p, 1, none⟩ (.string x)) p e m := by
  subst hx; unfold SnAt at *; simp [World.setCell, Array.getElem?_modify, h]
theorem snAt_new (w : World) : SnAt (w.alloc (.cells #[.int .u64 0, .string ⟨#[]⟩] 33)) w.heap.size 0 [] := heap_alloc_new _ _
end Go.Proofs.Ytgfpnjidpdjpaaa.Sl
