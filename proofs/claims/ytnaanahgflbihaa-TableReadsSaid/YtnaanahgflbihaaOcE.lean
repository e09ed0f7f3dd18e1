/- The document's reader: Num. -/
import Derived.Test.YtnaanahgflbihaaOcD
import Derived.Deep.RegionHeld3
import Derived.Deep.DeepCutAuto
namespace Go.Proofs.Ytnaanahgflbihaa.Oc
open Go.ChangeShapes Go.WideShapes Go.ChangeAt Go.RowKit Go.Joins
set_option maxRecDepth 100000
set_option linter.unusedVariables false
set_option linter.unusedSimpArgs false
abbrev RD : Nat := 79
theorem Rd.spoiled {b : Nat} {o : St} {w w1 : World} (k : Rd RD b o w) (h : Below w.heap.size w w1) : Rd RD b none (w1.setCell ⟨b, 1, none⟩ (.bool true)) ∧ Apart b w (w1.setCell ⟨b, 1, none⟩ (.bool true)) := by
  obtain ⟨s, hs⟩ := (k.call h).cells
  refine ⟨⟨s, ?_⟩, (Apart.of_below h).setCell _ _⟩
  simp [World.setCell, Array.getElem?_modify, hs]
def DrRel (k : Nat) (r : List UInt8) (w : World) (g : Nat) (s6 s7 : Value) (wx : World) : Prop := ∃ i : Nat, i + g = k + 1 ∧ 1 ≤ i ∧ s6 = .int .u64 (val (r.take (i - 1)) : Int) ∧ s7 = .int .i64 (i : Int) ∧ wx = w
set_option maxHeartbeats 1000000 in
set_option maxRecDepth 100000 in
theorem dnum_bad (b : Nat) (most : Int) (w : World) (k : Rd RD b none w) :
    Calls Try.prog 49 #[self b, .int .u64 most] w fun e w' => e = .returned (.int .u64 0) ∧ Rd RD b none w' ∧ Apart b w w' := by
  have SP := Lib.hid (fun n => k.spoiled (below_drewN w n))
  obtain ⟨s, hs⟩ := k.cells
  have c1 : w.cell? ⟨b, 1, none⟩ = some (.bool true) := by rw [Lib.cell_of_heap hs]; rfl
  have f1 : w.frozen? ⟨b, 1, none⟩ = false := Lib.frozen_of_heap hs 1
  clear k hs
  go_enter Try.func49, Try.ntmps49
  go_wp2_with fail
  go_quiet (fail)
  go_wp2
  go_ret
  exact ⟨rfl, SP.out _⟩
set_option maxHeartbeats 1000000 in
set_option maxRecDepth 100000 in
theorem dnum_empty (b : Nat) (most : Int) (w : World) (k : Rd RD b (some []) w) :
    Calls Try.prog 49 #[self b, .int .u64 most] w fun e w' => e = .returned (.int .u64 0) ∧ Rd RD b none w' ∧ Apart b w w' := by
  have SP := Lib.hid (fun n => k.spoiled (below_drewN w n))
  have hs : w.heap[b]? = some (.cells #[.string (mkB []), .bool false] RD (0, 0)) := k
  have c0 : w.cell? ⟨b, 0, none⟩ = some (.string (mkB [])) := by rw [Lib.cell_of_heap hs]; rfl
  have c1 : w.cell? ⟨b, 1, none⟩ = some (.bool false) := by rw [Lib.cell_of_heap hs]; rfl
  have f1 : w.frozen? ⟨b, 1, none⟩ = false := Lib.frozen_of_heap hs 1
  have sz : (mkB []).size = 0 := mkB_size []
  clear k hs
  go_enter Try.func49, Try.ntmps49
  go_wp2_with fail
  go_quiet (fail)
  go_wp2
  go_ret
  exact ⟨rfl, SP.out _⟩
theorem byteAt_mkB {l : List UInt8} {i : Nat} (h : i < (mkB l).size) : byteAt (mkB l) i = (l[i]'(by rwa [mkB_size] at h)).toNat := by
  rw [← byteAt_eq h]; rfl
set_option maxHeartbeats 1000000 in
set_option maxRecDepth 100000 in
theorem dnum_long (b : Nat) (most : Int) (x : UInt8) (r : List UInt8) (w : World) (k : Rd RD b (some (x :: r)) w) (hx : 8 < x.toNat) (hr : r.length ≤ 1000000) :
    Calls Try.prog 49 #[self b, .int .u64 most] w fun e w' => e = .returned (.int .u64 0) ∧ Rd RD b none w' ∧ Apart b w w' := by
  have SP := Lib.hid (fun n => k.spoiled (below_drewN w n))
  have hs : w.heap[b]? = some (.cells #[.string (mkB (x :: r)), .bool false] RD (0, 0)) := k
  have c0 : w.cell? ⟨b, 0, none⟩ = some (.string (mkB (x :: r))) := by rw [Lib.cell_of_heap hs]; rfl
  have c1 : w.cell? ⟨b, 1, none⟩ = some (.bool false) := by rw [Lib.cell_of_heap hs]; rfl
  have f1 : w.frozen? ⟨b, 1, none⟩ = false := Lib.frozen_of_heap hs 1
  have sz : (mkB (x :: r)).size = r.length + 1 := mkB_size (x :: r)
  have l0 : 0 < (mkB (x :: r)).size := by omega
  have b0 : (mkB (x :: r))[0].toNat = x.toNat := by rw [byteAt_eq l0, byteAt_mkB l0]; rfl
  generalize mkB (x :: r) = s at *
  generalize x.toNat = q at *
  clear k hs
  have d1 : (s.size == 0) = false := by rw [beq_eq_false_iff_ne]; omega
  have d2 : ((s.size : Int) == 0) = false := by rw [beq_eq_false_iff_ne]; omega
  have d3 : decide (8 < (q : Int)) = true := by simp; omega
  clear sz
  go_enter Try.func49, Try.ntmps49
  go_wp2_with fail
  go_quiet (fail)
  go_wp2
  go_ret
  exact ⟨rfl, SP.out _⟩
set_option maxHeartbeats 1000000 in
set_option maxRecDepth 100000 in
theorem dnum_short (b : Nat) (most : Int) (x : UInt8) (r : List UInt8) (w : World) (k : Rd RD b (some (x :: r)) w) (hx : x.toNat ≤ 8) (hr : r.length < x.toNat) :
    Calls Try.prog 49 #[self b, .int .u64 most] w fun e w' => e = .returned (.int .u64 0) ∧ Rd RD b none w' ∧ Apart b w w' := by
  have SP := Lib.hid (fun n => k.spoiled (below_drewN w n))
  have hs : w.heap[b]? = some (.cells #[.string (mkB (x :: r)), .bool false] RD (0, 0)) := k
  have c0 : w.cell? ⟨b, 0, none⟩ = some (.string (mkB (x :: r))) := by rw [Lib.cell_of_heap hs]; rfl
  have c1 : w.cell? ⟨b, 1, none⟩ = some (.bool false) := by rw [Lib.cell_of_heap hs]; rfl
  have f1 : w.frozen? ⟨b, 1, none⟩ = false := Lib.frozen_of_heap hs 1
  have sz : (mkB (x :: r)).size = r.length + 1 := mkB_size (x :: r)
  have l0 : 0 < (mkB (x :: r)).size := by omega
  have b0 : (mkB (x :: r))[0].toNat = x.toNat := by rw [byteAt_eq l0, byteAt_mkB l0]; rfl
  generalize mkB (x :: r) = s at *
  generalize x.toNat = q at *
  clear k hs
  have d1 : (s.size == 0) = false := by rw [beq_eq_false_iff_ne]; omega
  have d2 : ((s.size : Int) == 0) = false := by rw [beq_eq_false_iff_ne]; omega
  have d3 : decide (8 < (q : Int)) = false := by simp; omega
  have d4 : IntKind.i64.wrap (1 + (q : Int)) = 1 + (q : Int) := IntWalk.i64_in _ (by omega)
  have d6 : IntKind.i64.wrap (q : Int) = (q : Int) := IntWalk.i64_in _ (by omega)
  have d5 : decide ((s.size : Int) < 1 + (q : Int)) = true := by simp; omega
  clear sz
  go_enter Try.func49, Try.ntmps49
  go_wp2_with fail
  go_quiet (fail)
  go_wp2
  go_ret
  exact ⟨rfl, SP.out _⟩
end Go.Proofs.Ytnaanahgflbihaa.Oc
