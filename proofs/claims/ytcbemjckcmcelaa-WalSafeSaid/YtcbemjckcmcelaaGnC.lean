/- strings.Clone: the same bytes; of what was there nothing has turned. -/
import Derived.Test.YtcbemjckcmcelaaGnR
namespace Go.Proofs.Ytcbemjckcmcelaa
open Go.ChangeShapes Go.WideShapes Go.ChangeAt Go.RowKit Go.Joins
set_option maxRecDepth 100000
set_option linter.unusedVariables false
set_option linter.unusedSimpArgs false
set_option maxHeartbeats 4000000 in
set_option maxRecDepth 100000 in
theorem lite_clone (s : ByteArray) (w : World) (hs : s.size ≤ 281474976710656) :
    Calls Try.prog 72 #[.string s] w fun e w' => e = .returned (.string s) ∧ Below w.heap.size w w' := by
  by_cases h0 : s.size = 0
  · obtain rfl : s = ⟨#[]⟩ := mkB_ext (l := []) (List.eq_nil_of_length_eq_zero (by rw [← size_list]; exact h0))
    go_enter Try.func72, Try.ntmps72
    go_wp2
    go_ret
    exact ⟨rfl, Below.refl _ _⟩
  · have hmk := make_bytes s.size hs
    have r0 := rowB_new w (List.replicate s.size 0) 5
    have r1 := r0.put s.data.toList
    have hcp := r0.copy s 0 s.size s.size (Nat.le_refl _) (by simp)
    rw [List.take_zero, List.nil_append, List.drop_of_length_le (by simp), List.append_nil] at hcp
    have hne : s.data.toList ≠ [] := fun e => h0 (by rw [size_list, e]; rfl)
    have hsh : ((w.alloc (.cells (Lib.byteCells (List.replicate s.size 0)).toArray 5)).setRow w.heap.size (Lib.byteCells s.data.toList).toArray).shape? w.heap.size = some (5, s.size) := by
      unfold World.shape?
      rw [r1]
      simp [Lib.byteCells]
    have hus := Lib.run_unsafeString_row (P := Try.prog) _ 135 3 9 5 Try.underlying135 cellsByte w.heap.size s.size hsh s.data.toList hne (by simp) (by simp; omega) (fun j x hx => by
      obtain ⟨hj, rfl⟩ := List.getElem?_eq_some_iff.1 hx
      rw [addr_add, Nat.zero_add]
      exact r1.cell hj)
    rw [← size_list] at hus
    have bl : Below w.heap.size w ((w.alloc (.cells (Lib.byteCells (List.replicate s.size 0)).toArray 5)).setRow w.heap.size (Lib.byteCells s.data.toList).toArray) :=
      ((Below.refl _ w).alloc (Nat.le_refl _) _).trans ((r0.apart_put _).below (Nat.le_refl _) (by simp))
    have B := Lib.hid (Lib.below_freeze bl (p := ⟨w.heap.size, 0, none⟩) (Nat.le_refl _) s.size)
    have pos : (0 : Int) < (s.size : Int) := by omega
    generalize (Lib.byteCells (List.replicate s.size 0)).toArray = M at *
    generalize (Lib.byteCells s.data.toList).toArray = Y at *
    clear r0 r1 hsh hne bl
    go_enter Try.func72, Try.ntmps72
    go_wp2
    go_ret
    exact ⟨rfl, B.out⟩
theorem clone_any (s : ByteArray) (w : World) (hs : s.size ≤ 281474976710656) :
    Calls Try.prog 62 #[.string s] w fun e w' => e = .returned (.string s) ∧ Below w.heap.size w w' := by
  have C := Lib.hid (fun w => lite_clone s w hs)
  go_enter Try.func62, Try.ntmps62
  go_wp2_with fail
  (with_reducible refine (C.out _).mono ?_)
  rintro e w1 ⟨rfl, b1⟩
  go_wp2
  go_ret
  exact ⟨rfl, b1⟩
end Go.Proofs.Ytcbemjckcmcelaa
