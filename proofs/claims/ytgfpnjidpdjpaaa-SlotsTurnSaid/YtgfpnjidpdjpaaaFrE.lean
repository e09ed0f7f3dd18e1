/- The document's side of layer 4: Tag, Read, Whole. -/
import Derived.Test.YtgfpnjidpdjpaaaFrD
namespace Go.Proofs.Ytgfpnjidpdjpaaa
open Go.ChangeShapes Go.WideShapes Go.ChangeAt Go.RowKit Go.Joins
set_option maxRecDepth 100000
set_option linter.unusedVariables false
set_option linter.unusedSimpArgs false
theorem tag_rf_no (s : ByteArray) (w : World) (h : s.size ≠ 64) :
    Calls Try.prog 17 #[.string s] w fun r w' => r = .returned (.agg #[.int .u64 0, .int .u64 0, .bool false]) ∧ Below w.heap.size w w' := by
  have h1 : ((s.size : Int) != 64) = true := by simp; omega
  have h2 : ¬ (s.size : Int) = 64 := by omega
  go_enter Try.func17, Try.ntmps17
  go_wp2
  refine bodyPost_ret (v := .agg #[.int .u64 0, .int .u64 0, .bool false]) (by simp [results, Try.results17, go_sem]) rfl ⟨rfl, ?_⟩
  repeat (first | exact Below.refl _ _ | refine Below.setCell ?_ (by first | omega | (simp; done) | (simp; omega)) _ | refine Below.alloc ?_ (by first | omega | (simp; done) | (simp; omega)) _ | refine Below.drew ?_)
/-- where Tag's answer stands, as it was laid -/
structure Rts (w0 w : World) : Prop where
  c0 : w.cell? ⟨w0.heap.size, 0, none⟩ = some (.int .u64 0)
  c1 : w.cell? ⟨w0.heap.size, 1, none⟩ = some (.int .u64 0)
  c2 : w.cell? ⟨w0.heap.size, 2, none⟩ = some (.bool false)
  f0 : w.frozen? ⟨w0.heap.size, 0, none⟩ = false
  f1 : w.frozen? ⟨w0.heap.size, 1, none⟩ = false
  f2 : w.frozen? ⟨w0.heap.size, 2, none⟩ = false
  bel : Below w0.heap.size w0 w
set_option maxRecDepth 100000 in
set_option maxHeartbeats 4000000 in
theorem tag_rf_yes (s : ByteArray) (w : World) (h : s.size = 64) :
    Calls Try.prog 17 #[.string s] w fun r w' => r = .returned (.agg #[.int .u64 (epochOf s.data.toList : Int), .int .u64 (numberOf s.data.toList : Int), .bool true]) ∧ Below w.heap.size w w' := by
  have hi : (s.size : Int) = 64 := by omega
  have zA : (s.extract 48 56).size = 8 := by rw [ByteArray.size_extract]; omega
  have zB : (s.extract 56 64).size = 8 := by rw [ByteArray.size_extract]; omega
  have NA := Lib.hid (fun w => number_rf (s.extract 48 56) w zA)
  have NB := Lib.hid (fun w => number_rf (s.extract 56 64) w zB)
  have eA : val (s.extract 48 56).data.toList = epochOf s.data.toList := by rw [ext_list]; rfl
  have eB : val (s.extract 56 64).data.toList = numberOf s.data.toList := by rw [ext_list]; rfl
  rw [eA] at NA
  rw [eB] at NB
  have K0 : Hid (Rts w (w.alloc (.cells #[.int .u64 0, .int .u64 0, .bool false] 48)).drew) := Lib.hid ⟨by simp [go_sem], by simp [go_sem], by simp [go_sem], by simp [go_sem], by simp [go_sem], by simp [go_sem], ((Below.refl _ _).alloc (Nat.le_refl _) _).drew⟩
  clear eA eB zA zB
  generalize epochOf s.data.toList = E at *
  generalize numberOf s.data.toList = M at *
  go_enter Try.func17, Try.ntmps17
  go_wp2_with fail
  go_region_held3 (fun w' => w' = (w.alloc (.cells #[.int .u64 0, .int .u64 0, .bool false] 48)).drew ∨ Below w.heap.size w w') (first | exact .inl rfl | (right; repeat (first | exact Below.refl _ _ | refine Below.setCell ?_ (by first | omega | (simp; done) | (simp; omega)) _ | refine Below.alloc ?_ (by first | omega | (simp; done) | (simp; omega)) _ | refine Below.drew ?_)))
    (first
      | (go_at_call 30; (with_reducible refine (NA.out _).mono ?_); rintro r w1 ⟨rfl, rfl⟩)
      | (go_at_call 30; (with_reducible refine (NB.out _).mono ?_); rintro r w2 ⟨rfl, rfl⟩)
      | fail)
  go_wp2
  refine bodyPost_ret (v := .agg #[.int .u64 (E : Int), .int .u64 (M : Int), .bool true]) (by simp [results, Try.results17, go_sem]) rfl ⟨rfl, ?_⟩
  repeat (first | exact Below.refl _ _ | refine Below.setCell ?_ (by first | omega | (simp; done) | (simp; omega)) _ | refine Below.alloc ?_ (by first | omega | (simp; done) | (simp; omega)) _ | refine Below.drew ?_)
theorem tag_rf (s : ByteArray) (w : World) :
    Calls Try.prog 17 #[.string s] w fun r w' => r = .returned (.agg #[.int .u64 (tagE s.data.toList : Int), .int .u64 (tagN s.data.toList : Int), .bool (decide (s.size = 64))]) ∧ Below w.heap.size w w' := by
  unfold tagE tagN
  by_cases h : s.size = 64
  · rw [if_pos (by rw [← size_list]; exact h), if_pos (by rw [← size_list]; exact h), decide_eq_true h]; exact tag_rf_yes s w h
  · rw [if_neg (by rw [← size_list]; exact h), if_neg (by rw [← size_list]; exact h), decide_eq_false h]; exact tag_rf_no s w h
end Go.Proofs.Ytgfpnjidpdjpaaa
