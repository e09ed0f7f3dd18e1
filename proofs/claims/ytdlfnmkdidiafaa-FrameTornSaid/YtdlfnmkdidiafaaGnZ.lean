/- copy of a text into a row of bytes, as much as fits; the row's end as a text. -/
import Derived.Test.YtdlfnmkdidiafaaFrP
namespace Go.Proofs.Ytdlfnmkdidiafaa
open Go.ChangeShapes Go.WideShapes Go.ChangeAt Go.RowKit Go.Joins
set_option linter.unusedVariables false
set_option linter.unusedSimpArgs false
theorem RowB.copy_some {w : World} {g : Nat} {T : TypeId} {l : List UInt8} (h : RowB w g T l) (s : ByteArray) (o dLen dCap m : Nat) (hm : Nat.min s.size dLen = m) (hfit : o + m ≤ l.length) :
    (Builtin.copy_ #[35, 9] 3 #[.slice (some ⟨g, o, none⟩) dLen dCap, .string s]).run Try.prog w = .ok (goInt m) (w.setRow g (Lib.byteCells (l.take o ++ s.data.toList.take m ++ l.drop (o + m))).toArray) := by
  have hms : m ≤ s.size := by rw [← hm]; exact Nat.min_le_left _ _
  have hlen : (Lib.byteCells (s.data.toList.take m)).length = m := by rw [Lib.byteCells_length, List.length_take, ← size_list]; omega
  have hst := run_storeCells_at Try.prog g o T (Lib.byteCells (s.data.toList.take m)) 0 _ w h (by rw [hlen]; simpa [Lib.byteCells_length] using hfit) (Lib.byteCells_one _)
  have htk : List.take m (List.map (fun b : UInt8 => Value.int IntKind.u8 (b.toNat : Int)) s.data.toList) = Lib.byteCells (s.data.toList.take m) := by
    unfold Lib.byteCells; rw [List.map_take]
  rw [hlen] at hst
  simp only [Nat.add_zero] at hst
  cases hq : Try.prog.info? 5 with
  | none => have := sizeByte; simp [hq] at this
  | some i =>
    simp [Builtin.copy_, run_underlying Try.underlying35, Builtin.lenOf, Builtin.firstCells, sizeOf, typeInfo, hq, hm]
    rw [htk, hst, Lib.byteCells_append, Lib.byteCells_append, byteCells_take l, byteCells_drop]
    simp [Result.andThen]
/-- a row's bytes from place k on, as a text -/
theorem row_tail (g k L : Nat) (l : List UInt8) (hl : l.length = L) (hk : k ≤ L) :
    ∃ v, (∀ w : World, (Instr.sliceAt 35 (.slice (some ⟨g, 0, none⟩) L L) (some (.int .i64 (k : Int))) none none).run Try.prog w = .ok v w) ∧ ∀ (w : World) (T : TypeId), RowB w g T l → (convert 35 9 v).run Try.prog w = .ok (.string (mkB (l.drop k))) w := by
  refine ⟨sliced (some ⟨g, 0, none⟩) k L L 1, fun w => ?_, fun w T h => ?_⟩
  · rw [run_sliceAt_slice w _ _ _ _ _ elemB, run_slice_l w _ _ _ _ elemB _ _ (by omega) (by omega), elemBs]
    rfl
  · unfold sliced
    by_cases e : L = k
    · rw [if_pos e]
      subst e
      have := h.text 0 0 0 (by omega)
      rw [Nat.sub_self, this, List.take_zero, List.drop_of_length_le (by omega)]
    · rw [if_neg e, Option.map_some, addr_add]
      have := h.text k (L - k) (L - k) (by omega)
      rw [show 0 + k * 1 = k by omega, this, List.take_of_length_le (by simp; omega)]
end Go.Proofs.Ytdlfnmkdidiafaa
