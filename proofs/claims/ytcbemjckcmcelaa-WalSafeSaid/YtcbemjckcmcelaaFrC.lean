/- Contract of frame.Chunks: a row of the text's parts. -/
import Derived.Test.YtcbemjckcmcelaaFrR
import Derived.Test.YtcbemjckcmcelaaGnS
namespace Go.Proofs.Ytcbemjckcmcelaa
open Go.ChangeShapes Go.WideShapes Go.ChangeAt Go.RowKit Go.Joins
set_option maxRecDepth 100000
set_option linter.unusedVariables false
set_option linter.unusedSimpArgs false
theorem chunks_len (l : List UInt8) : (chunks l).length ≤ l.length + 1 := by
  induction h : l.length using Nat.strongRecOn generalizing l with
  | _ n ih =>
    by_cases c : 43 < l.length
    · rw [chunks_long c, List.length_cons]
      have := ih (l.drop 43).length (by simp; omega) (l.drop 43) rfl
      simp at this
      omega
    · rw [chunks_short (by omega)]; simp
theorem chunks_ne (l : List UInt8) : chunks l ≠ [] := by
  by_cases c : 43 < l.length
  · rw [chunks_long c]; simp
  · rw [chunks_short (by omega)]; simp
theorem ext_head (s : ByteArray) (n : Nat) : s.extract 0 n = mkB (s.data.toList.take n) := mkB_ext (by rw [ext_list]; simp)
theorem ext_tail (s : ByteArray) (n : Nat) : s.extract n s.size = mkB (s.data.toList.drop n) := mkB_ext (by rw [ext_list, List.take_of_length_le (by simp)])
def ChRel (w : World) (l : List UInt8) (g : Nat) (s0 s3 : Value) (wx : World) : Prop :=
  ∃ ds r, g = r.length ∧ s0 = .string (mkB r) ∧ chunks l = ds ++ chunks r ∧ Strs w.heap.size wx s3 ds ∧ Below w.heap.size w wx
end Go.Proofs.Ytcbemjckcmcelaa
