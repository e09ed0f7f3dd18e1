/- The document's More and Sum. -/
import Derived.Test.YtgfpnjidpdjpaaaCcA
namespace Go.Proofs.Ytgfpnjidpdjpaaa
open Go.ChangeShapes Go.WideShapes Go.ChangeAt Go.RowKit Go.Joins
set_option linter.unusedVariables false
set_option linter.unusedSimpArgs false
/-- the sum's inside behind the first i bytes -/
def part (x : Nat) (s : ByteArray) (i : Nat) : Nat := fold x (s.data.toList.take i)
theorem part_zero (x : Nat) (s : ByteArray) : part x s 0 = x := by simp [part, fold]
theorem part_succ (x : Nat) (s : ByteArray) (i : Nat) (h : i < s.size) : part x s (i + 1) = step (part x s i) (byteAt s i) := by
  have h' : i < s.data.toList.length := by simpa using h
  unfold part
  rw [List.take_succ_eq_append_getElem h', fold_snoc]
  congr 1
  unfold byteAt
  rw [dif_pos h]
  simp [ByteArray.getElem_eq_getElem_data]
theorem part_all (x : Nat) (s : ByteArray) : part x s s.size = fold x s.data.toList := by
  unfold part; rw [List.take_of_length_le (by simp)]
theorem part_is32 {x : Nat} (h : Is32 x) (s : ByteArray) (i : Nat) : Is32 (part x s i) := fold_is32 h
theorem not32 {x : Nat} (h : Is32 x) : bits .xor .u32 IntKind.u32.max (x : Int) = ((x ^^^ ones : Nat) : Int) := by
  rw [Nat.xor_comm]; exact bits_xor32 (x := ones) is32_ones h
def MrRel (w : World) (x : Nat) (s : ByteArray) (g : Nat) (s5 s6 : Value) (wx : World) : Prop := ∃ i : Nat, i + g = s.size ∧ s5 = .int .u32 (part x s i : Int) ∧ s6 = .int .i64 (i : Int) ∧ wx = w
end Go.Proofs.Ytgfpnjidpdjpaaa
