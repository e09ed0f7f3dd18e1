/- The document's More and Sum. -/
import Derived.Test.YtcbemjckcmcelaaCcA
namespace Go.Proofs.Ytcbemjckcmcelaa
open Go.ChangeShapes Go.WideShapes Go.ChangeAt Go.RowKit Go.Joins
set_option maxRecDepth 100000
set_option linter.unusedVariables false
set_option linter.unusedSimpArgs false
/-- the sum's inside behind the first i bytes -/
def part (x : Nat) (s : ByteArray) (i : Nat) : Nat := fold x (s.data.toList.take i)
theorem part_zero (x : Nat) (s : ByteArray) : part x s 0 = x := by simp [part, fold]
theorem part_succ (x : Nat) (s : ByteArray) (i : Nat) (h : i < s.size) : part x s (i + 1) = step (part x s i) (byteAt s i) := by
  have h' : i < s.data.toList.length := by simpa using h
  unfold part
  rw [List.take_succ_eq_append_getElem h', fold_snoc]
  congr 1
  unfold byteAt
  rw [dif_pos h]
  simp [ByteArray.getElem_eq_getElem_data]
theorem part_all (x : Nat) (s : ByteArray) : part x s s.size = fold x s.data.toList := by
  unfold part; rw [List.take_of_length_le (by simp)]
theorem part_is32 {x : Nat} (h : Is32 x) (s : ByteArray) (i : Nat) : Is32 (part x s i) := fold_is32 h
theorem not32 {x : Nat} (h : Is32 x) : bits .xor .u32 IntKind.u32.max (x : Int) = ((x ^^^ ones : Nat) : Int) := by
  rw [Nat.xor_comm]; exact bits_xor32 (x := ones) is32_ones h
def MrRel (w : World) (x : Nat) (s : ByteArray) (g : Nat) (s5 s6 : Value) (wx : World) : Prop := ∃ i : Nat, i + g = s.size ∧ s5 = .int .u32 (part x s i : Int) ∧ s6 = .int .i64 (i : Int) ∧ wx = w
theorem more_rf (x : Nat) (s : ByteArray) (w : World) (h : Is32 x) (hs : s.size ≤ 1000) :
    Calls Try.prog 69 #[.int .u32 (x : Int), .string s] w fun e w' => e = .returned (.int .u32 (more x s : Int)) ∧ w' = w := by
  have h0 := not32 h
  have hz : Is32 (x ^^^ ones) := is32_xor h is32_ones
  have hE : more x s = part (x ^^^ ones) s s.size ^^^ ones := by rw [part_all]; rfl
  generalize x ^^^ ones = z at *
  generalize more x s = t at *
  have HE := Lib.hid hE
  clear hE
  go_enter Try.func69, Try.ntmps69
  go_wp2
  go_loopg [5, 6] (s.size) (MrRel w z s)
  case atStart => exact ⟨0, by omega, by rw [part_zero], rfl, rfl⟩
  case round =>
    clear h0 h
    obtain ⟨i, hk, rfl, rfl, rfl⟩ := hrel
    rcases Nat.lt_or_ge i s.size with hlt | hge
    · have b := byteAt_eq hlt
      have M := Lib.hid (fun w => moreb_rf (part z s i) (byteAt s i) w (part_is32 hz s i) (byteAt_lt s i))
      rw [← part_succ _ _ _ hlt] at M
      have il : (i : Int) < (s.size : Int) := by omega
      clear HE hz
      go_wp2_with fail
      (with_reducible refine (M.out _).mono ?_)
      rintro e w1 ⟨rfl, rfl⟩
      go_wp2
      go_roundg (gk - 1)
      case measure => omega
      case rel => exact ⟨i + 1, by omega, rfl, rfl, rfl⟩
    · obtain rfl : i = s.size := by omega
      have h1 := not32 (part_is32 hz s s.size)
      rw [← HE.out] at h1
      clear HE hz
      go_wp2
      go_ret
      exact ⟨rfl, rfl⟩
theorem sum_rf (s : ByteArray) (w : World) (hs : s.size ≤ 1000) :
    Calls Try.prog 56 #[.string s] w fun e w' => e = .returned (.int .u32 (more 0 s : Int)) ∧ w' = w := by
  have M : Hid (∀ w : World, Calls Try.prog 69 #[.int .u32 0, .string s] w fun e w' => e = .returned (.int .u32 (more 0 s : Int)) ∧ w' = w) := Lib.hid (fun w => more_rf 0 s w (by unfold Is32; omega) hs)
  go_enter Try.func56, Try.ntmps56
  go_wp2_with fail
  (with_reducible refine (M.out _).mono ?_)
  rintro e w1 ⟨rfl, rfl⟩
  go_wp2
  go_ret
  exact ⟨rfl, rfl⟩
end Go.Proofs.Ytcbemjckcmcelaa
