/- The document's side of layer 4: eight, number, Make. -/
import Derived.Test.YtgfpnjidpdjpaaaFrC
namespace Go.Proofs.Ytgfpnjidpdjpaaa
open Go.ChangeShapes Go.WideShapes Go.ChangeAt Go.RowKit Go.Joins
set_option maxRecDepth 100000
set_option linter.unusedVariables false
set_option linter.unusedSimpArgs false
def EiRel (w : World) (n : Nat) (g : Nat) (s0 s3 s4 : Value) (wx : World) : Prop :=
  ∃ (i y : Nat) (t : List UInt8), i + g = 8 ∧ y < 18446744073709551616 ∧ s0 = .int .u64 (y : Int) ∧ s3 = .string (mkB t) ∧ s4 = .int .i64 (i : Int) ∧ be g y ++ t = be 8 n ∧ t.length = i ∧ Below w.heap.size w wx
def NuRel (w : World) (s : ByteArray) (g : Nat) (s3 s4 : Value) (wx : World) : Prop := ∃ i : Nat, i + g = 8 ∧ s3 = .int .u64 (val (s.data.toList.take i) : Int) ∧ s4 = .int .i64 (i : Int) ∧ wx = w
theorem number_rf (s : ByteArray) (w : World) (hs : s.size = 8) :
    Calls Try.prog 30 #[.string s] w fun e w' => e = .returned (.int .u64 (val s.data.toList : Int)) ∧ w' = w := by
  have hE : val s.data.toList = val (s.data.toList.take s.size) := by rw [List.take_of_length_le (by simp)]
  generalize val s.data.toList = t at *
  have HE := Lib.hid hE
  clear hE
  go_enter Try.func30, Try.ntmps30
  go_wp2
  go_loopg [3, 4] 8 (NuRel w s)
  case atStart => exact ⟨0, by omega, rfl, rfl, rfl⟩
  case round =>
    obtain ⟨i, hk, rfl, rfl, rfl⟩ := hrel
    rcases Nat.lt_or_ge i 8 with hlt | hge
    · have hlt' : i < s.size := by omega
      have b := byteAt_eq hlt'
      have hb := byteAt_lt s i
      have hv := val_small (s := s) (i := i) (by omega)
      have V := Lib.hid (val_step hlt')
      have il : (i : Int) < (s.size : Int) := by omega
      generalize val (s.data.toList.take i) = x at *
      generalize byteAt s i = c at *
      have m1 : (c : Int) % 18446744073709551616 = (c : Int) := by omega
      have m2 : (x : Int) * 256 % 18446744073709551616 = (x : Int) * 256 := by omega
      clear HE
      go_wp2
      go_roundg (gk - 1)
      case measure => omega
      case rel => exact ⟨i + 1, by omega, by rw [V.out, Int.natCast_add, Int.natCast_mul]; rfl, rfl, rfl⟩
    · obtain rfl : i = 8 := by omega
      have e := HE.out
      rw [hs] at e
      rw [← e]
      clear HE e
      go_wp2
      go_ret
      exact ⟨rfl, rfl⟩
/-- a sector's first bytes: k of what fills it up -/
def lead (p : List UInt8) (e n k : Nat) : List UInt8 := [UInt8.ofNat p.length] ++ be 4 (sumOf p e n) ++ p ++ List.replicate k 0
def LdRel (w : World) (l : List UInt8) (e n g : Nat) (s5 : Value) (wx : World) : Prop := ∃ k, k + g = 43 - l.length ∧ s5 = .string (mkB (lead l e n k)) ∧ Below w.heap.size w wx
end Go.Proofs.Ytgfpnjidpdjpaaa
