/- Contracts of package crc that touch no table: shift, Read, short; and of the document's more, Read. -/
import Derived.Test.YtcbemjckcmcelaaCcMath
import Derived.WalkKit
import Derived.ProofKit
import Derived.OpenShut
import Derived.Below
import Derived.Lib.Hide
import Derived.Lib.SmallJoins
import Derived.Laws.BitsAll
import Derived.Laws.BytesString
import Derived.Deep.WholeRow
import Derived.Deep.LoopGhost
namespace Go.Proofs.Ytcbemjckcmcelaa
open Go.ChangeShapes Go.WideShapes Go.ChangeAt Go.RowKit Go.Joins
set_option maxRecDepth 100000
set_option linter.unusedVariables false
set_option linter.unusedSimpArgs false
theorem bits_xor32 {x y : Nat} (h : Is32 x) (k : Is32 y) : bits .xor .u32 (x : Int) (y : Int) = ((x ^^^ y : Nat) : Int) := u32_xor_nat x y h k

theorem shift_any (x : Nat) (w : World) (h : Is32 x) :
    Calls Try.prog 79 #[.int .u32 (x : Int)] w fun e w' => e = .returned (.int .u32 (sh x : Int)) ∧ w' = w := by
  have h1 : bits .and .u32 (x : Int) 1 = ((x % 2 : Nat) : Int) := by
    have := u32_and_nat x 1 h (by omega)
    rw [Nat.and_one_is_mod] at this
    exact this
  by_cases hx : x % 2 = 0
  · have e : sh x = x / 2 := if_pos hx
    rw [e]
    go_enter Try.func79, Try.ntmps79
    go_wp2
    go_ret
    exact ⟨rfl, rfl⟩
  · have e : sh x = x / 2 ^^^ poly := if_neg hx
    rw [e]
    have e2 : bits .xor .u32 ((x : Int) / 2) 3988292384 = ((x / 2 ^^^ poly : Nat) : Int) := bits_xor32 (x := x / 2) (y := poly) (by unfold Is32 at *; omega) is32_poly
    go_enter Try.func79, Try.ntmps79
    go_wp2
    go_ret
    exact ⟨rfl, rfl⟩

/-- the byte of s at i -/
def byteAt (s : ByteArray) (i : Nat) : Nat := if h : i < s.size then s[i].toNat else 0
theorem byteAt_lt (s : ByteArray) (i : Nat) : byteAt s i < 256 := by
  unfold byteAt; split
  · exact UInt8.toNat_lt _
  · omega
theorem byteAt_eq {s : ByteArray} {i : Nat} (h : i < s.size) : s[i].toNat = byteAt s i := by unfold byteAt; rw [dif_pos h]
/-- s, cut to at most n bytes -/
def cut (s : ByteArray) (n : Nat) : ByteArray := if n < s.size then s.extract 0 n else s
theorem cut_size (s : ByteArray) (n : Nat) : (cut s n).size ≤ n := by
  unfold cut; split
  · simp [ByteArray.size_extract]; omega
  · omega
theorem short_any (s : ByteArray) (n : Nat) (w : World) (hn : n < 1000) :
    Calls Try.prog 24 #[.string s, .int .i64 (n : Int)] w fun e w' => e = .returned (.string (cut s n)) ∧ w' = w := by
  by_cases h : n < s.size
  · have e : cut s n = s.extract 0 n := if_pos h
    rw [e]; clear e
    go_enter Try.func24, Try.ntmps24
    go_wp2
    go_ret
    exact ⟨rfl, rfl⟩
  · have e : cut s n = s := if_neg h
    rw [e]; clear e
    have h' : s.size ≤ n := by omega
    clear h
    go_enter Try.func24, Try.ntmps24
    go_wp2
    go_ret
    exact ⟨rfl, rfl⟩
/-- the sum that four bytes are -/
def rd4 (s : ByteArray) : Nat := byteAt s 0 * 16777216 + byteAt s 1 * 65536 + byteAt s 2 * 256 + byteAt s 3
def rd (s : ByteArray) : Nat := if 4 ≤ s.size then rd4 s else 0
theorem or_low {a b n : Nat} (h : b < 2 ^ n) : a * 2 ^ n ||| b = a * 2 ^ n + b := by
  rw [Nat.mul_comm]; exact (Nat.two_pow_add_eq_or_of_lt h a).symm
theorem or32 (x y : Nat) (h : Is32 x) (k : Is32 y) : bits .or .u32 (x : Int) (y : Int) = ((x ||| y : Nat) : Int) := u32_or_nat x y h k
theorem join4 {a b c d : Nat} (ha : a < 256) (hb : b < 256) (hc : c < 256) (hd : d < 256) :
    bits .or .u32 (bits .or .u32 (bits .or .u32 ((a : Int) * 16777216) ((b : Int) * 65536)) ((c : Int) * 256)) (d : Int) = ((a * 16777216 + b * 65536 + c * 256 + d : Nat) : Int) := by
  have e1 : a * 16777216 ||| b * 65536 = a * 16777216 + b * 65536 := or_low (n := 24) (by omega)
  have e2 : (a * 16777216 + b * 65536) ||| c * 256 = a * 16777216 + b * 65536 + c * 256 := by
    have := or_low (a := a * 256 + b) (b := c * 256) (n := 16) (by omega)
    rw [show (a * 256 + b) * 2 ^ 16 = a * 16777216 + b * 65536 by omega] at this; exact this
  have e3 : (a * 16777216 + b * 65536 + c * 256) ||| d = a * 16777216 + b * 65536 + c * 256 + d := by
    have := or_low (a := a * 65536 + b * 256 + c) (b := d) (n := 8) (by omega)
    rw [show (a * 65536 + b * 256 + c) * 2 ^ 8 = a * 16777216 + b * 65536 + c * 256 by omega] at this; exact this
  have k1 : bits .or .u32 ((a : Int) * 16777216) ((b : Int) * 65536) = ((a * 16777216 + b * 65536 : Nat) : Int) := by
    rw [← e1, ← or32 (a * 16777216) (b * 65536) (by unfold Is32; omega) (by unfold Is32; omega)]; simp
  have k2 : bits .or .u32 ((a * 16777216 + b * 65536 : Nat) : Int) ((c : Int) * 256) = ((a * 16777216 + b * 65536 + c * 256 : Nat) : Int) := by
    rw [← e2, ← or32 _ (c * 256) (by unfold Is32; omega) (by unfold Is32; omega)]; simp
  rw [k1, k2, or32 _ d (by unfold Is32; omega) (by unfold Is32; omega), e3]
def zeroCells : Array Value := #[.int .u32 0, .int .i32 0, .int .u32 0] ++ Array.replicate 256 (.int .u32 0)
theorem zeroT : (∀ w, (zeroValue 132).run Try.prog w = .ok (.agg zeroCells) w) ∧ (Try.prog.info? 132).map (·.size) = some 259 := zero_of_info (by kernel_rfl)
theorem new_any (w : World) :
    Calls Try.prog 65 #[] w fun e w' => e = .returned (.pointer (some ⟨w.heap.size, 0, none⟩)) ∧ w' = w.alloc (.cells zeroCells 132) := by
  have z := zeroT.1
  go_enter Try.func65, Try.ntmps65
  go_wp2
  go_ret
  exact ⟨rfl, rfl⟩
/-- a sum as four bytes -/
def bytesOf (x : Nat) : ByteArray := ⟨#[UInt8.ofNat (x / 16777216 % 256), UInt8.ofNat (x / 65536 % 256), UInt8.ofNat (x / 256 % 256), UInt8.ofNat (x % 256)]⟩
theorem addr_add (b o j : Nat) : (⟨b, o, none⟩ : Addr).add j = ⟨b, o + j, none⟩ := by
  unfold Addr.add
  by_cases h : j = 0 <;> simp [h]
theorem four_bytes (w : World) (g : Nat) (z0 z1 z2 z3 : Int) (h0 : w.cell? ⟨g, 0, none⟩ = some (.int .u8 z0)) (h1 : w.cell? ⟨g, 1, none⟩ = some (.int .u8 z1)) (h2 : w.cell? ⟨g, 2, none⟩ = some (.int .u8 z2)) (h3 : w.cell? ⟨g, 3, none⟩ = some (.int .u8 z3)) :
    (convert 55 9 (.slice (some ⟨g, 0, none⟩) 4 4)).run Try.prog w = .ok (.string ⟨#[UInt8.ofNat z0.toNat, UInt8.ofNat z1.toNat, UInt8.ofNat z2.toNat, UInt8.ofNat z3.toNat]⟩) w := by
  have hl := run_loadCells (P := Try.prog) (w := w) ⟨g, 0, none⟩ 4 (fun j => .int .u8 (if j = 0 then z0 else if j = 1 then z1 else if j = 2 then z2 else z3)) (by
    intro j hj
    rw [addr_add]
    have : j = 0 ∨ j = 1 ∨ j = 2 ∨ j = 3 := by omega
    rcases this with rfl | rfl | rfl | rfl
    · exact h0
    · exact h1
    · exact h2
    · exact h3)
  have hm : (((List.range 4).map fun j => Value.int .u8 (if j = 0 then z0 else if j = 1 then z1 else if j = 2 then z2 else z3)) : List Value) = [z0, z1, z2, z3].map (Value.int .u8) := rfl
  rw [hm] at hl
  rw [run_convert_bytes_string w _ _ _ _ _ _ Try.underlying55 Try.underlying5 Try.underlying9, run_bytesToString w _ _ _ _ hl]
  rfl
theorem bytes_run (w : World) (x : Nat) (t : TypeId) :
    (convert 55 9 (.slice (some ⟨w.heap.size, 0, none⟩) 4 4)).run Try.prog (w.alloc (.cells #[.int .u8 ((x : Int) / 16777216 % 256), .int .u8 ((x : Int) / 65536 % 256), .int .u8 ((x : Int) / 256 % 256), .int .u8 ((x : Int) % 256)] t)) = .ok (.string (bytesOf x)) (w.alloc (.cells #[.int .u8 ((x : Int) / 16777216 % 256), .int .u8 ((x : Int) / 65536 % 256), .int .u8 ((x : Int) / 256 % 256), .int .u8 ((x : Int) % 256)] t)) :=
  four_bytes _ _ (((x / 16777216 % 256 : Nat)) : Int) ((x / 65536 % 256 : Nat) : Int) ((x / 256 % 256 : Nat) : Int) ((x % 256 : Nat) : Int) (by simp [go_sem]) (by simp [go_sem]) (by simp [go_sem]) (by simp [go_sem])
theorem bytes_any (x : Nat) (w : World) (h : Is32 x) :
    Calls Try.prog 68 #[.int .u32 (x : Int)] w fun e w' => e = .returned (.string (bytesOf x)) ∧ Below w.heap.size w w' := by
  have hcv := fun (W : World) (t : TypeId) => bytes_run W x t
  go_enter Try.func68, Try.ntmps68
  go_wp2
  go_ret
  exact ⟨rfl, Below.alloc (Below.refl _ _) (Nat.le_refl _) _⟩
theorem bytes_rf (x : Nat) (w : World) (h : Is32 x) :
    Calls Try.prog 55 #[.int .u32 (x : Int)] w fun e w' => e = .returned (.string (bytesOf x)) ∧ Below w.heap.size w w' := by
  have hcv := fun (W : World) (t : TypeId) => bytes_run W x t
  go_enter Try.func55, Try.ntmps55
  go_wp2
  go_ret
  exact ⟨rfl, Below.alloc (Below.refl _ _) (Nat.le_refl _) _⟩
def RfRel (t : Nat) (w : World) (g : Nat) (s0 s5 : Value) (wx : World) : Prop := ∃ i y : Nat, i + g = 8 ∧ Is32 y ∧ s0 = .int .u32 (y : Int) ∧ s5 = .int .i64 (i : Int) ∧ shN g y = t ∧ wx = w
/-- the document's 'more': one byte more, a bit at a time -/
theorem moreb_rf (x c : Nat) (w : World) (h : Is32 x) (hc : c < 256) :
    Calls Try.prog 74 #[.int .u32 (x : Int), .int .u8 (c : Int)] w fun e w' => e = .returned (.int .u32 (step x c : Int)) ∧ w' = w := by
  have hx : bits .xor .u32 (x : Int) (c : Int) = ((x ^^^ c : Nat) : Int) := bits_xor32 h (by unfold Is32; omega)
  have hm : (c : Int) % 4294967296 = c := by omega
  have hi : Is32 (x ^^^ c) := is32_xor h (by unfold Is32; omega)
  have hT : shN 8 (x ^^^ c) = step x c := step_words x c
  generalize x ^^^ c = z at *
  generalize step x c = t at *
  have HT := Lib.hid hT
  clear hT
  go_enter Try.func74, Try.ntmps74
  go_wp2
  go_loopg [0, 5] 8 (RfRel t w)
  case atStart => exact ⟨0, z, rfl, hi, rfl, rfl, HT.out, rfl⟩
  case round =>
    clear HT hi hx hm h hc
    obtain ⟨i, y, hk, hy, rfl, rfl, ht, rfl⟩ := hrel
    have Y := Lib.hid hy
    have T := Lib.hid ht
    clear ht
    rcases Nat.lt_or_ge i 8 with hlt | hge
    · have T1 : Hid (shN (gk - 1) (sh y) = t) := Lib.hid (by have := T.out; rw [show gk = gk - 1 + 1 by omega] at this; exact this)
      have r0 : (y : Int).tmod 2 = ((y % 2 : Nat) : Int) := by rw [Int.tmod_eq_emod_of_nonneg (by omega)]; rfl
      have r1 : (y : Int).tdiv 2 = ((y / 2 : Nat) : Int) := by rw [Int.tdiv_eq_ediv_of_nonneg (by omega)]; rfl
      have r2 : (y : Int) / 2 % 4294967296 = (y : Int) / 2 := by unfold Is32 at hy; omega
      by_cases hp : y % 2 = 0
      · have e : sh y = y / 2 := if_pos hp
        rw [e] at T1
        have Y1 : Hid (Is32 (y / 2)) := Lib.hid (by unfold Is32 at *; omega)
        clear e hy T Y
        go_wp2
        go_roundg (gk - 1)
        case measure => omega
        case rel => exact ⟨i + 1, y / 2, by omega, Y1.out, rfl, rfl, T1.out, rfl⟩
      · have e : sh y = y / 2 ^^^ poly := if_neg hp
        have hp1 : y % 2 = 1 := by omega
        have Y1 : Hid (Is32 (y / 2 ^^^ poly)) := Lib.hid (e ▸ sh_is32 hy)
        have e2 : bits .xor .u32 ((y : Int) / 2) 3988292384 = ((y / 2 ^^^ poly : Nat) : Int) := bits_xor32 (x := y / 2) (y := poly) (by unfold Is32 at *; omega) is32_poly
        rw [e] at T1
        clear e hy T Y hp
        go_wp2
        go_roundg (gk - 1)
        case measure => omega
        case rel => exact ⟨i + 1, _, by omega, Y1.out, rfl, rfl, T1.out, rfl⟩
    · have T1 : Hid (y = t) := Lib.hid (by have := T.out; rw [show gk = 0 by omega] at this; exact this)
      clear hy T Y
      go_wp2
      go_ret
      exact ⟨by rw [← T1.out]; rfl, rfl⟩
end Go.Proofs.Ytcbemjckcmcelaa
