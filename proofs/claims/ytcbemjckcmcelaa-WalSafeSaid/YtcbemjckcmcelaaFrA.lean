/- Contracts of package frame's small functions: what reads a text part by part, numbers and their bytes, what writes parts. -/
import Derived.Test.YtcbemjckcmcelaaFrMath
import Derived.Test.YtcbemjckcmcelaaGnC
namespace Go.Proofs.Ytcbemjckcmcelaa
open Go.ChangeShapes Go.WideShapes Go.ChangeAt Go.RowKit Go.Joins
set_option maxRecDepth 100000
set_option linter.unusedVariables false
set_option linter.unusedSimpArgs false
theorem parts_any (s : ByteArray) (w : World) :
    Calls Try.prog 61 #[.string s] w fun e w' => e = .returned (.func (.func 71) #[] #[.pointer (some ⟨w.heap.size, 0, none⟩)]) ∧ w' = w.alloc (.cells #[.string s] 9) := by
  have hmf : ∀ (fn : Fn) (first cap : Array Value) (w : World), (Instr.makeFunc fn first cap).run Try.prog w = .ok (.func fn first cap) w := fun _ _ _ _ => rfl
  go_enter Try.func61, Try.ntmps61
  go_wp2
  go_ret
  exact ⟨rfl, rfl⟩
theorem next_any (b k : Nat) (s : ByteArray) (w : World) (hk : k ≤ s.size) (hc : w.cell? ⟨b, 0, none⟩ = some (.string s)) (hf : w.frozen? ⟨b, 0, none⟩ = false) :
    Calls Try.prog 71 #[.int .i64 (k : Int), .pointer (some ⟨b, 0, none⟩)] w fun e w' => e = .returned (.string (s.extract 0 k)) ∧ w' = w.setCell ⟨b, 0, none⟩ (.string (s.extract k s.size)) := by
  have hk' : (k : Int) ≤ (s.size : Int) := by omega
  go_enter Try.func71, Try.ntmps71
  go_wp2
  go_ret
  exact ⟨rfl, rfl⟩
/-- what reads parts stands at b: s is left; of what was there ahead nothing has turned -/
structure Parts (w0 : World) (b : Nat) (s : ByteArray) (w : World) : Prop where
  cell : w.cell? ⟨b, 0, none⟩ = some (.string s)
  fr : w.frozen? ⟨b, 0, none⟩ = false
  bel : Below w0.heap.size w0 w
  far : w0.heap.size ≤ b
theorem Parts.call {w0 w w' : World} {b : Nat} {s : ByteArray} (h : Parts w0 b s w) (hb : Below w.heap.size w w') : Parts w0 b s w' :=
  ⟨carry hb h.cell, by rw [hb.frozen (p := ⟨b, 0, none⟩) (lt_of_cell h.cell)]; exact h.fr, h.bel.trans (hb.mono h.bel.size), h.far⟩
theorem parts_of (w0 : World) (s : ByteArray) (w : World) (h : Below w0.heap.size w0 w) :
    Calls Try.prog 61 #[.string s] w fun e w' => e = .returned (.func (.func 71) #[] #[.pointer (some ⟨w.heap.size, 0, none⟩)]) ∧ Parts w0 w.heap.size s w' ∧ Below w.heap.size w w' :=
  (parts_any s w).mono fun e w' ⟨he, hw⟩ => ⟨he, by subst hw; exact ⟨by simp [go_sem], by simp [go_sem], h.alloc h.size _, h.size⟩, by subst hw; exact (Below.refl _ _).alloc (Nat.le_refl _) _⟩
theorem next_of (w0 : World) (b k : Nat) (z : Int) (hz : z = (k : Int)) (s : ByteArray) (w : World) (hk : k ≤ s.size) (h : Parts w0 b s w) :
    Calls Try.prog 71 #[.int .i64 z, .pointer (some ⟨b, 0, none⟩)] w fun e w' => e = .returned (.string (s.extract 0 k)) ∧ Parts w0 b (s.extract k s.size) w' ∧ Apart b w w' := by
  subst hz
  exact (next_any b k s w hk h.cell h.fr).mono fun e w' ⟨he, hw⟩ => ⟨he, by subst hw; exact ⟨World.cell?_setCell_same _ _ _ h.cell, by simpa using h.fr, h.bel.setCell h.far _, h.far⟩, by subst hw; exact (Apart.refl _ _).setCell _ _⟩
theorem or64 {x b : Nat} (h : x < 72057594037927936) (hb : b < 256) : bits .or .u64 ((x : Int) * 256) (b : Int) = ((x * 256 + b : Nat) : Int) := by
  have e : x * 256 ||| b = x * 256 + b := or_low (n := 8) hb
  have := u64_or_nat (x * 256) b (by omega) (by omega)
  rw [e] at this
  rw [← this]
  simp
theorem val_step {s : ByteArray} {i : Nat} (h : i < s.size) : val (s.data.toList.take (i + 1)) = val (s.data.toList.take i) * 256 + byteAt s i := by
  have h' : i < s.data.toList.length := by simpa using h
  rw [List.take_succ_eq_append_getElem h', val_snoc]
  congr 1
  unfold byteAt
  rw [dif_pos h]
  simp [ByteArray.getElem_eq_getElem_data]
theorem val_small {s : ByteArray} {i : Nat} (h : i ≤ 7) : val (s.data.toList.take i) < 72057594037927936 := by
  have h1 := val_lt (s.data.toList.take i)
  have h2 : (s.data.toList.take i).length ≤ 7 := by simp; omega
  have h3 : 256 ^ (s.data.toList.take i).length ≤ 256 ^ 7 := Nat.pow_le_pow_right (by omega) h2
  have h4 : 256 ^ 7 = 72057594037927936 := by decide
  omega
def NumRel (w : World) (s : ByteArray) (g : Nat) (s3 s7 : Value) (wx : World) : Prop := ∃ i : Nat, i + g = s.size ∧ s3 = .int .u64 (val (s.data.toList.take i) : Int) ∧ s7 = .int .i64 (i : Int) ∧ wx = w
theorem num_any (s : ByteArray) (w : World) (hs : s.size ≤ 8) :
    Calls Try.prog 70 #[.string s] w fun e w' => e = .returned (.int .u64 (val s.data.toList : Int)) ∧ w' = w := by
  have hE : val s.data.toList = val (s.data.toList.take s.size) := by rw [List.take_of_length_le (by simp)]
  generalize val s.data.toList = t at *
  have HE := Lib.hid hE
  clear hE
  go_enter Try.func70, Try.ntmps70
  go_wp2
  go_loopg [3, 7] (s.size) (NumRel w s)
  case atStart => exact ⟨0, by omega, rfl, rfl, rfl⟩
  case round =>
    obtain ⟨i, hk, rfl, rfl, rfl⟩ := hrel
    rcases Nat.lt_or_ge i s.size with hlt | hge
    · have b := byteAt_eq hlt
      have hb := byteAt_lt s i
      have hv := val_small (s := s) (i := i) (by omega)
      have V := Lib.hid (val_step hlt)
      have il : (i : Int) < (s.size : Int) := by omega
      generalize val (s.data.toList.take i) = x at *
      generalize byteAt s i = c at *
      have o := or64 hv hb
      have m1 : (c : Int) % 18446744073709551616 = (c : Int) := by omega
      have m2 : (x : Int) * 256 % 18446744073709551616 = (x : Int) * 256 := by omega
      clear HE
      go_wp2
      go_roundg (gk - 1)
      case measure => omega
      case rel => exact ⟨i + 1, by omega, by rw [V.out, Int.natCast_add, Int.natCast_mul]; rfl, rfl, rfl⟩
    · obtain rfl : i = s.size := by omega
      rw [← HE.out]
      clear HE
      go_wp2
      go_ret
      exact ⟨rfl, rfl⟩
end Go.Proofs.Ytcbemjckcmcelaa
