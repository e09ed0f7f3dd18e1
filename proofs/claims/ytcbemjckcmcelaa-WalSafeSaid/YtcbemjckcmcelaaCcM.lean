/- (*Table).More, Sum, Right: of a table, and of none. -/
import Derived.Test.YtcbemjckcmcelaaCcP
namespace Go.Proofs.Ytcbemjckcmcelaa
open Go.ChangeShapes Go.WideShapes Go.ChangeAt Go.RowKit Go.Joins
set_option maxRecDepth 100000
set_option linter.unusedVariables false
set_option linter.unusedSimpArgs false
theorem bits_xor8 {x y : Nat} (h : x < 256) (k : y < 256) : bits .xor .u8 (x : Int) (y : Int) = ((x ^^^ y : Nat) : Int) := u8_xor_nat x y h k
theorem full_drew {w : World} {b : Nat} (h : Full w b) : Full w.drew b := ⟨by rw [World.cell?_drew]; exact h.done, filled_drew h.places⟩
def MoRel (w : World) (b z : Nat) (s : ByteArray) (g : Nat) (s1 s20 : Value) (wx : World) : Prop := ∃ i : Nat, i + g = s.size ∧ s1 = .int .u32 (part z s i : Int) ∧ s20 = .int .i64 (i : Int) ∧ Full wx b ∧ Apart b w wx
set_option maxRecDepth 100000 in
set_option maxHeartbeats 1600000 in
theorem more_any (b x : Nat) (s : ByteArray) (w : World) (ht : Tbl w b) (h : Is32 x) (hs : s.size ≤ 1000) :
    Calls Try.prog 73 #[.pointer (some ⟨b, 0, none⟩), .int .u32 (x : Int), .string s] w fun e w' => e = .returned (.int .u32 (more x s : Int)) ∧ Full w' b ∧ Apart b w w' := by
  have h0 := not32 h
  have hz : Is32 (x ^^^ ones) := is32_xor h is32_ones
  have hE : more x s = part (x ^^^ ones) s s.size ^^^ ones := by rw [part_all]; rfl
  generalize x ^^^ ones = z at *
  generalize more x s = t at *
  have HE := Lib.hid hE
  have DO := Lib.hid (do_any b w ht)
  clear hE ht
  have hmf : ∀ (fn : Fn) (first cap : Array Value) (w : World), (Instr.makeFunc fn first cap).run Try.prog w = .ok (.func fn first cap) w := fun _ _ _ _ => rfl
  go_enter Try.func73, Try.ntmps73
  go_wp2_with fail
  (with_reducible refine DO.out.mono ?_)
  rintro e w1 ⟨rfl, hF, hA⟩
  clear DO
  have HF := Lib.hid hF
  have HA := Lib.hid hA
  clear hF hA
  go_wp2
  go_loopg [1, 20] (s.size) (MoRel w b z s)
  case atStart => exact ⟨0, by omega, by rw [part_zero], rfl, HF.out, HA.out⟩
  case round =>
    clear h0 h HF HA
    obtain ⟨i, hk, rfl, rfl, hF, hA⟩ := hrel
    have HF := Lib.hid hF
    have HA := Lib.hid hA
    clear hA
    rcases Nat.lt_or_ge i s.size with hlt | hge
    · have bq := byteAt_eq hlt
      have hc := byteAt_lt s i
      have hy := part_is32 hz s i
      have P := Lib.hid (part_succ z s i hlt)
      generalize byteAt s i = c at *
      generalize part z s i = y at *
      have m1 : bits .xor .u8 ((y : Int) % 256) (c : Int) = ((y % 256 ^^^ c : Nat) : Int) := bits_xor8 (x := y % 256) (by omega) hc
      have hq : y % 256 ^^^ c < 256 := Nat.xor_lt_two_pow (n := 8) (by omega) hc
      have cl := hF.places (y % 256 ^^^ c) hq
      have m2 : bits .xor .u32 (tab (y % 256 ^^^ c) : Int) ((y : Int) / 256) = (step y c : Int) := bits_xor32 (x := tab (y % 256 ^^^ c)) (y := y / 256) (shN_is32 (by unfold Is32; omega)) (by unfold Is32 at *; omega)
      rw [← P.out] at m2
      have il : (i : Int) < (s.size : Int) := by omega
      generalize y % 256 ^^^ c = q at *
      generalize tab q = tq at *
      clear HE hz hF P
      go_wp2
      go_region
      all_goals
        go_wp2
        go_roundg (gk - 1)
        case measure => omega
        case rel => exact ⟨i + 1, by omega, rfl, rfl, full_drew HF.out, HA.out.drew⟩
    · obtain rfl : i = s.size := by omega
      have h1 := not32 (part_is32 hz s s.size)
      rw [← HE.out] at h1
      clear HE hz hF
      go_wp2
      go_ret
      exact ⟨rfl, HF.out, HA.out⟩
theorem sum_any (b : Nat) (s : ByteArray) (w : World) (ht : Tbl w b) (hs : s.size ≤ 1000) :
    Calls Try.prog 66 #[.pointer (some ⟨b, 0, none⟩), .string s] w fun e w' => e = .returned (.int .u32 (more 0 s : Int)) ∧ Full w' b ∧ Apart b w w' := by
  have M : Hid (Calls Try.prog 73 #[.pointer (some ⟨b, 0, none⟩), .int .u32 0, .string s] w fun e w' => e = .returned (.int .u32 (more 0 s : Int)) ∧ Full w' b ∧ Apart b w w') := Lib.hid (more_any b 0 s w ht (by unfold Is32; omega) hs)
  clear ht
  go_enter Try.func66, Try.ntmps66
  go_wp2_with fail
  (with_reducible refine M.out.mono ?_)
  rintro e w1 ⟨rfl, hF, hA⟩
  go_wp2
  go_ret
  exact ⟨rfl, hF, hA⟩
/-- of no table nothing comes -/
theorem more_nil (x : Int) (s : ByteArray) (w : World) :
    Calls Try.prog 73 #[.pointer none, .int .u32 x, .string s] w fun e w' => e = .returned (.int .u32 0) ∧ w' = w := by
  go_enter Try.func73, Try.ntmps73
  go_wp2
  go_ret
  exact ⟨rfl, rfl⟩
theorem sum_nil (s : ByteArray) (w : World) :
    Calls Try.prog 66 #[.pointer none, .string s] w fun e w' => e = .returned (.int .u32 0) ∧ w' = w := by
  have M := Lib.hid (more_nil 0 s)
  go_enter Try.func66, Try.ntmps66
  go_wp2_with fail
  (with_reducible refine (M.out _).mono ?_)
  rintro e w1 ⟨rfl, rfl⟩
  go_wp2
  go_ret
  exact ⟨rfl, rfl⟩
theorem fresh_new (w : World) (t : TypeId) : Fresh (w.alloc (.cells zeroCells t)) w.heap.size := by
  refine ⟨by simp [go_sem, zeroCells], by simp [go_sem, zeroCells], by simp [go_sem], by simp [go_sem], fun j hj => ⟨⟨.int .u32 0, ?_⟩, by simp [go_sem]⟩⟩
  simp [go_sem, zeroCells]
  rw [Array.getElem?_append_right (by simp)]
  simp
  rw [Array.getElem?_replicate, if_pos hj]
end Go.Proofs.Ytcbemjckcmcelaa
