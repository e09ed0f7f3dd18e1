/- The document's numbers as bytes. -/
import Derived.Test.YtnaanahgflbihaaOcT
import Derived.Laws.BytesString
import Derived.Laws.IdiomStrings
namespace Go.Proofs.Ytnaanahgflbihaa.Oc
open Go.ChangeShapes Go.WideShapes Go.ChangeAt Go.RowKit Go.Joins
set_option maxRecDepth 100000
set_option linter.unusedVariables false
set_option linter.unusedSimpArgs false
theorem one_byte (w : World) (g : Nat) (z : Int) (h0 : w.cell? ⟨g, 0, none⟩ = some (.int .u8 z)) :
    (convert 46 9 (.slice (some ⟨g, 0, none⟩) 1 1)).run Try.prog w = .ok (.string (mkB [UInt8.ofNat z.toNat])) w := by
  have hl := run_loadCells (P := Try.prog) (w := w) ⟨g, 0, none⟩ 1 (fun j => .int .u8 z) (by
    intro j hj
    obtain rfl : j = 0 := by omega
    simpa [Addr.add] using h0)
  have hm : (((List.range 1).map fun j => Value.int .u8 z) : List Value) = [z].map (Value.int .u8) := rfl
  rw [hm] at hl
  rw [run_convert_bytes_string w _ _ _ _ _ _ Try.underlying46 Try.underlying5 Try.underlying9, run_bytesToString w _ _ _ _ hl]
  rfl
theorem one_run (w : World) (z : Int) (t : TypeId) :
    (convert 46 9 (.slice (some ⟨w.heap.size, 0, none⟩) 1 1)).run Try.prog (w.alloc (.cells #[.int .u8 z] t)) = .ok (.string (mkB [UInt8.ofNat z.toNat])) (w.alloc (.cells #[.int .u8 z] t)) :=
  one_byte _ _ z (by simp [go_sem])
theorem app_mkB (a : List UInt8) (s : ByteArray) : mkB a ++ s = mkB (a ++ s.data.toList) := mkB_ext (by simp [mkB])
def DnRel (N : Nat) (w : World) (g : Nat) (s0 s3 : Value) (wx : World) : Prop := ∃ (n : Nat) (l : List UInt8), g = n ∧ n < 18446744073709551616 ∧ s0 = .int .u64 (n : Int) ∧ s3 = .string (mkB l) ∧ bytesOf N = bytesOf n ++ l ∧ Below w.heap.size w wx
set_option maxHeartbeats 1000000 in
theorem num_rf (n : Nat) (w : World) (hn : n < 18446744073709551616) :
    Calls Try.prog 41 #[.int .u64 (n : Int)] w fun e w' => e = .returned (.string (mkB (enc n))) ∧ Below w.heap.size w w' := by
  have h8 := bytesOf_len8 hn
  have hcv := fun (W : World) (z : Int) (t : TypeId) => one_run W z t
  go_enter Try.func41, Try.ntmps41
  go_wp2_with fail
  go_loopg [0, 3] n (DnRel n w)
  case atStart => exact ⟨n, [], rfl, hn, rfl, rfl, by simp, Below.refl _ _⟩
  case round =>
    obtain ⟨m, l, rfl, hm, rfl, rfl, he, hb⟩ := hrel
    have HE := Lib.hid he
    have HB := Lib.hid hb
    have hbs := hb.size
    clear he hb
    rcases Nat.eq_zero_or_pos gk with rfl | hpos
    · have T : Hid (l = bytesOf n) := Lib.hid (by have := HE.out; rw [bytesOf_zero] at this; simpa using this.symm)
      have hl : l.length ≤ 8 := by rw [T.out]; exact h8
      have sz := mkB_size l
      have sz1 : ∀ x, (mkB [x]).size = 1 := fun x => mkB_size [x]
      have ap : ∀ x, mkB [x] ++ mkB l = mkB (x :: l) := fun x => by rw [app_mkB, mkB_data]; rfl
      have F : Hid (mkB (UInt8.ofNat l.length :: l) = mkB (enc n)) := Lib.hid (by unfold enc; rw [T.out])
      clear HE h8
      go_wp2
      go_ret
      refine ⟨?_, HB.out.alloc hbs _⟩
      rw [← F.out]; rfl
    · have r0 : (gk : Int).tmod 256 = ((gk % 256 : Nat) : Int) := by rw [Int.tmod_eq_emod_of_nonneg (by omega)]; rfl
      have r1 : (gk : Int).tdiv 256 = ((gk / 256 : Nat) : Int) := by rw [Int.tdiv_eq_ediv_of_nonneg (by omega)]; rfl
      have hl : l.length ≤ 8 := by have := congrArg List.length HE.out; rw [List.length_append] at this; omega
      have sz := mkB_size l
      have sz1 : ∀ x, (mkB [x]).size = 1 := fun x => mkB_size [x]
      have ap : ∀ x, mkB [x] ++ mkB l = mkB (x :: l) := fun x => by rw [app_mkB, mkB_data]; rfl
      have HF : Hid (bytesOf n = bytesOf (gk / 256) ++ (UInt8.ofNat (gk % 256) :: l)) := Lib.hid (by rw [HE.out, bytesOf_pos (by omega)]; simp)
      go_wp2
      go_roundg (gk / 256)
      case measure => omega
      case rel => exact ⟨gk / 256, _, rfl, by omega, rfl, rfl, HF.out, HB.out.alloc hbs _⟩
theorem int_rf (n : Int) (w : World) (hn : (Lit.int .i64 n).wf = true) :
    Calls Try.prog 40 #[.int .i64 n] w fun e w' => e = .returned (.string (mkB (encInt n))) ∧ Below w.heap.size w w' := by
  have hb : -9223372036854775808 ≤ n ∧ n ≤ 9223372036854775807 := by
    simp [Lit.wf, IntKind.min, IntKind.max, IntKind.bits, IntKind.signed] at hn; omega
  have NR := Lib.hid (num_rf n.toNat w (by omega))
  clear hn
  by_cases h0 : n < 0
  · rw [show (n.toNat : Int) = 0 by omega] at NR
    go_enter Try.func40, Try.ntmps40
    go_wp2_with fail
    (with_reducible refine NR.out.mono ?_)
    rintro e w1 ⟨rfl, hf⟩
    go_wp2
    go_ret
    exact ⟨rfl, hf⟩
  · have h1 : 0 ≤ n := by omega
    clear h0
    rw [show (n.toNat : Int) = n by omega] at NR
    go_enter Try.func40, Try.ntmps40
    go_wp2_with fail
    (with_reducible refine NR.out.mono ?_)
    rintro e w1 ⟨rfl, hf⟩
    go_wp2
    go_ret
    exact ⟨rfl, hf⟩
theorem flag_rf (f : Bool) (w : World) :
    Calls Try.prog 42 #[.bool f] w fun e w' => e = .returned (.string (mkB (encFlag f))) ∧ Below w.heap.size w w' := by
  have N1 : Hid (Calls Try.prog 41 #[.int .u64 1] w fun e w' => e = .returned (.string (mkB (enc 1))) ∧ Below w.heap.size w w') := Lib.hid (num_rf 1 w (by omega))
  have N0 : Hid (Calls Try.prog 41 #[.int .u64 0] w fun e w' => e = .returned (.string (mkB (enc 0))) ∧ Below w.heap.size w w') := Lib.hid (num_rf 0 w (by omega))
  cases f
  · go_enter Try.func42, Try.ntmps42
    go_wp2_with fail
    (with_reducible refine N0.out.mono ?_)
    rintro e w1 ⟨rfl, hf⟩
    go_wp2
    go_ret
    exact ⟨rfl, hf⟩
  · go_enter Try.func42, Try.ntmps42
    go_wp2_with fail
    (with_reducible refine N1.out.mono ?_)
    rintro e w1 ⟨rfl, hf⟩
    go_wp2
    go_ret
    exact ⟨rfl, hf⟩
end Go.Proofs.Ytnaanahgflbihaa.Oc
