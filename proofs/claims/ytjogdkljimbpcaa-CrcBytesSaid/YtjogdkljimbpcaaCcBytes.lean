/- horariumlaw02.CrcBytes answers true at every sum and every text, and leaves its arguments as they were: a sum comes back from its bytes, whatever stands behind; from fewer than four none does. No condition. -/
import Derived.Test.YtjogdkljimbpcaaCcG
namespace Go.Proofs.Ytjogdkljimbpcaa.crcBytes
open Go.ChangeShapes Go.WideShapes Go.ChangeAt Go.RowKit Go.Joins
set_option linter.unusedVariables false
set_option linter.unusedSimpArgs false

theorem bytesOf_size (x : Nat) : (bytesOf x).size = 4 := rfl
theorem byteAt_app {a b : ByteArray} {i : Nat} (h : i < a.size) : byteAt (a ++ b) i = byteAt a i := by
  unfold byteAt
  have h' : i < (a ++ b).size := by rw [ByteArray.size_append]; omega
  rw [dif_pos h, dif_pos h', ByteArray.getElem_append_left h]
theorem rd_bytes {x : Nat} (h : Is32 x) (r : ByteArray) : rd (bytesOf x ++ r) = x := by
  have hs : 4 ≤ (bytesOf x ++ r).size := by rw [ByteArray.size_append, bytesOf_size]; omega
  have b0 : byteAt (bytesOf x) 0 = x / 16777216 % 256 := by
    show (UInt8.ofNat (x / 16777216 % 256)).toNat = _
    rw [UInt8.toNat_ofNat']; omega
  have b1 : byteAt (bytesOf x) 1 = x / 65536 % 256 := by
    show (UInt8.ofNat (x / 65536 % 256)).toNat = _
    rw [UInt8.toNat_ofNat']; omega
  have b2 : byteAt (bytesOf x) 2 = x / 256 % 256 := by
    show (UInt8.ofNat (x / 256 % 256)).toNat = _
    rw [UInt8.toNat_ofNat']; omega
  have b3 : byteAt (bytesOf x) 3 = x % 256 := by
    show (UInt8.ofNat (x % 256)).toNat = _
    rw [UInt8.toNat_ofNat']; omega
  unfold rd rd4
  rw [if_pos hs, byteAt_app (by rw [bytesOf_size]; omega), byteAt_app (by rw [bytesOf_size]; omega), byteAt_app (by rw [bytesOf_size]; omega), byteAt_app (by rw [bytesOf_size]; omega), b0, b1, b2, b3]
  unfold Is32 at h
  omega
theorem read_back {x : Nat} (h : Is32 x) (r : ByteArray) (w : World) :
    Calls Try.prog 12 #[.string (bytesOf x ++ r)] w fun e w' => e = .returned (.tuple #[.int .u32 (x : Int), .bool true]) ∧ Below w.heap.size w w' := by
  have := read_any (bytesOf x ++ r) w
  rw [rd_bytes h, decide_eq_true (by rw [ByteArray.size_append, bytesOf_size]; omega)] at this
  exact this
theorem read_three (s : ByteArray) (h : s.size = 4) (w : World) :
    Calls Try.prog 12 #[.string (s.extract 0 3)] w fun e w' => e = .returned (.tuple #[.int .u32 (rd (s.extract 0 3) : Int), .bool false]) ∧ Below w.heap.size w w' := by
  have := read_any (s.extract 0 3) w
  rw [decide_eq_false (by rw [ByteArray.size_extract]; omega)] at this
  exact this
set_option maxRecDepth 100000 in
set_option maxHeartbeats 4000000 in
theorem walk (x : Nat) (s : ByteArray) (w : World) (hx : Is32 x) :
    Calls Try.prog 6 #[.int .u32 (x : Int), .string s] w fun e w' => e = .returned (.bool true) ∧ Below w.heap.size w w' := by
  have S1 : Hid (∀ w : World, Calls Try.prog 10 #[.string s, .int .i64 20] w fun e w' => e = .returned (.string (cut s 20)) ∧ w' = w) := Lib.hid (fun w => short_any s 20 w (by omega))
  have z1 := cut_size s 20
  have BA := Lib.hid (fun w => bytes_any x w hx)
  have RB := Lib.hid (fun r w => read_back hx r w)
  have z2 := bytesOf_size x
  generalize cut s 20 = r at *
  have hnot : ∀ (x : Bool) (w : World), (Op.unary .not (.bool x)).run Try.prog w = .ok (.bool (!x)) w := fun _ _ => rfl
  go_enter Try.func6, Try.ntmps6
  go_wp2_with fail
  (with_reducible refine (awake_any _).mono ?_)
  rintro e w1 ⟨rfl, b4⟩
  go_wp2_with fail
  (with_reducible refine (BA.out _).mono ?_)
  rintro e w2 ⟨rfl, b5⟩
  replace b4 := b4.trans (b5.mono b4.size)
  clear b5 BA
  generalize bytesOf x = t at *
  go_wp2_with fail
  (with_reducible refine (S1.out _).mono ?_)
  rintro e w3 ⟨rfl, rfl⟩
  clear S1
  go_wp2_with fail
  (with_reducible refine (RB.out _ _).mono ?_)
  rintro e w4 ⟨rfl, b5⟩
  replace b4 := b4.trans (b5.mono b4.size)
  clear b5 RB z1
  have x1 : (3 : Int) ≤ (t.size : Int) := by omega
  have R3 := Lib.hid (fun w => read_three t z2 w)
  go_wp2_with fail
  (with_reducible refine (R3.out _).mono ?_)
  rintro e w5 ⟨rfl, b5⟩
  replace b4 := b4.trans (b5.mono b4.size)
  clear b5
  go_wp2
  go_ret
  exact ⟨rfl, b4⟩

set_option maxRecDepth 100000 in
theorem lifted (os : Os) (started : os.Started) (H : Type) (enc : TypeId × Value → H) :
    ReturnsInHanded {} Try.checked os 6 .any (Rows.crcBytesSpec.pre6 enc Try.prog Try.f6 Rows.crcBytesRow.domain false) (Rows.crcBytesSpec.post enc Try.prog Try.f6 false true false false) := by
  refine returnsInHanded_of_change (C := Try.checked) own started (by kernel_rfl) Try.func6
    (ChangeSpec.witness6 (enc := enc) (C := Try.checked) false ⟨#[], #[.int .u32 0, .string ⟨#[]⟩], []⟩ 8 (by kernel_rfl) (by kernel_rfl) (by kernel_rfl) (by kernel_rfl)) ?_
  intro W base args ds gs before hval0 hW hcnd _
  have hval : ∀ (j : Nat) t v, Try.f6.params[j]? = some t → args[j]? = some v → Value.okWide Try.prog W .any base t v := hval0
  have hW' := hW
  obtain ⟨p, q, hA0, hV, rfl, hfz, hnd⟩ := hW
  have hA : DataW.TrodAll enc Try.prog W 0 (fun _ => true) true Try.f6.params.toList args.toList ds p := hA0
  rw [Try.params6] at hA hval
  obtain ⟨v0, vs0, d0, ds0, p0, q0, hargs, rfl, rfl, h0, r0⟩ := trodAll_cons hA
  obtain ⟨v1, vs1, d1, ds1, p1, q1, rfl, rfl, rfl, h1, r1⟩ := trodAll_cons r0
  obtain ⟨rfl, rfl, rfl⟩ := trodAll_nil r1
  obtain rfl : args = #[v0, v1] := by cases args; simp_all
  obtain ⟨rfl, rfl⟩ := trodVars_none hV
  have lt0 : ∀ x ∈ p0, x.block < W.heap.size := by obtain ⟨m, hm⟩ := h0; exact DataW.trod_lt m _ _ _ hm
  obtain ⟨n0, e0, -, -, wfx⟩ := open_int Try.underlying22 (hval 0 22 v0 rfl rfl) h0
  subst e0
  obtain ⟨x, rfl, wx⟩ := is32_wf wfx
  have lt1 : ∀ x ∈ p1, x.block < W.heap.size := by obtain ⟨m, hm⟩ := h1; exact DataW.trod_lt m _ _ _ hm
  obtain ⟨s, e1, -, -, szs⟩ := Go.ChangeMaps.open_string Try.underlying9 (hval 1 9 v1 rfl rfl) h1
  subst e1
  clear hA0 hval0
  refine (walk x s W wx).mono fun e W' ⟨he, bel⟩ => ?_
  subst he
  exact ⟨_, rfl, _, _, _, [], _, [], hW', trodAll_mk1 (shut_bool Try.underlying4 _), (trodAll_cons_mk (Below.trod laidOut (by kernel_rfl) (of_decide_eq_true (by kernel_rfl)) h0 bel lt0) (trodAll_cons_mk (Below.trod laidOut (by kernel_rfl) (of_decide_eq_true (by kernel_rfl)) h1 bel lt1) trodAll_mk0)), rfl, bel.frame _, fun h => by cases h⟩

theorem proved : Rows.CrcBytesSaid :=
  OpenClaim.holds_of_wide 6 Try.f6 rfl rfl rfl rfl rfl rfl rfl ⟨rfl, rfl, rfl, rfl, rfl⟩ rfl rfl rfl rfl rfl (by kernel_rfl) Try.func6 (by kernel_rfl)
    (of_decide_eq_true (by kernel_rfl)) (by unfold Func.isWrapper; first | (rw [if_pos (by decide +kernel)]; kernel_rfl) | (rw [if_neg (by decide +kernel)]; exact ⟨rfl, rfl⟩))
    (fun os started H enc _ => lifted os started H enc)
#print axioms proved
end Go.Proofs.Ytjogdkljimbpcaa.crcBytes
