/- The example stands: awake answers true. -/
import Derived.Test.YtgjndfkjakbdiaaDkC
namespace Go.Proofs.Ytgjndfkjakbdiaa.Dk
open Go.ChangeShapes Go.WideShapes Go.ChangeAt Go.RowKit Go.Joins
set_option linter.unusedVariables false
set_option linter.unusedSimpArgs false
theorem fill_byte (c : UInt8) (w : World) :
    Calls Try.prog 12 #[.int .u8 (c.toNat : Int)] w fun e w' => e = .returned (.string (mkB (List.replicate 64 c))) ∧ Below w.heap.size w w' := by
  have := fill_any c.toNat w (UInt8.toNat_lt c)
  rwa [UInt8.ofNat_toNat] at this
def exA : List UInt8 := List.replicate 64 97
def exB : List UInt8 := List.replicate 64 98
def ex1 : DS := (writeR (newR 2) 0 exA).1
def ex2 : DS := (flushR ex1).1
def ex3 : DS := (writeR ex2 0 exB).1
def ex4 : DS := (crashR ex3 [(2, 3)]).1
theorem ex_r1 : (writeR (newR 2) 0 exA).2 = 0 := by decide +kernel
theorem ex_r2 : (flushR ex1).2 = 0 := by decide +kernel
theorem ex_r3 : (writeR ex2 0 exB).2 = 0 := by decide +kernel
theorem ex_r4 : (crashR ex3 [(2, 3)]).2 = 1 := by decide +kernel
theorem ex_r5 : (readR ex4 0).2 = ([98, 98, 98] ++ List.replicate 61 97, 0) := by decide +kernel
theorem ex_b1 : (newR 2).opn.length ≤ 900000 ∧ (newR 2).fail < 9223372036854775808 := by decide +kernel
theorem ex_b2 : ex1.opn.length ≤ 900000 ∧ ex1.fail < 9223372036854775808 := by decide +kernel
theorem ex_b3 : ex2.opn.length ≤ 900000 ∧ ex2.fail < 9223372036854775808 := by decide +kernel
theorem ex_b4 : ex3.opn.length ≤ 900000 ∧ ex3.fail < 9223372036854775808 := by decide +kernel
theorem ex_b5 : ex4.opn.length ≤ 900000 ∧ ex4.fail < 9223372036854775808 ∧ ex4.reads ≤ 1000000000 := by decide +kernel
theorem w_ok (B b : Nat) (s s' : DS) (a : Nat) (l : List UInt8) (r : Nat) (w : World) (h : Dk B b s w) (hn : s.opn.length ≤ 900000 ∧ s.fail < 9223372036854775808) (e : (writeR s a l).2 = r) (e1 : (writeR s a l).1 = s') :
    Calls Try.prog 21 #[ptr b, .int .i64 (a : Int), .string (mkB l)] w fun e w' => e = .returned (.int .i64 (r : Int)) ∧ Dk B b s' w' ∧ Moved b w w' := by
  have := write_any B b s (a : Int) (mkB l) w h hn.1 hn.2
  rw [mkB_data, e, e1] at this
  exact this
theorem fats_one (w : World) (k a : Int) (hk : In64 k) (ha : In64 a) : Fats (some ⟨w.heap.size, 0, none⟩) [(k, a)] (w.alloc (.cells #[.int .i64 k, .int .i64 a] 50)) := by
  refine ⟨fun p hp => by simp at hp; subst hp; exact ⟨hk, ha⟩, fun _ => ⟨w.heap.size, 0, rfl, by simp, fun i hi => ?_⟩⟩
  obtain rfl : i = 0 := by simpa using hi
  simp [go_sem]
theorem off_new {B b : Nat} {s : DS} {w : World} (h : Dk B b s w) (o : Obj) : Off (some ⟨w.heap.size, 0, none⟩) b (w.alloc o) := by
  intro k off e hk
  simp at e
  obtain ⟨rfl, rfl⟩ := e
  have := (h.ownLt (hk.of_block (Below.heap_alloc _ _ _ h.lt))).2
  omega
set_option maxRecDepth 100000 in
set_option maxHeartbeats 4000000 in
theorem awake_any (w : World) :
    Calls Try.prog 9 #[] w fun e w' => e = .returned (.bool true) ∧ Below w.heap.size w w' := by
  have N : Hid (Calls Try.prog 10 #[.int .i64 2] w fun e w' => e = .returned (ptr (w.heap.size + 1)) ∧ Dk w.heap.size (w.heap.size + 1) (newR 2) w' ∧ Below w.heap.size w w') := Lib.hid (new_yes 2 w (by omega) (by omega))
  have FA : Hid (∀ w : World, Calls Try.prog 12 #[.int .u8 97] w fun e w' => e = .returned (.string (mkB exA)) ∧ Below w.heap.size w w') := Lib.hid (fun w => fill_any 97 w (by omega))
  have FB : Hid (∀ w : World, Calls Try.prog 12 #[.int .u8 98] w fun e w' => e = .returned (.string (mkB exB)) ∧ Below w.heap.size w w') := Lib.hid (fun w => fill_any 98 w (by omega))
  have W1 : Hid (∀ B b w, Dk B b (newR 2) w → Calls Try.prog 21 #[ptr b, .int .i64 0, .string (mkB exA)] w fun e w' => e = .returned (.int .i64 0) ∧ Dk B b ex1 w' ∧ Moved b w w') := Lib.hid (fun B b w h => w_ok B b _ _ 0 exA 0 w h ex_b1 ex_r1 rfl)
  have F2 : Hid (∀ B b w, Dk B b ex1 w → Calls Try.prog 15 #[ptr b] w fun e w' => e = .returned (.int .i64 0) ∧ Dk B b ex2 w' ∧ Moved b w w') := Lib.hid (fun B b w h => by have := flush_any B b ex1 w h (by have := ex_b2.1; omega) ex_b2.2; rw [ex_r2] at this; exact this)
  have W3 : Hid (∀ B b w, Dk B b ex2 w → Calls Try.prog 21 #[ptr b, .int .i64 0, .string (mkB exB)] w fun e w' => e = .returned (.int .i64 0) ∧ Dk B b ex3 w' ∧ Moved b w w') := Lib.hid (fun B b w h => w_ok B b _ _ 0 exB 0 w h ex_b3 ex_r3 rfl)
  have C4 : Hid (∀ B b w, Dk B b ex3 w → Calls Try.prog 19 #[ptr b, .slice (some ⟨w.heap.size, 0, none⟩) 1 1] (w.alloc (.cells #[.int .i64 2, .int .i64 3] 50)) fun e w' => e = .returned (.int .i64 1) ∧ Dk B b ex4 w' ∧ Moved b (w.alloc (.cells #[.int .i64 2, .int .i64 3] 50)) w') := Lib.hid (fun B b w h => by
    have := crash_any B b ex3 (some ⟨w.heap.size, 0, none⟩) [(2, 3)] 1 _ (h.call ((Below.refl _ _).alloc (Nat.le_refl _) _)) (fats_one w 2 3 (by unfold In64; omega) (by unfold In64; omega)) (fun _ => off_new h _) (by have := ex_b4.1; omega) (by simp)
    rw [ex_r4] at this; exact this)
  have R5 : Hid (∀ B b w, Dk B b ex4 w → Calls Try.prog 13 #[ptr b, .int .i64 0] w fun e w' => e = .returned (.tuple #[.string (mkB ([98, 98, 98] ++ List.replicate 61 97)), .int .i64 0]) ∧ Dk B b (readR ex4 0).1 w' ∧ Moved b w w') := Lib.hid (fun B b w h => by have := read_any B b ex4 0 w h ex_b5.2.2 (by have := ex_b5.1; omega) ex_b5.2.1; rw [ex_r5] at this; exact this)
  have sA : (mkB exA).size = 64 := by rw [mkB_size]; decide
  have tt : ((mkB ([98, 98, 98] ++ List.replicate 61 97)).toList == (({ data := #[98, 98, 98] } : ByteArray) ++ (mkB exA).extract 3 64).toList) = true := by decide +kernel
  generalize mkB ([98, 98, 98] ++ List.replicate 61 97) = X5 at *
  generalize mkB exA = XA at *
  generalize mkB exB = XB at *
  have BN := Lib.hid (Nat.le_refl w.heap.size)
  go_enter Try.func9, Try.ntmps9
  go_wp2_with fail
  (with_reducible refine N.out.mono ?_)
  rintro e w1 ⟨rfl, k1, b1⟩
  generalize w.heap.size + 1 = d at *
  clear N
  go_wp2_with fail
  (with_reducible refine (FA.out _).mono ?_)
  rintro e w2 ⟨rfl, b2⟩
  have k2 := k1.call b2
  have l2 := Lib.hid (b1.trans (b2.mono k1.le))
  clear k1 b1 b2
  go_wp2_with fail
  (with_reducible refine (W1.out _ _ _ k2).mono ?_)
  rintro e w3 ⟨rfl, k3, m3⟩
  have l3 := Lib.hid (l2.out.trans (k2.below m3))
  clear k2 m3 l2 W1
  go_wp2_with fail
  (with_reducible refine (F2.out _ _ _ k3).mono ?_)
  rintro e w4 ⟨rfl, k4, m4⟩
  have l4 := Lib.hid (l3.out.trans (k3.below m4))
  clear k3 m4 l3 F2
  go_wp2_with fail
  (with_reducible refine (FB.out _).mono ?_)
  rintro e w5 ⟨rfl, b5⟩
  have k5 := k4.call b5
  have l5 := Lib.hid (l4.out.trans (b5.mono k4.le))
  clear k4 b5 l4 FB
  go_wp2_with fail
  (with_reducible refine (W3.out _ _ _ k5).mono ?_)
  rintro e w6 ⟨rfl, k6, m6⟩
  have l6 := Lib.hid (l5.out.trans (k5.below m6))
  clear k5 m6 l5 W3
  go_wp2_with fail
  (with_reducible refine (C4.out _ _ _ k6).mono ?_)
  rintro e w7 ⟨rfl, k7, m7⟩
  have l7 := Lib.hid ((l6.out.alloc k6.le _).trans ((k6.call ((Below.refl _ _).alloc (Nat.le_refl _) _)).below m7))
  clear k6 m7 l6 C4
  go_wp2_with fail
  (with_reducible refine (R5.out _ _ _ k7).mono ?_)
  rintro e w8 ⟨rfl, k8, m8⟩
  have l8 := Lib.hid (l7.out.trans (k7.below m8))
  clear k7 m8 l7 R5
  go_wp2_with fail
  (with_reducible refine (FA.out _).mono ?_)
  rintro e w9 ⟨rfl, b9⟩
  have l9 := Lib.hid (l8.out.trans (b9.mono k8.le))
  clear k8 b9 l8 FA
  go_wp2
  go_ret
  exact ⟨rfl, l9.out⟩
end Go.Proofs.Ytgjndfkjakbdiaa.Dk
