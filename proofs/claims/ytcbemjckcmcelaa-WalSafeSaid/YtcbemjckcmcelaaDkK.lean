/- The example stands: awake answers true. -/
import Derived.Test.YtcbemjckcmcelaaDkC
namespace Go.Proofs.Ytcbemjckcmcelaa.Dk
open Go.ChangeShapes Go.WideShapes Go.ChangeAt Go.RowKit Go.Joins
set_option maxRecDepth 100000
set_option linter.unusedVariables false
set_option linter.unusedSimpArgs false
def exA : List UInt8 := List.replicate 64 97
def exB : List UInt8 := List.replicate 64 98
def ex1 : DS := (writeR (newR 2) 0 exA).1
def ex2 : DS := (flushR ex1).1
def ex3 : DS := (writeR ex2 0 exB).1
def ex4 : DS := (crashR ex3 [(2, 3)]).1
theorem ex_r1 : (writeR (newR 2) 0 exA).2 = 0 := by decide +kernel
theorem ex_r2 : (flushR ex1).2 = 0 := by decide +kernel
theorem ex_r3 : (writeR ex2 0 exB).2 = 0 := by decide +kernel
theorem ex_r4 : (crashR ex3 [(2, 3)]).2 = 1 := by decide +kernel
theorem ex_r5 : (readR ex4 0).2 = ([98, 98, 98] ++ List.replicate 61 97, 0) := by decide +kernel
theorem ex_b1 : (newR 2).opn.length ≤ 900000 ∧ (newR 2).fail < 9223372036854775808 := by decide +kernel
theorem ex_b2 : ex1.opn.length ≤ 900000 ∧ ex1.fail < 9223372036854775808 := by decide +kernel
theorem ex_b3 : ex2.opn.length ≤ 900000 ∧ ex2.fail < 9223372036854775808 := by decide +kernel
theorem ex_b4 : ex3.opn.length ≤ 900000 ∧ ex3.fail < 9223372036854775808 := by decide +kernel
theorem ex_b5 : ex4.opn.length ≤ 900000 ∧ ex4.fail < 9223372036854775808 ∧ ex4.reads ≤ 1000000000 := by decide +kernel
theorem w_ok (B b : Nat) (s s' : DS) (a : Nat) (l : List UInt8) (r : Nat) (w : World) (h : Dk B b s w) (hn : s.opn.length ≤ 900000 ∧ s.fail < 9223372036854775808) (e : (writeR s a l).2 = r) (e1 : (writeR s a l).1 = s') :
    Calls Try.prog 52 #[ptr b, .int .i64 (a : Int), .string (mkB l)] w fun e w' => e = .returned (.int .i64 (r : Int)) ∧ Dk B b s' w' ∧ Moved b w w' := by
  have := write_any B b s (a : Int) (mkB l) w h hn.1 hn.2
  rw [mkB_data, e, e1] at this
  exact this
theorem fats_one (w : World) (k a : Int) (hk : In64 k) (ha : In64 a) : Fats (some ⟨w.heap.size, 0, none⟩) [(k, a)] (w.alloc (.cells #[.int .i64 k, .int .i64 a] 89)) := by
  refine ⟨fun p hp => by simp at hp; subst hp; exact ⟨hk, ha⟩, fun _ => ⟨w.heap.size, 0, rfl, by simp, fun i hi => ?_⟩⟩
  obtain rfl : i = 0 := by simpa using hi
  simp [go_sem]
theorem off_new {B b : Nat} {s : DS} {w : World} (h : Dk B b s w) (o : Obj) : Off (some ⟨w.heap.size, 0, none⟩) b (w.alloc o) := by
  intro k off e hk
  simp at e
  obtain ⟨rfl, rfl⟩ := e
  have := (h.ownLt (hk.of_block (Below.heap_alloc _ _ _ h.lt))).2
  omega
end Go.Proofs.Ytcbemjckcmcelaa.Dk
