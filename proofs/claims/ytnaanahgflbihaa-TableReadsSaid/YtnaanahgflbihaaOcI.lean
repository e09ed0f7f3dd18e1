/- The document's reader: Int, Text, Flag, End, Left; short. -/
import Derived.Test.YtnaanahgflbihaaOcH
namespace Go.Proofs.Ytnaanahgflbihaa.Oc
open Go.ChangeShapes Go.WideShapes Go.ChangeAt Go.RowKit Go.Joins
set_option maxRecDepth 100000
set_option linter.unusedVariables false
set_option linter.unusedSimpArgs false
theorem int_dc (b : Nat) (o : St) (most : Int) (w : World) (k : Rd RD b o w) (hm : (Lit.int .i64 most).wf = true) (hl : left o ≤ 1000000) :
    Calls Try.prog 48 #[self b, .int .i64 most] w fun e w' => e = .returned (.int .i64 ((int o most).1 : Int)) ∧ Rd RD b (int o most).2 w' ∧ Apart b w w' := by
  have hb : -9223372036854775808 ≤ most ∧ most ≤ 9223372036854775807 := by
    simp [Lit.wf, IntKind.min, IntKind.max, IntKind.bits, IntKind.signed] at hm; omega
  clear hm
  by_cases h0 : most < 0
  · have e : int o most = (0, none) := if_pos h0
    rw [e]
    have SP := Lib.hid (k.spoiled (Below.refl _ _))
    obtain ⟨s, hs⟩ := k.cells
    have c1 : w.cell? ⟨b, 1, none⟩ = some (.bool (!o.isSome)) := by rw [Lib.cell_of_heap hs]; rfl
    have f1 : w.frozen? ⟨b, 1, none⟩ = false := Lib.frozen_of_heap hs 1
    clear k e hs
    go_enter Try.func48, Try.ntmps48
    go_wp2
    go_ret
    exact ⟨rfl, SP.out⟩
  · have e : int o most = num o most.toNat := if_neg h0
    have h1 : 0 ≤ most := by omega
    rw [e]
    have NR := Lib.hid (num_dc b o most.toNat w k (by omega) hl)
    have hmo := num_most o most.toNat
    generalize num o most.toNat = x at *
    obtain ⟨n, o'⟩ := x
    simp only at hmo NR ⊢
    rw [show (most.toNat : Int) = most by omega] at NR
    have hn : n ≤ 9223372036854775807 := by omega
    clear k e h0 hmo
    go_enter Try.func48, Try.ntmps48
    go_wp2_with fail
    (with_reducible refine NR.out.mono ?_)
    rintro e w1 ⟨rfl, hf⟩
    have H := Lib.hid hf
    clear hf NR
    go_wp2
    go_ret
    exact ⟨rfl, H.out⟩
theorem flag_dc (b : Nat) (o : St) (w : World) (k : Rd RD b o w) (hl : left o ≤ 1000000) :
    Calls Try.prog 50 #[self b] w fun e w' => e = .returned (.bool (flag o).1) ∧ Rd RD b (flag o).2 w' ∧ Apart b w w' := by
  have NR : Hid (Calls Try.prog 49 #[self b, .int .u64 1] w fun e w' => e = .returned (.int .u64 ((num o 1).1 : Int)) ∧ Rd RD b (num o 1).2 w' ∧ Apart b w w') := Lib.hid (num_dc b o 1 w k (by omega) hl)
  have e1 : (flag o).1 = ((num o 1).1 == 1) := rfl
  have e2 : (flag o).2 = (num o 1).2 := rfl
  rw [e1, e2]
  generalize num o 1 = x at *
  obtain ⟨n, o'⟩ := x
  simp only at NR ⊢
  have d : ((n : Int) == 1) = (n == 1) := by rw [Bool.eq_iff_iff]; simp; omega
  clear k e1 e2
  go_enter Try.func50, Try.ntmps50
  go_wp2_with fail
  (with_reducible refine NR.out.mono ?_)
  rintro e w1 ⟨rfl, hf⟩
  have H := Lib.hid hf
  clear hf NR
  go_wp2
  go_ret
  exact ⟨rfl, H.out⟩
theorem end_dc (b : Nat) (o : St) (w : World) (k : Rd RD b o w) :
    Calls Try.prog 51 #[self b] w fun e w' => e = .returned (.bool (ended o)) ∧ w' = w := by
  cases o with
  | none =>
    obtain ⟨s, hs⟩ := k
    have c1 : w.cell? ⟨b, 1, none⟩ = some (.bool true) := by rw [Lib.cell_of_heap hs]; rfl
    clear hs
    go_enter Try.func51, Try.ntmps51
    go_wp2
    go_ret
    exact ⟨rfl, rfl⟩
  | some l =>
    have hs : w.heap[b]? = some (.cells #[.string (mkB l), .bool false] RD (0, 0)) := k
    have c0 : w.cell? ⟨b, 0, none⟩ = some (.string (mkB l)) := by rw [Lib.cell_of_heap hs]; rfl
    have c1 : w.cell? ⟨b, 1, none⟩ = some (.bool false) := by rw [Lib.cell_of_heap hs]; rfl
    have e : ended (some l) = l.isEmpty := by unfold ended; cases l <;> rfl
    have tl := toList_mkB l
    rw [e]
    clear k hs e
    go_enter Try.func51, Try.ntmps51
    go_wp2
    go_ret
    exact ⟨rfl, rfl⟩
/-- s, cut to at most n bytes -/
def cut (s : ByteArray) (n : Nat) : ByteArray := if n < s.size then s.extract 0 n else s
theorem cut_size (s : ByteArray) (n : Nat) : (cut s n).size ≤ n := by
  unfold cut; split
  · simp [ByteArray.size_extract]; omega
  · omega
end Go.Proofs.Ytnaanahgflbihaa.Oc
