/- The document's reader: Int, Text, Flag, End, Left; short. -/
import Derived.Test.YthmbnnbdphobiaaOcH
namespace Go.Proofs.Ythmbnnbdphobiaa
open Go.ChangeShapes Go.WideShapes Go.ChangeAt Go.RowKit Go.Joins
set_option linter.unusedVariables false
set_option linter.unusedSimpArgs false
theorem int_dc (b : Nat) (o : St) (most : Int) (w : World) (k : Rd RD b o w) (hm : (Lit.int .i64 most).wf = true) (hl : left o ≤ 1000000) :
    Calls Try.prog 23 #[self b, .int .i64 most] w fun e w' => e = .returned (.int .i64 ((int o most).1 : Int)) ∧ Rd RD b (int o most).2 w' ∧ Apart b w w' := by
  have hb : -9223372036854775808 ≤ most ∧ most ≤ 9223372036854775807 := by
    simp [Lit.wf, IntKind.min, IntKind.max, IntKind.bits, IntKind.signed] at hm; omega
  clear hm
  by_cases h0 : most < 0
  · have e : int o most = (0, none) := if_pos h0
    rw [e]
    have SP := Lib.hid (k.spoiled (Below.refl _ _))
    obtain ⟨s, hs⟩ := k.cells
    have c1 : w.cell? ⟨b, 1, none⟩ = some (.bool (!o.isSome)) := by rw [Lib.cell_of_heap hs]; rfl
    have f1 : w.frozen? ⟨b, 1, none⟩ = false := Lib.frozen_of_heap hs 1
    clear k e hs
    go_enter Try.func23, Try.ntmps23
    go_wp2
    go_ret
    exact ⟨rfl, SP.out⟩
  · have e : int o most = num o most.toNat := if_neg h0
    have h1 : 0 ≤ most := by omega
    rw [e]
    have NR := Lib.hid (num_dc b o most.toNat w k (by omega) hl)
    have hmo := num_most o most.toNat
    generalize num o most.toNat = x at *
    obtain ⟨n, o'⟩ := x
    simp only at hmo NR ⊢
    rw [show (most.toNat : Int) = most by omega] at NR
    have hn : n ≤ 9223372036854775807 := by omega
    clear k e h0 hmo
    go_enter Try.func23, Try.ntmps23
    go_wp2_with fail
    (with_reducible refine NR.out.mono ?_)
    rintro e w1 ⟨rfl, hf⟩
    have H := Lib.hid hf
    clear hf NR
    go_wp2
    go_ret
    exact ⟨rfl, H.out⟩
theorem flag_dc (b : Nat) (o : St) (w : World) (k : Rd RD b o w) (hl : left o ≤ 1000000) :
    Calls Try.prog 27 #[self b] w fun e w' => e = .returned (.bool (flag o).1) ∧ Rd RD b (flag o).2 w' ∧ Apart b w w' := by
  have NR : Hid (Calls Try.prog 21 #[self b, .int .u64 1] w fun e w' => e = .returned (.int .u64 ((num o 1).1 : Int)) ∧ Rd RD b (num o 1).2 w' ∧ Apart b w w') := Lib.hid (num_dc b o 1 w k (by omega) hl)
  have e1 : (flag o).1 = ((num o 1).1 == 1) := rfl
  have e2 : (flag o).2 = (num o 1).2 := rfl
  rw [e1, e2]
  generalize num o 1 = x at *
  obtain ⟨n, o'⟩ := x
  simp only at NR ⊢
  have d : ((n : Int) == 1) = (n == 1) := by rw [Bool.eq_iff_iff]; simp; omega
  clear k e1 e2
  go_enter Try.func27, Try.ntmps27
  go_wp2_with fail
  (with_reducible refine NR.out.mono ?_)
  rintro e w1 ⟨rfl, hf⟩
  have H := Lib.hid hf
  clear hf NR
  go_wp2
  go_ret
  exact ⟨rfl, H.out⟩
theorem left_dc (b : Nat) (o : St) (w : World) (k : Rd RD b o w) :
    Calls Try.prog 32 #[self b] w fun e w' => e = .returned (.int .i64 (left o : Int)) ∧ w' = w := by
  cases o with
  | none =>
    obtain ⟨s, hs⟩ := k
    have c1 : w.cell? ⟨b, 1, none⟩ = some (.bool true) := by rw [Lib.cell_of_heap hs]; rfl
    clear hs
    go_enter Try.func32, Try.ntmps32
    go_wp2
    go_ret
    exact ⟨rfl, rfl⟩
  | some l =>
    have hs : w.heap[b]? = some (.cells #[.string (mkB l), .bool false] RD (0, 0)) := k
    have c0 : w.cell? ⟨b, 0, none⟩ = some (.string (mkB l)) := by rw [Lib.cell_of_heap hs]; rfl
    have c1 : w.cell? ⟨b, 1, none⟩ = some (.bool false) := by rw [Lib.cell_of_heap hs]; rfl
    have e : left (some l) = (mkB l).size := by rw [mkB_size]; rfl
    rw [e]
    clear k hs e
    go_enter Try.func32, Try.ntmps32
    go_wp2
    go_ret
    exact ⟨rfl, rfl⟩
theorem end_dc (b : Nat) (o : St) (w : World) (k : Rd RD b o w) :
    Calls Try.prog 30 #[self b] w fun e w' => e = .returned (.bool (ended o)) ∧ w' = w := by
  cases o with
  | none =>
    obtain ⟨s, hs⟩ := k
    have c1 : w.cell? ⟨b, 1, none⟩ = some (.bool true) := by rw [Lib.cell_of_heap hs]; rfl
    clear hs
    go_enter Try.func30, Try.ntmps30
    go_wp2
    go_ret
    exact ⟨rfl, rfl⟩
  | some l =>
    have hs : w.heap[b]? = some (.cells #[.string (mkB l), .bool false] RD (0, 0)) := k
    have c0 : w.cell? ⟨b, 0, none⟩ = some (.string (mkB l)) := by rw [Lib.cell_of_heap hs]; rfl
    have c1 : w.cell? ⟨b, 1, none⟩ = some (.bool false) := by rw [Lib.cell_of_heap hs]; rfl
    have e : ended (some l) = l.isEmpty := by unfold ended; cases l <;> rfl
    have tl := toList_mkB l
    rw [e]
    clear k hs e
    go_enter Try.func30, Try.ntmps30
    go_wp2
    go_ret
    exact ⟨rfl, rfl⟩
set_option maxHeartbeats 1000000 in
theorem text_dc (b : Nat) (o : St) (most : Int) (w : World) (k : Rd RD b o w) (hm : (Lit.int .i64 most).wf = true) (hl : left o ≤ 1000000) :
    Calls Try.prog 25 #[self b, .int .i64 most] w fun e w' => e = .returned (.string (mkB (text o most).1)) ∧ Rd RD b (text o most).2 w' ∧ Apart b w w' := by
  have IR := Lib.hid (int_dc b o most w k hm hl)
  have hl2 := int_left (most := most) hl
  have ht : text o most = match (int o most).2 with
    | none => ([], none)
    | some r => if (int o most).1 ≤ r.length then (r.take (int o most).1, some (r.drop (int o most).1)) else ([], none) := rfl
  clear k
  generalize int o most = x at *
  obtain ⟨n, o'⟩ := x
  simp only at *
  cases o' with
  | none =>
    simp only at ht
    rw [ht]
    clear ht
    go_enter Try.func25, Try.ntmps25
    go_wp2_with fail
    (with_reducible refine IR.out.mono ?_)
    rintro e w1 ⟨rfl, k1, a1⟩
    clear IR
    have SP : Hid (Rd RD b none (w1.setCell ⟨b, 1, none⟩ (.bool true)) ∧ Apart b w (w1.setCell ⟨b, 1, none⟩ (.bool true))) := Lib.hid ⟨(k1.spoiled (Below.refl _ _)).1, a1.trans (k1.spoiled (Below.refl _ _)).2⟩
    obtain ⟨s, hs⟩ := k1.cells
    have c1 : w1.cell? ⟨b, 1, none⟩ = some (.bool true) := by rw [Lib.cell_of_heap hs]; rfl
    have f1 : w1.frozen? ⟨b, 1, none⟩ = false := Lib.frozen_of_heap hs 1
    clear k1 a1 hs
    go_wp2
    go_ret
    exact ⟨rfl, SP.out⟩
  | some r =>
    simp only at ht
    have e1 : left (some r) = r.length := rfl
    rw [e1] at hl2
    have sz : (mkB r).size = r.length := mkB_size r
    by_cases hle : n ≤ r.length
    · rw [if_pos hle] at ht
      rw [ht]
      clear ht e1
      have x1 : (mkB r).extract 0 n = mkB (r.take n) := mkB_ext (by rw [extract_list, mkB_data]; simp)
      have x2 : (mkB r).extract n (mkB r).size = mkB (r.drop n) := mkB_ext (by rw [extract_list, mkB_data, mkB_size]; simp)
      have j1 : (n : Int) ≤ ((mkB r).size : Int) := by rw [sz]; omega
      have SZ := Lib.hid sz
      clear sz
      go_enter Try.func25, Try.ntmps25
      go_wp2_with fail
      (with_reducible refine IR.out.mono ?_)
      rintro e w1 ⟨rfl, k1, a1⟩
      clear IR
      have hs : w1.heap[b]? = some (.cells #[.string (mkB r), .bool false] RD (0, 0)) := k1
      have c0 : w1.cell? ⟨b, 0, none⟩ = some (.string (mkB r)) := by rw [Lib.cell_of_heap hs]; rfl
      have c1 : w1.cell? ⟨b, 1, none⟩ = some (.bool false) := by rw [Lib.cell_of_heap hs]; rfl
      have f0 : w1.frozen? ⟨b, 0, none⟩ = false := Lib.frozen_of_heap hs 0
      have H : Hid (Rd RD b (some (r.drop n)) (w1.setCell ⟨b, 0, none⟩ (.string (mkB (r.drop n)))) ∧ Apart b w (w1.setCell ⟨b, 0, none⟩ (.string (mkB (r.drop n))))) := Lib.hid ⟨by
        show (w1.setCell ⟨b, 0, none⟩ (.string (mkB (r.drop n)))).heap[b]? = _
        simp [World.setCell, Array.getElem?_modify, hs], a1.setCell _ _⟩
      clear k1 a1 hs
      go_wp2
      go_ret
      exact ⟨rfl, H.out⟩
    · rw [if_neg hle] at ht
      rw [ht]
      clear ht e1
      have j1 : ((mkB r).size : Int) < (n : Int) := by rw [sz]; omega
      clear sz hle
      go_enter Try.func25, Try.ntmps25
      go_wp2_with fail
      (with_reducible refine IR.out.mono ?_)
      rintro e w1 ⟨rfl, k1, a1⟩
      clear IR
      have SP : Hid (Rd RD b none (w1.setCell ⟨b, 1, none⟩ (.bool true)) ∧ Apart b w (w1.setCell ⟨b, 1, none⟩ (.bool true))) := Lib.hid ⟨(k1.spoiled (Below.refl _ _)).1, a1.trans (k1.spoiled (Below.refl _ _)).2⟩
      have hs : w1.heap[b]? = some (.cells #[.string (mkB r), .bool false] RD (0, 0)) := k1
      have c0 : w1.cell? ⟨b, 0, none⟩ = some (.string (mkB r)) := by rw [Lib.cell_of_heap hs]; rfl
      have c1 : w1.cell? ⟨b, 1, none⟩ = some (.bool false) := by rw [Lib.cell_of_heap hs]; rfl
      have f1 : w1.frozen? ⟨b, 1, none⟩ = false := Lib.frozen_of_heap hs 1
      clear k1 a1 hs
      go_wp2
      go_ret
      exact ⟨rfl, SP.out⟩
/-- s, cut to at most n bytes -/
def cut (s : ByteArray) (n : Nat) : ByteArray := if n < s.size then s.extract 0 n else s
theorem cut_size (s : ByteArray) (n : Nat) : (cut s n).size ≤ n := by
  unfold cut; split
  · simp [ByteArray.size_extract]; omega
  · omega
theorem short_any (s : ByteArray) (n : Nat) (w : World) (hn : n < 1000) :
    Calls Try.prog 9 #[.string s, .int .i64 (n : Int)] w fun e w' => e = .returned (.string (cut s n)) ∧ w' = w := by
  by_cases h : n < s.size
  · have e : cut s n = s.extract 0 n := if_pos h
    rw [e]; clear e
    go_enter Try.func9, Try.ntmps9
    go_wp2
    go_ret
    exact ⟨rfl, rfl⟩
  · have e : cut s n = s := if_neg h
    rw [e]; clear e
    have h' : s.size ≤ n := by omega
    clear h
    go_enter Try.func9, Try.ntmps9
    go_wp2
    go_ret
    exact ⟨rfl, rfl⟩
end Go.Proofs.Ythmbnnbdphobiaa
