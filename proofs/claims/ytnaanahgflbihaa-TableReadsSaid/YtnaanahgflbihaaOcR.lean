/- The reader's methods. -/
import Derived.Test.YtnaanahgflbihaaOcN
namespace Go.Proofs.Ytnaanahgflbihaa.Oc
open Go.ChangeShapes Go.WideShapes Go.ChangeAt Go.RowKit Go.Joins
set_option maxRecDepth 100000
set_option linter.unusedVariables false
set_option linter.unusedSimpArgs false
/-- a reader at block b, of type T: of what is left, or a bad one -/
def Rd (T b : Nat) (o : St) (w : World) : Prop := match o with
  | some l => w.heap[b]? = some (.cells #[.string (mkB l), .bool false] T (0, 0))
  | none => ∃ s, w.heap[b]? = some (.cells #[.string s, .bool true] T (0, 0))
theorem Rd.cells {T b : Nat} {o : St} {w : World} (k : Rd T b o w) : ∃ s, w.heap[b]? = some (.cells #[.string s, .bool (!o.isSome)] T (0, 0)) := by
  cases o with
  | none => exact k
  | some l => exact ⟨_, k⟩
theorem Rd.of_block {T b : Nat} {o : St} {w w' : World} (k : Rd T b o w) (h : w'.heap[b]? = w.heap[b]?) : Rd T b o w' := by
  cases o with
  | none => obtain ⟨s, hs⟩ := k; exact ⟨s, h.trans hs⟩
  | some l => exact h.trans k
theorem Rd.lt {T b : Nat} {o : St} {w : World} (k : Rd T b o w) : b < w.heap.size := by obtain ⟨s, h⟩ := k.cells; exact lt_of_heap h
theorem Rd.call {T b : Nat} {o : St} {w w' : World} (k : Rd T b o w) (h : Below w.heap.size w w') : Rd T b o w' := k.of_block (h.block b k.lt)
theorem Rd.apart {T b c : Nat} {o : St} {w w' : World} (k : Rd T b o w) (h : Apart c w w') (hc : b ≠ c) : Rd T b o w' := k.of_block (h.block b k.lt hc)
abbrev RC : Nat := 103
theorem good_any (b : Nat) (o : St) (w : World) (k : Rd RC b o w) :
    Calls Try.prog 46 #[self b] w fun e w' => e = .returned (.bool o.isSome) ∧ w' = w := by
  obtain ⟨s, hs⟩ := k.cells
  have c1 : w.cell? ⟨b, 1, none⟩ = some (.bool (!o.isSome)) := by rw [Lib.cell_of_heap hs]; rfl
  clear hs k
  go_enter Try.func46, Try.ntmps46
  go_wp2
  go_ret
  exact ⟨rfl, rfl⟩
theorem good_nil (w : World) :
    Calls Try.prog 46 #[.pointer none] w fun e w' => e = .returned (.bool false) ∧ w' = w := by
  go_enter Try.func46, Try.ntmps46
  go_wp2
  go_ret
  exact ⟨rfl, rfl⟩
theorem spoil_any (b : Nat) (o : St) (w : World) (k : Rd RC b o w) :
    Calls Try.prog 68 #[self b] w fun e w' => e = .returned (.tuple #[]) ∧ Rd RC b none w' ∧ Apart b w w' := by
  obtain ⟨s, hs⟩ := k.cells
  have c0 : w.cell? ⟨b, 0, none⟩ = some (.string s) := by rw [Lib.cell_of_heap hs]; rfl
  have c1 : w.cell? ⟨b, 1, none⟩ = some (.bool (!o.isSome)) := by rw [Lib.cell_of_heap hs]; rfl
  have f0 : w.frozen? ⟨b, 0, none⟩ = false := Lib.frozen_of_heap hs 0
  have f1 : w.frozen? ⟨b, 1, none⟩ = false := Lib.frozen_of_heap hs 1
  clear k
  go_enter Try.func68, Try.ntmps68
  go_wp2
  go_end0
  refine ⟨rfl, ⟨⟨#[]⟩, ?_⟩, ?_⟩
  · simp [World.setCell, Array.getElem?_modify, hs]
  · exact ((Apart.refl b w).setCell _ _).setCell _ _
theorem num_no {l : List UInt8} (h : dec l = none) (most : Nat) : num (some l) most = (0, none) := by unfold num; simp only [h]
theorem num_le {l : List UInt8} {n most : Nat} {r : List UInt8} (h : dec l = some (n, r)) (hm : n ≤ most) : num (some l) most = (n, some r) := by unfold num; simp only [h, if_pos hm]
theorem num_gt {l : List UInt8} {n most : Nat} {r : List UInt8} (h : dec l = some (n, r)) (hm : ¬ n ≤ most) : num (some l) most = (0, none) := by unfold num; simp only [h, if_neg hm]
theorem num_rd (b : Nat) (o : St) (most : Nat) (w : World) (k : Rd RC b o w) (hm : most < 18446744073709551616) (hl : left o ≤ 1000000) :
    Calls Try.prog 69 #[self b, .int .u64 (most : Int)] w fun e w' => e = .returned (.int .u64 ((num o most).1 : Int)) ∧ Rd RC b (num o most).2 w' ∧ Apart b w w' := by
  have GA := Lib.hid (good_any b o w k)
  cases o with
  | none =>
    have K := Lib.hid k
    clear k
    go_enter Try.func69, Try.ntmps69
    go_wp2_with fail
    (with_reducible refine GA.out.mono ?_)
    rintro e w1 ⟨rfl, rfl⟩
    go_wp2
    go_ret
    exact ⟨rfl, K.out, Apart.refl _ _⟩
  | some l =>
    have hs : w.heap[b]? = some (.cells #[.string (mkB l), .bool false] RC (0, 0)) := k
    have c0 : w.cell? ⟨b, 0, none⟩ = some (.string (mkB l)) := by rw [Lib.cell_of_heap hs]; rfl
    have f0 : w.frozen? ⟨b, 0, none⟩ = false := Lib.frozen_of_heap hs 0
    have NX := Lib.hid (fun w => next_any (mkB l) w (by rw [mkB_size]; exact hl))
    rw [mkB_data] at NX
    have K := Lib.hid k
    clear k hs
    cases hd : dec l with
    | none =>
      rw [nextR_none hd] at NX
      rw [num_no hd]
      clear hd
      go_enter Try.func69, Try.ntmps69
      go_wp2_with fail
      (with_reducible refine GA.out.mono ?_)
      rintro e w1 ⟨rfl, rfl⟩
      clear GA
      go_wp2_with fail
      (with_reducible refine (NX.out _).mono ?_)
      rintro e w2 ⟨rfl, b2⟩
      have K2 := K.out.call b2
      clear K NX c0 f0
      go_wp2_with fail
      (with_reducible refine (spoil_any _ _ _ K2).mono ?_)
      rintro e w3 ⟨rfl, k3, a3⟩
      have H := Lib.hid (And.intro k3 ((Apart.of_below (b := b) b2).trans a3))
      clear k3 a3 b2 K2
      go_wp2
      go_ret
      exact ⟨rfl, H.out⟩
    | some x =>
      obtain ⟨n, r⟩ := x
      rw [nextR_some hd] at NX
      have hn64 := (dec_some hd).2
      by_cases hle : n ≤ most
      · rw [num_le hd hle]
        clear hd
        go_enter Try.func69, Try.ntmps69
        go_wp2_with fail
        (with_reducible refine GA.out.mono ?_)
        rintro e w1 ⟨rfl, rfl⟩
        clear GA
        go_wp2_with fail
        (with_reducible refine (NX.out _).mono ?_)
        rintro e w2 ⟨rfl, b2⟩
        have K2 := K.out.call b2
        have hs : w2.heap[b]? = some (.cells #[.string (mkB l), .bool false] RC (0, 0)) := K2
        have c2 : w2.cell? ⟨b, 0, none⟩ = some (.string (mkB l)) := by rw [Lib.cell_of_heap hs]; rfl
        have f2 : w2.frozen? ⟨b, 0, none⟩ = false := Lib.frozen_of_heap hs 0
        have H : Hid (Rd RC b (some r) (w2.setCell ⟨b, 0, none⟩ (.string (mkB r))) ∧ Apart b w1 (w2.setCell ⟨b, 0, none⟩ (.string (mkB r)))) := Lib.hid ⟨by
          show (w2.setCell ⟨b, 0, none⟩ (.string (mkB r))).heap[b]? = _
          simp [World.setCell, Array.getElem?_modify, hs], (Apart.of_below (b := b) b2).setCell _ _⟩
        clear K K2 NX c0 f0 b2 hs
        go_wp2
        go_ret
        exact ⟨rfl, H.out⟩
      · rw [num_gt hd hle]
        have hgt : (most : Int) < (n : Int) := by omega
        clear hd hle
        go_enter Try.func69, Try.ntmps69
        go_wp2_with fail
        (with_reducible refine GA.out.mono ?_)
        rintro e w1 ⟨rfl, rfl⟩
        clear GA
        go_wp2_with fail
        (with_reducible refine (NX.out _).mono ?_)
        rintro e w2 ⟨rfl, b2⟩
        have K2 := K.out.call b2
        clear K NX c0 f0
        go_wp2_with fail
        (with_reducible refine (spoil_any _ _ _ K2).mono ?_)
        rintro e w3 ⟨rfl, k3, a3⟩
        have H := Lib.hid (And.intro k3 ((Apart.of_below (b := b) b2).trans a3))
        clear k3 a3 b2 K2
        go_wp2
        go_ret
        exact ⟨rfl, H.out⟩
theorem num_rnil (n : Int) (w : World) :
    Calls Try.prog 69 #[.pointer none, .int .u64 n] w fun e w' => e = .returned (.int .u64 0) ∧ w' = w := by
  go_enter Try.func69, Try.ntmps69
  go_wp2_with ((with_reducible refine (good_nil _).mono ?_); rintro e w1 ⟨rfl, rfl⟩)
  go_ret
  exact ⟨rfl, rfl⟩
theorem int_rd (b : Nat) (o : St) (most : Int) (w : World) (k : Rd RC b o w) (hm : (Lit.int .i64 most).wf = true) (hl : left o ≤ 1000000) :
    Calls Try.prog 44 #[self b, .int .i64 most] w fun e w' => e = .returned (.int .i64 ((int o most).1 : Int)) ∧ Rd RC b (int o most).2 w' ∧ Apart b w w' := by
  have hb : -9223372036854775808 ≤ most ∧ most ≤ 9223372036854775807 := by
    simp [Lit.wf, IntKind.min, IntKind.max, IntKind.bits, IntKind.signed] at hm; omega
  clear hm
  by_cases h0 : most < 0
  · have e : int o most = (0, none) := if_pos h0
    rw [e]
    have SP := Lib.hid (spoil_any b o w k)
    clear k e
    go_enter Try.func44, Try.ntmps44
    go_wp2_with fail
    (with_reducible refine SP.out.mono ?_)
    rintro e w1 ⟨rfl, hf⟩
    have H := Lib.hid hf
    clear hf SP
    go_wp2
    go_ret
    exact ⟨rfl, H.out⟩
  · have e : int o most = num o most.toNat := if_neg h0
    have h1 : 0 ≤ most := by omega
    rw [e]
    have NR := Lib.hid (num_rd b o most.toNat w k (by omega) hl)
    have hmo := num_most o most.toNat
    generalize num o most.toNat = x at *
    obtain ⟨n, o'⟩ := x
    simp only at hmo NR ⊢
    rw [show (most.toNat : Int) = most by omega] at NR
    have hn : n ≤ 9223372036854775807 := by omega
    clear k e h0 hmo
    go_enter Try.func44, Try.ntmps44
    go_wp2_with fail
    (with_reducible refine NR.out.mono ?_)
    rintro e w1 ⟨rfl, hf⟩
    have H := Lib.hid hf
    clear hf NR
    go_wp2
    go_ret
    exact ⟨rfl, H.out⟩
theorem spoil_nil (w : World) :
    Calls Try.prog 68 #[.pointer none] w fun e w' => e = .returned (.tuple #[]) ∧ w' = w := by
  go_enter Try.func68, Try.ntmps68
  go_wp2
  go_end0
  exact ⟨rfl, rfl⟩
theorem int_rnil (most : Int) (w : World) :
    Calls Try.prog 44 #[.pointer none, .int .i64 most] w fun e w' => e = .returned (.int .i64 0) ∧ w' = w := by
  have SN := Lib.hid spoil_nil
  have NN := Lib.hid num_rnil
  by_cases h0 : most < 0
  · go_enter Try.func44, Try.ntmps44
    go_wp2_with ((with_reducible refine (SN.out _).mono ?_); rintro e w1 ⟨rfl, rfl⟩)
    go_ret
    exact ⟨rfl, rfl⟩
  · have h1 : 0 ≤ most := by omega
    clear h0
    go_enter Try.func44, Try.ntmps44
    go_wp2_with ((with_reducible refine (NN.out _ _).mono ?_); rintro e w1 ⟨rfl, rfl⟩)
    go_ret
    exact ⟨rfl, rfl⟩
theorem flag_rd (b : Nat) (o : St) (w : World) (k : Rd RC b o w) (hl : left o ≤ 1000000) :
    Calls Try.prog 71 #[self b] w fun e w' => e = .returned (.bool (flag o).1) ∧ Rd RC b (flag o).2 w' ∧ Apart b w w' := by
  have NR : Hid (Calls Try.prog 69 #[self b, .int .u64 1] w fun e w' => e = .returned (.int .u64 ((num o 1).1 : Int)) ∧ Rd RC b (num o 1).2 w' ∧ Apart b w w') := Lib.hid (num_rd b o 1 w k (by omega) hl)
  have e1 : (flag o).1 = ((num o 1).1 == 1) := rfl
  have e2 : (flag o).2 = (num o 1).2 := rfl
  rw [e1, e2]
  generalize num o 1 = x at *
  obtain ⟨n, o'⟩ := x
  simp only at NR ⊢
  have d : ((n : Int) == 1) = (n == 1) := by rw [Bool.eq_iff_iff]; simp; omega
  clear k e1 e2
  go_enter Try.func71, Try.ntmps71
  go_wp2_with fail
  (with_reducible refine NR.out.mono ?_)
  rintro e w1 ⟨rfl, hf⟩
  have H := Lib.hid hf
  clear hf NR
  go_wp2
  go_ret
  exact ⟨rfl, H.out⟩
theorem flag_rnil (w : World) :
    Calls Try.prog 71 #[.pointer none] w fun e w' => e = .returned (.bool false) ∧ w' = w := by
  have NN := Lib.hid num_rnil
  go_enter Try.func71, Try.ntmps71
  go_wp2_with ((with_reducible refine (NN.out _ _).mono ?_); rintro e w1 ⟨rfl, rfl⟩)
  go_ret
  exact ⟨rfl, rfl⟩
theorem toList_mkB (l : List UInt8) : (mkB l).toList = l := by rw [ByteArray.toList_eq, mkB_data]
theorem end_rd (b : Nat) (o : St) (w : World) (k : Rd RC b o w) :
    Calls Try.prog 47 #[self b] w fun e w' => e = .returned (.bool (ended o)) ∧ w' = w := by
  have GA := Lib.hid (good_any b o w k)
  cases o with
  | none =>
    clear k
    go_enter Try.func47, Try.ntmps47
    go_wp2_with fail
    (with_reducible refine GA.out.mono ?_)
    rintro e w1 ⟨rfl, rfl⟩
    go_wp2
    go_ret
    exact ⟨rfl, rfl⟩
  | some l =>
    have hs : w.heap[b]? = some (.cells #[.string (mkB l), .bool false] RC (0, 0)) := k
    have c0 : w.cell? ⟨b, 0, none⟩ = some (.string (mkB l)) := by rw [Lib.cell_of_heap hs]; rfl
    have e : ended (some l) = l.isEmpty := by unfold ended; cases l <;> rfl
    have tl := toList_mkB l
    rw [e]
    clear k hs e
    go_enter Try.func47, Try.ntmps47
    go_wp2_with fail
    (with_reducible refine GA.out.mono ?_)
    rintro e w1 ⟨rfl, rfl⟩
    go_wp2
    go_ret
    exact ⟨rfl, rfl⟩
theorem end_rnil (w : World) :
    Calls Try.prog 47 #[.pointer none] w fun e w' => e = .returned (.bool false) ∧ w' = w := by
  have NN := Lib.hid good_nil
  go_enter Try.func47, Try.ntmps47
  go_wp2_with ((with_reducible refine (NN.out _).mono ?_); rintro e w1 ⟨rfl, rfl⟩)
  go_ret
  exact ⟨rfl, rfl⟩
theorem read_any (s : ByteArray) (w : World) :
    Calls Try.prog 43 #[.string s] w fun e w' => e = .returned (self w.heap.size) ∧ w' = w.alloc (.cells #[.string s, .bool false] RC) := by
  go_enter Try.func43, Try.ntmps43
  go_wp2
  go_ret
  exact ⟨rfl, rfl⟩
end Go.Proofs.Ytnaanahgflbihaa.Oc
