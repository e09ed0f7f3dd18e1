/- A reader's Text. -/
import Derived.Test.YthmbnnbdphobiaaOcR
import Derived.Lib.BufferWrite
import Derived.Laws.MakeOwn
namespace Go.Proofs.Ythmbnnbdphobiaa
open Go.ChangeShapes Go.WideShapes Go.ChangeAt Go.RowKit Go.Joins
set_option linter.unusedVariables false
set_option linter.unusedSimpArgs false
theorem below_setRow {B g : Nat} {w0 w : World} (h : Below B w0 w) (hg : B ≤ g) (Y : Array Value) : Below B w0 (w.setRow g Y) :=
  h.trans ⟨rfl, rfl, rfl, by simp, fun k hk => setRow_other _ _ _ _ (by omega)⟩
set_option maxHeartbeats 1000000 in
set_option maxRecDepth 100000 in
theorem clone_in (s : ByteArray) (w : World) (hs : s.size ≤ 1000000) :
    Calls Try.prog 43 #[.string s] w fun e w' => e = .returned (.string s) ∧ Below w.heap.size w w' := by
  by_cases h0 : s.size = 0
  · have e0 : s.data.toList = [] := List.eq_nil_of_length_eq_zero (by rw [list_size]; exact h0)
    have es : s = ⟨#[]⟩ := by rw [← mkB_of s, e0]; rfl
    clear e0
    subst es
    go_enter Try.func43, Try.ntmps43
    go_wp2
    go_ret
    exact ⟨rfl, Below.refl _ _⟩
  · obtain ⟨i0, hi, hz0, hz1, hz2⟩ := info_parts infoByte
    generalize hM : madeCells (Value.int .u8 0).cells (((s.size : Nat) : Int).toNat * i0.size) = M
    have hMs : M.size = s.size := by rw [← hM, size_madeCells, hz1]; simp
    have mk : ∀ W : World, (Instr.makeSlice 26 (.int .i64 (s.size : Int)) (.int .i64 (s.size : Int))).run Try.prog W = .ok (.slice (some ⟨W.heap.size, 0, none⟩) s.size s.size) (W.alloc (.cells M 5)) := fun W => by
      have h := run_make (P := Try.prog) W 26 5 i0 (.int .u8 0) Try.underlying26 hi hz0 .i64 .i64 (s.size : Int) (s.size : Int) (by omega) (by omega) (by rw [hz2]; omega) (by omega)
      rw [hM] at h
      simpa using h
    clear hM
    have cp := Lib.run_copy_row_string (P := Try.prog) (w.alloc (.cells M 5)) 26 9 3 5 w.heap.size 0 s.size s.size s M 5 Try.underlying26 (by rw [hi]; simp [hz1]) (heap_alloc_new w _) (Nat.le_refl _) (by omega)
    generalize hY : (M.toList.take 0 ++ Lib.byteCells s.data.toList ++ M.toList.drop (0 + s.size)).toArray = Y at cp
    have yl : Y.toList = Lib.byteCells s.data.toList := by
      rw [← hY, List.toList_toArray, List.take_zero, List.nil_append, List.drop_of_length_le (by rw [Array.length_toList]; omega), List.append_nil]
    have ys : Y.size = s.size := by rw [← Array.length_toList, yl, Lib.byteCells_length, list_size]
    have hg : ((w.alloc (.cells M 5)).setRow w.heap.size Y).heap[w.heap.size]? = some (.cells Y 5 (0, 0)) := setRow_heap _ _ M _ 5 (0, 0) (heap_alloc_new w _)
    have us := Lib.run_unsafeString_row (P := Try.prog) ((w.alloc (.cells M 5)).setRow w.heap.size Y) 69 3 9 5 Try.underlying69 cellsByte w.heap.size Y.size (by unfold World.shape?; rw [hg]) s.data.toList (fun e => h0 (by rw [← list_size, e]; rfl)) (by rw [list_size]; omega) (by rw [list_size]; omega)
      (fun j x hx => by
        rw [show (⟨w.heap.size, 0, none⟩ : Addr).add j = ⟨w.heap.size, j, none⟩ by unfold Addr.add; split <;> simp_all, Lib.cell_of_heap hg, ← Array.getElem?_toList, yl]
        simp [Lib.byteCells, hx])
    rw [list_size] at us
    clear hY yl
    go_enter Try.func43, Try.ntmps43
    go_wp2
    go_ret
    exact ⟨by simp, Lib.below_freeze (below_setRow ((Below.refl _ w).alloc (Nat.le_refl _) _) (Nat.le_refl _) _) (p := ⟨w.heap.size, 0, none⟩) (Nat.le_refl _) _⟩
theorem clone_any (s : ByteArray) (w : World) (hs : s.size ≤ 1000000) :
    Calls Try.prog 40 #[.string s] w fun e w' => e = .returned (.string s) ∧ Below w.heap.size w w' := by
  have C := Lib.hid (clone_in s w hs)
  go_enter Try.func40, Try.ntmps40
  go_wp2_with fail
  (with_reducible refine C.out.mono ?_)
  rintro e w1 ⟨rfl, b1⟩
  go_wp2
  go_ret
  exact ⟨rfl, b1⟩
theorem int_left {o : St} {most : Int} (hl : left o ≤ 1000000) : left (int o most).2 ≤ 1000000 := by
  unfold int
  split
  · simp [left]
  · cases h : (num o most.toNat).2 with
    | none => simp [left]
    | some r =>
      obtain ⟨l, rfl, hlt, -⟩ := num_shorter h
      simp only [left] at hl ⊢
      omega
set_option maxHeartbeats 1000000 in
set_option maxRecDepth 100000 in
theorem text_rd (b : Nat) (o : St) (most : Int) (w : World) (k : Rd RC b o w) (hm : (Lit.int .i64 most).wf = true) (hl : left o ≤ 1000000) :
    Calls Try.prog 24 #[self b, .int .i64 most] w fun e w' => e = .returned (.string (mkB (text o most).1)) ∧ Rd RC b (text o most).2 w' ∧ Apart b w w' := by
  have IR := Lib.hid (int_rd b o most w k hm hl)
  have hl2 := int_left (most := most) hl
  have hi : (int o most).1 ≤ 9223372036854775807 := by
    have hb : -9223372036854775808 ≤ most ∧ most ≤ 9223372036854775807 := by
      simp [Lit.wf, IntKind.min, IntKind.max, IntKind.bits, IntKind.signed] at hm; omega
    unfold int
    split
    · simp
    · have := num_most o most.toNat
      omega
  have hz0 : (int o most).2 = none → (int o most).1 = 0 := by
    unfold int
    split
    · simp
    · intro h
      unfold num at h ⊢
      cases o with
      | none => rfl
      | some l =>
        simp only at h ⊢
        cases hd : dec l with
        | none => simp
        | some x =>
          obtain ⟨n, r⟩ := x
          rw [hd] at h
          simp only at h ⊢
          split at h
          · cases h
          · rename_i hh; rw [if_neg hh]
  have ht : text o most = match (int o most).2 with
    | none => ([], none)
    | some r => if (int o most).1 ≤ r.length then (r.take (int o most).1, some (r.drop (int o most).1)) else ([], none) := rfl
  clear k
  generalize int o most = x at *
  obtain ⟨n, o'⟩ := x
  simp only at *
  cases o' with
  | none =>
    have hz := hz0 rfl
    subst hz
    simp only at ht
    rw [ht]
    clear ht hz0
    have LR := Lib.hid (fun w k => left_rd b none w k)
    have GA := Lib.hid (fun w k => good_any b none w k)
    go_enter Try.func24, Try.ntmps24
    go_wp2_with fail
    (with_reducible refine IR.out.mono ?_)
    rintro e w1 ⟨rfl, k1, a1⟩
    clear IR
    go_wp2_with fail
    (with_reducible refine (LR.out _ k1).mono ?_)
    rintro e w2 ⟨rfl, rfl⟩
    clear LR
    simp only [left]
    go_wp2_with fail
    (with_reducible refine (GA.out _ k1).mono ?_)
    rintro e w3 ⟨rfl, rfl⟩
    clear GA
    have H := Lib.hid (And.intro k1 a1)
    clear k1 a1
    go_wp2
    go_ret
    exact ⟨rfl, H.out⟩
  | some r =>
    simp only at ht
    clear hz0
    have LR := Lib.hid (fun w k => left_rd b (some r) w k)
    have GA := Lib.hid (fun w k => good_any b (some r) w k)
    have e1 : left (some r) = r.length := rfl
    rw [e1] at LR hl2
    by_cases hle : n ≤ r.length
    · rw [if_pos hle] at ht
      rw [ht]
      clear ht e1
      have x1 : (mkB r).extract 0 n = mkB (r.take n) := mkB_ext (by rw [extract_list, mkB_data]; simp)
      have x2 : (mkB r).extract n (mkB r).size = mkB (r.drop n) := mkB_ext (by rw [extract_list, mkB_data, mkB_size]; simp)
      have sz : (mkB r).size = r.length := mkB_size r
      have CL := Lib.hid (fun w => clone_any (mkB (r.take n)) w (by rw [mkB_size]; simp; omega))
      go_enter Try.func24, Try.ntmps24
      go_wp2_with fail
      (with_reducible refine IR.out.mono ?_)
      rintro e w1 ⟨rfl, k1, a1⟩
      clear IR
      go_wp2_with fail
      (with_reducible refine (LR.out _ k1).mono ?_)
      rintro e w2 ⟨rfl, rfl⟩
      clear LR
      go_wp2_with fail
      (with_reducible refine (GA.out _ k1).mono ?_)
      rintro e w3 ⟨rfl, rfl⟩
      clear GA
      have hs : w3.heap[b]? = some (.cells #[.string (mkB r), .bool false] RC (0, 0)) := k1
      have c0 : w3.cell? ⟨b, 0, none⟩ = some (.string (mkB r)) := by rw [Lib.cell_of_heap hs]; rfl
      have j1 : (n : Int) ≤ ((mkB r).size : Int) := by rw [sz]; omega
      have SZ := Lib.hid sz
      clear sz
      go_wp2_with fail
      (with_reducible refine (CL.out _).mono ?_)
      rintro e w4 ⟨rfl, b4⟩
      have hs4 : w4.heap[b]? = some (.cells #[.string (mkB r), .bool false] RC (0, 0)) := by rw [b4.block b (lt_of_heap hs)]; exact hs
      have c4 : w4.cell? ⟨b, 0, none⟩ = some (.string (mkB r)) := by rw [Lib.cell_of_heap hs4]; rfl
      have f4 : w4.frozen? ⟨b, 0, none⟩ = false := Lib.frozen_of_heap hs4 0
      have H : Hid (Rd RC b (some (r.drop n)) (w4.setCell ⟨b, 0, none⟩ (.string (mkB (r.drop n)))) ∧ Apart b w (w4.setCell ⟨b, 0, none⟩ (.string (mkB (r.drop n))))) := Lib.hid ⟨by
        show (w4.setCell ⟨b, 0, none⟩ (.string (mkB (r.drop n)))).heap[b]? = _
        simp [World.setCell, Array.getElem?_modify, hs4], (a1.trans (Apart.of_below (b := b) b4)).setCell _ _⟩
      clear k1 a1 hs hs4 c0 b4 CL
      go_wp2
      go_ret
      exact ⟨rfl, H.out⟩
    · rw [if_neg hle] at ht
      rw [ht]
      clear ht e1
      have hgt : (r.length : Int) < (n : Int) := by omega
      have GN := Lib.hid (fun w k => good_any b none w k)
      clear hle GA
      go_enter Try.func24, Try.ntmps24
      go_wp2_with fail
      (with_reducible refine IR.out.mono ?_)
      rintro e w1 ⟨rfl, k1, a1⟩
      clear IR
      go_wp2_with fail
      (with_reducible refine (LR.out _ k1).mono ?_)
      rintro e w2 ⟨rfl, rfl⟩
      clear LR
      go_wp2_with fail
      (with_reducible refine (spoil_any _ _ _ k1).mono ?_)
      rintro e w3 ⟨rfl, k3, a3⟩
      go_wp2_with fail
      (with_reducible refine (GN.out _ k3).mono ?_)
      rintro e w4 ⟨rfl, rfl⟩
      have H := Lib.hid (And.intro k3 (a1.trans a3))
      clear k1 k3 a1 a3 GN
      go_wp2
      go_ret
      exact ⟨rfl, H.out⟩
theorem text_rnil (most : Int) (w : World) :
    Calls Try.prog 24 #[.pointer none, .int .i64 most] w fun e w' => e = .returned (.string ⟨#[]⟩) ∧ w' = w := by
  have IN := Lib.hid int_rnil
  have LN := Lib.hid left_rnil
  have GN := Lib.hid good_nil
  go_enter Try.func24, Try.ntmps24
  go_wp2_with (first | ((with_reducible refine (IN.out _ _).mono ?_); rintro e w1 ⟨rfl, rfl⟩) | ((with_reducible refine (LN.out _).mono ?_); rintro e w1 ⟨rfl, rfl⟩) | ((with_reducible refine (GN.out _).mono ?_); rintro e w1 ⟨rfl, rfl⟩))
  go_ret
  exact ⟨rfl, rfl⟩
end Go.Proofs.Ythmbnnbdphobiaa
