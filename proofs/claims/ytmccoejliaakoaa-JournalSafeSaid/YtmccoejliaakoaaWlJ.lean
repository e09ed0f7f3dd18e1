/- Rows of texts put behind one another; how the tries of a statement are opened. -/
import Derived.Test.YtmccoejliaakoaaMWd
import Derived.Test.YtmccoejliaakoaaMDc
import Derived.Deep.Strs
namespace Go.Proofs.Ytmccoejliaakoaa.Wl
open Go.ChangeShapes Go.WideShapes Go.ChangeAt Go.RowKit Go.Joins
open Dk (Dk DS Own Moved ptr)
open Dk (Fats In64 in64_wf one_of fates_of addr_add)
open Sl (Mv below_drewN strs_of strs_block)
set_option maxRecDepth 100000
set_option linter.unusedVariables false
set_option linter.unusedSimpArgs false
def trC (t : ByteArray) (n : Int) (v : Value) : List Value := [.string t, .int .i64 n, v]
structure TrAt (b o : Nat) (t : ByteArray) (n : Int) (fo : Option Addr) (fs : List (Int × Int)) (fc : Nat) (w : World) : Prop where
  c0 : w.cell? ⟨b, o, none⟩ = some (.string t)
  c1 : w.cell? ⟨b, o + 1, none⟩ = some (.int .i64 n)
  c2 : w.cell? ⟨b, o + 2, none⟩ = some (.slice fo fs.length fc)
  i_n : Dk.In64 n
  fats : Fats fo fs w
  len : fs.length ≤ 9223372036854775807
def Tries (ao : Option Addr) (len : Nat) (w : World) : Prop := 0 < len → ∃ b off, ao = some ⟨b, off, none⟩ ∧ b < w.heap.size ∧ ∀ i, i < len → ∃ t n fo fs fc, TrAt b (off + i * 3) t n fo fs fc w
theorem fates_of2 {H : Type} {enc : TypeId × Value → H} {W : World} {base : Nat} {spare : Nat → Bool} {held : Bool} {v : Value} {fuel : Nat} {x : DataW H × List MemPlace}
    (hf : DataW.trod enc Try.prog W base spare held fuel 33 [v] = some x) : ∃ ao fs fc, v = .slice ao (fs : List (Int × Int)).length fc ∧ fs.length ≤ 9223372036854775807 ∧ Fats ao fs W := by
  obtain ⟨ao, len, cap, rfl⟩ : ∃ ao len cap, v = .slice ao len cap := by
    rcases Go.Deep.open_slice Try.underlying33 hf with ⟨hcs, hx⟩ | ⟨a, len', cap', m, n, D, Pl, hcs, _⟩
    · simp at hcs; exact ⟨none, 0, 0, hcs⟩
    · simp at hcs; exact ⟨some a, len', cap', hcs⟩
  obtain ⟨fs, rfl, h1, h2⟩ := fates_of hf
  exact ⟨ao, fs, cap, rfl, h1, h2⟩
/-- texts that can be read, in whatever row -/
def URow (u : Value) (ds : List (List UInt8)) (w : World) : Prop := (u = .slice none 0 0 ∧ ds = []) ∨ ∃ g o c, u = .slice (some ⟨g, o, none⟩) ds.length c ∧ ∀ j (h : j < ds.length), w.cell? ⟨g, o + j, none⟩ = some (.string (mkB ds[j]))
theorem append_none {P : Program} (w : World) (t e : TypeId) (i : TypeInfo) (ht : P.underlying t = some (.slice e)) (hi : P.info? e = some i) (a : Option Addr) (n c : Nat) (hn : n ≤ c) :
    (Builtin.append_ #[t, t] t #[.slice a n c, .slice none 0 0]).run P w = .ok (.slice a n c) w := by
  cases a with
  | none => simp [Builtin.append_, run_underlying ht, sizeOf, typeInfo, hi, Builtin.lenOf, hn, Builtin.firstCells]
  | some a => simp [Builtin.append_, run_underlying ht, sizeOf, typeInfo, hi, Builtin.lenOf, hn, Builtin.firstCells, storeCells]
theorem build_none (w : World) : (Instr.buildSlice 30 0 #[]).run Try.prog w = .ok (.slice (some ⟨w.heap.size, 0, none⟩) 0 0) (w.alloc (.cells #[] 9)) := by kernel_rfl
theorem strs_empty (w : World) : Strs w.heap.size (w.alloc (.cells #[] 9)) (.slice (some ⟨w.heap.size, 0, none⟩) 0 0) [] :=
  ⟨rfl, .inr ⟨w.heap.size, 0, #[], rfl, Nat.le_refl _, heap_alloc_new _ _, by simp, by simp [maxLen], rfl, rfl⟩⟩
theorem strs_all (B : Nat) (w : World) (v u : Value) (ds es : List (List UInt8)) (h : Strs B w v ds) (hu : URow u es w) (hB : B ≤ w.heap.size) (hn : ds.length + es.length ≤ 100000) :
    ∃ v' w', (Builtin.append_ #[30, 30] 30 #[v, u]).run Try.prog w = .ok v' w' ∧ Strs B w' v' (ds ++ es) ∧ Below B w w' ∧ w.heap.size ≤ w'.heap.size ∧ (∀ (k : Nat) (cs : Array Value) (T : TypeId) (fz : Nat × Nat), w.heap[k]? = some (Obj.cells cs T fz) → T ≠ 9 → w'.heap[k]? = w.heap[k]?) ∧ (∀ k, k < w.heap.size → v.ownBlock ≠ some k → w'.heap[k]? = w.heap[k]?) := by
  obtain ⟨i, hi, hz⟩ := Option.map_eq_some_iff.1 infoStr
  simp only [Prod.mk.injEq] at hz
  obtain ⟨hz, hs, hy⟩ := hz
  rcases hu with ⟨rfl, rfl⟩ | ⟨g, o, c, rfl, hc⟩
  · obtain ⟨va, vc, hv, hvc⟩ : ∃ a c, v = .slice a ds.length c ∧ ds.length ≤ c := by
      rcases h.2 with ⟨rfl, h0⟩ | ⟨g, cap, cur, rfl, _, _, hc, _⟩
      · exact ⟨none, 0, by rw [h0], by omega⟩
      · exact ⟨_, _, rfl, hc⟩
    refine ⟨v, w, ?_, by rw [List.append_nil]; exact h, Below.refl _ _, Nat.le_refl _, fun _ _ _ _ _ _ => rfl, fun _ _ _ => rfl⟩
    subst hv
    exact append_none w _ _ i Try.underlying30 hi va _ vc hvc
  · obtain ⟨v', w', hr, ho, hg, -⟩ := run_append_own (P := Try.prog) w B 30 30 9 i (.string ⟨#[]⟩) 1 16 Try.underlying30 hi hz hs hy rfl (by omega) v ds.length _ h
      ⟨g, o, none⟩ es.length c (es.map fun l => Value.string (mkB l)) (by simp) (fun j u hj => by
        obtain ⟨hj1, rfl⟩ := List.getElem?_eq_some_iff.1 hj
        simp only [List.length_map] at hj1
        rw [addr_add, hc j hj1]
        simp) (fun u hu => by simp at hu; obtain ⟨x, _, rfl⟩ := hu; rfl) (by unfold maxLen; omega) (by omega) hB
    have two : ∀ k, k < w.heap.size → v.ownBlock ≠ some k → w'.heap[k]? = w.heap[k]? := fun k hk hn => hg.block k hk (fun e => hn e.symm)
    refine ⟨v', w', hr, ?_, ⟨hg.os, hg.tape, hg.output, hg.size, fun k hk => two k (by omega) (fun e => ?_)⟩, hg.size, fun k cs T fz hk hT => two k (Dk.lt_of_heap hk) (fun e => ?_), two⟩
    · unfold Strs
      rw [List.map_append, List.length_append]
      exact ho
    · have := (Sl.strs_lt h e).1; omega
    · obtain ⟨cur, hc'⟩ := strs_block h e
      rw [hk] at hc'; cases hc'; exact hT rfl
theorem urow_of {B : Nat} {w : World} {v : Value} {ds : List (List UInt8)} (h : Strs B w v ds) : URow v ds w := by
  cases ds with
  | nil =>
    rcases h.2 with ⟨rfl, h0⟩ | ⟨g, cap, cur, rfl, _⟩
    · exact .inl ⟨rfl, rfl⟩
    · exact .inr ⟨g, 0, cap, rfl, fun j hj => by simp at hj⟩
  | cons x ds =>
    obtain ⟨g, cap, rfl, -, -, hc⟩ := h.cell (by simp)
    exact .inr ⟨g, 0, cap, rfl, fun j hj => by rw [Nat.zero_add]; exact hc j hj⟩
theorem URow.of_cells {u : Value} {ds : List (List UInt8)} {w w' : World} (h : URow u ds w) (e : ∀ k, k < w.heap.size → w'.heap[k]? = w.heap[k]?) : URow u ds w' := by
  rcases h with ⟨rfl, rfl⟩ | ⟨g, o, c, rfl, hc⟩
  · exact .inl ⟨rfl, rfl⟩
  · refine .inr ⟨g, o, c, rfl, fun j hj => ?_⟩
    have hlt := lt_of_cell (hc j hj)
    rw [World.cell?_of_block (w := w) (a := ⟨g, o + j, none⟩) (e g hlt)]
    exact hc j hj
/-- the first n of a row -/
theorem strs_take {B : Nat} {w : World} {a : Option Addr} {c : Nat} {ds : List (List UInt8)} {m : Nat} (h : Strs B w (.slice a m c) ds) {n : Nat} (hn : n ≤ ds.length) :
    (∀ w', (Instr.sliceAt 30 (.slice a m c) none (some (.int .i64 (n : Int))) none).run Try.prog w' = .ok (.slice a n c) w') ∧ Strs B w (.slice a n c) (ds.take n) := by
  have hS : Try.prog.underlying 30 = some (.slice (Try.prog.elem 30)) := by kernel_rfl
  have sz : ∀ w, (sizeOf (Try.prog.elem 30)).run Try.prog w = .ok 1 w := fun w => by kernel_rfl
  rcases h.2 with ⟨hv, h0⟩ | ⟨g, cap, cur, hv, hB, hg, hc, hm, hs, ht⟩
  · cases hv
    have hn0 : n = 0 := by omega
    subst hn0
    refine ⟨fun w' => ?_, ?_⟩
    · rw [run_sliceAt_slice w' _ _ _ _ _ hS, run_slice_h w' _ _ _ _ hS _ _ (by omega) (by omega), sz]
      simp [Result.andThen, sliced]
    · rw [List.take_zero]; exact strs_nil _ _
  · cases hv
    refine ⟨fun w' => ?_, ?_⟩
    · rw [run_sliceAt_slice w' _ _ _ _ _ hS, run_slice_h w' _ _ _ _ hS _ _ (by omega) (by omega), sz]
      simp [Result.andThen, sliced, addr_add]
    · refine ⟨by first | (simp; done) | (simp; omega), .inr ⟨g, c, cur, by rw [List.length_take, Nat.min_eq_left hn], hB, hg, by rw [List.length_take]; omega, hm, hs, ?_⟩⟩
      simp only [Nat.mul_one] at ht ⊢
      rw [List.length_take, Nat.min_eq_left hn, List.map_take, ← ht, List.take_take, Nat.min_eq_left hn]
/-- what stands behind the first n -/
theorem strs_drop {B : Nat} {w : World} {a : Option Addr} {c : Nat} {ds : List (List UInt8)} {m : Nat} (h : Strs B w (.slice a m c) ds) {n : Nat} (hn : n ≤ ds.length) :
    ∃ u, (∀ w', (Instr.sliceAt 30 (.slice a m c) (some (.int .i64 (n : Int))) none none).run Try.prog w' = .ok u w') ∧ URow u (ds.drop n) w := by
  have hS : Try.prog.underlying 30 = some (.slice (Try.prog.elem 30)) := by kernel_rfl
  have sz : ∀ w, (sizeOf (Try.prog.elem 30)).run Try.prog w = .ok 1 w := fun w => by kernel_rfl
  have hcell := h.cell
  rcases h.2 with ⟨hv, h0⟩ | ⟨g, cap, cur, hv, hB, hg, hc, hm, hs, ht⟩
  · cases hv
    have hn0 : n = 0 := by omega
    subst hn0
    refine ⟨.slice none 0 0, fun w' => ?_, .inl ⟨rfl, by rw [List.drop_zero]; exact List.eq_nil_of_length_eq_zero h0⟩⟩
    rw [run_sliceAt_slice w' _ _ _ _ _ hS, run_slice_l w' _ _ _ _ hS _ _ (by omega) (by omega), sz]
    simp [Result.andThen, sliced]
  · cases hv
    refine ⟨sliced (some ⟨g, 0, none⟩) n ds.length c 1, fun w' => ?_, ?_⟩
    · rw [run_sliceAt_slice w' _ _ _ _ _ hS, run_slice_l w' _ _ _ _ hS _ _ (by omega) (by omega), sz]
      simp [Result.andThen]
    · unfold sliced
      by_cases hcn : c = n
      · rw [if_pos hcn]
        refine .inr ⟨g, 0, c - n, by simp, fun j hj => ?_⟩
        simp at hj; omega
      · rw [if_neg hcn]
        refine .inr ⟨g, n, c - n, by simp [addr_add], fun j hj => ?_⟩
        simp only [List.length_drop] at hj
        obtain ⟨g', cap', he, -, -, hcs⟩ := hcell (fun e => by rw [e] at hj; simp at hj)
        cases he
        rw [hcs (n + j) (by omega)]
        simp
theorem is8_nat {n : Int} (h : (Lit.int .u8 n).wf = true) : ∃ x : Nat, n = (x : Int) ∧ x < 256 := by
  have hb : 0 ≤ n ∧ n < 256 := by
    simp [Lit.wf, IntKind.min, IntKind.max, IntKind.bits, IntKind.signed] at h; omega
  exact ⟨n.toNat, by omega, by omega⟩
end Go.Proofs.Ytmccoejliaakoaa.Wl
