/- Rows of numbers; contract of package demand's least. -/
import Derived.Test.YtbhafcaekpccoaaDmD
import Derived.Test.YtbhafcaekpccoaaPmO
import Derived.Laws.MakeOwn
namespace Go.Proofs.Ytbhafcaekpccoaa.Dm
open Go.ChangeShapes Go.WideShapes Go.ChangeAt Go.RowKit Go.Joins
open Pm (Tk chk chk_iff rowB rowB_all rowB_len TkAt Ts TRow wrap_in below_drewN addr_add I64)
set_option maxRecDepth 100000
set_option maxRecDepth 100000
set_option linter.unusedVariables false
set_option linter.unusedSimpArgs false
def nums (l : List Int) : List Value := l.map (Value.int .i64)
theorem infoNum : (Try.prog.info? 2).map (fun i => (i.zero, i.size, i.bytes)) = some (some (.int .i64 0), 1, 8) := by kernel_rfl
/-- a row of numbers in memory -/
def Ns (ao : Option Addr) (l : List Int) (w : World) : Prop := 0 < l.length → ∃ b off, ao = some ⟨b, off, none⟩ ∧ b < w.heap.size ∧ ∀ i x, l[i]? = some x → w.cell? ⟨b, off + i, none⟩ = some (.int .i64 x)
theorem Ns.call {ao : Option Addr} {l : List Int} {w w' : World} (h : Ns ao l w) (hb : Below w.heap.size w w') : Ns ao l w' := fun h0 => by
  obtain ⟨b, off, rfl, hl, hc⟩ := h h0
  have := hb.size
  exact ⟨b, off, rfl, by omega, fun i x hi => carry hb (hc i x hi)⟩
theorem Ns.below {ao : Option Addr} {l : List Int} {w w' : World} (h : Ns ao l w) {B : Nat} (hb : Below B w w') (hB : w.heap.size ≤ B) : Ns ao l w' := h.call (hb.mono hB)
/-- v is a row of these numbers, in a block from B on -/
def NRow (B : Nat) (w : World) (v : Value) (l : List Int) : Prop := w.ownsRow B 2 1 v l.length (nums l)
theorem nrow_nil (B : Nat) (w : World) : NRow B w (.slice none 0 0) [] := World.ownsRow_nil _ _ _ _
theorem NRow.of_blocks {B : Nat} {w w' : World} {v : Value} {l : List Int} (h : NRow B w v l) (hb : ∀ k, v.ownBlock = some k → w'.heap[k]? = w.heap[k]?) : NRow B w' v l := by
  refine ⟨h.1, ?_⟩
  rcases h.2 with hn | ⟨g, cap, cur, rfl, hB, hg, rest⟩
  · exact .inl hn
  · exact .inr ⟨g, cap, cur, rfl, hB, by rw [hb g rfl]; exact hg, rest⟩
theorem NRow.call {B : Nat} {w w' : World} {v : Value} {l : List Int} (h : NRow B w v l) (hb : Below w.heap.size w w') : NRow B w' v l := by
  refine ⟨h.1, ?_⟩
  rcases h.2 with hn | ⟨g, cap, cur, rfl, hB, hg, rest⟩
  · exact .inl hn
  · exact .inr ⟨g, cap, cur, rfl, hB, by rw [hb.block g (Array.getElem?_eq_some_iff.1 hg).1]; exact hg, rest⟩
theorem NRow.mono {B C : Nat} {w : World} {v : Value} {l : List Int} (h : NRow B w v l) (hC : C ≤ B) : NRow C w v l := by
  refine ⟨h.1, ?_⟩
  rcases h.2 with hn | ⟨g, cap, cur, rfl, hB, hg, rest⟩
  · exact .inl hn
  · exact .inr ⟨g, cap, cur, rfl, by omega, hg, rest⟩
theorem NRow.lt {B : Nat} {w : World} {v : Value} {l : List Int} (h : NRow B w v l) : ∀ k, v.ownBlock = some k → B ≤ k ∧ k < w.heap.size := World.ownsRow.lt h
theorem NRow.block {B : Nat} {w : World} {v : Value} {l : List Int} (h : NRow B w v l) : ∀ k, v.ownBlock = some k → ∃ cur, w.heap[k]? = some (.cells cur 2 (0, 0)) := fun k hk => by
  rcases h.2 with ⟨rfl, _⟩ | ⟨g, cap, cur, rfl, hB, hg, rest⟩
  · cases hk
  · cases hk; exact ⟨cur, hg⟩
theorem NRow.form {B : Nat} {w : World} {v : Value} {l : List Int} (h : NRow B w v l) : ∃ ao cap, v = .slice ao l.length cap ∧ l.length ≤ cap ∧ Ns ao l w := by
  have hc := fun g (e : v.ownBlock = some g) => World.ownsRow.cells h (g := g) e
  rcases h.2 with ⟨rfl, h0⟩ | ⟨g, cap, cur, rfl, hB, hg, hcap, -⟩
  · refine ⟨none, 0, by rw [h0], by omega, fun h => by omega⟩
  · refine ⟨some ⟨g, 0, none⟩, cap, rfl, hcap, fun h0 => ⟨g, 0, rfl, (Array.getElem?_eq_some_iff.1 hg).1, fun i x hi => ?_⟩⟩
    have := hc g rfl i (.int .i64 x) (by simp [nums, hi])
    rw [addr_add] at this
    exact this
theorem nrow_made (B : Nat) (w : World) (hB : B ≤ w.heap.size) : NRow B (w.alloc (.cells (madeCells #[.int .i64 0] 16) 2)) (.slice (some ⟨w.heap.size, 0, none⟩) 0 16) [] := by
  unfold NRow
  exact World.ownsRow_made w _ 16 hB (by simp [maxLen]) (size_madeCells _ _)
theorem run_made (w : World) : (Instr.makeSlice 30 (.int .i64 0) (.int .i64 16)).run Try.prog w = .ok (.slice (some ⟨w.heap.size, 0, none⟩) 0 16) (w.alloc (.cells (madeCells #[.int .i64 0] 16) 2)) := by
  obtain ⟨i, hi, hz⟩ := Option.map_eq_some_iff.1 infoNum
  simp only [Prod.mk.injEq] at hz
  obtain ⟨hz, hs, hy⟩ := hz
  have := run_make (P := Try.prog) w 30 2 i _ Try.underlying30 hi hz .i64 .i64 0 16 (by omega) (by omega) (by rw [hy]; decide) (by decide)
  rw [hs] at this
  exact this
/-- one number more -/
theorem nrow_append (B : Nat) (w : World) (v : Value) (l : List Int) (x : Int) (h : NRow B w v l) (hB : B ≤ w.heap.size) (hn : l.length ≤ 4000000) :
    ∃ v' w', (Builtin.append_ #[30, 30] 30 #[v, .slice (some ⟨w.heap.size, 0, none⟩) 1 1]).run Try.prog (w.alloc (.cells #[.int .i64 x] 2)) = .ok v' w' ∧ NRow B w' v' (l ++ [x]) ∧ Below B w w' ∧ (∀ k, k < w.heap.size → v.ownBlock ≠ some k → w'.heap[k]? = w.heap[k]?) ∧ w.heap.size ≤ w'.heap.size := by
  obtain ⟨i, hi, hz⟩ := Option.map_eq_some_iff.1 infoNum
  simp only [Prod.mk.injEq] at hz
  obtain ⟨hz, hs, hy⟩ := hz
  have h1 := h.call ((Below.refl _ w).alloc (Nat.le_refl _) (.cells #[.int .i64 x] 2))
  obtain ⟨v', w', hr, ho, hg, -⟩ := run_append_own (P := Try.prog) (w.alloc (.cells #[.int .i64 x] 2)) B 30 30 2 i _ 1 8 Try.underlying30 hi hz hs hy rfl (by omega) v l.length _ h1
    ⟨w.heap.size, 0, none⟩ 1 1 [.int .i64 x] rfl (fun j u hj => by
      match j, hj with
      | 0, hj => simp at hj; subst hj; simp [go_sem, Addr.add]
      | j + 1, hj => simp at hj) (fun u hu => by simp at hu; subst hu; rfl) (by unfold maxLen; omega) (by omega) (by simp; omega)
  have gs := hg.size
  have asz : (w.alloc (.cells #[.int .i64 x] 2)).heap.size = w.heap.size + 1 := by simp
  refine ⟨v', w', hr, ?_, ?_, fun k hk hne => ?_, by omega⟩
  · unfold NRow
    rw [List.length_append]
    simpa [nums] using ho
  · exact ((Below.refl B w).alloc hB _).grown hg (by simp; omega) (fun k hk => (h1.lt k hk).1)
  · rw [hg.block k (by omega) (fun e => hne e.symm)]
    exact ((Below.refl w.heap.size w).alloc (Nat.le_refl _) _).block k hk
/-- the least one of them, and of m -/
def leastR (m : Int) : List Int → Int
  | [] => m
  | y :: l => leastR (if y < m then y else m) l
theorem leastR_take {l : List Int} : ∀ {m : Int} {i : Nat} (h : i < l.length), leastR m (l.take (i + 1)) = if l[i] < leastR m (l.take i) then l[i] else leastR m (l.take i) := by
  induction l with
  | nil => intro m i h; simp at h
  | cons y l ih =>
    intro m i h
    cases i with
    | zero => simp [leastR]
    | succ i =>
      rw [List.take_succ_cons, List.take_succ_cons, leastR, leastR, List.getElem_cons_succ]
      exact ih (by simpa using h)
/-- i numbers were looked at -/
def LeRel (l : List Int) (W : World) (g : Nat) (s t : Value) (wx : World) : Prop :=
  ∃ i : Nat, i + g = l.length ∧ s = .int .i64 (leastR 1099511627777 (l.take i)) ∧ t = .int .i64 (i : Int) ∧ wx = W
set_option maxHeartbeats 1000000 in
theorem least_any (l : List Int) (ao : Option Addr) (cap : Nat) (w : World) (hT : Ns ao l w) (hl : l.length ≤ 1000000) :
    Calls Try.prog 63 #[.slice ao l.length cap] w fun e w' => e = .returned (.int .i64 (leastR 1099511627777 l)) ∧ w' = w := by
  have T := Lib.hid hT
  clear hT
  go_enter Try.func63, Try.ntmps63
  go_wp2_with fail
  go_loopg [3, 8] l.length (LeRel l w)
  case atStart => exact ⟨0, by omega, rfl, rfl, rfl⟩
  case round =>
    obtain ⟨i, hi, rfl, rfl, rfl⟩ := hrel
    by_cases hlt : i < l.length
    · obtain ⟨b, off, rfl, hb, hat⟩ := T.out (by omega)
      have hx := hat i l[i] (List.getElem?_eq_getElem hlt)
      have e := leastR_take (m := 1099511627777) hlt
      have HI := Lib.hid hi
      have hg0 : 0 < gk := by omega
      clear hat T hi
      generalize leastR 1099511627777 (l.take i) = M at *
      generalize l[i] = y at *
      by_cases h : y < M
      · have HN := Lib.hid (e.trans (if_pos h))
        clear e
        go_wp2
        go_roundg (gk - 1)
        case measure => omega
        case rel => exact ⟨i + 1, by have := HI.out; omega, by rw [HN.out], by go_num, rfl⟩
      · have HN := Lib.hid (e.trans (if_neg h))
        have h' : M ≤ y := by omega
        clear e h
        go_wp2
        go_roundg (gk - 1)
        case measure => omega
        case rel => exact ⟨i + 1, by have := HI.out; omega, by rw [HN.out], by go_num, rfl⟩
    · have hge : (l.length : Int) ≤ (i : Int) := by omega
      rw [List.take_of_length_le (by omega)]
      clear hi hlt T
      go_wp2
      go_ret
      exact ⟨rfl, rfl⟩
end Go.Proofs.Ytbhafcaekpccoaa.Dm
