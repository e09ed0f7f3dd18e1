/- Rows of numbers; contract of package demand's least. Contract of package demand's Next. Contract of package demand's Before. -/
import Derived.Test.YteagimnlhopjpaaMDm
import Derived.Test.YteagimnlhopjpaaMPb
import Derived.Laws.MakeOwn
import Derived.Deep.CutBlock
namespace Go.Proofs.Yteagimnlhopjpaa.Dm
open Go.ChangeShapes Go.WideShapes Go.ChangeAt Go.RowKit Go.Joins
open Pm (Tk chk chk_iff rowB rowB_all rowB_len TkAt Ts TRow wrap_in below_drewN addr_add I64)
set_option maxRecDepth 100000
set_option maxRecDepth 100000
set_option linter.unusedVariables false
set_option linter.unusedSimpArgs false
def nums (l : List Int) : List Value := l.map (Value.int .i64)
theorem infoNum : (Try.prog.info? 2).map (fun i => (i.zero, i.size, i.bytes)) = some (some (.int .i64 0), 1, 8) := by kernel_rfl
/-- a row of numbers in memory -/
def Ns (ao : Option Addr) (l : List Int) (w : World) : Prop := 0 < l.length → ∃ b off, ao = some ⟨b, off, none⟩ ∧ b < w.heap.size ∧ ∀ i x, l[i]? = some x → w.cell? ⟨b, off + i, none⟩ = some (.int .i64 x)
theorem Ns.call {ao : Option Addr} {l : List Int} {w w' : World} (h : Ns ao l w) (hb : Below w.heap.size w w') : Ns ao l w' := fun h0 => by
  obtain ⟨b, off, rfl, hl, hc⟩ := h h0
  have := hb.size
  exact ⟨b, off, rfl, by omega, fun i x hi => carry hb (hc i x hi)⟩
theorem Ns.below {ao : Option Addr} {l : List Int} {w w' : World} (h : Ns ao l w) {B : Nat} (hb : Below B w w') (hB : w.heap.size ≤ B) : Ns ao l w' := h.call (hb.mono hB)
/-- v is a row of these numbers, in a block from B on -/
def NRow (B : Nat) (w : World) (v : Value) (l : List Int) : Prop := w.ownsRow B 2 1 v l.length (nums l)
theorem nrow_nil (B : Nat) (w : World) : NRow B w (.slice none 0 0) [] := World.ownsRow_nil _ _ _ _
theorem NRow.of_blocks {B : Nat} {w w' : World} {v : Value} {l : List Int} (h : NRow B w v l) (hb : ∀ k, v.ownBlock = some k → w'.heap[k]? = w.heap[k]?) : NRow B w' v l := by
  refine ⟨h.1, ?_⟩
  rcases h.2 with hn | ⟨g, cap, cur, rfl, hB, hg, rest⟩
  · exact .inl hn
  · exact .inr ⟨g, cap, cur, rfl, hB, by rw [hb g rfl]; exact hg, rest⟩
theorem NRow.call {B : Nat} {w w' : World} {v : Value} {l : List Int} (h : NRow B w v l) (hb : Below w.heap.size w w') : NRow B w' v l := by
  refine ⟨h.1, ?_⟩
  rcases h.2 with hn | ⟨g, cap, cur, rfl, hB, hg, rest⟩
  · exact .inl hn
  · exact .inr ⟨g, cap, cur, rfl, hB, by rw [hb.block g (Array.getElem?_eq_some_iff.1 hg).1]; exact hg, rest⟩
theorem NRow.mono {B C : Nat} {w : World} {v : Value} {l : List Int} (h : NRow B w v l) (hC : C ≤ B) : NRow C w v l := by
  refine ⟨h.1, ?_⟩
  rcases h.2 with hn | ⟨g, cap, cur, rfl, hB, hg, rest⟩
  · exact .inl hn
  · exact .inr ⟨g, cap, cur, rfl, by omega, hg, rest⟩
theorem NRow.lt {B : Nat} {w : World} {v : Value} {l : List Int} (h : NRow B w v l) : ∀ k, v.ownBlock = some k → B ≤ k ∧ k < w.heap.size := World.ownsRow.lt h
theorem NRow.block {B : Nat} {w : World} {v : Value} {l : List Int} (h : NRow B w v l) : ∀ k, v.ownBlock = some k → ∃ cur, w.heap[k]? = some (.cells cur 2 (0, 0)) := fun k hk => by
  rcases h.2 with ⟨rfl, _⟩ | ⟨g, cap, cur, rfl, hB, hg, rest⟩
  · cases hk
  · cases hk; exact ⟨cur, hg⟩
theorem NRow.form {B : Nat} {w : World} {v : Value} {l : List Int} (h : NRow B w v l) : ∃ ao cap, v = .slice ao l.length cap ∧ l.length ≤ cap ∧ Ns ao l w := by
  have hc := fun g (e : v.ownBlock = some g) => World.ownsRow.cells h (g := g) e
  rcases h.2 with ⟨rfl, h0⟩ | ⟨g, cap, cur, rfl, hB, hg, hcap, -⟩
  · refine ⟨none, 0, by rw [h0], by omega, fun h => by omega⟩
  · refine ⟨some ⟨g, 0, none⟩, cap, rfl, hcap, fun h0 => ⟨g, 0, rfl, (Array.getElem?_eq_some_iff.1 hg).1, fun i x hi => ?_⟩⟩
    have := hc g rfl i (.int .i64 x) (by simp [nums, hi])
    rw [addr_add] at this
    exact this
theorem nrow_made (B : Nat) (w : World) (hB : B ≤ w.heap.size) : NRow B (w.alloc (.cells (madeCells #[.int .i64 0] 16) 2)) (.slice (some ⟨w.heap.size, 0, none⟩) 0 16) [] := by
  unfold NRow
  exact World.ownsRow_made w _ 16 hB (by simp [maxLen]) (size_madeCells _ _)
/-- the least one of them, and of m -/
def leastR (m : Int) : List Int → Int
  | [] => m
  | y :: l => leastR (if y < m then y else m) l
theorem leastR_take {l : List Int} : ∀ {m : Int} {i : Nat} (h : i < l.length), leastR m (l.take (i + 1)) = if l[i] < leastR m (l.take i) then l[i] else leastR m (l.take i) := by
  induction l with
  | nil => intro m i h; simp at h
  | cons y l ih =>
    intro m i h
    cases i with
    | zero => simp [leastR]
    | succ i =>
      rw [List.take_succ_cons, List.take_succ_cons, leastR, leastR, List.getElem_cons_succ]
      exact ih (by simpa using h)
/-- i numbers were looked at -/
def LeRel (l : List Int) (W : World) (g : Nat) (s t : Value) (wx : World) : Prop :=
  ∃ i : Nat, i + g = l.length ∧ s = .int .i64 (leastR 1099511627777 (l.take i)) ∧ t = .int .i64 (i : Int) ∧ wx = W
end Go.Proofs.Yteagimnlhopjpaa.Dm
namespace Go.Proofs.Yteagimnlhopjpaa.Dm
open Go.ChangeShapes Go.WideShapes Go.ChangeAt Go.RowKit Go.Joins
open Pm (Tk chk chk_iff rowB rowB_all rowB_len TkAt Ts TRow wrap_in below_drewN load_tk exec_load1 exec_build1 wp_val name_world addr_add)
set_option maxRecDepth 100000
set_option maxRecDepth 100000
set_option linter.unusedVariables false
set_option linter.unusedSimpArgs false
/-- an answer of two -/
def ans : Option Int → Value
  | some y => .tuple #[.int .i64 y, .bool true]
  | none => .tuple #[.int .i64 0, .bool false]
theorem nextR_no {l : List Tk} {x : Int} (h : rowB l = false) : nextR l x = none := by unfold nextR; rw [if_neg (by rw [h]; simp)]
theorem nextR_no2 {l : List Tk} {x : Int} (h : isTime x = false) : nextR l x = none := by unfold nextR; rw [if_neg (by rw [h]; simp)]
theorem least_nxts {l : List Tk} {x : Int} : ∀ m, (nxts l x = none ∧ leastR m (l.map (nxt · x)) = m) ∨ ∃ y, nxts l x = some y ∧ leastR m (l.map (nxt · x)) = (if y < m then y else m) := by
  induction l with
  | nil => intro m; left; exact ⟨rfl, rfl⟩
  | cons t l ih =>
    intro m
    right
    rw [List.map_cons, leastR, nxts]
    rcases ih (if nxt t x < m then nxt t x else m) with ⟨h1, h2⟩ | ⟨y, h1, h2⟩
    · rw [h1, h2]; exact ⟨_, rfl, rfl⟩
    · rw [h1, h2]
      refine ⟨_, rfl, ?_⟩
      repeat' split
      all_goals omega
/-- what Next tells, by the least one -/
theorem next_least {l : List Tk} {x : Int} (hr : rowB l = true) (hx : isTime x = true) : nextR l x = if isTime (leastR 1099511627777 (l.map (nxt · x))) = true then some (leastR 1099511627777 (l.map (nxt · x))) else none := by
  have hl := rowB_all hr
  have ht : ∀ t ∈ l, 0 < t.t := fun t h => by have := chk_iff.1 (hl t h); omega
  have h0 := isTime_iff.1 hx
  unfold nextR
  rw [if_pos ⟨hr, hx⟩]
  rcases least_nxts (l := l) (x := x) 1099511627777 with ⟨h1, h2⟩ | ⟨y, h1, h2⟩
  · rw [h1, h2]; rfl
  · have h3 := (nxts_is ht h1).1
    rw [h1, h2]
    simp only
    by_cases h : y < 1099511627777
    · rw [if_pos h, if_neg (by omega), if_pos (isTime_iff.2 (by omega))]
    · rw [if_neg h, if_pos (by omega)]; rfl
theorem leastR_in {l : List Int} : ∀ {m : Int}, (∀ y ∈ l, 0 ≤ y) → 0 ≤ m → 0 ≤ leastR m l ∧ leastR m l ≤ m := by
  induction l with
  | nil => intro m _ h; exact ⟨h, Int.le_refl _⟩
  | cons y l ih =>
    intro m hy h
    have h1 := hy y (by simp)
    rw [leastR]
    by_cases h2 : y < m
    · rw [if_pos h2]; have := ih (m := y) (fun z hz => hy z (by simp [hz])) h1; omega
    · rw [if_neg h2]; exact ih (m := m) (fun z hz => hy z (by simp [hz])) h
/-- while Next gathers: w the world ahead, a task in its box b -/
structure Nx (w : World) (b : Nat) (t : Tk) (v : Value) (l : List Int) (W : World) : Prop where
  bx : TkAt b 0 t W
  row : NRow w.heap.size W v l
  bel : Below w.heap.size w W
theorem Nx.call {w : World} {b : Nat} {t : Tk} {v : Value} {l : List Int} {W W' : World} (h : Nx w b t v l W) (hb : Below W.heap.size W W') : Nx w b t v l W' :=
  ⟨h.bx.call hb, h.row.call hb, h.bel.trans (hb.mono h.bel.size)⟩
/-- i tasks were looked at -/
def NxRel (l : List Tk) (x : Int) (w : World) (g : Nat) (s t : Value) (wx : World) : Prop :=
  ∃ (i : Nat) (v : Value), i + g = l.length ∧ t = .int .i64 (i : Int) ∧ v = s ∧ NRow w.heap.size wx v ((l.map (nxt · x)).take i) ∧ Below w.heap.size w wx
theorem nx_next {l : List Tk} {x : Int} {i : Nat} (h : i < l.length) : (l.map (nxt · x)).take (i + 1) = (l.map (nxt · x)).take i ++ [nxt l[i] x] := by
  rw [List.take_succ_eq_append_getElem (by simpa using h)]; simp
end Go.Proofs.Yteagimnlhopjpaa.Dm
namespace Go.Proofs.Yteagimnlhopjpaa.Dm
open Go.ChangeShapes Go.WideShapes Go.ChangeAt Go.RowKit Go.Joins
open Pm (Tk chk chk_iff rowB rowB_all rowB_len TkAt Ts TRow wrap_in below_drewN)
set_option maxRecDepth 100000
set_option maxRecDepth 100000
set_option linter.unusedVariables false
set_option linter.unusedSimpArgs false
/-- the greatest deadline below x, and true -/
def beforeR (l : List Tk) (x : Int) : Option Int := if rowB l = true ∧ isTime x = true then (if 0 < befs l x then some (befs l x) else none) else none
theorem beforeR_no {l : List Tk} {x : Int} (h : rowB l = false) : beforeR l x = none := by unfold beforeR; rw [if_neg (by rw [h]; simp)]
theorem beforeR_no2 {l : List Tk} {x : Int} (h : isTime x = false) : beforeR l x = none := by unfold beforeR; rw [if_neg (by rw [h]; simp)]
/-- as it is gathered -/
def befL (x m : Int) : List Tk → Int
  | [] => m
  | t :: l => befL x (if t.d < x ∧ m < bef t x then bef t x else m) l
theorem befL_take {l : List Tk} {x : Int} : ∀ {m : Int} {i : Nat} (h : i < l.length), befL x m (l.take (i + 1)) = if l[i].d < x ∧ befL x m (l.take i) < bef l[i] x then bef l[i] x else befL x m (l.take i) := by
  induction l with
  | nil => intro m i h; simp at h
  | cons y l ih =>
    intro m i h
    cases i with
    | zero => simp [befL]
    | succ i =>
      rw [List.take_succ_cons, List.take_succ_cons, befL, befL, List.getElem_cons_succ]
      exact ih (by simpa using h)
theorem befL_befs {l : List Tk} {x : Int} : ∀ {m : Int}, 0 ≤ m → befL x m l = if m < befs l x then befs l x else m := by
  induction l with
  | nil => intro m h; show m = if m < 0 then 0 else m; split <;> omega
  | cons t l ih =>
    intro m h
    rw [befL, ih (by split <;> omega), befs]
    by_cases hd : t.d < x
    · simp only [hd, true_and]
      repeat' split
      all_goals omega
    · simp only [hd, false_and, if_false]
theorem befL_zero {l : List Tk} {x : Int} (hl : ∀ t ∈ l, 0 < t.t ∧ 0 < t.d) : befL x 0 l = befs l x := by
  rw [befL_befs (by omega)]
  have := befs_is (x := x) hl
  split
  · rfl
  · omega
/-- what Before tells, as it is gathered -/
theorem before_befL {l : List Tk} {x : Int} (hr : rowB l = true) (hx : isTime x = true) : beforeR l x = if 0 < befL x 0 l then some (befL x 0 l) else none := by
  have hl := rowB_all hr
  unfold beforeR
  rw [if_pos ⟨hr, hx⟩, befL_zero (fun t h => by have := chk_iff.1 (hl t h); omega)]
theorem befL_in {l : List Tk} {x : Int} (hl : ∀ t ∈ l, chk t = true) : ∀ {m : Int}, 0 ≤ m → m ≤ 1099511627776 → x ≤ 1099511627776 → 0 ≤ befL x m l ∧ befL x m l ≤ 1099511627776 := by
  induction l with
  | nil => intro m h h1 _; exact ⟨h, h1⟩
  | cons t l ih =>
    intro m h h1 hx
    rw [befL]
    have ht := chk_iff.1 (hl t (by simp))
    by_cases hd : t.d < x ∧ m < bef t x
    · rw [if_pos hd]
      have := bef_is (t := t) (x := x) (by omega) hd.1
      exact ih (fun a ha => hl a (by simp [ha])) (by omega) (by omega) hx
    · rw [if_neg hd]
      exact ih (fun a ha => hl a (by simp [ha])) h h1 hx
/-- a round's numbers: n deadlines lie below x -/
theorem bef_step {t : Tk} {x m : Int} (hc : chk t = true) : (t.d < x → 0 < cnt t (x - 1) ∧ t.d + t.t * (cnt t (x - 1) - 1) = bef t x) ∧ (¬ t.d < x → cnt t (x - 1) = 0) := by
  have ht := chk_iff.1 hc
  refine ⟨fun h => ?_, fun h => cnt_lt (by omega)⟩
  rw [cnt_ge (by omega)]
  have := Int.ediv_nonneg (show 0 ≤ x - 1 - t.d by omega) (show 0 ≤ t.t by omega)
  refine ⟨by omega, ?_⟩
  unfold bef
  rw [show (x - 1 - t.d) / t.t + 1 - 1 = (x - 1 - t.d) / t.t by omega]
/-- i tasks were looked at -/
def BeRel (l : List Tk) (x : Int) (B : Nat) (w : World) (g : Nat) (s t : Value) (wx : World) : Prop :=
  ∃ i : Nat, i + g = l.length ∧ s = .int .i64 (befL x 0 (l.take i)) ∧ t = .int .i64 (i : Int) ∧ Below B w wx
end Go.Proofs.Yteagimnlhopjpaa.Dm
