/- Rows of numbers; contract of package demand's least. Contract of package demand's Next. Contract of package demand's Before. -/
import Derived.Test.YtgbnoifaknlkhaaMDm
import Derived.Test.YtgbnoifaknlkhaaMPb
import Derived.Laws.MakeOwn
import Derived.Deep.CutBlock
namespace Go.Proofs.Ytgbnoifaknlkhaa.Dm
open Go.ChangeShapes Go.WideShapes Go.ChangeAt Go.RowKit Go.Joins
open Pm (Tk chk chk_iff rowB rowB_all rowB_len TkAt Ts TRow wrap_in below_drewN addr_add I64)
set_option maxRecDepth 100000
set_option maxRecDepth 100000
set_option linter.unusedVariables false
set_option linter.unusedSimpArgs false
def nums (l : List Int) : List Value := l.map (Value.int .i64)
theorem infoNum : (Try.prog.info? 2).map (fun i => (i.zero, i.size, i.bytes)) = some (some (.int .i64 0), 1, 8) := by kernel_rfl
/-- a row of numbers in memory -/
def Ns (ao : Option Addr) (l : List Int) (w : World) : Prop := 0 < l.length → ∃ b off, ao = some ⟨b, off, none⟩ ∧ b < w.heap.size ∧ ∀ i x, l[i]? = some x → w.cell? ⟨b, off + i, none⟩ = some (.int .i64 x)
theorem Ns.call {ao : Option Addr} {l : List Int} {w w' : World} (h : Ns ao l w) (hb : Below w.heap.size w w') : Ns ao l w' := fun h0 => by
  obtain ⟨b, off, rfl, hl, hc⟩ := h h0
  have := hb.size
  exact ⟨b, off, rfl, by omega, fun i x hi => carry hb (hc i x hi)⟩
theorem Ns.below {ao : Option Addr} {l : List Int} {w w' : World} (h : Ns ao l w) {B : Nat} (hb : Below B w w') (hB : w.heap.size ≤ B) : Ns ao l w' := h.call (hb.mono hB)
/-- v is a row of these numbers, in a block from B on -/
def NRow (B : Nat) (w : World) (v : Value) (l : List Int) : Prop := w.ownsRow B 2 1 v l.length (nums l)
theorem nrow_nil (B : Nat) (w : World) : NRow B w (.slice none 0 0) [] := World.ownsRow_nil _ _ _ _
theorem NRow.of_blocks {B : Nat} {w w' : World} {v : Value} {l : List Int} (h : NRow B w v l) (hb : ∀ k, v.ownBlock = some k → w'.heap[k]? = w.heap[k]?) : NRow B w' v l := by
  refine ⟨h.1, ?_⟩
  rcases h.2 with hn | ⟨g, cap, cur, rfl, hB, hg, rest⟩
  · exact .inl hn
  · exact .inr ⟨g, cap, cur, rfl, hB, by rw [hb g rfl]; exact hg, rest⟩
theorem NRow.call {B : Nat} {w w' : World} {v : Value} {l : List Int} (h : NRow B w v l) (hb : Below w.heap.size w w') : NRow B w' v l := by
  refine ⟨h.1, ?_⟩
  rcases h.2 with hn | ⟨g, cap, cur, rfl, hB, hg, rest⟩
  · exact .inl hn
  · exact .inr ⟨g, cap, cur, rfl, hB, by rw [hb.block g (Array.getElem?_eq_some_iff.1 hg).1]; exact hg, rest⟩
theorem NRow.mono {B C : Nat} {w : World} {v : Value} {l : List Int} (h : NRow B w v l) (hC : C ≤ B) : NRow C w v l := by
  refine ⟨h.1, ?_⟩
  rcases h.2 with hn | ⟨g, cap, cur, rfl, hB, hg, rest⟩
  · exact .inl hn
  · exact .inr ⟨g, cap, cur, rfl, by omega, hg, rest⟩
theorem NRow.lt {B : Nat} {w : World} {v : Value} {l : List Int} (h : NRow B w v l) : ∀ k, v.ownBlock = some k → B ≤ k ∧ k < w.heap.size := World.ownsRow.lt h
theorem NRow.block {B : Nat} {w : World} {v : Value} {l : List Int} (h : NRow B w v l) : ∀ k, v.ownBlock = some k → ∃ cur, w.heap[k]? = some (.cells cur 2 (0, 0)) := fun k hk => by
  rcases h.2 with ⟨rfl, _⟩ | ⟨g, cap, cur, rfl, hB, hg, rest⟩
  · cases hk
  · cases hk; exact ⟨cur, hg⟩
theorem NRow.form {B : Nat} {w : World} {v : Value} {l : List Int} (h : NRow B w v l) : ∃ ao cap, v = .slice ao l.length cap ∧ l.length ≤ cap ∧ Ns ao l w := by
  have hc := fun g (e : v.ownBlock = some g) => World.ownsRow.cells h (g := g) e
  rcases h.2 with ⟨rfl, h0⟩ | ⟨g, cap, cur, rfl, hB, hg, hcap, -⟩
  · refine ⟨none, 0, by rw [h0], by omega, fun h => by omega⟩
  · refine ⟨some ⟨g, 0, none⟩, cap, rfl, hcap, fun h0 => ⟨g, 0, rfl, (Array.getElem?_eq_some_iff.1 hg).1, fun i x hi => ?_⟩⟩
    have := hc g rfl i (.int .i64 x) (by simp [nums, hi])
    rw [addr_add] at this
    exact this
theorem nrow_made (B : Nat) (w : World) (hB : B ≤ w.heap.size) : NRow B (w.alloc (.cells (madeCells #[.int .i64 0] 16) 2)) (.slice (some ⟨w.heap.size, 0, none⟩) 0 16) [] := by
  unfold NRow
  exact World.ownsRow_made w _ 16 hB (by simp [maxLen]) (size_madeCells _ _)
theorem run_made (w : World) : (Instr.makeSlice 125 (.int .i64 0) (.int .i64 16)).run Try.prog w = .ok (.slice (some ⟨w.heap.size, 0, none⟩) 0 16) (w.alloc (.cells (madeCells #[.int .i64 0] 16) 2)) := by
  obtain ⟨i, hi, hz⟩ := Option.map_eq_some_iff.1 infoNum
  simp only [Prod.mk.injEq] at hz
  obtain ⟨hz, hs, hy⟩ := hz
  have := run_make (P := Try.prog) w 125 2 i _ Try.underlying125 hi hz .i64 .i64 0 16 (by omega) (by omega) (by rw [hy]; decide) (by decide)
  rw [hs] at this
  exact this
/-- one number more -/
theorem nrow_append (B : Nat) (w : World) (v : Value) (l : List Int) (x : Int) (h : NRow B w v l) (hB : B ≤ w.heap.size) (hn : l.length ≤ 4000000) :
    ∃ v' w', (Builtin.append_ #[125, 125] 125 #[v, .slice (some ⟨w.heap.size, 0, none⟩) 1 1]).run Try.prog (w.alloc (.cells #[.int .i64 x] 2)) = .ok v' w' ∧ NRow B w' v' (l ++ [x]) ∧ Below B w w' ∧ (∀ k, k < w.heap.size → v.ownBlock ≠ some k → w'.heap[k]? = w.heap[k]?) ∧ w.heap.size ≤ w'.heap.size := by
  obtain ⟨i, hi, hz⟩ := Option.map_eq_some_iff.1 infoNum
  simp only [Prod.mk.injEq] at hz
  obtain ⟨hz, hs, hy⟩ := hz
  have h1 := h.call ((Below.refl _ w).alloc (Nat.le_refl _) (.cells #[.int .i64 x] 2))
  obtain ⟨v', w', hr, ho, hg, -⟩ := run_append_own (P := Try.prog) (w.alloc (.cells #[.int .i64 x] 2)) B 125 125 2 i _ 1 8 Try.underlying125 hi hz hs hy rfl (by omega) v l.length _ h1
    ⟨w.heap.size, 0, none⟩ 1 1 [.int .i64 x] rfl (fun j u hj => by
      match j, hj with
      | 0, hj => simp at hj; subst hj; simp [go_sem, Addr.add]
      | j + 1, hj => simp at hj) (fun u hu => by simp at hu; subst hu; rfl) (by unfold maxLen; omega) (by omega) (by simp; omega)
  have gs := hg.size
  have asz : (w.alloc (.cells #[.int .i64 x] 2)).heap.size = w.heap.size + 1 := by simp
  refine ⟨v', w', hr, ?_, ?_, fun k hk hne => ?_, by omega⟩
  · unfold NRow
    rw [List.length_append]
    simpa [nums] using ho
  · exact ((Below.refl B w).alloc hB _).grown hg (by simp; omega) (fun k hk => (h1.lt k hk).1)
  · rw [hg.block k (by omega) (fun e => hne e.symm)]
    exact ((Below.refl w.heap.size w).alloc (Nat.le_refl _) _).block k hk
/-- the least one of them, and of m -/
def leastR (m : Int) : List Int → Int
  | [] => m
  | y :: l => leastR (if y < m then y else m) l
theorem leastR_take {l : List Int} : ∀ {m : Int} {i : Nat} (h : i < l.length), leastR m (l.take (i + 1)) = if l[i] < leastR m (l.take i) then l[i] else leastR m (l.take i) := by
  induction l with
  | nil => intro m i h; simp at h
  | cons y l ih =>
    intro m i h
    cases i with
    | zero => simp [leastR]
    | succ i =>
      rw [List.take_succ_cons, List.take_succ_cons, leastR, leastR, List.getElem_cons_succ]
      exact ih (by simpa using h)
/-- i numbers were looked at -/
def LeRel (l : List Int) (W : World) (g : Nat) (s t : Value) (wx : World) : Prop :=
  ∃ i : Nat, i + g = l.length ∧ s = .int .i64 (leastR 1099511627777 (l.take i)) ∧ t = .int .i64 (i : Int) ∧ wx = W
set_option maxHeartbeats 1000000 in
theorem least_any (l : List Int) (ao : Option Addr) (cap : Nat) (w : World) (hT : Ns ao l w) (hl : l.length ≤ 1000000) :
    Calls Try.prog 90 #[.slice ao l.length cap] w fun e w' => e = .returned (.int .i64 (leastR 1099511627777 l)) ∧ w' = w := by
  have T := Lib.hid hT
  clear hT
  go_enter Try.func90, Try.ntmps90
  go_wp2_with fail
  go_loopg [3, 8] l.length (LeRel l w)
  case atStart => exact ⟨0, by omega, rfl, rfl, rfl⟩
  case round =>
    obtain ⟨i, hi, rfl, rfl, rfl⟩ := hrel
    by_cases hlt : i < l.length
    · obtain ⟨b, off, rfl, hb, hat⟩ := T.out (by omega)
      have hx := hat i l[i] (List.getElem?_eq_getElem hlt)
      have e := leastR_take (m := 1099511627777) hlt
      have HI := Lib.hid hi
      have hg0 : 0 < gk := by omega
      clear hat T hi
      generalize leastR 1099511627777 (l.take i) = M at *
      generalize l[i] = y at *
      by_cases h : y < M
      · have HN := Lib.hid (e.trans (if_pos h))
        clear e
        go_wp2
        go_roundg (gk - 1)
        case measure => omega
        case rel => exact ⟨i + 1, by have := HI.out; omega, by rw [HN.out], by go_num, rfl⟩
      · have HN := Lib.hid (e.trans (if_neg h))
        have h' : M ≤ y := by omega
        clear e h
        go_wp2
        go_roundg (gk - 1)
        case measure => omega
        case rel => exact ⟨i + 1, by have := HI.out; omega, by rw [HN.out], by go_num, rfl⟩
    · have hge : (l.length : Int) ≤ (i : Int) := by omega
      rw [List.take_of_length_le (by omega)]
      clear hi hlt T
      go_wp2
      go_ret
      exact ⟨rfl, rfl⟩
end Go.Proofs.Ytgbnoifaknlkhaa.Dm
namespace Go.Proofs.Ytgbnoifaknlkhaa.Dm
open Go.ChangeShapes Go.WideShapes Go.ChangeAt Go.RowKit Go.Joins
open Pm (Tk chk chk_iff rowB rowB_all rowB_len TkAt Ts TRow chk_any wrap_in below_drewN row_any load_tk exec_load1 exec_build1 wp_val name_world addr_add)
set_option maxRecDepth 100000
set_option maxRecDepth 100000
set_option linter.unusedVariables false
set_option linter.unusedSimpArgs false
/-- an answer of two -/
def ans : Option Int → Value
  | some y => .tuple #[.int .i64 y, .bool true]
  | none => .tuple #[.int .i64 0, .bool false]
theorem nextR_no {l : List Tk} {x : Int} (h : rowB l = false) : nextR l x = none := by unfold nextR; rw [if_neg (by rw [h]; simp)]
theorem nextR_no2 {l : List Tk} {x : Int} (h : isTime x = false) : nextR l x = none := by unfold nextR; rw [if_neg (by rw [h]; simp)]
theorem least_nxts {l : List Tk} {x : Int} : ∀ m, (nxts l x = none ∧ leastR m (l.map (nxt · x)) = m) ∨ ∃ y, nxts l x = some y ∧ leastR m (l.map (nxt · x)) = (if y < m then y else m) := by
  induction l with
  | nil => intro m; left; exact ⟨rfl, rfl⟩
  | cons t l ih =>
    intro m
    right
    rw [List.map_cons, leastR, nxts]
    rcases ih (if nxt t x < m then nxt t x else m) with ⟨h1, h2⟩ | ⟨y, h1, h2⟩
    · rw [h1, h2]; exact ⟨_, rfl, rfl⟩
    · rw [h1, h2]
      refine ⟨_, rfl, ?_⟩
      repeat' split
      all_goals omega
/-- what Next tells, by the least one -/
theorem next_least {l : List Tk} {x : Int} (hr : rowB l = true) (hx : isTime x = true) : nextR l x = if isTime (leastR 1099511627777 (l.map (nxt · x))) = true then some (leastR 1099511627777 (l.map (nxt · x))) else none := by
  have hl := rowB_all hr
  have ht : ∀ t ∈ l, 0 < t.t := fun t h => by have := chk_iff.1 (hl t h); omega
  have h0 := isTime_iff.1 hx
  unfold nextR
  rw [if_pos ⟨hr, hx⟩]
  rcases least_nxts (l := l) (x := x) 1099511627777 with ⟨h1, h2⟩ | ⟨y, h1, h2⟩
  · rw [h1, h2]; rfl
  · have h3 := (nxts_is ht h1).1
    rw [h1, h2]
    simp only
    by_cases h : y < 1099511627777
    · rw [if_pos h, if_neg (by omega), if_pos (isTime_iff.2 (by omega))]
    · rw [if_neg h, if_pos (by omega)]; rfl
theorem leastR_in {l : List Int} : ∀ {m : Int}, (∀ y ∈ l, 0 ≤ y) → 0 ≤ m → 0 ≤ leastR m l ∧ leastR m l ≤ m := by
  induction l with
  | nil => intro m _ h; exact ⟨h, Int.le_refl _⟩
  | cons y l ih =>
    intro m hy h
    have h1 := hy y (by simp)
    rw [leastR]
    by_cases h2 : y < m
    · rw [if_pos h2]; have := ih (m := y) (fun z hz => hy z (by simp [hz])) h1; omega
    · rw [if_neg h2]; exact ih (m := m) (fun z hz => hy z (by simp [hz])) h
theorem build_num (w : World) (x : Int) : (Instr.buildSlice 125 1 #[(0, .int .i64 x)]).run Try.prog w = .ok (.slice (some ⟨w.heap.size, 0, none⟩) 1 1) (w.alloc (.cells #[.int .i64 x] 2)) := by kernel_rfl
/-- while Next gathers: w the world ahead, a task in its box b -/
structure Nx (w : World) (b : Nat) (t : Tk) (v : Value) (l : List Int) (W : World) : Prop where
  bx : TkAt b 0 t W
  row : NRow w.heap.size W v l
  bel : Below w.heap.size w W
theorem Nx.call {w : World} {b : Nat} {t : Tk} {v : Value} {l : List Int} {W W' : World} (h : Nx w b t v l W) (hb : Below W.heap.size W W') : Nx w b t v l W' :=
  ⟨h.bx.call hb, h.row.call hb, h.bel.trans (hb.mono h.bel.size)⟩
/-- i tasks were looked at -/
def NxRel (l : List Tk) (x : Int) (w : World) (g : Nat) (s t : Value) (wx : World) : Prop :=
  ∃ (i : Nat) (v : Value), i + g = l.length ∧ t = .int .i64 (i : Int) ∧ v = s ∧ NRow w.heap.size wx v ((l.map (nxt · x)).take i) ∧ Below w.heap.size w wx
theorem nx_next {l : List Tk} {x : Int} {i : Nat} (h : i < l.length) : (l.map (nxt · x)).take (i + 1) = (l.map (nxt · x)).take i ++ [nxt l[i] x] := by
  rw [List.take_succ_eq_append_getElem (by simpa using h)]; simp
set_option maxHeartbeats 4000000 in
theorem next_any (l : List Tk) (ao : Option Addr) (cap : Nat) (x : Int) (w : World) (hT : Ts ao l w) (hl : l.length ≤ 9223372036854775807) :
    Calls Try.prog 81 #[.slice ao l.length cap, .int .i64 x] w fun e w' => e = .returned (ans (nextR l x)) ∧ Below w.heap.size w w' := by
  have RO := Lib.hid (fun w h => row_any l ao cap w h hl)
  have TM := Lib.hid (isTime_any x)
  have T := Lib.hid hT
  cases hr : rowB l with
  | false =>
    have E := Lib.hid (nextR_no (x := x) hr)
    rw [hr] at RO
    generalize nextR l x = r at *
    clear hr
    go_enter Try.func81, Try.ntmps81
    go_wp2_with fail
    (with_reducible refine (RO.out _ hT).mono ?_)
    rintro e w1 ⟨rfl, b1⟩
    have K1 := Lib.hid b1
    clear b1 hT
    go_wp2
    exact bodyPost_ret (v := .tuple #[.int .i64 0, .bool false]) (by simp [results, Try.results81, go_sem]) rfl ⟨by rw [E.out]; rfl, K1.out⟩
  | true =>
    rw [hr] at RO
    cases hx : isTime x with
    | false =>
      have E := Lib.hid (nextR_no2 (l := l) hx)
      rw [hx] at TM
      generalize nextR l x = r at *
      clear hr hx
      go_enter Try.func81, Try.ntmps81
      go_wp2_with fail
      (with_reducible refine (RO.out _ hT).mono ?_)
      rintro e w1 ⟨rfl, b1⟩
      have K1 := Lib.hid b1
      clear b1 hT
      go_wp2_with fail
      (with_reducible refine (TM.out _).mono ?_)
      rintro e w2 ⟨rfl, rfl⟩
      go_wp2
      exact bodyPost_ret (v := .tuple #[.int .i64 0, .bool false]) (by simp [results, Try.results81, go_sem]) rfl ⟨by rw [E.out]; rfl, K1.out⟩
    | true =>
      have E := Lib.hid (next_least hr hx)
      have hlen := rowB_len hr
      have hall := rowB_all hr
      have h0 := isTime_iff.1 hx
      rw [hx] at TM
      have DU := Lib.hid (fun i (h : i < l.length) w => due_any l[i] x w (hall _ (List.getElem_mem h)) (by omega) h0.2)
      have DE := Lib.hid (fun i (h : i < l.length) w => deadline_any l[i] (cnt l[i] x) w (by have := (nxt_in (hall _ (List.getElem_mem h)) h0.1 h0.2).1; rw [Int.mul_comm]; exact this) (by have := (nxt_in (hall _ (List.getElem_mem h)) h0.1 h0.2).2.1; rw [Int.mul_comm]; omega) (by have := chk_iff.1 (hall _ (List.getElem_mem h)); omega) (by have := chk_iff.1 (hall _ (List.getElem_mem h)); omega))
      simp only [← nxt_cnt] at DE
      have MK := Lib.hid run_made
      have LI := leastR_in (l := l.map (nxt · x)) (m := 1099511627777) (fun y hy => by
        obtain ⟨t, ht, rfl⟩ := List.mem_map.1 hy
        have := (nxt_in (hall t ht) h0.1 h0.2).2.2.1
        omega) (by omega)
      generalize nextR l x = r at *
      clear hr hx h0 hall
      go_enter Try.func81, Try.ntmps81
      go_wp2_with fail
      (with_reducible refine (RO.out _ hT).mono ?_)
      rintro e w1 ⟨rfl, b1⟩
      have K1 := Lib.hid b1
      have N1 := Lib.hid (nrow_made w.heap.size w1 b1.size)
      have K2 := Lib.hid (fun o => b1.alloc b1.size o)
      clear b1 hT RO
      go_wp2_with fail
      (with_reducible refine (TM.out _).mono ?_)
      rintro e w2 ⟨rfl, rfl⟩
      have mk := MK.out
      go_wp2_with fail
      clear mk MK TM
      go_loopg [6, 21] l.length (NxRel l x w)
      case atStart => exact ⟨0, _, by omega, rfl, rfl, N1.out, K2.out _⟩
      case round =>
        obtain ⟨i, v0, hi, rfl, rfl, hN, hB⟩ := hrel
        have TQ := T.out.below hB (Nat.le_refl _)
        by_cases hlt : i < l.length
        · obtain ⟨b, off, rfl, hb, hat⟩ := TQ (by omega)
          have hx := hat i l[i] (List.getElem?_eq_getElem hlt)
          have DUI := Lib.hid (DU.out i hlt)
          have DEI := Lib.hid (DE.out i hlt)
          have NXE := Lib.hid (nx_next (x := x) hlt)
          have hlen2 : ((l.map (nxt · x)).take i).length ≤ 16 := by rw [List.length_take, List.length_map]; omega
          have HI := Lib.hid hi
          have NN := Lib.hid hN
          have KB := Lib.hid hB
          have hg0 : 0 < gk := by omega
          clear hi hat TQ hB hN DU DE
          generalize (l.map (nxt · x)).take i = L at *
          generalize nxt l[i] x = nx at *
          generalize cnt l[i] x = cn at *
          generalize l[i] = t at *
          have F0 : Hid (Nx w wr.heap.size t v0 L (wr.alloc (.cells #[.int .i64 t.id, .int .i64 t.c, .int .i64 t.d, .int .i64 t.t, .int .i64 t.m] 32))) := Lib.hid (by
            have a1 := (Below.refl wr.heap.size wr).alloc (Nat.le_refl _) (.cells #[.int .i64 t.id, .int .i64 t.c, .int .i64 t.d, .int .i64 t.t, .int .i64 t.m] 32)
            exact ⟨⟨by simp [go_sem], by simp [go_sem], by simp [go_sem], by simp [go_sem], by simp [go_sem]⟩, NN.out.call a1, KB.out.trans (a1.mono KB.out.size)⟩)
          obtain ⟨c0, c1, c2, c3, c4⟩ := hx
          have LT := Lib.hid (fun (W : World) (h : TkAt wr.heap.size 0 t W) => load_tk h)
          have TV : Hid (t.v = .agg #[.int .i64 t.id, .int .i64 t.c, .int .i64 t.d, .int .i64 t.t, .int .i64 t.m]) := Lib.hid rfl
          clear NN
          generalize hV : t.v = tv at *
          go_upto_region 7 with (fail)
          refine name_world (fun W => Nx w wr.heap.size t v0 L W) F0.out ?_
          intro S HS
          have H0 := Lib.hid (HS.call ((Below.refl _ _).drew))
          clear c0 c1 c2 c3 c4 F0 HS TV hV
          refine wp_region_any (by kernel_rfl) ?_
          (try (change wpAny _ _ _ _ _ _ _ (World.drew _)))
          refine wpAny_take (i := 0) (v := ?_) rfl (by kernel_rfl) (by kernel_rfl) (by kernel_rfl) (fun _ _ _ h => h) (Or.inl ⟨by rfl, ?_⟩) ?_
          rotate_left
          · (intro wS; go_simp; try with_reducible rfl)
          (try simp only [Act.put, List.getElem_toArray, List.getElem_cons_succ, List.getElem_cons_zero, List.setIfInBounds_toArray, List.set_cons_zero, List.set_cons_succ])
          refine wpAny_take (i := 3) (v := ?_) rfl (by kernel_rfl) (by kernel_rfl) (by kernel_rfl) (fun _ _ _ h => h) (Or.inl ⟨by rfl, ?_⟩) ?_
          rotate_left
          · (intro wS; go_simp; try with_reducible rfl)
          (try simp only [Act.put, List.getElem_toArray, List.getElem_cons_succ, List.getElem_cons_zero, List.setIfInBounds_toArray, List.set_cons_zero, List.set_cons_succ])
          refine wpAny_ready (rs := [1, 2]) (by kernel_rfl) (by simp) ?_
          refine AllReady.cons rfl (fun K hK => ?_) ?_
          · rw [if_pos (by rfl)]
            refine wp_val (exec_load1 rfl rfl (LT.out _ H0.out.bx)) (hK _ _ ?_)
            clear hK K
            (try simp only [Act.put, List.getElem_toArray, List.getElem_cons_succ, List.getElem_cons_zero, List.setIfInBounds_toArray, List.set_cons_zero, List.set_cons_succ])
            refine wpAny_ready (rs := [2]) (by kernel_rfl) (by simp) ?_
            refine AllReady.cons rfl (fun K hK => ?_) ?_
            · rw [if_pos (by rfl)]
              refine wp_val (exec_load1 rfl rfl (LT.out _ H0.out.bx)) (hK _ _ ?_)
              clear hK K
              (try simp only [Act.put, List.getElem_toArray, List.getElem_cons_succ, List.getElem_cons_zero, List.setIfInBounds_toArray, List.set_cons_zero, List.set_cons_succ])
              refine wpAny_ready (rs := [4]) (by kernel_rfl) (by simp) ?_
              refine AllReady.cons rfl (fun K hK => ?_) ?_
              · rw [if_pos (by rfl)]
                go_simp
                (with_reducible refine (DUI.out _).mono ?_)
                rintro e wz1 ⟨rfl, b4⟩
                go_simp
                refine hK _ _ ?_
                have H1 := Lib.hid (H0.out.call b4)
                clear b4
                clear hK K
                (try simp only [Act.put, List.getElem_toArray, List.getElem_cons_succ, List.getElem_cons_zero, List.setIfInBounds_toArray, List.set_cons_zero, List.set_cons_succ])
                refine wpAny_ready (rs := [5]) (by kernel_rfl) (by simp) ?_
                refine AllReady.cons rfl (fun K hK => ?_) ?_
                · rw [if_pos (by rfl)]
                  go_simp
                  (with_reducible refine (DEI.out _).mono ?_)
                  rintro e wz2 ⟨rfl, b5⟩
                  go_simp
                  refine hK _ _ ?_
                  have H2 := Lib.hid (H1.out.call b5)
                  clear b5
                  clear hK K
                  (try simp only [Act.put, List.getElem_toArray, List.getElem_cons_succ, List.getElem_cons_zero, List.setIfInBounds_toArray, List.set_cons_zero, List.set_cons_succ])
                  refine wpAny_ready (rs := [6]) (by kernel_rfl) (by simp) ?_
                  refine AllReady.cons rfl (fun K hK => ?_) ?_
                  · rw [if_pos (by rfl)]
                    refine wp_val (exec_build1 rfl rfl (build_num wz2 nx)) (hK _ _ ?_)
                    obtain ⟨v6, w6, r6, n6, b6, -, s6⟩ := nrow_append w.heap.size wz2 v0 L nx H2.out.row H2.out.bel.size (by omega)
                    have KF := Lib.hid (H2.out.bel.trans b6)
                    have NF := Lib.hid n6
                    clear b6 n6 s6
                    clear hK K
                    (try simp only [Act.put, List.getElem_toArray, List.getElem_cons_succ, List.getElem_cons_zero, List.setIfInBounds_toArray, List.set_cons_zero, List.set_cons_succ])
                    refine wpAny_ready (rs := [7]) (by kernel_rfl) (by simp) ?_
                    refine AllReady.cons rfl (fun K hK => ?_) ?_
                    · rw [if_pos (by rfl)]
                      refine Lib.wp_append_run _ _ _ _ _ rfl _ _ rfl rfl _ _ r6 (hK _ _ ?_)
                      clear r6
                      clear hK K
                      (try simp only [Act.put, List.getElem_toArray, List.getElem_cons_succ, List.getElem_cons_zero, List.setIfInBounds_toArray, List.set_cons_zero, List.set_cons_succ])
                      refine wpAny_take (i := 8) (v := ?_) rfl (by kernel_rfl) (by kernel_rfl) (by kernel_rfl) (fun _ _ _ h => h) (Or.inl ⟨by rfl, ?_⟩) ?_
                      rotate_left
                      · (intro wS; go_simp; try with_reducible rfl)
                      (try simp only [Act.put, List.getElem_toArray, List.getElem_cons_succ, List.getElem_cons_zero, List.setIfInBounds_toArray, List.set_cons_zero, List.set_cons_succ])
                      refine wpAny_done (by kernel_rfl) ?_ _
                      go_wp2
                      go_roundg (gk - 1)
                      case measure => omega
                      case rel => exact ⟨i + 1, _, by have := HI.out; omega, by go_num, rfl, by rw [NXE.out]; exact NF.out, KF.out⟩
                    exact AllReady.nil
                  exact AllReady.nil
                exact AllReady.nil
              exact AllReady.nil
            exact AllReady.nil
          refine AllReady.cons rfl (fun K hK => ?_) ?_
          · rw [if_pos (by rfl)]
            refine wp_val (exec_load1 rfl rfl (LT.out _ H0.out.bx)) (hK _ _ ?_)
            clear hK K
            (try simp only [Act.put, List.getElem_toArray, List.getElem_cons_succ, List.getElem_cons_zero, List.setIfInBounds_toArray, List.set_cons_zero, List.set_cons_succ])
            refine wpAny_ready (rs := [1, 4]) (by kernel_rfl) (by simp) ?_
            refine AllReady.cons rfl (fun K hK => ?_) ?_
            · rw [if_pos (by rfl)]
              refine wp_val (exec_load1 rfl rfl (LT.out _ H0.out.bx)) (hK _ _ ?_)
              clear hK K
              (try simp only [Act.put, List.getElem_toArray, List.getElem_cons_succ, List.getElem_cons_zero, List.setIfInBounds_toArray, List.set_cons_zero, List.set_cons_succ])
              refine wpAny_ready (rs := [4]) (by kernel_rfl) (by simp) ?_
              refine AllReady.cons rfl (fun K hK => ?_) ?_
              · rw [if_pos (by rfl)]
                go_simp
                (with_reducible refine (DUI.out _).mono ?_)
                rintro e wz1 ⟨rfl, b4⟩
                go_simp
                refine hK _ _ ?_
                have H1 := Lib.hid (H0.out.call b4)
                clear b4
                clear hK K
                (try simp only [Act.put, List.getElem_toArray, List.getElem_cons_succ, List.getElem_cons_zero, List.setIfInBounds_toArray, List.set_cons_zero, List.set_cons_succ])
                refine wpAny_ready (rs := [5]) (by kernel_rfl) (by simp) ?_
                refine AllReady.cons rfl (fun K hK => ?_) ?_
                · rw [if_pos (by rfl)]
                  go_simp
                  (with_reducible refine (DEI.out _).mono ?_)
                  rintro e wz2 ⟨rfl, b5⟩
                  go_simp
                  refine hK _ _ ?_
                  have H2 := Lib.hid (H1.out.call b5)
                  clear b5
                  clear hK K
                  (try simp only [Act.put, List.getElem_toArray, List.getElem_cons_succ, List.getElem_cons_zero, List.setIfInBounds_toArray, List.set_cons_zero, List.set_cons_succ])
                  refine wpAny_ready (rs := [6]) (by kernel_rfl) (by simp) ?_
                  refine AllReady.cons rfl (fun K hK => ?_) ?_
                  · rw [if_pos (by rfl)]
                    refine wp_val (exec_build1 rfl rfl (build_num wz2 nx)) (hK _ _ ?_)
                    obtain ⟨v6, w6, r6, n6, b6, -, s6⟩ := nrow_append w.heap.size wz2 v0 L nx H2.out.row H2.out.bel.size (by omega)
                    have KF := Lib.hid (H2.out.bel.trans b6)
                    have NF := Lib.hid n6
                    clear b6 n6 s6
                    clear hK K
                    (try simp only [Act.put, List.getElem_toArray, List.getElem_cons_succ, List.getElem_cons_zero, List.setIfInBounds_toArray, List.set_cons_zero, List.set_cons_succ])
                    refine wpAny_ready (rs := [7]) (by kernel_rfl) (by simp) ?_
                    refine AllReady.cons rfl (fun K hK => ?_) ?_
                    · rw [if_pos (by rfl)]
                      refine Lib.wp_append_run _ _ _ _ _ rfl _ _ rfl rfl _ _ r6 (hK _ _ ?_)
                      clear r6
                      clear hK K
                      (try simp only [Act.put, List.getElem_toArray, List.getElem_cons_succ, List.getElem_cons_zero, List.setIfInBounds_toArray, List.set_cons_zero, List.set_cons_succ])
                      refine wpAny_take (i := 8) (v := ?_) rfl (by kernel_rfl) (by kernel_rfl) (by kernel_rfl) (fun _ _ _ h => h) (Or.inl ⟨by rfl, ?_⟩) ?_
                      rotate_left
                      · (intro wS; go_simp; try with_reducible rfl)
                      (try simp only [Act.put, List.getElem_toArray, List.getElem_cons_succ, List.getElem_cons_zero, List.setIfInBounds_toArray, List.set_cons_zero, List.set_cons_succ])
                      refine wpAny_done (by kernel_rfl) ?_ _
                      go_wp2
                      go_roundg (gk - 1)
                      case measure => omega
                      case rel => exact ⟨i + 1, _, by have := HI.out; omega, by go_num, rfl, by rw [NXE.out]; exact NF.out, KF.out⟩
                    exact AllReady.nil
                  exact AllReady.nil
                exact AllReady.nil
              exact AllReady.nil
            refine AllReady.cons rfl (fun K hK => ?_) ?_
            · rw [if_pos (by rfl)]
              go_simp
              (with_reducible refine (DUI.out _).mono ?_)
              rintro e wz1 ⟨rfl, b4⟩
              go_simp
              refine hK _ _ ?_
              have H1 := Lib.hid (H0.out.call b4)
              clear b4
              clear hK K
              (try simp only [Act.put, List.getElem_toArray, List.getElem_cons_succ, List.getElem_cons_zero, List.setIfInBounds_toArray, List.set_cons_zero, List.set_cons_succ])
              refine wpAny_ready (rs := [1]) (by kernel_rfl) (by simp) ?_
              refine AllReady.cons rfl (fun K hK => ?_) ?_
              · rw [if_pos (by rfl)]
                refine wp_val (exec_load1 rfl rfl (LT.out _ H1.out.bx)) (hK _ _ ?_)
                clear hK K
                (try simp only [Act.put, List.getElem_toArray, List.getElem_cons_succ, List.getElem_cons_zero, List.setIfInBounds_toArray, List.set_cons_zero, List.set_cons_succ])
                refine wpAny_ready (rs := [5]) (by kernel_rfl) (by simp) ?_
                refine AllReady.cons rfl (fun K hK => ?_) ?_
                · rw [if_pos (by rfl)]
                  go_simp
                  (with_reducible refine (DEI.out _).mono ?_)
                  rintro e wz2 ⟨rfl, b5⟩
                  go_simp
                  refine hK _ _ ?_
                  have H2 := Lib.hid (H1.out.call b5)
                  clear b5
                  clear hK K
                  (try simp only [Act.put, List.getElem_toArray, List.getElem_cons_succ, List.getElem_cons_zero, List.setIfInBounds_toArray, List.set_cons_zero, List.set_cons_succ])
                  refine wpAny_ready (rs := [6]) (by kernel_rfl) (by simp) ?_
                  refine AllReady.cons rfl (fun K hK => ?_) ?_
                  · rw [if_pos (by rfl)]
                    refine wp_val (exec_build1 rfl rfl (build_num wz2 nx)) (hK _ _ ?_)
                    obtain ⟨v6, w6, r6, n6, b6, -, s6⟩ := nrow_append w.heap.size wz2 v0 L nx H2.out.row H2.out.bel.size (by omega)
                    have KF := Lib.hid (H2.out.bel.trans b6)
                    have NF := Lib.hid n6
                    clear b6 n6 s6
                    clear hK K
                    (try simp only [Act.put, List.getElem_toArray, List.getElem_cons_succ, List.getElem_cons_zero, List.setIfInBounds_toArray, List.set_cons_zero, List.set_cons_succ])
                    refine wpAny_ready (rs := [7]) (by kernel_rfl) (by simp) ?_
                    refine AllReady.cons rfl (fun K hK => ?_) ?_
                    · rw [if_pos (by rfl)]
                      refine Lib.wp_append_run _ _ _ _ _ rfl _ _ rfl rfl _ _ r6 (hK _ _ ?_)
                      clear r6
                      clear hK K
                      (try simp only [Act.put, List.getElem_toArray, List.getElem_cons_succ, List.getElem_cons_zero, List.setIfInBounds_toArray, List.set_cons_zero, List.set_cons_succ])
                      refine wpAny_take (i := 8) (v := ?_) rfl (by kernel_rfl) (by kernel_rfl) (by kernel_rfl) (fun _ _ _ h => h) (Or.inl ⟨by rfl, ?_⟩) ?_
                      rotate_left
                      · (intro wS; go_simp; try with_reducible rfl)
                      (try simp only [Act.put, List.getElem_toArray, List.getElem_cons_succ, List.getElem_cons_zero, List.setIfInBounds_toArray, List.set_cons_zero, List.set_cons_succ])
                      refine wpAny_done (by kernel_rfl) ?_ _
                      go_wp2
                      go_roundg (gk - 1)
                      case measure => omega
                      case rel => exact ⟨i + 1, _, by have := HI.out; omega, by go_num, rfl, by rw [NXE.out]; exact NF.out, KF.out⟩
                    exact AllReady.nil
                  exact AllReady.nil
                exact AllReady.nil
              exact AllReady.nil
            exact AllReady.nil
          exact AllReady.nil
        · have hge : (l.length : Int) ≤ (i : Int) := by omega
          rw [List.take_of_length_le (by rw [List.length_map]; omega)] at hN
          obtain ⟨a2, k2, rfl, -, hns⟩ := hN.form
          have LE := Lib.hid (least_any _ a2 k2 wr hns (by rw [List.length_map]; omega))
          have TY := Lib.hid (isTime_any (leastR 1099511627777 (l.map (nxt · x))))
          have KB := Lib.hid hB
          generalize leastR 1099511627777 (l.map (nxt · x)) = y at *
          generalize (l.map (nxt · x)).length = ll at *
          clear hB hns hN TQ DU DE hi hlt
          cases hy : isTime y with
          | true =>
            rw [hy] at TY
            have E2 : Hid (r = some y) := Lib.hid (by rw [E.out, if_pos hy])
            clear hy E
            go_wp2_with fail
            (with_reducible refine (LE.out).mono ?_)
            rintro e w3 ⟨rfl, rfl⟩
            go_wp2_with fail
            (with_reducible refine (TY.out _).mono ?_)
            rintro e w4 ⟨rfl, rfl⟩
            go_wp2
            exact bodyPost_ret (v := .tuple #[.int .i64 y, .bool true]) (by simp [results, Try.results81, go_sem]) rfl ⟨by rw [E2.out]; rfl, KB.out⟩
          | false =>
            rw [hy] at TY
            have E2 : Hid (r = none) := Lib.hid (by rw [E.out, if_neg (by rw [hy]; simp)])
            clear hy E
            go_wp2_with fail
            (with_reducible refine (LE.out).mono ?_)
            rintro e w3 ⟨rfl, rfl⟩
            go_wp2_with fail
            (with_reducible refine (TY.out _).mono ?_)
            rintro e w4 ⟨rfl, rfl⟩
            go_wp2
            exact bodyPost_ret (v := .tuple #[.int .i64 0, .bool false]) (by simp [results, Try.results81, go_sem]) rfl ⟨by rw [E2.out]; rfl, KB.out⟩
end Go.Proofs.Ytgbnoifaknlkhaa.Dm
namespace Go.Proofs.Ytgbnoifaknlkhaa.Dm
open Go.ChangeShapes Go.WideShapes Go.ChangeAt Go.RowKit Go.Joins
open Pm (Tk chk chk_iff rowB rowB_all rowB_len TkAt Ts TRow chk_any wrap_in below_drewN row_any)
set_option maxRecDepth 100000
set_option maxRecDepth 100000
set_option linter.unusedVariables false
set_option linter.unusedSimpArgs false
/-- the greatest deadline below x, and true -/
def beforeR (l : List Tk) (x : Int) : Option Int := if rowB l = true ∧ isTime x = true then (if 0 < befs l x then some (befs l x) else none) else none
theorem beforeR_no {l : List Tk} {x : Int} (h : rowB l = false) : beforeR l x = none := by unfold beforeR; rw [if_neg (by rw [h]; simp)]
theorem beforeR_no2 {l : List Tk} {x : Int} (h : isTime x = false) : beforeR l x = none := by unfold beforeR; rw [if_neg (by rw [h]; simp)]
/-- as it is gathered -/
def befL (x m : Int) : List Tk → Int
  | [] => m
  | t :: l => befL x (if t.d < x ∧ m < bef t x then bef t x else m) l
theorem befL_take {l : List Tk} {x : Int} : ∀ {m : Int} {i : Nat} (h : i < l.length), befL x m (l.take (i + 1)) = if l[i].d < x ∧ befL x m (l.take i) < bef l[i] x then bef l[i] x else befL x m (l.take i) := by
  induction l with
  | nil => intro m i h; simp at h
  | cons y l ih =>
    intro m i h
    cases i with
    | zero => simp [befL]
    | succ i =>
      rw [List.take_succ_cons, List.take_succ_cons, befL, befL, List.getElem_cons_succ]
      exact ih (by simpa using h)
theorem befL_befs {l : List Tk} {x : Int} : ∀ {m : Int}, 0 ≤ m → befL x m l = if m < befs l x then befs l x else m := by
  induction l with
  | nil => intro m h; show m = if m < 0 then 0 else m; split <;> omega
  | cons t l ih =>
    intro m h
    rw [befL, ih (by split <;> omega), befs]
    by_cases hd : t.d < x
    · simp only [hd, true_and]
      repeat' split
      all_goals omega
    · simp only [hd, false_and, if_false]
theorem befL_zero {l : List Tk} {x : Int} (hl : ∀ t ∈ l, 0 < t.t ∧ 0 < t.d) : befL x 0 l = befs l x := by
  rw [befL_befs (by omega)]
  have := befs_is (x := x) hl
  split
  · rfl
  · omega
/-- what Before tells, as it is gathered -/
theorem before_befL {l : List Tk} {x : Int} (hr : rowB l = true) (hx : isTime x = true) : beforeR l x = if 0 < befL x 0 l then some (befL x 0 l) else none := by
  have hl := rowB_all hr
  unfold beforeR
  rw [if_pos ⟨hr, hx⟩, befL_zero (fun t h => by have := chk_iff.1 (hl t h); omega)]
theorem befL_in {l : List Tk} {x : Int} (hl : ∀ t ∈ l, chk t = true) : ∀ {m : Int}, 0 ≤ m → m ≤ 1099511627776 → x ≤ 1099511627776 → 0 ≤ befL x m l ∧ befL x m l ≤ 1099511627776 := by
  induction l with
  | nil => intro m h h1 _; exact ⟨h, h1⟩
  | cons t l ih =>
    intro m h h1 hx
    rw [befL]
    have ht := chk_iff.1 (hl t (by simp))
    by_cases hd : t.d < x ∧ m < bef t x
    · rw [if_pos hd]
      have := bef_is (t := t) (x := x) (by omega) hd.1
      exact ih (fun a ha => hl a (by simp [ha])) (by omega) (by omega) hx
    · rw [if_neg hd]
      exact ih (fun a ha => hl a (by simp [ha])) h h1 hx
/-- a round's numbers: n deadlines lie below x -/
theorem bef_step {t : Tk} {x m : Int} (hc : chk t = true) : (t.d < x → 0 < cnt t (x - 1) ∧ t.d + t.t * (cnt t (x - 1) - 1) = bef t x) ∧ (¬ t.d < x → cnt t (x - 1) = 0) := by
  have ht := chk_iff.1 hc
  refine ⟨fun h => ?_, fun h => cnt_lt (by omega)⟩
  rw [cnt_ge (by omega)]
  have := Int.ediv_nonneg (show 0 ≤ x - 1 - t.d by omega) (show 0 ≤ t.t by omega)
  refine ⟨by omega, ?_⟩
  unfold bef
  rw [show (x - 1 - t.d) / t.t + 1 - 1 = (x - 1 - t.d) / t.t by omega]
/-- i tasks were looked at -/
def BeRel (l : List Tk) (x : Int) (B : Nat) (w : World) (g : Nat) (s t : Value) (wx : World) : Prop :=
  ∃ i : Nat, i + g = l.length ∧ s = .int .i64 (befL x 0 (l.take i)) ∧ t = .int .i64 (i : Int) ∧ Below B w wx
set_option maxHeartbeats 4000000 in
theorem before_any (l : List Tk) (ao : Option Addr) (cap : Nat) (x : Int) (w : World) (hT : Ts ao l w) (hl : l.length ≤ 9223372036854775807) :
    Calls Try.prog 73 #[.slice ao l.length cap, .int .i64 x] w fun e w' => e = .returned (ans (beforeR l x)) ∧ Below w.heap.size w w' := by
  have RO := Lib.hid (fun w h => row_any l ao cap w h hl)
  have TM := Lib.hid (isTime_any x)
  have T := Lib.hid hT
  cases hr : rowB l with
  | false =>
    have E := Lib.hid (beforeR_no (x := x) hr)
    rw [hr] at RO
    generalize beforeR l x = r at *
    clear hr
    go_enter Try.func73, Try.ntmps73
    go_wp2_with fail
    (with_reducible refine (RO.out _ hT).mono ?_)
    rintro e w1 ⟨rfl, b1⟩
    have K1 := Lib.hid b1
    clear b1 hT
    go_wp2
    exact bodyPost_ret (v := .tuple #[.int .i64 0, .bool false]) (by simp [results, Try.results73, go_sem]) rfl ⟨by rw [E.out]; rfl, K1.out⟩
  | true =>
    rw [hr] at RO
    cases hx : isTime x with
    | false =>
      have E := Lib.hid (beforeR_no2 (l := l) hx)
      rw [hx] at TM
      generalize beforeR l x = r at *
      clear hr hx
      go_enter Try.func73, Try.ntmps73
      go_wp2_with fail
      (with_reducible refine (RO.out _ hT).mono ?_)
      rintro e w1 ⟨rfl, b1⟩
      have K1 := Lib.hid b1
      clear b1 hT
      go_wp2_with fail
      (with_reducible refine (TM.out _).mono ?_)
      rintro e w2 ⟨rfl, rfl⟩
      go_wp2
      exact bodyPost_ret (v := .tuple #[.int .i64 0, .bool false]) (by simp [results, Try.results73, go_sem]) rfl ⟨by rw [E.out]; rfl, K1.out⟩
    | true =>
      have E := Lib.hid (before_befL hr hx)
      have hlen := rowB_len hr
      have hall := rowB_all hr
      have h0 := isTime_iff.1 hx
      rw [hx] at TM
      have CK := Lib.hid (fun i (h : i < l.length) => hall _ (List.getElem_mem h))
      have DU := Lib.hid (fun i (h : i < l.length) w => due_any l[i] (x - 1) w (hall _ (List.getElem_mem h)) (by omega) (by omega))
      have BI := Lib.hid (fun i => befL_in (x := x) (l := l.take i) (fun t ht => hall t (List.mem_of_mem_take ht)) (m := 0) (by omega) (by omega) h0.2)
      have x0 := h0.1
      have x1 := h0.2
      generalize beforeR l x = r at *
      clear hr hx h0 hall
      go_enter Try.func73, Try.ntmps73
      go_wp2_with fail
      (with_reducible refine (RO.out _ hT).mono ?_)
      rintro e w1 ⟨rfl, b1⟩
      have K1 := Lib.hid b1
      clear b1 hT RO
      go_wp2_with fail
      (with_reducible refine (TM.out _).mono ?_)
      rintro e w2 ⟨rfl, rfl⟩
      clear TM
      go_wp2_with fail
      go_loopg [6, 20] l.length (BeRel l x w.heap.size w)
      case atStart => exact ⟨0, by omega, rfl, rfl, K1.out⟩
      case round =>
        obtain ⟨i, hi, rfl, rfl, hB⟩ := hrel
        have TQ := T.out.below hB (Nat.le_refl _)
        by_cases hlt : i < l.length
        · obtain ⟨b, off, rfl, hb, hat⟩ := TQ (by omega)
          have hx := hat i l[i] (List.getElem?_eq_getElem hlt)
          have hck := CK.out i hlt
          have DUI := Lib.hid (DU.out i hlt)
          have NX := befL_take (x := x) (m := 0) hlt
          have m0 := (BI.out i).1
          have m1 := (BI.out i).2
          have HI := Lib.hid hi
          have KB := Lib.hid hB
          have hg0 : 0 < gk := by omega
          have F0 : Hid (Bx wr.heap.size wr l[i] (wr.alloc (.cells #[.int .i64 l[i].id, .int .i64 l[i].c, .int .i64 l[i].d, .int .i64 l[i].t, .int .i64 l[i].m] 32))) := Lib.hid (bx_new _ _ _)
          obtain ⟨s1, s2⟩ := bef_step (t := l[i]) (x := x) (m := 0) hck
          obtain ⟨-, -, k1, k2, k3, k4, -⟩ := chk_iff.1 hck
          clear hi hat TQ hB DU BI CK
          by_cases hd : l[i].d < x
          · obtain ⟨n0, n1⟩ := s1 hd
            have bi := bef_is (t := l[i]) (x := x) (by omega) hd
            have DEI := Lib.hid (fun w => deadline_any l[i] (cnt l[i] (x - 1) - 1) w (by
              rw [Int.mul_comm]; exact Int.mul_nonneg (by omega) (by omega)) (by rw [Int.mul_comm]; omega) (by omega) (by omega))
            rw [n1] at DEI
            have b0 := bi.1
            have b1 := bi.2.1
            have n2 : cnt l[i] (x - 1) ≤ 1099511627777 := (cnt_le_time hck (isTime_iff.2 ⟨by omega, by omega⟩)).2
            clear s1 s2 n1 bi hck
            generalize befL x 0 (l.take i) = M at *
            generalize bef l[i] x = bb at *
            generalize cnt l[i] (x - 1) = n at *
            generalize l[i] = t at *
            obtain ⟨c0, c1, c2, c3, c4⟩ := hx
            obtain ⟨ti, tc, td, tt, tm⟩ := t
            unfold Tk.v at DUI DEI
            simp only at *
            by_cases hm : M < bb
            · have NE := Lib.hid (NX.trans (if_pos ⟨hd, hm⟩))
              have hm' : bb > M := hm
              clear NX
              go_wp2_with fail
              (with_reducible refine (DUI.out _).mono ?_)
              rintro e w3 ⟨rfl, b3⟩
              have F1 := Lib.hid (F0.out.call b3)
              clear b3 F0 c0 c1 c2 c3 c4
              obtain ⟨c0, c1, c2, c3, c4, -⟩ := F1.out
              go_wp2_with fail
              (with_reducible refine (DEI.out _).mono ?_)
              rintro e w4 ⟨rfl, b4⟩
              have KF := Lib.hid (KB.out.trans ((F1.out.call b4).bel.mono KB.out.size))
              clear b4 F1 KB c0 c1 c2 c3 c4 DEI DUI
              go_wp2
              go_roundg (gk - 1)
              case measure => omega
              case rel => exact ⟨i + 1, by have := HI.out; omega, by rw [NE.out], by go_num, KF.out⟩
            · have NE := Lib.hid (NX.trans (if_neg (fun h => hm h.2)))
              have hm' : bb ≤ M := by omega
              clear NX hm
              go_wp2_with fail
              (with_reducible refine (DUI.out _).mono ?_)
              rintro e w3 ⟨rfl, b3⟩
              have F1 := Lib.hid (F0.out.call b3)
              clear b3 F0 c0 c1 c2 c3 c4
              obtain ⟨c0, c1, c2, c3, c4, -⟩ := F1.out
              go_wp2_with fail
              (with_reducible refine (DEI.out _).mono ?_)
              rintro e w4 ⟨rfl, b4⟩
              have KF := Lib.hid (KB.out.trans ((F1.out.call b4).bel.mono KB.out.size))
              clear b4 F1 KB c0 c1 c2 c3 c4 DEI DUI
              go_wp2
              go_roundg (gk - 1)
              case measure => omega
              case rel => exact ⟨i + 1, by have := HI.out; omega, by rw [NE.out], by go_num, KF.out⟩
          · rw [s2 hd] at DUI
            have NE := Lib.hid (NX.trans (if_neg (fun h => hd h.1)))
            clear s1 s2 NX hck
            generalize befL x 0 (l.take i) = M at *
            generalize l[i] = t at *
            obtain ⟨c0, c1, c2, c3, c4⟩ := hx
            obtain ⟨ti, tc, td, tt, tm⟩ := t
            unfold Tk.v at DUI
            simp only at *
            go_wp2_with fail
            (with_reducible refine (DUI.out _).mono ?_)
            rintro e w3 ⟨rfl, b3⟩
            have KF := Lib.hid (KB.out.trans ((F0.out.call b3).bel.mono KB.out.size))
            clear b3 F0 KB c0 c1 c2 c3 c4 DUI
            go_wp2
            go_roundg (gk - 1)
            case measure => omega
            case rel => exact ⟨i + 1, by have := HI.out; omega, by rw [NE.out], by go_num, KF.out⟩
        · have hge : (l.length : Int) ≤ (i : Int) := by omega
          rw [List.take_of_length_le (by omega)]
          have m0 := (BI.out l.length).1
          rw [List.take_of_length_le (by omega)] at m0
          have K2 := Lib.hid hB
          generalize befL x 0 l = y at *
          clear hB TQ hi hlt DU BI CK
          by_cases hy : 0 < y
          · have E2 : Hid (r = some y) := Lib.hid (by rw [E.out, if_pos hy])
            have hd : decide (0 < y) = true := decide_eq_true hy
            clear E
            go_wp2
            exact bodyPost_ret (v := .tuple #[.int .i64 y, .bool true]) (by simp [results, Try.results73, go_sem]) rfl ⟨by rw [E2.out]; rfl, K2.out⟩
          · have E2 : Hid (r = none) := Lib.hid (by rw [E.out, if_neg hy])
            obtain rfl : y = 0 := by omega
            clear E hy
            go_wp2
            exact bodyPost_ret (v := .tuple #[.int .i64 0, .bool false]) (by simp [results, Try.results73, go_sem]) rfl ⟨by rw [E2.out]; rfl, K2.out⟩
end Go.Proofs.Ytgbnoifaknlkhaa.Dm
