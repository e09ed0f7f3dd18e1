/- The document's executive (layer 18): a row of jobs, those ahead first, in memory; Has, Left, Late, Drop; Same. -/
import Derived.Test.YteagimnlhopjpaaHjB
import Derived.Lib.AppendZeros
import Derived.Deep.QuietTactic
import Derived.Deep.LoopGhost
import Derived.Test.YteagimnlhopjpaaGnH
namespace Go.Proofs.Yteagimnlhopjpaa.Hj
open Go.ChangeShapes Go.WideShapes Go.ChangeAt Go.RowKit Go.Joins
open Ed (Jo wk own_an hasR lateR leftR addR runR mayJ)
set_option maxRecDepth 100000
set_option maxRecDepth 100000
set_option linter.unusedVariables false
set_option linter.unusedSimpArgs false
/-- the document's executive in block c, whose jobs lie at ao -/
structure Rx (LB : Nat) (w : World) (c : Nat) (ao : Option Addr) (L : List Jo) : Prop where
  head : ∃ cap, L.length ≤ cap ∧ w.heap[c]? = some (.cells #[.slice ao L.length cap] 29 (0, 0))
  seen : Ns ao L w
  lb : LB ≤ c
  at_ : ∀ a, ao = some a → LB ≤ a.block ∧ a.block < w.heap.size ∧ a.block ≠ c
section
variable {LB c : Nat} {ao : Option Addr} {L : List Jo} {w w' : World}
theorem Rx.lt (h : Rx LB w c ao L) : c < w.heap.size := by obtain ⟨cap, -, e⟩ := h.head; exact lt_of_heap e
theorem Rx.cell (h : Rx LB w c ao L) : ∃ cap, L.length ≤ cap ∧ w.cell? ⟨c, 0, none⟩ = some (.slice ao L.length cap) ∧ w.frozen? ⟨c, 0, none⟩ = false := by
  obtain ⟨cap, hc, e⟩ := h.head
  exact ⟨cap, hc, by rw [Lib.cell_of_heap e]; rfl, Lib.frozen_of_heap e 0⟩
theorem Rx.of_blocks (h : Rx LB w c ao L) (hs : w.heap.size ≤ w'.heap.size) (hc : w'.heap[c]? = w.heap[c]?) (ha : ∀ a, ao = some a → w'.heap[a.block]? = w.heap[a.block]?) : Rx LB w' c ao L :=
  ⟨by obtain ⟨cap, h1, e⟩ := h.head; exact ⟨cap, h1, hc.trans e⟩, h.seen.of_block hs fun b off e _ => ha _ e, h.lb, fun a e => by obtain ⟨h1, h2, h3⟩ := h.at_ a e; exact ⟨h1, by omega, h3⟩⟩
theorem Rx.call (h : Rx LB w c ao L) (hb : Below w.heap.size w w') : Rx LB w' c ao L := h.of_blocks hb.size (hb.block c h.lt) fun a e => hb.block _ (h.at_ a e).2.1
theorem Rx.mono {M : Nat} (h : Rx LB w c ao L) (hM : M ≤ LB) : Rx M w c ao L := ⟨h.head, h.seen, by have := h.lb; omega, fun a e => by obtain ⟨h1, h2⟩ := h.at_ a e; exact ⟨by omega, h2⟩⟩
/-- another row in its place, of a call's own -/
theorem Rx.put {v : Value} {M : List Jo} (h : Rx LB w c ao L) (hr : NRow LB w v M) (hc : v.ownBlock ≠ some c) : ∃ ao', Rx LB (w.setCell ⟨c, 0, none⟩ v) c ao' M ∧ ∃ cap, v = .slice ao' M.length cap := by
  obtain ⟨cap0, -, e0⟩ := h.head
  obtain ⟨ao', cap, rfl, hcap, hs⟩ := hr.form
  have hb : ∀ a, ao' = some a → (Value.slice ao' M.length cap).ownBlock = some a.block := fun a e => by rw [e]; rfl
  refine ⟨ao', ⟨⟨cap, hcap, by simp [World.setCell, Array.getElem?_modify, e0]⟩, hs.of_block (by simp [World.setCell]) fun b off e _ => Below.heap_setCell _ _ _ _ (show b ≠ c by rintro rfl; exact hc (hb _ e)), h.lb, fun a e => ?_⟩, cap, rfl⟩
  have := hr.lt _ (hb a e)
  exact ⟨this.1, by simp [World.setCell]; exact this.2, fun e2 => hc (by rw [hb a e, e2])⟩
end
theorem rx_new (w : World) : Rx w.heap.size (w.alloc (.cells #[.slice none 0 0] 29)) w.heap.size none [] :=
  ⟨⟨0, by simp, heap_alloc_new w _⟩, ns_nil _ _, Nat.le_refl _, fun a e => by cases e⟩
theorem rahead_any (a b : Jo) (w : World) :
    Calls Try.prog 32 #[.agg #[.int .i64 a.id, .int .i64 a.rel, .int .i64 a.dl, .int .i64 a.le], .agg #[.int .i64 b.id, .int .i64 b.rel, .int .i64 b.dl, .int .i64 b.le]] w fun e w' => e = .returned (.bool (Ed.ahead a b)) ∧ Below w.heap.size w w' := by
  cases h1 : decide (a.dl < b.dl) with
  | true =>
    have e : Ed.ahead a b = true := by unfold Ed.ahead; rw [h1]; rfl
    have EE := Lib.hid e
    have h2 := of_decide_eq_true h1
    clear e
    go_enter Try.func32, Try.ntmps32
    go_wp2
    go_ret
    exact ⟨by rw [EE.out]; rfl, ((Below.refl _ w).alloc (Nat.le_refl _) _).alloc (by simp) _⟩
  | false =>
    have e : Ed.ahead a b = (decide (a.dl = b.dl) && decide (a.id < b.id)) := by unfold Ed.ahead; rw [h1]; rfl
    have EE := Lib.hid e
    have h2 := of_decide_eq_false h1
    clear e
    cases h3 : decide (a.dl = b.dl) with
    | true =>
      have h4 := of_decide_eq_true h3
      have h5 : (a.dl == b.dl) = true := by simp [h4]
      clear h4
      go_enter Try.func32, Try.ntmps32
      go_wp2
      go_ret
      exact ⟨by rw [EE.out, h3]; rfl, ((Below.refl _ w).alloc (Nat.le_refl _) _).alloc (by simp) _⟩
    | false =>
      have h4 := of_decide_eq_false h3
      have h5 : (a.dl == b.dl) = false := by simp [h4]
      clear h4
      go_enter Try.func32, Try.ntmps32
      go_wp2
      go_ret
      exact ⟨by rw [EE.out, h3]; rfl, ((Below.refl _ w).alloc (Nat.le_refl _) _).alloc (by simp) _⟩
def HaRel (L : List Jo) (id : Int) (w : World) (gk : Nat) (s5 : Value) (wx : World) : Prop := ∃ i : Nat, i + gk = L.length ∧ s5 = .int .i64 (i : Int) ∧ hasR (L.take i) id = false ∧ wx = w
theorem has_snoc {L : List Jo} {i : Nat} {x : Jo} {id : Int} (hx : L[i]? = some x) : hasR (L.take (i + 1)) id = (hasR (L.take i) id || (x.id == id)) := by
  obtain ⟨h, e⟩ := List.getElem?_eq_some_iff.1 hx
  rw [List.take_succ_eq_append_getElem h, e]
  unfold hasR
  rw [List.any_append]
  simp
theorem rhas_any (LB c : Nat) (ao : Option Addr) (L : List Jo) (id : Int) (hL : L.length ≤ 80000) (w : World) (h : Rx LB w c ao L) :
    Calls Try.prog 24 #[.pointer (some ⟨c, 0, none⟩), .int .i64 id] w fun e w' => e = .returned (.bool (hasR L id)) ∧ w' = w := by
  obtain ⟨cap, -, hc, -⟩ := h.cell
  have S := Lib.hid h.seen
  clear h
  go_enter Try.func24, Try.ntmps24
  go_wp2_with fail
  go_loopg [5] L.length (HaRel L id w)
  case atStart => exact ⟨0, by omega, rfl, rfl, rfl⟩
  case round =>
    obtain ⟨i, hi, rfl, hk, rfl⟩ := hrel
    by_cases hlt : i < L.length
    · obtain ⟨x, hx⟩ : ∃ x, L[i]? = some x := ⟨_, List.getElem?_eq_getElem hlt⟩
      obtain ⟨b, off, rfl, -, hat⟩ := S.out.at (by omega)
      obtain ⟨x0, -, -, -⟩ := hat i x hx
      have hs := has_snoc (id := id) hx
      rw [hk, Bool.false_or] at hs
      have hlt' : (i : Int) < (L.length : Int) := by omega
      have hi1w : IntKind.i64.wrap ((i : Int) + 1) = (i : Int) + 1 := IntWalk.i64_in _ (by omega)
      have HI := Lib.hid hi
      have HS := Lib.hid hs
      have MEM := Lib.hid (List.mem_of_getElem? hx)
      have hg0 : 0 < gk := by omega
      clear hi hx hk hat hs
      by_cases he : x.id = id
      · have e1 : (x.id == id) = true := by simp [he]
        have ET : Hid (hasR L id = true) := Lib.hid (Ed.has_iff.2 ⟨x, MEM.out, he⟩)
        go_wp2
        go_ret
        exact ⟨by rw [ET.out]; rfl, rfl⟩
      · have e1 : (x.id == id) = false := by simp [he]
        go_wp2
        go_roundg (gk - 1)
        case measure => omega
        case rel => exact ⟨i + 1, by have := HI.out; omega, by go_num, by rw [HS.out]; exact e1, rfl⟩
    · have hge : (L.length : Int) ≤ (i : Int) := by omega
      have hdec : decide (i < L.length) = false := decide_eq_false hlt
      have e : L.take i = L := List.take_of_length_le (by omega)
      rw [e] at hk
      have HK := Lib.hid hk
      clear hi hlt hk e
      go_wp2
      go_ret
      exact ⟨by rw [HK.out]; rfl, rfl⟩
def LfRel (L : List Jo) (w : World) (gk : Nat) (s3 s4 : Value) (wx : World) : Prop := ∃ i : Nat, i + gk = L.length ∧ s4 = .int .i64 (i : Int) ∧ s3 = .int .i64 (leftR (L.take i)) ∧ wx = w
theorem left_snoc : ∀ (A : List Jo) (x : Jo), leftR (A ++ [x]) = leftR A + x.le
  | [], x => by simp [leftR]
  | a :: A, x => by rw [List.cons_append, leftR, left_snoc A x, leftR]; omega
theorem left_bound : ∀ (A : List Jo), (∀ j ∈ A, 0 ≤ j.le ∧ j.le ≤ 2147483648) → 0 ≤ leftR A ∧ leftR A ≤ 2147483648 * (A.length : Int)
  | [], _ => by simp [leftR]
  | a :: A, h => by
    have h1 := h a (by simp)
    have h2 := left_bound A fun j hj => h j (by simp [hj])
    rw [leftR, List.length_cons]
    omega
theorem rleft_any (LB c : Nat) (ao : Option Addr) (L : List Jo) (hL : L.length ≤ 80000) (hb : ∀ j ∈ L, 0 ≤ j.le ∧ j.le ≤ 2147483648) (w : World) (h : Rx LB w c ao L) :
    Calls Try.prog 22 #[.pointer (some ⟨c, 0, none⟩)] w fun e w' => e = .returned (.int .i64 (leftR L)) ∧ w' = w := by
  obtain ⟨cap, -, hc, -⟩ := h.cell
  have S := Lib.hid h.seen
  have HB := Lib.hid hb
  clear h hb
  go_enter Try.func22, Try.ntmps22
  go_wp2_with fail
  go_loopg [3, 4] L.length (LfRel L w)
  case atStart => exact ⟨0, by omega, rfl, rfl, rfl⟩
  case round =>
    obtain ⟨i, hi, rfl, rfl, rfl⟩ := hrel
    by_cases hlt : i < L.length
    · obtain ⟨x, hx⟩ : ∃ x, L[i]? = some x := ⟨_, List.getElem?_eq_getElem hlt⟩
      obtain ⟨b, off, rfl, -, hat⟩ := S.out.at (by omega)
      obtain ⟨-, -, -, x3⟩ := hat i x hx
      have hs : leftR (L.take (i + 1)) = leftR (L.take i) + x.le := by
        obtain ⟨h, e⟩ := List.getElem?_eq_some_iff.1 hx
        rw [List.take_succ_eq_append_getElem h, left_snoc, e]
      have hw : IntKind.i64.wrap (leftR (L.take i) + x.le) = leftR (L.take i) + x.le := by
        have h1 := left_bound (L.take i) fun j hj => HB.out j (List.mem_of_mem_take hj)
        have h2 := HB.out x (List.mem_of_getElem? hx)
        rw [List.length_take] at h1
        exact IntWalk.i64_in _ (by omega)
      have hlt' : (i : Int) < (L.length : Int) := by omega
      have hi1w : IntKind.i64.wrap ((i : Int) + 1) = (i : Int) + 1 := IntWalk.i64_in _ (by omega)
      have HI := Lib.hid hi
      have HS := Lib.hid hs
      have hg0 : 0 < gk := by omega
      clear hi hx hat hs
      generalize leftR (L.take i) = n at *
      go_wp2
      go_roundg (gk - 1)
      case measure => omega
      case rel => exact ⟨i + 1, by have := HI.out; omega, by go_num, by rw [HS.out], rfl⟩
    · have hge : (L.length : Int) ≤ (i : Int) := by omega
      have hdec : decide (i < L.length) = false := decide_eq_false hlt
      have e : L.take i = L := List.take_of_length_le (by omega)
      rw [e]
      clear hi hlt e
      go_wp2
      go_ret
      exact ⟨rfl, rfl⟩
def LtRel (L : List Jo) (now : Int) (w : World) (gk : Nat) (s5 s6 : Value) (wx : World) : Prop := ∃ i : Nat, i + gk = L.length ∧ s6 = .int .i64 (i : Int) ∧ NRow w.heap.size wx s5 (lateR (L.take i) now) ∧ Below w.heap.size w wx
theorem rlate_any (LB c : Nat) (ao : Option Addr) (L : List Jo) (now : Int) (hL : L.length ≤ 80000) (w : World) (h : Rx LB w c ao L) :
    Calls Try.prog 19 #[.pointer (some ⟨c, 0, none⟩), .int .i64 now] w fun e w' => ∃ u, e = .returned u ∧ NRow w.heap.size w' u (lateR L now) ∧ Below w.heap.size w w' := by
  have HR := Lib.hid h
  obtain ⟨cap, -, hc0, -⟩ := h.cell
  clear h
  go_enter Try.func19, Try.ntmps19
  go_wp2_with fail
  go_loopg [5, 6] L.length (LtRel L now w)
  case atStart => exact ⟨0, by omega, rfl, nrow_nil _ _, Below.refl _ _⟩
  case round =>
    obtain ⟨i, hi, rfl, hrow, hb⟩ := hrel
    have hc := carry hb hc0
    have HB := Lib.hid hb
    have HW := Lib.hid hrow
    have NS := Lib.hid (HR.out.call hb).seen
    clear hb
    by_cases hlt : i < L.length
    · obtain ⟨x, hx⟩ : ∃ x, L[i]? = some x := ⟨_, List.getElem?_eq_getElem hlt⟩
      obtain ⟨b, off, rfl, -, hat⟩ := NS.out.at (by omega)
      obtain ⟨x0, x1, x2, x3⟩ := hat i x hx
      have ht : L.take (i + 1) = L.take i ++ [x] := by
        obtain ⟨h, e⟩ := List.getElem?_eq_some_iff.1 hx
        rw [List.take_succ_eq_append_getElem h, e]
      have hll : (lateR (L.take i) now).length ≤ 900000 := by
        have := List.length_filter_le (fun j : Jo => decide (j.dl ≤ now)) (L.take i)
        rw [List.length_take] at this
        unfold lateR; omega
      have hlt' : (i : Int) < (L.length : Int) := by omega
      have hi1w : IntKind.i64.wrap ((i : Int) + 1) = (i : Int) + 1 := IntWalk.i64_in _ (by omega)
      have HI := Lib.hid hi
      have hg0 : 0 < gk := by omega
      clear hi hx hat NS
      by_cases he : x.dl ≤ now
      · have el : lateR (L.take (i + 1)) now = lateR (L.take i) now ++ [x] := by rw [ht]; simp [lateR, List.filter_append, he]
        obtain ⟨g5, cp5, w5, hap5, hr5, hb5, -, -, -⟩ := nrow_append w.heap.size wr u5 _ x hrow HB.out.size hll
        obtain ⟨a2, c2, ev, -, -⟩ := hrow.form
        rw [← el] at hr5
        have R5 := Lib.hid hr5
        have B5 := Lib.hid (HB.out.trans hb5)
        subst ev
        clear hr5 hb5 el ht hll hrow HW HB
        generalize (lateR (L.take i) now).length = n4 at *
        generalize n4 + 1 = n5 at *
        go_wp2_with (at_builtin; refine Lib.wpList_append_run _ rfl _ _ _ _ rfl _ _ rfl rfl _ _ hap5 ?_)
        go_roundg (gk - 1)
        case measure => omega
        case rel => exact ⟨i + 1, by have := HI.out; omega, by go_num, R5.out, B5.out⟩
      · have el : lateR (L.take (i + 1)) now = lateR (L.take i) now := by rw [ht]; simp [lateR, List.filter_append, he]
        rw [← el] at HW
        have hed : decide (x.dl ≤ now) = false := decide_eq_false he
        clear el ht hll hrow
        go_wp2
        go_roundg (gk - 1)
        case measure => omega
        case rel => exact ⟨i + 1, by have := HI.out; omega, by go_num, HW.out, HB.out⟩
    · have hge : (L.length : Int) ≤ (i : Int) := by omega
      have hdec : decide (i < L.length) = false := decide_eq_false hlt
      have e : L.take i = L := List.take_of_length_le (by omega)
      rw [e] at HW
      clear hi hlt hrow e NS
      go_wp2
      go_ret
      exact ⟨_, rfl, HW.out, HB.out⟩
theorem rdrop_any (LB c : Nat) (ao : Option Addr) (L : List Jo) (w : World) (h : Rx LB w c ao L) :
    Calls Try.prog 13 #[.pointer (some ⟨c, 0, none⟩)] w fun e w' => (∃ cap, e = .returned (.slice ao L.length cap)) ∧ Rx LB w' c none [] ∧ Mv c none w w' := by
  obtain ⟨cap, -, hc, hf⟩ := h.cell
  have F : Hid (Rx LB (w.setCell ⟨c, 0, none⟩ (.slice none 0 0)) c none [] ∧ Mv c none w (w.setCell ⟨c, 0, none⟩ (.slice none 0 0))) := Lib.hid (by
    obtain ⟨cap0, -, e0⟩ := h.head
    exact ⟨⟨⟨0, by simp, by simp [World.setCell, Array.getElem?_modify, e0]⟩, ns_nil _ _, h.lb, fun a e => by cases e⟩, (Mv.refl _ _ _).set _ (.inl rfl)⟩)
  clear h
  go_enter Try.func13, Try.ntmps13
  go_wp2
  go_ret
  exact ⟨⟨cap, rfl⟩, F.out.1, F.out.2⟩
end Go.Proofs.Yteagimnlhopjpaa.Hj
