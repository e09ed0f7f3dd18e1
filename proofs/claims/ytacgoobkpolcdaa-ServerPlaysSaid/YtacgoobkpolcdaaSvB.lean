/- Package server's Waiting: the keys of the map, collected in whatever order and sorted. -/
import Derived.Test.YtacgoobkpolcdaaSvS
import Derived.Maps.RangeWalk
import Derived.Sort.OwnSortedInts
import Derived.Deep.LoopGhost
import Derived.Lib.AppendZeros
namespace Go.Proofs.Ytacgoobkpolcdaa.Sv
open Go.ChangeShapes Go.WideShapes Go.ChangeAt Go.RowKit Go.Joins Go.Sort
set_option maxRecDepth 100000
set_option maxRecDepth 100000
set_option linter.unusedVariables false
set_option linter.unusedSimpArgs false
/-- the numbers that have come: each once; those that are no longer to come -/
def Coll (L : List Kn) (left : Lit → Bool) (ss : List Int) : Prop := ss.Nodup ∧ ∀ x, x ∈ ss ↔ (isIn L x = true ∧ left (.int .i64 x) = false)
theorem Coll.start (L : List Kn) : Coll L (Maps.has (toD L)) [] := ⟨List.nodup_nil, fun x => by rw [has_toD]; cases isIn L x <;> simp⟩
theorem Coll.step {L : List Kn} {left : Lit → Bool} {ss : List Int} (h : Coll L left ss) {x : Int} (hl : left (.int .i64 x) = true) (hx : isIn L x = true) : Coll L (fun z => left z && !z.sameKey (.int .i64 x)) (ss ++ [x]) := by
  have hnew : x ∉ ss := fun hm => by have := ((h.2 x).1 hm).2; rw [hl] at this; cases this
  refine ⟨List.nodup_append.2 ⟨h.1, by simp, fun a ha b hb => by simp at hb; subst hb; exact fun e => hnew (e ▸ ha)⟩, fun y => ?_⟩
  by_cases hy : y = x
  · subst hy; simp [hx, same_int]
  · simp [h.2 y, hy, same_int]
theorem rise_nodup {L : List Kn} (h : Rise L) : (ids L).Nodup := List.pairwise_map.2 (h.imp fun {a b} hab e => by omega)
theorem Coll.done {L : List Kn} {left : Lit → Bool} {ss : List Int} (h : Coll L left ss) (hr : Rise L) (hl : ∀ kl, left kl = false) : ss.mergeSort (fun x y => decide (x ≤ y)) = ids L ∧ ss.length = L.length := by
  have hp : ss.Perm (ids L) := (List.perm_ext_iff_of_nodup h.1 (rise_nodup hr)).2 fun x => by rw [h.2 x, hl, ← isIn_iff]; simp
  refine ⟨?_, by rw [hp.length_eq, ids_len]⟩
  have tr : ∀ a b c : Int, decide (a ≤ b) = true → decide (b ≤ c) = true → decide (a ≤ c) = true := fun a b c h1 h2 => by simp only [decide_eq_true_eq] at *; omega
  have to : ∀ a b : Int, (decide (a ≤ b) || decide (b ≤ a)) = true := fun a b => by simp only [Bool.or_eq_true, decide_eq_true_eq]; omega
  have hs : (ids L).Pairwise fun a b => decide (a ≤ b) = true := List.pairwise_map.2 (hr.imp fun {a b} hab => decide_eq_true (by omega))
  refine List.Perm.eq_of_pairwise (le := fun a b => decide (a ≤ b) = true) (fun a b _ _ h1 h2 => ?_) (List.pairwise_mergeSort tr to ss) hs ((List.mergeSort_perm ss _).trans hp)
  simp only [decide_eq_true_eq] at h1 h2
  omega
theorem ranges_blocks {w w' : World} {b r n : Nat} {D : DataW Unit} {left : Lit → Bool} {cnt : Nat} (h : w.ranges Try.prog 3 rel b r n D left cnt) (hb : w'.heap[b]? = w.heap[b]?) (hr : w'.heap[r]? = w.heap[r]?) : w'.ranges Try.prog 3 rel b r n D left cnt := by
  obtain ⟨es, clock, since, seen, c0, h1, F, hs, hD, h2, rest⟩ := h
  exact ⟨es, clock, since, seen, c0, hb.trans h1, F, hs, hD, hr.trans h2, rest⟩
theorem ranges_iter {w : World} {b r n : Nat} {D : DataW Unit} {left : Lit → Bool} {cnt : Nat} (h : w.ranges Try.prog 3 rel b r n D left cnt) : ∃ o a b' c, w.heap[r]? = some (.mapIter o a b' c) := by
  obtain ⟨es, clock, since, seen, c0, h1, F, hs, hD, h2, rest⟩ := h
  exact ⟨_, _, _, _, h2⟩
theorem ranges_map {w : World} {b r n : Nat} {D : DataW Unit} {left : Lit → Bool} {cnt : Nat} (h : w.ranges Try.prog 3 rel b r n D left cnt) : ∃ es c, w.heap[b]? = some (.map es c) := by
  obtain ⟨es, clock, since, seen, c0, h1, rest⟩ := h
  exact ⟨_, _, h1⟩
/-- all but the iterator of a loop, and the row, are as they were -/
structure Ir (m r : Nat) (L : List Kn) (W : World) (left : Lit → Bool) (cnt : Nat) (ss : List Int) (v : Value) (wx : World) : Prop where
  rg : wx.ranges Try.prog 3 rel m r L.length (toD L) left cnt
  co : Coll L left ss
  row : NRow W.heap.size wx v ss
  bel : Below W.heap.size W wx
  own : ∃ g, v.ownBlock = some g
  cnt : ss.length + cnt ≤ L.length
  rge : W.heap.size ≤ r
  mlt : m < W.heap.size
def IrRel (m r : Nat) (L : List Kn) (W : World) (gk : Nat) (v : Value) (wx : World) : Prop := ∃ left ss, Ir m r L W left gk ss v wx
section
variable {m r : Nat} {L : List Kn} {W wx w' : World} {left : Lit → Bool} {cnt : Nat} {ss : List Int} {v : Value}
theorem Ir.apart (h : Ir m r L W left cnt ss v wx) : v.ownBlock ≠ some r ∧ v.ownBlock ≠ some m := by
  constructor
  · intro e
    obtain ⟨cur, hc⟩ := h.row.block r e
    obtain ⟨o, a, b', c, hi⟩ := ranges_iter h.rg
    rw [hc] at hi; cases hi
  · intro e
    have := (h.row.lt m e).1
    have := h.mlt
    omega
end
theorem len_run (B g : Nat) (a b : Option Nat) (L T : List Kn) {w : World} (h : Pm B w g a b L T) (ty : TypeId) : (Builtin.len_ #[42] ty #[.map a]).run Try.prog w = .ok (.int .i64 (L.length : Int)) w := by
  cases a with
  | none => obtain rfl := h.nil rfl; exact Maps.len_nil Try.underlying42 ty
  | some m =>
    have := World.ownsMap.len ((h.fst m rfl).2) Try.underlying42 ty
    rw [size_toD] at this
    exact this
set_option maxHeartbeats 4000000 in
theorem waiting_any (B g : Nat) (a b : Option Nat) (L T : List Kn) (w : World) (h : Pm B w g a b L T) :
    Calls Try.prog 15 #[.pointer (some ⟨g, 0, none⟩)] w fun e w' => ∃ v, e = .returned v ∧ NRow w.heap.size w' v (ids L) ∧ Below w.heap.size w w' := by
  have hL := h.ok.len
  have H := Lib.hid h
  have hc := h.c0
  by_cases h0 : L.length = 0
  · have hlr : ∀ ty : TypeId, (Builtin.len_ #[42] ty #[.map a]).run Try.prog w = .ok (.int .i64 0) w := fun ty => by have := len_run B g a b L T h ty; rw [h0] at this; exact this
    obtain rfl : L = [] := List.eq_nil_of_length_eq_zero h0
    clear h
    go_enter Try.func15, Try.ntmps15
    go_wp2
    go_ret
    exact ⟨_, rfl, nrow_nil _ _, Below.refl _ _⟩
  obtain ⟨m, rfl⟩ : ∃ m, a = some m := by
    cases a with
    | none => have := h.nil rfl; subst this; exact absurd rfl h0
    | some m => exact ⟨m, rfl⟩
  have hz : ((L.length : Int) == 0) = false := beq_false_of_ne (by omega)
  have hlr := fun ty => len_run B g (some m) b L T h ty
  obtain ⟨i0, hi, hzz⟩ := Option.map_eq_some_iff.1 infoI
  simp only [Prod.mk.injEq] at hzz
  obtain ⟨hz1, hz2, hz3⟩ := hzz
  obtain ⟨w2, hmk, ho2, hg2⟩ := run_make_own (P := Try.prog) w w.heap.size 37 3 i0 (.int .i64 0) 1 Try.underlying37 hi hz1 hz2 .i64 .i64 L.length (by rw [hz3]; omega) (by unfold maxLen; omega) (Nat.le_refl _)
  have R2 : NRow w.heap.size w2 (.slice (some ⟨w.heap.size, 0, none⟩) 0 L.length) [] := ho2
  have B2 : Below w.heap.size w w2 := ⟨hg2.os, hg2.tape, hg2.output, hg2.size, fun k hk => hg2.block k hk (by simp)⟩
  have H2 := H.out.call B2
  have hc2 := H2.c0
  obtain ⟨hBm, hkm⟩ := H2.fst m rfl
  have KM := Lib.hid hkm
  have hmlt : m < w.heap.size := (h.fst m rfl).2.lt
  have FR := Lib.hid R2
  have FB := Lib.hid B2
  clear h hg2 ho2 R2 B2 H2 hkm hi hz1 hz2 hz3
  go_enter Try.func15, Try.ntmps15
  go_wp2_with (first
    | (at_range; refine wpList_range_own _ rfl _ 42 rfl 3 2 law Try.underlying42 rel m L.length (toD L) rfl KM.out ?_; intro w3 hrg3 hg3 hs3)
    | go_in)
  have hIr : Ir m w2.heap.size L w (Maps.has (toD L)) L.length [] (.slice (some ⟨w.heap.size, 0, none⟩) 0 L.length) w3 := by
    have hb3 : Below w2.heap.size w2 w3 := ⟨hg3.os, hg3.tape, hg3.output, hg3.size, fun k hk => hg3.block k hk (by simp)⟩
    rw [size_toD] at hrg3
    exact ⟨hrg3, Coll.start L, FR.out.call hb3, FB.out.trans (hb3.mono FB.out.size), ⟨_, rfl⟩, by simp, FB.out.size, hmlt⟩
  have HI := Lib.hid hIr
  clear hIr hrg3 hg3 hs3 FR FB KM
  generalize w2.heap.size = r at *
  go_frame
  go_loopg [3] L.length (IrRel m r L w)
  case atStart => exact ⟨_, _, HI.out⟩
  case round =>
    clear HI
    obtain ⟨left, ss, hir⟩ := hrel
    have hrg := hir.rg
    have HI := Lib.hid hir
    clear hir
    go_wp2_with (first
      | (at_next; refine wpList_next_ranges _ rfl _ rfl 3 law rel (Value.int .i64) (fun p : Int => .int .i64 p) (fun key kl hk => by obtain ⟨x, hx, _⟩ := Go.Maps.keyOf_int_inv Try.underlying3 hk; exact ⟨x, hx⟩) (fun v y hv => by obtain ⟨a, rfl, _⟩ := rel_inv hv; exact ⟨a, rfl⟩) m r _ _ _ _ rfl hrg ?_ ?_)
      | go_in)
    · intro _ hl0
      obtain ⟨hms, hsl⟩ := HI.out.co.done H.out.ok.rise hl0
      have hrow := HI.out.row
      have hbel := HI.out.bel
      obtain ⟨g0, hg0⟩ := HI.out.own
      rcases hrow.2 with ⟨hn, -⟩ | ⟨gb, cap, cur, rfl, hBg, hblk, hcap, hmx, hsz, htk⟩
      · rw [hn] at hg0; cases hg0
      rw [Nat.mul_one] at htk
      have hgl := lt_of_heap hblk
      have hN := fun n os => ownsRow_sortedI (n := n) (os := os) (ts := ids L) (ss := ss) (by rw [ids_len]; omega) hBg hblk hcap hmx hsz
      have hG := fun n os => grownBy_sortedI (w := wr) (g := gb) (n := n) (os := os) (ids L).toArray
      have SO := Lib.hid (sort_any gb 0 cap ss wr (holds_of_blockI hblk htk) hgl (by omega))
      rw [hms] at SO
      have FN := Lib.hid hN
      have FG := Lib.hid hG
      have FB := Lib.hid hbel
      have HSL := Lib.hid hsl
      clear hrow hbel hN hG hblk htk hms hl0 hrg HI hsl
      go_wp2_with fail
      (with_reducible refine SO.out.mono ?_)
      rintro e w5 ⟨rfl, n5, os5, hw5⟩
      have K5 := Lib.hid (FN.out n5 os5)
      have G5 := Lib.hid (FG.out n5 os5)
      rw [← hw5] at K5 G5
      clear hw5 SO FN FG
      go_wp2
      go_ret
      refine ⟨_, rfl, ?_, ?_⟩
      · unfold NRow
        rw [ids_len, ← HSL.out]
        exact K5.out
      · exact FB.out.grown G5.out FB.out.size (fun k hk => by cases hk; exact hBg)
    · intro x c1 kl yd yp w4 cnt4 hkey hlk hv hat hrg4 hlt4 hg4 hs4 hen
      obtain ⟨x', ex, rfl, -⟩ := Go.Maps.keyOf_int_inv Try.underlying3 hkey
      obtain rfl : x = x' := by simpa using ex
      have hin : isIn L x = true := by rw [← has_toD]; exact Go.Maps.has_true_of_atKey hat
      have hco := HI.out.co.step hlk hin
      have hap := HI.out.apart
      have hr4 : NRow w.heap.size w4 u3 ss := HI.out.row.of_blocks fun k hk => hg4.block k (HI.out.row.lt k hk).2 (fun e => hap.1 (by rw [hk, e]))
      have hb4 : Below w.heap.size w w4 := HI.out.bel.grown hg4 HI.out.bel.size (fun k hk => by cases hk; exact HI.out.rge)
      have hcn := HI.out.cnt
      obtain ⟨g5, cp5, w5, hap5, hr5, hb5, hk5, hs5, hw5⟩ := nrow_append w.heap.size w4 u3 ss x hr4 hb4.size (by omega)
      have hmw : m < w4.heap.size := by have := hb4.size; have := HI.out.mlt; omega
      have hrw : r < w4.heap.size := by rw [hs4]; exact World.ranges.lt hrg
      have hn5 : Ir m r L w (fun z => left z && !z.sameKey (.int .i64 x)) cnt4 (ss ++ [x]) (.slice (some ⟨g5, 0, none⟩) (ss.length + 1) cp5) w5 :=
        ⟨ranges_blocks hrg4 (hk5 m hmw hap.2) (hk5 r hrw hap.1), hco, hr5, hb4.trans hb5, ⟨_, rfl⟩, by rw [List.length_append]; simp; omega, HI.out.rge, HI.out.mlt⟩
      have HN := Lib.hid hn5
      clear hn5 hr5 hb5 hk5 hs5 hw5 hr4 hb4 hcn hco hap hin hat hv hkey hlk hrg4 hg4 hs4 hmw hrw hrg HI
      go_wp2_with (at_builtin; refine Lib.wpList_append_run _ rfl _ _ _ _ rfl _ _ rfl rfl _ _ hap5 ?_)
      go_roundg cnt4
      case measure => exact hlt4
      case rel => exact ⟨_, _, HN.out⟩
end Go.Proofs.Ytacgoobkpolcdaa.Sv
