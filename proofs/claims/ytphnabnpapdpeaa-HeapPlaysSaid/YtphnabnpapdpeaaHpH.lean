/- The document's heap (layer 16) in memory: contract of its Put. -/
import Derived.Test.YtphnabnpapdpeaaHpG
namespace Go.Proofs.Ytphnabnpapdpeaa.Hp
open Go.ChangeShapes Go.WideShapes Go.ChangeAt Go.RowKit Go.Joins
set_option maxRecDepth 100000
set_option maxRecDepth 100000
set_option linter.unusedVariables false
set_option linter.unusedSimpArgs false
/-- the document's heap in block b; q: the block in which its numbers lie -/
def Rp (LB : Nat) (w : World) (b : Nat) (q : Option Nat) (s : List Int) : Prop :=
  ∃ (ao : Option Addr) (cap : Nat), w.heap[b]? = some (.cells #[.slice ao s.length cap] 29 (0, 0)) ∧ Ns ao s w ∧ s.length ≤ cap ∧ (∀ g off sp, ao = some ⟨g, off, sp⟩ → q = some g) ∧ (∀ k, q = some k → LB ≤ k ∧ k < w.heap.size) ∧ LB ≤ b
section
variable {LB b : Nat} {q : Option Nat} {s : List Int} {w w' : World}
theorem Rp.lt (h : Rp LB w b q s) : b < w.heap.size := by obtain ⟨ao, cap, h1, -⟩ := h; exact lt_of_heap h1
theorem Rp.lb (h : Rp LB w b q s) : LB ≤ b := by obtain ⟨ao, cap, -, -, -, -, -, h⟩ := h; exact h
theorem Rp.qlt (h : Rp LB w b q s) : ∀ k, q = some k → LB ≤ k ∧ k < w.heap.size := by obtain ⟨ao, cap, -, -, -, -, h, -⟩ := h; exact h
theorem Rp.of_blocks (h : Rp LB w b q s) (hs : w.heap.size ≤ w'.heap.size) (hb : w'.heap[b]? = w.heap[b]?) (hq : ∀ k, q = some k → w'.heap[k]? = w.heap[k]?) : Rp LB w' b q s := by
  obtain ⟨ao, cap, h1, h2, h3, h4, h5, h6⟩ := h
  exact ⟨ao, cap, hb.trans h1, h2.of_block hs (fun g off e _ => hq g (h4 g off none e)), h3, h4, fun k hk => ⟨(h5 k hk).1, by have := (h5 k hk).2; omega⟩, h6⟩
theorem Rp.call (h : Rp LB w b q s) (hb : Below w.heap.size w w') : Rp LB w' b q s := h.of_blocks hb.size (hb.block b h.lt) (fun k hk => hb.block k (h.qlt k hk).2)
theorem Rp.head (h : Rp LB w b q s) : ∃ cs, w.heap[b]? = some (.cells cs 29 (0, 0)) := by obtain ⟨ao, cap, h1, -⟩ := h; exact ⟨_, h1⟩
end
theorem rp_new (w : World) : Rp w.heap.size (w.alloc (.cells #[.slice none 0 0] 29)) w.heap.size none [] :=
  ⟨none, 0, World.alloc_heap_new _ _, ns_nil _ _, Nat.le_refl _, (fun g off sp e => (by cases e)), (fun k e => (by cases e)), Nat.le_refl _⟩
/-- another row laid there -/
theorem rp_laid {LB B b : Nat} {w : World} {u v : Value} {s : List Int} (hd : w.heap[b]? = some (.cells #[u] 29 (0, 0))) (hr : NRow B w v s) (hB : LB ≤ B) (hb : LB ≤ b) : Rp LB (w.setCell ⟨b, 0, none⟩ v) b v.ownBlock s ∧ ∀ k, v.ownBlock = some k → B ≤ k := by
  have ha := hr.apart hd (by decide)
  have hd2 : (w.setCell ⟨b, 0, none⟩ v).heap[b]? = some (.cells #[v] 29 (0, 0)) := by simp [World.setCell, Array.getElem?_modify, hd]
  have r2 := hr.of_blocks (w' := w.setCell ⟨b, 0, none⟩ v) fun k hk => Below.heap_setCell _ _ _ _ (show k ≠ b by rintro rfl; exact ha hk)
  have hlt := r2.lt
  refine ⟨?_, fun k hk => (hlt k hk).1⟩
  rcases r2.2 with ⟨rfl, h0⟩ | ⟨g, cap, cur, rfl, h1, h2, h3, -⟩
  · obtain rfl : s = [] := List.eq_nil_of_length_eq_zero h0
    exact ⟨none, 0, hd2, ns_nil _ _, Nat.le_refl _, (fun g off sp e => (by cases e)), (fun k e => (by cases e)), hb⟩
  · exact ⟨some ⟨g, 0, none⟩, cap, hd2, r2.ns, h3, (fun g off sp e => (by cases e; rfl)), (fun k e => ⟨by have := (hlt k e).1; omega, (hlt k e).2⟩), hb⟩
/-- i numbers were looked at -/
def PuRel (s : List Int) (x : Int) (w : World) (m : Nat) (s4 s5 s6 : Value) (wr : World) : Prop :=
  ∃ (i : Nat) (out : List Int) (pt : Bool), i + m = s.length ∧ s5 = .bool pt ∧ s6 = .int .i64 (i : Int) ∧ NRow w.heap.size wr s4 out ∧ Below w.heap.size w wr ∧ out.length ≤ i + 1 ∧ ((pt = true ∧ out ++ s.drop i = ins ltI x s) ∨ (pt = false ∧ out = s.take i ∧ ins ltI x s = s.take i ++ ins ltI x (s.drop i)))
/-- what the document's Put leaves -/
def RPut (LB b : Nat) (s : List Int) (w w' : World) : Prop := ∃ q', Rp LB w' b q' s ∧ Mv b none w w' ∧ ∀ k, q' = some k → w.heap.size ≤ k
set_option maxHeartbeats 4000000 in
theorem rput_any (LB b : Nat) (q : Option Nat) (s : List Int) (x : Int) (w : World) (h : Rp LB w b q s) (hl : s.length ≤ 800000) :
    Calls Try.prog 15 #[.pointer (some ⟨b, 0, none⟩), .int .i64 x] w fun e w' => e = .returned (.tuple #[]) ∧ RPut LB b (ins ltI x s) w w' := by
  have hlb := h.lb
  obtain ⟨ao, cap, hd, hn, -, -, -, -⟩ := h
  have c0 : w.cell? ⟨b, 0, none⟩ = some (.slice ao s.length cap) := by rw [Lib.cell_of_heap hd]; rfl
  have NS := Lib.hid hn
  have HD := Lib.hid hd
  have C0 := Lib.hid c0
  clear hn hd
  go_enter Try.func15, Try.ntmps15
  go_wp2_with fail
  go_loopg [4, 5, 6] s.length (PuRel s x w)
  case atStart => exact ⟨0, [], false, by omega, rfl, rfl, nrow_nil _ _, Below.refl _ _, by simp, .inr ⟨rfl, rfl, rfl⟩⟩
  case round =>
    obtain ⟨i, out, pt, hi, rfl, rfl, hr, hb, hol, hst⟩ := hrel
    have c0 := carry (hb.mono (Nat.le_refl _)) C0.out
    have HR := Lib.hid hr
    have HB := Lib.hid hb
    obtain ⟨pa, pc, rfl, -, -⟩ := hr.form
    by_cases hlt : i < s.length
    · obtain ⟨g, off, rfl, hg, hat⟩ := (NS.out.below hb (Nat.le_refl _)) (by omega)
      obtain ⟨y, hy⟩ : ∃ y, s[i]? = some y := ⟨_, List.getElem?_eq_getElem hlt⟩
      have cy := hat i y hy
      have hil : (i : Int) < (s.length : Int) := by omega
      have hiw : IntKind.i64.wrap (i : Int) = (i : Int) := IntWalk.i64_in _ (by omega)
      have hdr : s.drop i = y :: s.drop (i + 1) := by rw [List.drop_eq_getElem_cons hlt, (List.getElem?_eq_some_iff.1 hy).2]
      have htk : s.take (i + 1) = s.take i ++ [y] := by rw [List.take_add_one, hy]; rfl
      have HI := Lib.hid hi
      have hg0 : 0 < gk := by omega
      have hyc : ∀ W, Below wr.heap.size wr W → W.cell? ⟨g, off + i, none⟩ = some (.int .i64 y) := fun W h => carry h cy
      have h0c : ∀ W, Below wr.heap.size wr W → W.cell? ⟨b, 0, none⟩ = some (.slice (some ⟨g, off, none⟩) s.length cap) := fun W h => carry h c0
      by_cases hc : pt = false ∧ x < y
      · obtain ⟨rfl, hxy⟩ := hc
        obtain ⟨g1, cp1, w2, hap1, hr1, hb1, hk1, hs1, -⟩ := nrow_append w.heap.size wr _ out x hr hb.size (by omega)
        obtain ⟨g2, cp2, w3, hap2, hr2, hb2, hk2, hs2, -⟩ := nrow_append w.heap.size w2 _ (out ++ [x]) y hr1 (by have := hb.size; omega) (by rw [List.length_append, List.length_singleton]; omega)
        have c02 : w2.cell? ⟨b, 0, none⟩ = some (.slice (some ⟨g, off, none⟩) s.length cap) := (hb1.cell (World.block_lt_of_cell? _ _ C0.out)).trans c0
        have cy2 : w2.cell? ⟨g, off + i, none⟩ = some (.int .i64 y) := by
          have hgw : g < w.heap.size := by obtain ⟨g', off', e, h1, -⟩ := NS.out (by omega); cases e; exact h1
          exact (hb1.cell (p := ⟨g, off + i, none⟩) hgw).trans cy
        have FN : Hid (NRow w.heap.size w3 (.slice (some ⟨g2, 0, none⟩) ((out ++ [x]).length + 1) cp2) (out ++ [x] ++ [y]) ∧ Below w.heap.size w w3 ∧ (out ++ [x] ++ [y]).length ≤ i + 1 + 1 ∧ out ++ [x] ++ [y] ++ s.drop (i + 1) = ins ltI x s) := Lib.hid (by
          rcases hst with ⟨h, -⟩ | ⟨-, h1, h2⟩
          · cases h
          · refine ⟨hr2, (hb.trans hb1).trans hb2, by rw [h1]; simp; omega, ?_⟩
            rw [h2, hdr, h1, ins, if_pos (show ltI x y = true from decide_eq_true hxy)]
            simp)
        generalize (out ++ [x]).length = n2 at *
        generalize out.length = n1 at *
        generalize n2 + 1 = n3 at *
        generalize n1 + 1 = n4 at *
        clear hr hb hr1 hb1 hk1 hr2 hb2 hk2 hst HR HB hyc h0c hat hy hdr htk hlt hi hol hs1 hs2 NS
        go_wp2_with (first | (at_builtin; refine Lib.wpList_append_run _ rfl _ _ _ _ rfl _ _ rfl rfl _ _ hap1 ?_) | (at_builtin; refine Lib.wpList_append_run _ rfl _ _ _ _ rfl _ _ rfl rfl _ _ hap2 ?_))
        go_roundg (gk - 1)
        case measure => omega
        case rel => exact ⟨i + 1, _, true, by have := HI.out; omega, rfl, by go_num, FN.out.1, FN.out.2.1, FN.out.2.2.1, .inl ⟨rfl, FN.out.2.2.2⟩⟩
      · obtain ⟨g1, cp1, w2, hap1, hr1, hb1, hk1, hs1, -⟩ := nrow_append w.heap.size wr _ out y hr hb.size (by omega)
        have FN : Hid (NRow w.heap.size w2 (.slice (some ⟨g1, 0, none⟩) (out.length + 1) cp1) (out ++ [y]) ∧ Below w.heap.size w w2 ∧ (out ++ [y]).length ≤ i + 1 + 1 ∧ ((pt = true ∧ out ++ [y] ++ s.drop (i + 1) = ins ltI x s) ∨ (pt = false ∧ out ++ [y] = s.take (i + 1) ∧ ins ltI x s = s.take (i + 1) ++ ins ltI x (s.drop (i + 1))))) := Lib.hid (by
          refine ⟨hr1, hb.trans hb1, by simp; omega, ?_⟩
          rcases hst with ⟨h, h1⟩ | ⟨h, h1, h2⟩
          · refine .inl ⟨h, ?_⟩
            rw [← h1, hdr]; simp
          · refine .inr ⟨h, by rw [h1, htk], ?_⟩
            have hxy : ¬ ltI x y = true := fun e => hc ⟨h, of_decide_eq_true e⟩
            rw [h2, hdr, ins, if_neg hxy, htk]; simp)
        have hcb : pt = true ∨ (pt = false ∧ y ≤ x) := by
          cases pt with
          | true => exact .inl rfl
          | false => exact .inr ⟨rfl, by
              by_cases hxy : x < y
              · exact absurd ⟨rfl, hxy⟩ hc
              · omega⟩
        generalize out.length = n1 at *
        generalize n1 + 1 = n4 at *
        clear hr hb hr1 hb1 hk1 hst HR HB hyc h0c hat hy hdr htk hlt hi hol hs1 hc NS
        rcases hcb with rfl | ⟨rfl, hxy⟩
        · go_wp2_with (at_builtin; refine Lib.wpList_append_run _ rfl _ _ _ _ rfl _ _ rfl rfl _ _ hap1 ?_)
          go_roundg (gk - 1)
          case measure => omega
          case rel => exact ⟨i + 1, _, true, by have := HI.out; omega, rfl, by go_num, FN.out.1, FN.out.2.1, FN.out.2.2.1, by rcases FN.out.2.2.2 with ⟨-, h⟩ | ⟨h, -⟩; exact .inl ⟨rfl, h⟩; cases h⟩
        · go_wp2_with (at_builtin; refine Lib.wpList_append_run _ rfl _ _ _ _ rfl _ _ rfl rfl _ _ hap1 ?_)
          go_roundg (gk - 1)
          case measure => omega
          case rel => exact ⟨i + 1, _, false, by have := HI.out; omega, rfl, by go_num, FN.out.1, FN.out.2.1, FN.out.2.2.1, by rcases FN.out.2.2.2 with ⟨h, -⟩ | ⟨-, h⟩; cases h; exact .inr ⟨rfl, h⟩⟩
    · have hge : (s.length : Int) ≤ (i : Int) := by omega
      have hdec : decide (i < s.length) = false := decide_eq_false hlt
      have hd1 : wr.heap[b]? = some (.cells #[.slice ao s.length cap] 29 (0, 0)) := (hb.block b (lt_of_heap HD.out)).trans HD.out
      have hds : s.drop i = [] := List.drop_eq_nil_of_le (by omega)
      rcases hst with ⟨rfl, hst⟩ | ⟨rfl, h1, h2⟩
      · rw [hds, List.append_nil] at hst
        have f0 := Lib.frozen_of_heap hd1 0
        have LA := rp_laid hd1 hr (Nat.le_of_lt_succ (by have := lt_of_heap HD.out; omega : LB < w.heap.size + 1)) hlb
        have FN : Hid (RPut LB b (ins ltI x s) w (wr.setCell ⟨b, 0, none⟩ (.slice pa out.length pc))) := Lib.hid ⟨_, by rw [← hst]; exact LA.1, (Mv.of_below hb).set _ (.inl rfl), LA.2⟩
        have hbl := lt_of_heap hd1
        generalize out.length = n1 at *
        clear hr hb hst HR HB hi hol hlt hds LA hd1 HD NS
        go_wp2
        go_end0
        exact ⟨rfl, FN.out⟩
      · obtain ⟨g1, cp1, w2, hap1, hr1, hb1, hk1, hs1, -⟩ := nrow_append w.heap.size wr _ out x hr hb.size (by omega)
        have hd2 : w2.heap[b]? = some (.cells #[.slice ao s.length cap] 29 (0, 0)) := (hb1.block b (lt_of_heap HD.out)).trans hd1
        have c02 : w2.cell? ⟨b, 0, none⟩ = some (.slice ao s.length cap) := by rw [Lib.cell_of_heap hd2]; rfl
        have f0 := Lib.frozen_of_heap hd2 0
        have LA := rp_laid hd2 hr1 (Nat.le_of_lt_succ (by have := lt_of_heap HD.out; omega : LB < w.heap.size + 1)) hlb
        have FN : Hid (RPut LB b (ins ltI x s) w (w2.setCell ⟨b, 0, none⟩ (.slice (some ⟨g1, 0, none⟩) (out.length + 1) cp1))) := Lib.hid ⟨_, by
          have e : ins ltI x s = out ++ [x] := by rw [h2, hds, h1]; rfl
          rw [e]; exact LA.1, (Mv.of_below (hb.trans hb1)).set _ (.inl rfl), LA.2⟩
        have hbl := lt_of_heap hd2
        generalize out.length = n1 at *
        generalize n1 + 1 = n4 at *
        clear hr hb hr1 hb1 hk1 h1 h2 HR HB hi hol hlt hds LA hd1 hd2 HD NS
        go_wp2_with (at_builtin; refine Lib.wpList_append_run _ rfl _ _ _ _ rfl _ _ rfl rfl _ _ hap1 ?_)
        go_end0
        exact ⟨rfl, FN.out⟩
end Go.Proofs.Ytphnabnpapdpeaa.Hp
