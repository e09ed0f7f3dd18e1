/- The document's heap (layer 16): contracts of its Take and Drop, and of Same. -/
import Derived.Test.YtphnabnpapdpeaaHpH
namespace Go.Proofs.Ytphnabnpapdpeaa.Hp
open Go.ChangeShapes Go.WideShapes Go.ChangeAt Go.RowKit Go.Joins
set_option maxRecDepth 100000
set_option maxRecDepth 100000
set_option linter.unusedVariables false
set_option linter.unusedSimpArgs false
theorem slice_next (g off n cap : Nat) (h1 : 1 ≤ n) (h2 : n ≤ cap) : ∃ off' : Nat, (1 < n → off' = off + 1) ∧ ∀ w, (Instr.sliceAt 22 (.slice (some ⟨g, off, none⟩) n cap) (some (.int .i64 1)) none none).run Try.prog w = .ok (.slice (some ⟨g, off', none⟩) (n - 1) (cap - 1)) w := by
  have e : ∀ w, (sizeOf (Try.prog.elem 22)).run Try.prog w = .ok 1 w := fun w => by kernel_rfl
  by_cases hc : cap = 1
  · refine ⟨off, fun h => by omega, fun w => ?_⟩
    rw [run_sliceAt_slice w _ _ _ _ _ (by kernel_rfl), run_slice_l w _ _ _ _ (by kernel_rfl) _ _ (by omega) (by omega), e]
    simp [Result.andThen, sliced, hc]
  · refine ⟨off + 1, fun _ => rfl, fun w => ?_⟩
    rw [run_sliceAt_slice w _ _ _ _ _ (by kernel_rfl), run_slice_l w _ _ _ _ (by kernel_rfl) _ _ (by omega) (by omega), e]
    simp [Result.andThen, sliced, hc, Addr.add]
/-- what the document's Take leaves -/
def RTake (LB b : Nat) (q : Option Nat) (s : List Int) (w w' : World) : Prop := Rp LB w' b q s ∧ Mv b none w w'
theorem rtake_any (LB b : Nat) (q : Option Nat) (s : List Int) (w : World) (h : Rp LB w b q s) (hl : s.length ≤ 800000) :
    Calls Try.prog 12 #[.pointer (some ⟨b, 0, none⟩)] w fun e w' => e = .returned (.tuple #[.int .i64 (minR s).1, .bool (minR s).2]) ∧ RTake LB b q s.tail w w' := by
  have H := Lib.hid h
  obtain ⟨ao, cap, hd, hn, hcap, h4, h5, h6⟩ := h
  have c0 : w.cell? ⟨b, 0, none⟩ = some (.slice ao s.length cap) := by rw [Lib.cell_of_heap hd]; rfl
  have f0 := Lib.frozen_of_heap hd 0
  cases s with
  | nil =>
    have F : Hid (RTake LB b q [] w w) := Lib.hid ⟨H.out, Mv.refl _ _ _⟩
    unfold minR
    simp only [List.length_nil, List.tail_nil] at *
    clear hn h4 h5 h6 hd H
    go_enter Try.func12, Try.ntmps12
    go_wp2
    exact bodyPost_ret (v := .tuple #[.int .i64 0, .bool false]) (by simp [results, Try.results12, go_sem]) rfl ⟨rfl, F.out⟩
  | cons a t =>
    obtain ⟨g, off, rfl, hg, hat⟩ := hn (by simp)
    have ca := hat 0 a rfl
    rw [Nat.add_zero] at ca
    obtain ⟨off', ho, SL⟩ := slice_next g off (a :: t).length cap (by simp) hcap
    rw [List.length_cons, Nat.add_sub_cancel] at SL
    have hd2 : (w.setCell ⟨b, 0, none⟩ (.slice (some ⟨g, off', none⟩) t.length (cap - 1))).heap[b]? = some (.cells #[.slice (some ⟨g, off', none⟩) t.length (cap - 1)] 29 (0, 0)) := by simp [World.setCell, Array.getElem?_modify, hd]
    have F : Hid (RTake LB b q t w (w.setCell ⟨b, 0, none⟩ (.slice (some ⟨g, off', none⟩) t.length (cap - 1)))) := Lib.hid (by
      refine ⟨⟨_, _, hd2, fun h0 => ⟨g, off', rfl, by simpa [World.setCell] using hg, fun i x hi => ?_⟩, by simp at hcap; omega, fun g' o' sp e => ?_, fun k hk => ⟨(h5 k hk).1, by have := (h5 k hk).2; simpa [World.setCell] using this⟩, h6⟩, (Mv.refl _ _ _).set _ (.inl rfl)⟩
      · rw [ho (by simp; omega)]
        have := hat (i + 1) x (by simpa using hi)
        rw [World.cell?_setCell_other _ _ _ _ (by simp)]
        rw [show off + 1 + i = off + (i + 1) by omega]; exact this
      · cases e; exact h4 g off none rfl)
    unfold minR
    simp only [List.tail_cons] at *
    obtain ⟨n, hn'⟩ : ∃ n, n = t.length + 1 := ⟨_, rfl⟩
    have hbl := lt_of_heap hd
    rw [List.length_cons, ← hn'] at c0
    rw [← hn'] at SL
    have hn0 : (0 : Int) < (n : Int) := by omega
    have hnz : ((n : Int) == 0) = false := by rw [beq_eq_false_iff_ne]; omega
    generalize t.length = tl at *
    clear hn hat h4 h5 h6 hd hd2 H hl hcap ho hn'
    go_enter Try.func12, Try.ntmps12
    go_wp2
    exact bodyPost_ret (v := .tuple #[.int .i64 a, .bool true]) (by simp [results, Try.results12, go_sem]) rfl ⟨rfl, F.out⟩
/-- i numbers were looked at -/
def RdRel (s : List Int) (w : World) (m : Nat) (s3 s4 : Value) (wr : World) : Prop :=
  ∃ i : Nat, i + m = s.length ∧ s4 = .int .i64 (i : Int) ∧ NRow w.heap.size wr s3 ((s.take i).filter (fun x => !evenI x)) ∧ Below w.heap.size w wr
theorem rdrop_any (LB b : Nat) (q : Option Nat) (s : List Int) (w : World) (h : Rp LB w b q s) (hl : s.length ≤ 800000) :
    Calls Try.prog 18 #[.pointer (some ⟨b, 0, none⟩)] w fun e w' => e = .returned (.int .i64 ((s.length : Int) - ((s.filter (fun x => !evenI x)).length : Int))) ∧ RPut LB b (s.filter (fun x => !evenI x)) w w' := by
  have hlb := h.lb
  obtain ⟨ao, cap, hd, hn, -, -, -, -⟩ := h
  have c0 : w.cell? ⟨b, 0, none⟩ = some (.slice ao s.length cap) := by rw [Lib.cell_of_heap hd]; rfl
  have NS := Lib.hid hn
  have HD := Lib.hid hd
  have C0 := Lib.hid c0
  have EV := Lib.hid even_any
  clear hn hd
  go_enter Try.func18, Try.ntmps18
  go_wp2_with fail
  go_loopg [3, 4] s.length (RdRel s w)
  case atStart => exact ⟨0, by omega, rfl, nrow_nil _ _, Below.refl _ _⟩
  case round =>
    obtain ⟨i, hi, rfl, hr, hb⟩ := hrel
    have c0 := carry hb C0.out
    have hfl := List.length_filter_le (fun x => !evenI x) (s.take i)
    obtain ⟨pa, pc, rfl, -, -⟩ := hr.form
    by_cases hlt : i < s.length
    · obtain ⟨g, off, rfl, hg, hat⟩ := (NS.out.below hb (Nat.le_refl _)) (by omega)
      obtain ⟨y, hy⟩ : ∃ y, s[i]? = some y := ⟨_, List.getElem?_eq_getElem hlt⟩
      have cy := hat i y hy
      have hil : (i : Int) < (s.length : Int) := by omega
      have hiw : IntKind.i64.wrap (i : Int) = (i : Int) := IntWalk.i64_in _ (by omega)
      have htk : s.take (i + 1) = s.take i ++ [y] := by rw [List.take_add_one, hy]; rfl
      have HI := Lib.hid hi
      have hg0 : 0 < gk := by omega
      have E1 := Lib.hid (EV.out y wr)
      cases hev : evenI y with
      | true =>
        rw [hev] at E1
        have FN : Hid (NRow w.heap.size wr (.slice pa ((s.take i).filter (fun x => !evenI x)).length pc) ((s.take (i + 1)).filter (fun x => !evenI x)) ∧ Below w.heap.size w wr) := Lib.hid (by
          have e : (s.take (i + 1)).filter (fun x => !evenI x) = (s.take i).filter (fun x => !evenI x) := by rw [htk]; simp [List.filter_append, hev]
          rw [e]; exact ⟨hr, hb⟩)
        generalize ((s.take i).filter (fun x => !evenI x)).length = n1 at *
        clear hr hb hat hy htk hlt hi hfl NS hev EV
        go_wp2_with fail
        (with_reducible refine E1.out.mono ?_)
        rintro e w1 ⟨rfl, rfl⟩
        go_wp2
        go_roundg (gk - 1)
        case measure => omega
        case rel => exact ⟨i + 1, by have := HI.out; omega, by go_num, FN.out.1, FN.out.2⟩
      | false =>
        rw [hev] at E1
        obtain ⟨g1, cp1, w2, hap1, hr1, hb1, hk1, hs1, -⟩ := nrow_append w.heap.size wr _ _ y hr hb.size (by rw [List.length_take] at hfl; omega)
        have FN : Hid (NRow w.heap.size w2 (.slice (some ⟨g1, 0, none⟩) (((s.take i).filter (fun x => !evenI x)).length + 1) cp1) ((s.take (i + 1)).filter (fun x => !evenI x)) ∧ Below w.heap.size w w2) := Lib.hid (by
          have e : (s.take (i + 1)).filter (fun x => !evenI x) = (s.take i).filter (fun x => !evenI x) ++ [y] := by rw [htk]; simp [List.filter_append, hev]
          rw [e]; exact ⟨hr1, hb.trans hb1⟩)
        generalize ((s.take i).filter (fun x => !evenI x)).length = n1 at *
        generalize n1 + 1 = n2 at *
        clear hr hb hat hy htk hlt hi hfl NS hev EV hr1 hb1 hk1 hs1
        go_wp2_with fail
        (with_reducible refine E1.out.mono ?_)
        rintro e w1 ⟨rfl, rfl⟩
        clear E1
        go_wp2_with (at_builtin; refine Lib.wpList_append_run _ rfl _ _ _ _ rfl _ _ rfl rfl _ _ hap1 ?_)
        go_roundg (gk - 1)
        case measure => omega
        case rel => exact ⟨i + 1, by have := HI.out; omega, by go_num, FN.out.1, FN.out.2⟩
    · have hge : (s.length : Int) ≤ (i : Int) := by omega
      have hdec : decide (i < s.length) = false := decide_eq_false hlt
      have hd1 : wr.heap[b]? = some (.cells #[.slice ao s.length cap] 29 (0, 0)) := (hb.block b (lt_of_heap HD.out)).trans HD.out
      have f0 := Lib.frozen_of_heap hd1 0
      have htk : s.take i = s := List.take_of_length_le (by omega)
      rw [htk] at hr hfl
      try rw [htk]
      have LA := rp_laid hd1 hr (Nat.le_of_lt_succ (by have := lt_of_heap HD.out; omega : LB < w.heap.size + 1)) hlb
      have FN : Hid (RPut LB b (s.filter (fun x => !evenI x)) w (wr.setCell ⟨b, 0, none⟩ (.slice pa (s.filter (fun x => !evenI x)).length pc))) := Lib.hid ⟨_, LA.1, (Mv.of_below hb).set _ (.inl rfl), LA.2⟩
      have hbl := lt_of_heap hd1
      have hw : IntKind.i64.wrap ((s.length : Int) - ((s.filter (fun x => !evenI x)).length : Int)) = (s.length : Int) - ((s.filter (fun x => !evenI x)).length : Int) := IntWalk.i64_in _ (by omega)
      generalize hn1 : (s.filter (fun x => !evenI x)).length = n1 at *
      have E := Lib.hid hn1
      clear hr hb hi hlt LA hd1 HD NS EV htk hfl hn1
      go_wp2
      go_ret
      exact ⟨by rw [E.out]; rfl, FN.out⟩
def SaRel (l : List Int) (W : World) (g : Nat) (t : Value) (wx : World) : Prop := ∃ i : Nat, i + g = l.length ∧ t = .int .i64 (i : Int) ∧ Qt W wx
theorem same_any (l : List Int) (pa qa : Option Addr) (pc qc : Nat) (w : World) (hp : Ns pa l w) (hq : Ns qa l w) (hl : l.length ≤ 4000000) :
    Calls Try.prog 20 #[.slice pa l.length pc, .slice qa l.length qc] w fun e w' => e = .returned (.bool true) ∧ Qt w w' := by
  have P := Lib.hid hp
  have Q := Lib.hid hq
  have e0 : ((l.length : Int) != (l.length : Int)) = false := by simp
  clear hp hq
  go_enter Try.func20, Try.ntmps20
  go_wp2_with fail
  go_loopg [5] l.length (SaRel l w)
  case atStart => exact ⟨0, by omega, rfl, Qt.refl _⟩
  case round =>
    obtain ⟨i, hi, rfl, hB⟩ := hrel
    have KB := Lib.hid hB
    have NP := P.out.call (hB.below _)
    have NQ := Q.out.call (hB.below _)
    clear hB
    by_cases hlt : i < l.length
    · obtain ⟨b, off, rfl, hb, hat⟩ := NP (by omega)
      obtain ⟨b', off', rfl, hb', hat'⟩ := NQ (by omega)
      obtain ⟨p, hp⟩ : ∃ p, l[i]? = some p := ⟨_, List.getElem?_eq_getElem hlt⟩
      have hx := hat i p hp
      have hy := hat' i p hp
      have hlt' : (i : Int) < (l.length : Int) := by omega
      have HI := Lib.hid hi
      have hg0 : 0 < gk := by omega
      clear hat hat' NP NQ hi hp
      have e1 : (p != p) = false := by simp
      go_wp2_with fail
      go_quiet (fail)
      have K2 := Lib.hid (qt_drewN KB.out nq)
      go_wp2
      go_roundg (gk - 1)
      case measure => omega
      case rel => exact ⟨i + 1, by have := HI.out; omega, by go_num, K2.out⟩
    · have hge : (l.length : Int) ≤ (i : Int) := by omega
      have hdec : decide (i < l.length) = false := decide_eq_false hlt
      clear hi hlt NP NQ
      go_wp2
      go_ret
      exact ⟨rfl, KB.out⟩
end Go.Proofs.Ytphnabnpapdpeaa.Hp
