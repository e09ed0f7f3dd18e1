/- Package edf's Late, Left, Drop and Run. -/
import Derived.Test.YteagimnlhopjpaaEdY
import Derived.Deep.LoopGhost
import Derived.WalkMore
namespace Go.Proofs.Yteagimnlhopjpaa.Hj
open Go.ChangeShapes Go.WideShapes Go.ChangeAt Go.RowKit Go.Joins
open Ed (Jo wk own_an hasR lateR leftR addR runR mayJ)
set_option maxRecDepth 100000
set_option maxRecDepth 100000
set_option linter.unusedVariables false
set_option linter.unusedSimpArgs false
/-- in order, those behind one that is not late are not late -/
theorem late_take {s : List Jo} {now : Int} (hs : Hp.Srt Ed.ahead s) {i : Nat} {x : Jo} (h1 : ∀ j ∈ s.take i, j.dl ≤ now) (hx : s[i]? = some x) (h2 : ¬ x.dl ≤ now) : lateR s now = s.take i := by
  unfold lateR
  conv => lhs; rw [← List.take_append_drop i s]
  rw [List.filter_append, List.filter_eq_self.2 (fun j hj => decide_eq_true (h1 j hj)), List.filter_eq_nil_iff.2, List.append_nil]
  intro j hj
  have hlt := (List.getElem?_eq_some_iff.1 hx).1
  have he : s.drop i = x :: s.drop (i + 1) := by rw [List.drop_eq_getElem_cons hlt]; congr 1; exact (List.getElem?_eq_some_iff.1 hx).2
  have hd : Hp.Srt Ed.ahead (s.drop i) := List.Pairwise.sublist (List.drop_sublist i s) hs
  rw [he] at hd hj
  obtain ⟨hp, -⟩ := List.pairwise_cons.1 hd
  rcases List.mem_cons.1 hj with rfl | hj
  · simpa using h2
  · have := Ed.ahead_not.1 (hp j hj)
    simp
    omega
theorem late_all {s : List Jo} {now : Int} (h1 : ∀ j ∈ s, j.dl ≤ now) : lateR s now = s := by
  unfold lateR
  exact List.filter_eq_self.2 (fun j hj => decide_eq_true (h1 j hj))
def LtX (pa : Option Addr) (s : List Jo) (now : Int) (w w1 : World) (gk : Nat) (s5 s11 : Value) (wx : World) : Prop := ∃ i : Nat, i + gk = s.length ∧ s11 = .int .i64 (i : Int) ∧ NRow w1.heap.size wx s5 (s.take i) ∧ (∀ j ∈ s.take i, j.dl ≤ now) ∧ Below w1.heap.size w1 wx
theorem xlate_any (LB x : Nat) (K : List Nat) (s : List Jo) (now : Int) (hl : s.length ≤ 1000) (w : World) (h : Xq LB w x K s) :
    Calls Try.prog 18 #[.pointer (some ⟨x, 0, none⟩), .int .i64 now] w fun e w' => ∃ u, e = .returned u ∧ NRow w.heap.size w' u (lateR s now) ∧ Below w.heap.size w w' := by
  have PE := Lib.hid (xpending_any LB x K s hl w h)
  have HS := Lib.hid h.good.srt
  clear h
  go_enter Try.func18, Try.ntmps18
  go_wp2
  go_step3
  go_wp2
  go_step3
  go_wp2_with fail
  (with_reducible refine PE.out.mono ?_)
  rintro e w1 ⟨u, rfl, hr, hb⟩
  obtain ⟨pa, pc, rfl, -, hns⟩ := hr.form
  have NS := Lib.hid hns
  have HB1 := Lib.hid hb
  clear hr hns hb PE
  go_wp2_with fail
  go_loopg [5, 11] s.length (LtX pa s now w w1)
  case atStart => exact ⟨0, by omega, rfl, nrow_nil _ _, (fun j hj => by simp at hj), Below.refl _ _⟩
  case round =>
    obtain ⟨i, hi, rfl, hrow, hle, hb⟩ := hrel
    have HB := Lib.hid hb
    have HW := Lib.hid hrow
    have HL := Lib.hid hle
    have NI := Lib.hid (NS.out.below hb (Nat.le_refl _))
    clear hb hle
    by_cases hlt : i < s.length
    · obtain ⟨x, hx⟩ : ∃ x, s[i]? = some x := ⟨_, List.getElem?_eq_getElem hlt⟩
      obtain ⟨b, off, rfl, -, hat⟩ := NI.out.at (by omega)
      obtain ⟨x0, x1, x2, x3⟩ := hat i x hx
      have ht : s.take (i + 1) = s.take i ++ [x] := by
        obtain ⟨h, e⟩ := List.getElem?_eq_some_iff.1 hx
        rw [List.take_succ_eq_append_getElem h, e]
      have hll : (s.take i).length ≤ 900000 := by rw [List.length_take]; omega
      have hlt' : (i : Int) < (s.length : Int) := by omega
      have hi1w : IntKind.i64.wrap ((i : Int) + 1) = (i : Int) + 1 := IntWalk.i64_in _ (by omega)
      have HI := Lib.hid hi
      have hg0 : 0 < gk := by omega
      have bA : Below wr.heap.size wr (wr.alloc (.cells #[.int .i64 x.id, .int .i64 x.rel, .int .i64 x.dl, .int .i64 x.le] 31)) := (Below.refl _ _).alloc (Nat.le_refl _) _
      clear hat
      by_cases he : x.dl ≤ now
      · obtain ⟨g5, cp5, w5, hap5, hr5, hb5, -, -, -⟩ := nrow_append w1.heap.size (wr.alloc (.cells #[.int .i64 x.id, .int .i64 x.rel, .int .i64 x.dl, .int .i64 x.le] 31)) u5 _ x (hrow.call bA) (by have := HB.out.size; simp; omega) hll
        obtain ⟨a2, c2, ev, -, -⟩ := hrow.form
        rw [← ht] at hr5
        have R5 := Lib.hid hr5
        have B5 := Lib.hid ((HB.out.trans (bA.mono HB.out.size)).trans hb5)
        have L5 : Hid (∀ j ∈ s.take (i + 1), j.dl ≤ now) := Lib.hid (by
          rw [ht]
          intro j hj
          rcases List.mem_append.1 hj with hj | hj
          · exact HL.out j hj
          · rw [List.mem_singleton.1 hj]; exact he)
        subst ev
        clear hr5 hb5 ht hll hrow HW HB NI bA hx hi
        generalize (s.take i).length = n4 at *
        generalize n4 + 1 = n5 at *
        simp only [World.size_alloc] at hap5
        go_wp2_with (at_builtin; refine Lib.wpList_append_run _ rfl _ _ _ _ rfl _ _ rfl rfl _ _ hap5 ?_)
        go_roundg (gk - 1)
        case measure => omega
        case rel => exact ⟨i + 1, by have := HI.out; omega, by go_num, R5.out, L5.out, B5.out⟩
      · have el := late_take HS.out HL.out hx he
        have F : Hid (NRow w.heap.size (wr.alloc (.cells #[.int .i64 x.id, .int .i64 x.rel, .int .i64 x.dl, .int .i64 x.le] 31)) u5 (lateR s now) ∧ Below w.heap.size w (wr.alloc (.cells #[.int .i64 x.id, .int .i64 x.rel, .int .i64 x.dl, .int .i64 x.le] 31))) := Lib.hid (by
          rw [el]
          exact ⟨(hrow.call bA).mono HB1.out.size, HB1.out.trans ((HB.out.trans (bA.mono HB.out.size)).mono HB1.out.size)⟩)
        have hed : decide (x.dl ≤ now) = false := decide_eq_false he
        clear el ht hll hrow HW HB NI bA hx hi
        go_wp2
        (try rw [Exit.noGoto_ret])
        go_ret
        exact ⟨_, rfl, F.out.1, F.out.2⟩
    · have hge : (s.length : Int) ≤ (i : Int) := by omega
      have hdec : decide (i < s.length) = false := decide_eq_false hlt
      have e : s.take i = s := List.take_of_length_le (by omega)
      have F : Hid (NRow w.heap.size wr u5 (lateR s now) ∧ Below w.heap.size w wr) := Lib.hid (by
        rw [late_all (by rw [e] at HL; exact HL.out)]
        rw [e] at hrow
        exact ⟨hrow.mono HB1.out.size, HB1.out.trans (HB.out.mono HB1.out.size)⟩)
      clear hi hlt hrow e NI HW HB HL
      go_wp2
      (try rw [Exit.noGoto_ret])
      go_ret
      exact ⟨_, rfl, F.out.1, F.out.2⟩
def LfX (s : List Jo) (w1 : World) (gk : Nat) (s3 s9 : Value) (wx : World) : Prop := ∃ i : Nat, i + gk = s.length ∧ s9 = .int .i64 (i : Int) ∧ s3 = .int .i64 (leftR (s.take i)) ∧ Below w1.heap.size w1 wx
theorem xleft_any (LB x : Nat) (K : List Nat) (s : List Jo) (hl : s.length ≤ 1000) (w : World) (h : Xq LB w x K s) :
    Calls Try.prog 21 #[.pointer (some ⟨x, 0, none⟩)] w fun e w' => e = .returned (.int .i64 (leftR s)) ∧ Below w.heap.size w w' := by
  have PE := Lib.hid (xpending_any LB x K s hl w h)
  have HS : Hid (∀ j ∈ s, 0 ≤ j.le ∧ j.le ≤ 2147483648) := Lib.hid (fun j hj => by have := Ed.may_left (h.good.may j hj); omega)
  clear h
  go_enter Try.func21, Try.ntmps21
  go_wp2_with fail
  (with_reducible refine PE.out.mono ?_)
  rintro e w1 ⟨u, rfl, hr, hb⟩
  obtain ⟨pa, pc, rfl, -, hns⟩ := hr.form
  have NS := Lib.hid hns
  have HB1 := Lib.hid hb
  clear hr hns hb PE
  go_wp2_with fail
  go_loopg [3, 9] s.length (LfX s w1)
  case atStart => exact ⟨0, by omega, rfl, rfl, Below.refl _ _⟩
  case round =>
    obtain ⟨i, hi, rfl, rfl, hb⟩ := hrel
    have HB := Lib.hid hb
    have NI := Lib.hid (NS.out.below hb (Nat.le_refl _))
    clear hb
    by_cases hlt : i < s.length
    · obtain ⟨x, hx⟩ : ∃ x, s[i]? = some x := ⟨_, List.getElem?_eq_getElem hlt⟩
      obtain ⟨b, off, rfl, -, hat⟩ := NI.out.at (by omega)
      obtain ⟨x0, x1, x2, x3⟩ := hat i x hx
      have hs : leftR (s.take (i + 1)) = leftR (s.take i) + x.le := by
        obtain ⟨h, e⟩ := List.getElem?_eq_some_iff.1 hx
        rw [List.take_succ_eq_append_getElem h, left_snoc, e]
      have hw : IntKind.i64.wrap (leftR (s.take i) + x.le) = leftR (s.take i) + x.le := by
        have h1 := left_bound (s.take i) fun j hj => HS.out j (List.mem_of_mem_take hj)
        have h2 := HS.out x (List.mem_of_getElem? hx)
        rw [List.length_take] at h1
        exact IntWalk.i64_in _ (by omega)
      have hlt' : (i : Int) < (s.length : Int) := by omega
      have hi1w : IntKind.i64.wrap ((i : Int) + 1) = (i : Int) + 1 := IntWalk.i64_in _ (by omega)
      have HI := Lib.hid hi
      have HE := Lib.hid hs
      have hg0 : 0 < gk := by omega
      have B2 := Lib.hid (HB.out.alloc HB.out.size (.cells #[.int .i64 x.id, .int .i64 x.rel, .int .i64 x.dl, .int .i64 x.le] 31))
      clear hi hx hat hs NI HB
      generalize leftR (s.take i) = n at *
      go_wp2
      go_roundg (gk - 1)
      case measure => omega
      case rel => exact ⟨i + 1, by have := HI.out; omega, by go_num, by rw [HE.out], B2.out⟩
    · have hge : (s.length : Int) ≤ (i : Int) := by omega
      have hdec : decide (i < s.length) = false := decide_eq_false hlt
      have e : s.take i = s := List.take_of_length_le (by omega)
      rw [e]
      clear hi hlt e
      go_wp2
      go_ret
      exact ⟨rfl, HB1.out.trans (HB.out.mono HB1.out.size)⟩
theorem Xq.cells {LB x : Nat} {K : List Nat} {s : List Jo} {w : World} (h : Xq LB w x K s) : ∃ u v, w.heap[x]? = some (.cells #[u, v] 62 (0, 0)) := by
  rcases h with ⟨-, -, h⟩ | ⟨b, m, r, -, h⟩
  · exact ⟨_, _, h.2⟩
  · exact ⟨_, _, h.blk⟩
theorem xdrop_any (LB x : Nat) (K : List Nat) (s : List Jo) (hl : s.length ≤ 1000) (w : World) (h : Xq LB w x K s) :
    Calls Try.prog 12 #[.pointer (some ⟨x, 0, none⟩)] w fun e w' => ∃ u, e = .returned u ∧ NRow w.heap.size w' u s ∧ ∃ K', Xq LB w' x K' [] ∧ MvK K w w' ∧ NwK w K K' := by
  have PE := Lib.hid (xpending_any LB x K s hl w h)
  have HQ := Lib.hid h
  clear h
  go_enter Try.func12, Try.ntmps12
  go_wp2_with fail
  (with_reducible refine PE.out.mono ?_)
  rintro e w1 ⟨u, rfl, hr, hb⟩
  have H1 := Lib.hid (HQ.out.call hb)
  obtain ⟨p, q, hx⟩ := H1.out.cells
  have hxw : x < w.heap.size := (HQ.out.lt x HQ.out.base.2).2
  have d0 := (Lib.cell_of_heap hx 0).trans rfl
  have d1 := (Lib.cell_of_heap hx 1).trans rfl
  have f0 := Lib.frozen_of_heap hx 0
  have f1 := Lib.frozen_of_heap hx 1
  have F : Hid (NRow w.heap.size ((w1.setCell ⟨x, 0, none⟩ (.pointer none)).setCell ⟨x, 1, none⟩ (.map none)) u s ∧ Xq LB ((w1.setCell ⟨x, 0, none⟩ (.pointer none)).setCell ⟨x, 1, none⟩ (.map none)) x [x] [] ∧ MvK K w ((w1.setCell ⟨x, 0, none⟩ (.pointer none)).setCell ⟨x, 1, none⟩ (.map none))) := Lib.hid (by
    have hn : ∀ k, k ≠ x → ((w1.setCell ⟨x, 0, none⟩ (.pointer none)).setCell ⟨x, 1, none⟩ (.map none)).heap[k]? = w1.heap[k]? := fun k hk => by
      rw [Below.heap_setCell _ _ _ _ (show k ≠ x from hk), Below.heap_setCell _ _ _ _ (show k ≠ x from hk)]
    refine ⟨hr.of_blocks fun k hk => hn k (by have := (hr.lt k hk).1; omega), .inl ⟨rfl, rfl, (HQ.out.lt x HQ.out.base.2).1, by simp [World.setCell, Array.getElem?_modify, hx]⟩, ⟨hb.os, hb.tape, hb.output, by simp [World.setCell]; exact hb.size, fun k hk hkK => (hn k (fun e => hkK (e ▸ HQ.out.base.2))).trans (hb.block k hk)⟩⟩)
  clear hr hb PE H1 hx
  go_wp2
  go_ret
  exact ⟨_, rfl, F.out.1, [x], F.out.2.1, F.out.2.2, fun k hk => .inl (by rw [List.mem_singleton.1 hk]; exact HQ.out.base.2)⟩
theorem run_nil (LB x : Nat) (K : List Nat) (w : World) (h : Xq LB w x K []) :
    Calls Try.prog 9 #[.pointer (some ⟨x, 0, none⟩)] w fun e w' => e = .returned (.agg #[.int .i64 (-1), .bool false]) ∧ Below w.heap.size w w' := by
  have b0 : Below w.heap.size w (w.alloc (.cells #[.int .i64 0, .bool false] 35)) := (Below.refl _ w).alloc (Nat.le_refl _) _
  have ID := Lib.hid (idle_any LB x K [] _ (h.call b0))
  clear h
  go_enter Try.func9, Try.ntmps9
  go_wp2_with fail
  (with_reducible refine ID.out.mono ?_)
  rintro e w1 ⟨rfl, rfl⟩
  clear ID b0
  have hdd : decide (([] : List Jo).length = 0) = true := rfl
  go_wp2
  exact bodyPost_ret (v := .agg #[.int .i64 (-1), .bool false]) (by simp [results, Try.results9, go_sem]) rfl ⟨rfl, (Below.refl _ w).alloc (Nat.le_refl _) _⟩
theorem ins_head {a a' : Jo} {t : List Jo} (h : Ed.Good (a :: t)) (e1 : a'.id = a.id) (e2 : a'.dl = a.dl) : Hp.ins Ed.ahead a' t = a' :: t := by
  cases t with
  | nil => rfl
  | cons y t =>
    have hp := (List.pairwise_cons.1 h.srt).1 y (by simp)
    have hn : y.id ≠ a.id := fun e => (List.nodup_cons.1 h.own).1 (by simp [e])
    have hq := Ed.ahead_not.1 hp
    show (if Ed.ahead a' y = true then a' :: y :: t else y :: Hp.ins Ed.ahead a' t) = _
    rw [if_pos (Ed.ahead_iff.2 (by rw [e1, e2]; omega))]
theorem MvK.set {K : List Nat} {g o : Nat} {u w : World} (h : MvK K u w) (v : Value) (hg : u.heap.size ≤ g) : MvK K u (w.setCell ⟨g, o, none⟩ v) :=
  ⟨h.os, h.tape, h.output, by simp [World.setCell]; exact h.size, fun k hk hn => by rw [Below.heap_setCell _ _ _ _ (show k ≠ g by omega)]; exact h.block k hk hn⟩
theorem X1.set {LB x b m g o : Nat} {r : Option Nat} {s : List Jo} {w : World} (h : X1 LB w x b m r s) (v : Value) (h1 : x ≠ g) (h2 : b ≠ g) (h3 : m ≠ g) (h4 : r ≠ some g) : X1 LB (w.setCell ⟨g, o, none⟩ v) x b m r s :=
  h.of_blocks (Below.heap_setCell _ _ _ _ h1) (Below.heap_setCell _ _ _ _ h2) (Below.heap_setCell _ _ _ _ h3) (fun k hk => Below.heap_setCell _ _ _ _ (show k ≠ g from fun e => h4 (e ▸ hk)))
/-- its heap has turned -/
theorem X1.heaped {LB x b m : Nat} {r : Option Nat} {s s' : List Jo} {V w : World} (h : X1 LB V x b m r s) (hq : Hq LB w b r s') (mv : Mv b r V w) : w.heap[x]? = V.heap[x]? ∧ w.heap[m]? = V.heap[m]? := by
  obtain ⟨n1, n2, n3, n4, n5, n6⟩ := h.ne
  exact ⟨mv.block x (lt_of_heap h.blk) n1 n4, mv.block m h.ki.lt (fun e => n3 e.symm) n5⟩
theorem x1_changed {LB x b m : Nat} {r : Option Nat} {s s' : List Jo} {V w : World} (h : X1 LB V x b m r s) (hq : Hq LB w b r s') (mv : Mv b r V w) (he : s'.map (·.id) = s.map (·.id)) (hg : Ed.Good s') : X1 LB w x b m r s' ∧ MvK (x :: b :: m :: r.toList) V w := by
  obtain ⟨e1, e2⟩ := h.heaped hq mv
  refine ⟨⟨h.lb, h.mlb, e1.trans h.blk, hq, (h.ki.of_block e2).same he, ?_, hg⟩, MvK.of_mv mv (by simp) (fun k hk => by simp [hk])⟩
  intro j hj
  have : j.id ∈ s.map (·.id) := by rw [← he]; exact List.mem_map.2 ⟨j, hj, rfl⟩
  obtain ⟨q, hq, e⟩ := List.mem_map.1 this
  exact e ▸ h.ids q hq
theorem x1_taken {LB x b m n : Nat} {r : Option Nat} {a : Jo} {t : List Jo} {V w5 w6 : World} {D : DataW Unit} (h : X1 LB V x b m r (a :: t)) (hq : Hq LB w5 b r t) (mv : Mv b r V w5) (hD : w5.ownsMap Try.prog 3 unitElem m (a :: t).length D) (hs : Maps.size D = (a :: t).length) (hk : ∀ i, Maps.has D (.int .i64 i) = hasR (a :: t) i)
    (h6 : w6.ownsMap Try.prog 3 unitElem m n (D.del (.int .i64 a.id))) (hg : w5.grownBy w6 (some m)) (hgd : Ed.Good t) : X1 LB w6 x b m r t ∧ MvK (x :: b :: m :: r.toList) V w6 := by
  obtain ⟨n1, n2, n3, n4, n5, n6⟩ := h.ne
  obtain ⟨e1, e2⟩ := h.heaped hq mv
  have hx5 := e1.trans h.blk
  refine ⟨⟨h.lb, h.mlb, (hg.block x (lt_of_heap hx5) (by simp; omega)).trans hx5, hq.of_blocks (hg.block b hq.lt (by simp; omega)) (fun k hk => hg.block k (hq.rlt k hk).2 (by intro e; cases e; exact n5 hk)), ki_del a hD hs hk h.good.own h6, fun j hj => h.ids j (by simp [hj]), hgd⟩, ?_⟩
  exact (MvK.of_mv mv (by simp) (fun k hk => by simp [hk])).trans (K' := [m]) (MvK.of_grown hg (by simp)) (fun k hk => .inl (by simp at hk; simp [hk]))
theorem run_one (LB x b m : Nat) (r : Option Nat) (a : Jo) (t : List Jo) (hl : (a :: t).length ≤ 1000) (w : World) (h : X1 LB w x b m r (a :: t)) :
    Calls Try.prog 9 #[.pointer (some ⟨x, 0, none⟩)] w fun e w' => e = .returned (.agg #[.int .i64 (runR (a :: t)).2.1, .bool (runR (a :: t)).2.2]) ∧ X1 LB w' x b m r (runR (a :: t)).1 ∧ MvK (x :: b :: m :: r.toList) w w' := by
  have b0 : Below w.heap.size w (w.alloc (.cells #[.int .i64 0, .bool false] 35)) := (Below.refl _ w).alloc (Nat.le_refl _) _
  have H0 := Lib.hid (h.call b0)
  have hY := (heap_alloc_new w (.cells #[.int .i64 0, .bool false] 35))
  have ID := Lib.hid (idle_any LB x (x :: b :: m :: r.toList) (a :: t) _ (.of_x1 H0.out))
  have MI := Lib.hid (min_any LB b r (a :: t) _ H0.out.hq)
  have HW := Lib.hid h
  obtain ⟨ha1, ha2⟩ := Ed.may_left (h.good.may a (by simp))
  obtain ⟨k, hk⟩ : ∃ k, k = a.le - 1 := ⟨_, rfl⟩
  have hkw : IntKind.i64.wrap (a.le - 1) = k := by rw [hk]; exact IntWalk.i64_in _ (by omega)
  have HK := Lib.hid hk
  have hdd : decide ((a :: t).length = 0) = false := rfl
  have B0 := Lib.hid b0
  have HXb : Hid (∀ i ∈ x :: b :: m :: r.toList, i < w.heap.size) := Lib.hid (fun k hk => ((Xq.of_x1 h).lt k hk).2)
  have d0 := H0.out.c0
  clear h b0 hk
  obtain ⟨W0, hW0⟩ : ∃ W0, W0 = w.alloc (.cells #[.int .i64 0, .bool false] 35) := ⟨_, rfl⟩
  rw [← hW0] at H0 hY ID MI B0 d0
  obtain ⟨R, hR⟩ : ∃ R, R = w.heap.size := ⟨_, rfl⟩
  rw [← hR] at hY
  have HR := Lib.hid hR
  have HY := Lib.hid hY
  clear hY
  unfold minR at MI
  simp only at MI
  go_enter Try.func9, Try.ntmps9
  go_upto_region 1 with (fail)
  rw [← hW0, ← hR]
  clear hW0 hR
  go_wp2_with fail
  (with_reducible refine ID.out.mono ?_)
  rintro e w1 ⟨rfl, rfl⟩
  rw [hdd]
  clear ID
  go_wp2_with fail
  (with_reducible refine MI.out.mono ?_)
  rintro e w2 ⟨rfl, b2⟩
  have H2 := Lib.hid (H0.out.call b2)
  have B2 := Lib.hid (B0.out.trans (b2.mono B0.out.size))
  have Y2 : Hid (w2.heap[R]? = _) := Lib.hid ((b2.block R (lt_of_heap HY.out)).trans HY.out)
  clear b2 MI H0 B0 HY d0
  have bA : Below w2.heap.size w2 (w2.alloc (.cells #[.int .i64 a.id, .int .i64 a.rel, .int .i64 a.dl, .int .i64 k] 31)) := (Below.refl _ _).alloc (Nat.le_refl _) _
  have H4 := Lib.hid (H2.out.call bA)
  have B4 := Lib.hid (B2.out.trans (bA.mono B2.out.size))
  have J4 := Lib.hid (bx_new w2 ⟨a.id, a.rel, a.dl, k⟩)
  have Y4 : Hid ((w2.alloc (.cells #[.int .i64 a.id, .int .i64 a.rel, .int .i64 a.dl, .int .i64 k] 31)).heap[R]? = _) := Lib.hid ((bA.block R (lt_of_heap Y2.out)).trans Y2.out)
  have HXn : Hid (w.heap.size ≤ w2.heap.size ∧ w2.heap.size ≠ R) := Lib.hid ⟨B2.out.size, by have := lt_of_heap Y2.out; omega⟩
  clear bA H2 B2 Y2
  by_cases hle : a.le = 1
  · have hk0 : ¬ 0 < k := by have := HK.out; omega
    have ER : runR (a :: t) = (t, a.id, true) := by rw [Ed.run_cons, if_pos hle]
    have EV := Lib.hid ER
    clear hle ER
    go_upto_region 8 with (fail)
    generalize w2.alloc (.cells #[.int .i64 a.id, .int .i64 a.rel, .int .i64 a.dl, .int .i64 k] 31) = V at *
    obtain ⟨X, hX⟩ : ∃ X, X = w2.heap.size := ⟨_, rfl⟩
    rw [← hX] at HXn J4
    rw [← hX]
    clear hX
    have hXb : Hid (X ≠ b ∧ r ≠ some X ∧ X ≠ m) := Lib.hid ⟨by have := HXb.out b (by simp); have := HXn.out.1; omega, by intro e; have := HXb.out X (by rw [e]; simp); have := HXn.out.1; omega, by have := HXb.out m (by simp); have := HXn.out.1; omega⟩
    have hRb : Hid (R ≠ x ∧ R ≠ b ∧ R ≠ m ∧ r ≠ some R) := Lib.hid ⟨by have := HXb.out x (by simp); have := HR.out; omega, by have := HXb.out b (by simp); have := HR.out; omega, by have := HXb.out m (by simp); have := HR.out; omega, by intro e; have := HXb.out R (by rw [e]; simp); have := HR.out; omega⟩
    have d0 := H4.out.c0
    have TA := Lib.hid (take_any LB b r (a :: t) V H4.out.hq (by omega))
    go_wp2_with fail
    (with_reducible refine TA.out.mono ?_)
    rintro e w5 ⟨rfl, q5, m5⟩
    rw [List.tail_cons] at q5
    have J5 := Lib.hid (J4.out.mvb m5 hXb.out.1 hXb.out.2.1)
    have Y5 : Hid (w5.heap[R]? = _) := Lib.hid ((m5.block R (lt_of_heap Y4.out) hRb.out.2.1 hRb.out.2.2.2).trans Y4.out)
    have d1 := (World.cell?_of_block (a := ⟨x, 1, none⟩) (H4.out.heaped q5 m5).1).trans H4.out.c1
    obtain ⟨D, hD, hs, hk⟩ := H4.out.ki.of_block (H4.out.heaped q5 m5).2
    obtain ⟨w6, hrun6, hown6, hgrow6⟩ : ∃ w6, (Builtin.delete_ #[60, 3] 0 #[.map (some m), .int .i64 a.id]).run Try.prog w5.drew = .ok (.tuple #[]) w6 ∧ w6.ownsMap Try.prog 3 unitElem m (a :: t).length (D.del (.int .i64 a.id)) ∧ w5.drew.grownBy w6 (some m) := by
      obtain ⟨w6, h1, h2, h3⟩ := World.ownsMap.drop (w := w5.drew) hD law Try.underlying60 (Go.Maps.keyOf_int_mk Try.underlying3 (HW.out.ids a (by simp)).wf) 0
      exact ⟨w6, h1, h2, h3.grown⟩
    have F := Lib.hid (x1_taken H4.out (q5.call (Below.refl w5.heap.size w5).drew) (m5.trans (Mv.of_below (b := b) (r := none) (Below.refl w5.heap.size w5).drew) (fun j e => by cases e)) hD hs hk hown6 hgrow6 (by have := Ed.good_run HW.out.good; rw [EV.out] at this; exact this))
    have cD : w5.drew.cell? ⟨x, 1, none⟩ = some (.map (some m)) ∧ w5.drew.cell? ⟨X, 0, none⟩ = some (.int .i64 a.id) := ⟨d1, J5.out.at.1⟩
    have h6X := hgrow6.block X (lt_of_heap J5.out) (by intro e; exact hXb.out.2.2 (Option.some.inj e))
    have cE : w6.cell? ⟨x, 1, none⟩ = some (.map (some m)) ∧ w6.cell? ⟨X, 0, none⟩ = some (.int .i64 a.id) := ⟨F.out.1.c1, (World.cell?_of_block (w := w5) (a := ⟨X, 0, none⟩) h6X).trans J5.out.at.1⟩
    have Y6 : Hid (w6.heap[R]? = _) := Lib.hid ((hgrow6.block R (lt_of_heap Y5.out) (by intro e; exact hRb.out.2.2.1 (Option.some.inj e))).trans Y5.out)
    have c6 := cE.2
    clear hown6 hgrow6 h6X hD hs hk d1 q5 m5 TA J4 Y4 d0 J5 Y5
    go_upto_region 9 with (fail)
    refine wp_region_held_drew (S := (fun W' => W'.cell? ⟨x, 1, none⟩ = some (.map (some m)) ∧ W'.cell? ⟨X, 0, none⟩ = some (.int .i64 a.id))) (by kernel_rfl) (cD) (fun hHeld => ?_)
    refine Gh.tk 0 ?_
    refine Gh.tk 1 ?_
    refine Gh.tk 2 ?_
    refine Gh.tk 3 ?_
    refine Gh.tk 4 ?_
    refine Gh.tk 5 ?_
    refine Gh.rd 6 (fun K hK => ?_)
    go_simp
    refine hK.out _ _ (cE) (fun hHeld => ?_)
    clear hK K
    refine Gh.pt ?_
    refine wpAnyH_done (by kernel_rfl) ?_ _
    clear hHeld
    have y0 : w6.cell? ⟨R, 0, none⟩ = some (.int .i64 0) := by rw [Lib.cell_of_heap Y6.out]; rfl
    have y1 : w6.cell? ⟨R, 1, none⟩ = some (.bool false) := by rw [Lib.cell_of_heap Y6.out]; rfl
    have f0 := Lib.frozen_of_heap Y6.out 0
    have f1 := Lib.frozen_of_heap Y6.out 1
    have hRX : X ≠ R := HXn.out.2
    have FF : Hid (X1 LB ((w6.setCell ⟨R, 0, none⟩ (.int .i64 a.id)).setCell ⟨R, 1, none⟩ (.bool true)) x b m r t ∧ MvK (x :: b :: m :: r.toList) w ((w6.setCell ⟨R, 0, none⟩ (.int .i64 a.id)).setCell ⟨R, 1, none⟩ (.bool true))) := Lib.hid (by
      obtain ⟨z1, z2, z3, z4⟩ := hRb.out
      refine ⟨(F.out.1.set _ z1.symm z2.symm z3.symm z4).set _ z1.symm z2.symm z3.symm z4, ?_⟩
      have := (MvK.of_below (K := x :: b :: m :: r.toList) B4.out).trans F.out.2 (NwK.refl _ _)
      exact (this.set _ (by have := HR.out; omega)).set _ (by have := HR.out; omega))
    clear F H4 B4 cD cE
    go_wp2
    exact bodyPost_ret (v := .agg #[.int .i64 a.id, .bool true]) (by simp [results, Try.results9, go_sem, y0, y1]) rfl ⟨by rw [EV.out], by rw [EV.out]; exact FF.out.1, FF.out.2⟩
  · have hk0 : 0 < k := by have := HK.out; omega
    have ER : runR (a :: t) = (⟨a.id, a.rel, a.dl, k⟩ :: t, a.id, false) := by rw [Ed.run_cons, if_neg hle, HK.out]
    have EV := Lib.hid ER
    clear hle ER
    go_upto_region 6 with (fail)
    generalize w2.alloc (.cells #[.int .i64 a.id, .int .i64 a.rel, .int .i64 a.dl, .int .i64 k] 31) = V at *
    obtain ⟨X, hX⟩ : ∃ X, X = w2.heap.size := ⟨_, rfl⟩
    rw [← hX] at HXn J4
    rw [← hX]
    clear hX
    have hXb : Hid (X ≠ b ∧ r ≠ some X ∧ X ≠ m) := Lib.hid ⟨by have := HXb.out b (by simp); have := HXn.out.1; omega, by intro e; have := HXb.out X (by rw [e]; simp); have := HXn.out.1; omega, by have := HXb.out m (by simp); have := HXn.out.1; omega⟩
    have hRb : Hid (R ≠ x ∧ R ≠ b ∧ R ≠ m ∧ r ≠ some R) := Lib.hid ⟨by have := HXb.out x (by simp); have := HR.out; omega, by have := HXb.out b (by simp); have := HR.out; omega, by have := HXb.out m (by simp); have := HR.out; omega, by intro e; have := HXb.out R (by rw [e]; simp); have := HR.out; omega⟩
    have HD := Lib.hid (H4.out.call (Below.refl V.heap.size V).drew)
    have JD := Lib.hid (J4.out.call (Below.refl V.heap.size V).drew)
    have YD : Hid (V.drew.heap[R]? = _) := Lib.hid Y4.out
    have BD := Lib.hid (B4.out.trans ((Below.refl V.heap.size V).drew.mono B4.out.size))
    have cD := And.intro HD.out.c0 JD.out.at
    have CH := Lib.hid (change_any LB b r (a :: t) ⟨a.id, a.rel, a.dl, k⟩ V.drew HD.out.hq (by have := HD.out.good.own; unfold Ed.Own at this ⊢; simpa using this) (by omega))
    clear H4 J4 Y4 B4
    refine wp_region_held_drew (S := (fun W' => W'.cell? ⟨x, 0, none⟩ = some (.pointer (some ⟨b, 0, none⟩)) ∧ W'.cell? ⟨X, 0, none⟩ = some (.int .i64 a.id) ∧ W'.cell? ⟨X, 1, none⟩ = some (.int .i64 a.rel) ∧ W'.cell? ⟨X, 2, none⟩ = some (.int .i64 a.dl) ∧ W'.cell? ⟨X, 3, none⟩ = some (.int .i64 k))) (by kernel_rfl) (cD) (fun hHeld => ?_)
    refine Gh.tk 0 ?_
    refine Gh.tk 1 ?_
    refine Gh.tk 2 ?_
    refine Gh.tk 3 ?_
    refine Gh.tk 4 ?_
    refine Gh.rd 5 (fun K hK => ?_)
    go_simp
    (with_reducible refine CH.out.mono ?_)
    rintro e w5 ⟨rfl, q5, m5⟩
    have q6 : Hq LB w5 b r (⟨a.id, a.rel, a.dl, k⟩ :: t) := by
      have e1 : (minR (a :: t)).2 = true := rfl
      rw [if_pos e1, List.tail_cons, ins_head HD.out.good (by rfl) (by rfl)] at q5
      exact q5
    have J5 := Lib.hid (JD.out.mvb m5 hXb.out.1 hXb.out.2.1)
    have Y5 : Hid (w5.heap[R]? = _) := Lib.hid ((m5.block R (lt_of_heap YD.out) hRb.out.2.1 hRb.out.2.2.2).trans YD.out)
    have F := Lib.hid (x1_changed HD.out q6 m5 (by simp) (by have := Ed.good_run HW.out.good; rw [EV.out] at this; exact this))
    have c5 := And.intro F.out.1.c0 J5.out.at
    clear q5 q6 m5 CH HD JD YD cD
    go_simp
    refine hK.out _ _ (c5) (fun hHeld => ?_)
    clear hK K
    refine Gh.pt ?_
    refine wpAnyH_done (by kernel_rfl) ?_ _
    clear hHeld
    obtain ⟨j0, -⟩ := J5.out.at
    have y0 : w5.cell? ⟨R, 0, none⟩ = some (.int .i64 0) := by rw [Lib.cell_of_heap Y5.out]; rfl
    have y1 : w5.cell? ⟨R, 1, none⟩ = some (.bool false) := by rw [Lib.cell_of_heap Y5.out]; rfl
    have f0 := Lib.frozen_of_heap Y5.out 0
    have f1 := Lib.frozen_of_heap Y5.out 1
    have hRX : X ≠ R := HXn.out.2
    have FF : Hid (X1 LB ((w5.setCell ⟨R, 0, none⟩ (.int .i64 a.id)).setCell ⟨R, 1, none⟩ (.bool false)) x b m r (⟨a.id, a.rel, a.dl, k⟩ :: t) ∧ MvK (x :: b :: m :: r.toList) w ((w5.setCell ⟨R, 0, none⟩ (.int .i64 a.id)).setCell ⟨R, 1, none⟩ (.bool false))) := Lib.hid (by
      obtain ⟨z1, z2, z3, z4⟩ := hRb.out
      refine ⟨(F.out.1.set _ z1.symm z2.symm z3.symm z4).set _ z1.symm z2.symm z3.symm z4, ?_⟩
      have := (MvK.of_below (K := x :: b :: m :: r.toList) BD.out).trans F.out.2 (NwK.refl _ _)
      exact (this.set _ (by have := HR.out; omega)).set _ (by have := HR.out; omega))
    clear F BD J5
    go_wp2
    exact bodyPost_ret (v := .agg #[.int .i64 a.id, .bool false]) (by simp [results, Try.results9, go_sem, y0, y1]) rfl ⟨by rw [EV.out], by rw [EV.out]; exact FF.out.1, FF.out.2⟩
theorem xrun_any (LB x : Nat) (K : List Nat) (s : List Jo) (hl : s.length ≤ 1000) (w : World) (h : Xq LB w x K s) :
    Calls Try.prog 9 #[.pointer (some ⟨x, 0, none⟩)] w fun e w' => e = .returned (.agg #[.int .i64 (runR s).2.1, .bool (runR s).2.2]) ∧ ∃ K', Xq LB w' x K' (runR s).1 ∧ MvK K w w' ∧ NwK w K K' := by
  cases s with
  | nil => exact (run_nil LB x K w h).mono fun e w' ⟨h1, h2⟩ => ⟨h1, K, h.call h2, .of_below h2, NwK.refl _ _⟩
  | cons a t =>
    rcases h with ⟨rfl, h0, h⟩ | ⟨b, m, r, rfl, h⟩
    · cases h0
    · exact (run_one LB x b m r a t hl w h).mono fun e w' ⟨h1, h2, h3⟩ => ⟨h1, _, .of_x1 h2, h3, NwK.refl _ _⟩
end Go.Proofs.Yteagimnlhopjpaa.Hj
