/- Package edf's Add. -/
import Derived.Test.YteagimnlhopjpaaEdX
import Derived.Test.YteagimnlhopjpaaGnH
import Derived.Deep.QuietTactic
namespace Go.Proofs.Yteagimnlhopjpaa.Hj
open Go.ChangeShapes Go.WideShapes Go.ChangeAt Go.RowKit Go.Joins
open Ed (Jo wk own_an hasR lateR leftR addR runR mayJ)
set_option maxRecDepth 100000
set_option maxRecDepth 100000
set_option linter.unusedVariables false
set_option linter.unusedSimpArgs false
theorem add_bad (x : Nat) (j : Jo) (hm : mayJ j = false) (w : World) : Calls Try.prog 14 #[.pointer (some ⟨x, 0, none⟩), .agg #[.int .i64 j.id, .int .i64 j.rel, .int .i64 j.dl, .int .i64 j.le]] w fun e w' => e = .returned (.int .i64 1) ∧ Below w.heap.size w w' := by
  have MB := Lib.hid (maybe_any j)
  rw [hm] at MB
  have B0 := Lib.hid ((Below.refl w.heap.size w).alloc (Nat.le_refl _) (.cells #[.int .i64 j.id, .int .i64 j.rel, .int .i64 j.dl, .int .i64 j.le] 31))
  clear hm
  go_enter Try.func14, Try.ntmps14
  go_wp2_with fail
  (with_reducible refine (MB.out _).mono ?_)
  rintro e w1 ⟨rfl, b1⟩
  have B1 := Lib.hid (B0.out.trans (b1.mono B0.out.size))
  clear b1 B0
  go_wp2
  go_ret
  exact ⟨rfl, B1.out⟩
theorem add_there (LB x : Nat) (K : List Nat) (s : List Jo) (j : Jo) (hi : I64 j.id) (hm : mayJ j = true) (hh : hasR s j.id = true) (w : World) (h : Xq LB w x K s) : Calls Try.prog 14 #[.pointer (some ⟨x, 0, none⟩), .agg #[.int .i64 j.id, .int .i64 j.rel, .int .i64 j.dl, .int .i64 j.le]] w fun e w' => e = .returned (.int .i64 14) ∧ Below w.heap.size w w' := by
  have MB := Lib.hid (maybe_any j)
  rw [hm] at MB
  have B0 := Lib.hid ((Below.refl w.heap.size w).alloc (Nat.le_refl _) (.cells #[.int .i64 j.id, .int .i64 j.rel, .int .i64 j.dl, .int .i64 j.le] 31))
  have Q0 := Lib.hid (h.call B0.out)
  have J0 := Lib.hid (bx_new w j)
  have HS := Lib.hid (fun W h => has_any LB x K s j.id hi W h)
  rw [hh] at HS
  clear hm hh h
  go_enter Try.func14, Try.ntmps14
  go_wp2_with fail
  (with_reducible refine (MB.out _).mono ?_)
  rintro e w1 ⟨rfl, b1⟩
  have B1 := Lib.hid (B0.out.trans (b1.mono B0.out.size))
  have Q1 := Lib.hid (Q0.out.call b1)
  obtain ⟨c0, -⟩ := (J0.out.call b1).at
  clear b1 B0 Q0 J0
  go_wp2_with fail
  (with_reducible refine (HS.out _ Q1.out).mono ?_)
  rintro e w2 ⟨rfl, b2⟩
  have B2 := Lib.hid (B1.out.trans (b2.mono B1.out.size))
  clear b2 B1 Q1
  go_wp2
  go_ret
  exact ⟨rfl, B2.out⟩
theorem x1_added {LB x b m n : Nat} {r r' : Option Nat} {s : List Jo} {j : Jo} {V w3 w4 : World} {D : DataW Unit} (h : X1 LB V x b m r s) (hq : Hq LB w3 b r' (Hp.ins Ed.ahead j s)) (mv : Mv b r V w3) (hn : Nw V r r') (hj : I64 j.id) (hm : mayJ j = true) (hh : hasR s j.id = false)
    (hD : w3.ownsMap Try.prog 3 unitElem m s.length D) (hs : Maps.size D = s.length) (hk : ∀ i, Maps.has D (.int .i64 i) = hasR s i) (h4 : w4.ownsMap Try.prog 3 unitElem m n (D.put (.int .i64 j.id) (.agg []))) (hg : w3.grownBy w4 (some m)) :
    X1 LB w4 x b m r' (Hp.ins Ed.ahead j s) ∧ MvK (x :: b :: m :: r.toList) V w4 ∧ NwK V (x :: b :: m :: r.toList) (x :: b :: m :: r'.toList) := by
  obtain ⟨n1, n2, n3, n4, n5, n6⟩ := h.ne
  have hr' : ∀ k, r' = some k → k ≠ x ∧ k ≠ m := fun k hk => by
    rcases hn k hk with e | e
    · exact ⟨fun q => n4 (q ▸ e), fun q => n5 (q ▸ e)⟩
    · exact ⟨by have := lt_of_heap h.blk; omega, by have := h.ki.lt; omega⟩
  have ex : w4.heap[x]? = V.heap[x]? := (hg.block x (by have := lt_of_heap h.blk; have := mv.size; omega) (by simp; omega)).trans (mv.block x (lt_of_heap h.blk) n1 n4)
  have hgood : Ed.Good (Hp.ins Ed.ahead j s) := by
    have := Ed.good_add h.good j
    unfold addR at this
    rw [if_neg (by rw [hm]; simp), if_neg (by rw [hh]; simp)] at this
    exact this
  refine ⟨⟨h.lb, h.mlb, ex.trans h.blk, ?_, ki_put j hD hs hk hj hh h4, ?_, hgood⟩, ?_, ?_⟩
  · exact hq.of_blocks (hg.block b hq.lt (by simp; omega)) (fun k hk => hg.block k (hq.rlt k hk).2 (by simp; exact fun e => (hr' k hk).2 (by first | exact e | exact e.symm)))
  · intro q hq
    rcases Hp.ins_mem.1 hq with rfl | hq
    · exact hj
    · exact h.ids q hq
  · exact (MvK.of_mv mv (by simp) (fun k hk => by simp [hk])).trans (K' := [m]) (MvK.of_grown hg (by simp)) (fun k hk => .inl (by simp at hk; simp [hk]))
  · intro k hk
    simp only [List.mem_cons, Option.mem_toList] at hk ⊢
    rcases hk with e | e | e | e
    · exact .inl (.inl e)
    · exact .inl (.inr (.inl e))
    · exact .inl (.inr (.inr (.inl e)))
    · rcases hn k e with q | q
      · exact .inl (.inr (.inr (.inr q)))
      · exact .inr q
theorem add_one (LB x b m : Nat) (r : Option Nat) (s : List Jo) (j : Jo) (hi : I64 j.id) (hm : mayJ j = true) (hh : hasR s j.id = false) (hl : s.length ≤ 1000) (w : World) (h : X1 LB w x b m r s) :
    Calls Try.prog 14 #[.pointer (some ⟨x, 0, none⟩), .agg #[.int .i64 j.id, .int .i64 j.rel, .int .i64 j.dl, .int .i64 j.le]] w fun e w' => e = .returned (.int .i64 0) ∧ ∃ r', X1 LB w' x b m r' (Hp.ins Ed.ahead j s) ∧ MvK (x :: b :: m :: r.toList) w w' ∧ NwK w (x :: b :: m :: r.toList) (x :: b :: m :: r'.toList) := by
  have MB := Lib.hid (maybe_any j)
  rw [hm] at MB
  have B0 := Lib.hid ((Below.refl w.heap.size w).alloc (Nat.le_refl _) (.cells #[.int .i64 j.id, .int .i64 j.rel, .int .i64 j.dl, .int .i64 j.le] 31))
  have Q0 := Lib.hid (h.call B0.out)
  have J0 := Lib.hid (bx_new w j)
  have HS := Lib.hid (fun W h => has_any LB x (x :: b :: m :: r.toList) s j.id hi W (.inr ⟨b, m, r, rfl, h⟩))
  rw [hh] at HS
  have hMI := hi.wf
  have HH := Lib.hid (And.intro hi (And.intro hm hh))
  have HO : Hid (Ed.Own (j :: s)) := Lib.hid (by
    refine List.nodup_cons.2 ⟨fun hj => ?_, h.good.own⟩
    obtain ⟨q, hq, e⟩ := List.mem_map.1 hj
    have : hasR s j.id = true := Ed.has_iff.2 ⟨q, hq, e⟩
    rw [hh] at this; cases this)
  have PU := Lib.hid (fun W h => put_any LB b r s j W h HO.out (by omega))
  have HX := Lib.hid (fun k hk => ((Xq.of_x1 h).lt k hk).2)
  clear hm hh h HO hi hMI
  go_enter Try.func14, Try.ntmps14
  go_wp2_with fail
  (with_reducible refine (MB.out _).mono ?_)
  rintro e w1 ⟨rfl, b1⟩
  have B1 := Lib.hid (B0.out.trans (b1.mono B0.out.size))
  have Q1 := Lib.hid (Q0.out.call b1)
  have J1 := Lib.hid (J0.out.call b1)
  obtain ⟨c0, -⟩ := J1.out.at
  clear b1 B0 Q0 J0 MB
  go_wp2_with fail
  clear c0
  obtain ⟨X, hX⟩ : ∃ X, X = w.heap.size := ⟨_, rfl⟩
  have hXb : Hid (w.heap.size ≤ X) := Lib.hid (by omega)
  rw [← hX] at J1
  rw [← hX]
  clear hX
  (with_reducible refine (HS.out _ Q1.out).mono ?_)
  rintro e w2 ⟨rfl, b2⟩
  have B2 := Lib.hid (B1.out.trans (b2.mono B1.out.size))
  have Q2 := Lib.hid (Q1.out.call b2)
  have J2 := Lib.hid (J1.out.call b2)
  have d0 := Q2.out.c0
  clear b2 B1 Q1 J1 HS
  have QV := Q2
  have JV := J2
  have MV := Lib.hid (MvK.of_below (K := x :: b :: m :: r.toList) B2.out)
  have NV := Lib.hid (NwK.refl w (x :: b :: m :: r.toList))
  have HN : Hid (X ≠ b ∧ X ≠ m ∧ r ≠ some X) := Lib.hid ⟨by have := HX.out b (by simp); have := hXb.out; omega, by have := HX.out m (by simp); have := hXb.out; omega, by intro e; have := HX.out X (by rw [e]; simp); have := hXb.out; omega⟩
  go_upto_region 7 with (fail)
  clear Q2 B2 J2 d0
  generalize w2 = V at *
  have XD := Lib.hid (QV.out.call (Below.refl V.heap.size V).drew)
  have BD := Lib.hid (MV.out.trans (MvK.of_below (K := []) (Below.refl V.heap.size V).drew) (fun k hk => by cases hk))
  have JD := Lib.hid (JV.out.call (Below.refl V.heap.size V).drew)
  have cD := And.intro XD.out.c0 JD.out.at
  clear QV MV JV
  refine wp_region_held_drew (S := (fun W' => W'.cell? ⟨x, 0, none⟩ = some (.pointer (some ⟨b, 0, none⟩)) ∧ W'.cell? ⟨X, 0, none⟩ = some (.int .i64 j.id) ∧ W'.cell? ⟨X, 1, none⟩ = some (.int .i64 j.rel) ∧ W'.cell? ⟨X, 2, none⟩ = some (.int .i64 j.dl) ∧ W'.cell? ⟨X, 3, none⟩ = some (.int .i64 j.le))) (by kernel_rfl) (cD) (fun hHeld => ?_)
  refine Gh.tk 0 ?_
  refine Gh.tk 1 ?_
  refine Gh.tk 2 ?_
  refine Gh.tk 3 ?_
  refine Gh.tk 4 ?_
  refine Gh.rd 5 (fun K hK => ?_)
  go_simp
  (with_reducible refine (PU.out _ XD.out.hq).mono ?_)
  rintro e wP ⟨rfl, r3, q3, m3, n3⟩
  have J3 := Lib.hid (JD.out.mvb m3 HN.out.1 HN.out.2.2)
  have e3 : wP.heap[x]? = _ := m3.block x (lt_of_heap XD.out.blk) XD.out.ne.1 XD.out.ne.2.2.2.1
  have cE := And.intro ((World.cell?_of_block (a := ⟨x, 0, none⟩) e3).trans XD.out.c0) J3.out.at
  have e1 := (World.cell?_of_block (a := ⟨x, 1, none⟩) e3).trans XD.out.c1
  have k3 := XD.out.ki.of_block (m3.block m XD.out.ki.lt (fun e => XD.out.ne.2.2.1 e.symm) XD.out.ne.2.2.2.2.1)
  obtain ⟨D, hD, hs, hk⟩ := k3
  have MD := Lib.hid (And.intro hD (And.intro hs hk))
  have FQ := Lib.hid (And.intro q3 (And.intro m3 n3))
  clear hD hs hk q3 m3 n3 e3 PU JD cD
  go_simp
  refine hK.out _ _ (cE) (fun hHeld => ?_)
  clear hK K
  refine Gh.pt ?_
  refine wpAnyH_done (by kernel_rfl) ?_ _
  clear hHeld
  go_upto_region 8 with (fail)
  obtain ⟨w4, hrun4, hown4, hgrow4⟩ : ∃ w4, (Instr.mapUpdate 60 (.map (some m)) (.int .i64 j.id) (.agg #[])).run Try.prog wP.drew = .ok () w4 ∧ w4.ownsMap Try.prog 3 unitElem m (s.length + 1) (D.put (.int .i64 j.id) (.agg [])) ∧ wP.drew.grownBy w4 (some m) := by
    obtain ⟨w4, h1, h2, h3⟩ := World.ownsMap.store (w := wP.drew) MD.out.1 law Try.underlying60 (by unfold maxLen; omega) (Go.Maps.keyOf_int_mk Try.underlying3 HH.out.1.wf) (unitElem_mk (H := Unit))
    exact ⟨w4, h1, h2, h3.grown⟩
  have HQ3 := Lib.hid (FQ.out.1.call (Below.refl wP.heap.size wP).drew)
  have MV3 := Lib.hid (FQ.out.2.1.trans (Mv.of_below (b := b) (r := none) (Below.refl wP.heap.size wP).drew) (fun j e => by cases e))
  have FA := Lib.hid (x1_added XD.out HQ3.out MV3.out FQ.out.2.2 HH.out.1 HH.out.2.1 HH.out.2.2 MD.out.1 MD.out.2.1 MD.out.2.2 hown4 hgrow4)
  have MA := Lib.hid (BD.out.trans FA.out.2.1 NV.out)
  have NA : Hid (NwK w (x :: b :: m :: r.toList) (x :: b :: m :: r3.toList)) := Lib.hid (fun k hk => by
    rcases FA.out.2.2 k hk with e | e
    · exact NV.out k e
    · exact .inr (Nat.le_trans BD.out.size e))
  have cE4 : w4.cell? ⟨x, 1, none⟩ = some (.map (some m)) ∧ w4.cell? ⟨X, 0, none⟩ = some (.int .i64 j.id) := ⟨FA.out.1.c1, (World.cell?_of_block (w := wP) (a := ⟨X, 0, none⟩) (hgrow4.block X (lt_of_heap J3.out) (by intro e; exact HN.out.2.1 (Option.some.inj e)))).trans J3.out.at.1⟩
  have cE : wP.drew.cell? ⟨x, 1, none⟩ = some (.map (some m)) ∧ wP.drew.cell? ⟨X, 0, none⟩ = some (.int .i64 j.id) := ⟨e1, J3.out.at.1⟩
  clear hown4 hgrow4 HQ3 MV3 MD FQ J3 XD e1
  refine wp_region_held_drew (S := (fun W' => W'.cell? ⟨x, 1, none⟩ = some (.map (some m)) ∧ W'.cell? ⟨X, 0, none⟩ = some (.int .i64 j.id))) (by kernel_rfl) (cE) (fun hHeld => ?_)
  refine Gh.tk 0 ?_
  refine Gh.tk 1 ?_
  refine Gh.tk 2 ?_
  refine Gh.tk 3 ?_
  refine Gh.tk 4 ?_
  refine Gh.tk 5 ?_
  refine Gh.tk 6 ?_
  refine Gh.rd 7 (fun K hK => ?_)
  go_simp
  refine hK.out _ _ (cE4) (fun hHeld => ?_)
  clear hK K
  refine Gh.pt ?_
  refine wpAnyH_done (by kernel_rfl) ?_ _
  clear hHeld
  go_wp2
  go_ret
  exact ⟨rfl, r3, FA.out.1, MA.out, NA.out⟩
theorem x1_made {LB x b : Nat} {w w3 : World} (h : X0 LB w x) (hq : Hq w.heap.size w3 b none []) (hb : Below w.heap.size w w3) (hL : LB ≤ w.heap.size) :
    X1 LB (((w3.setCell ⟨x, 0, none⟩ (.pointer (some ⟨b, 0, none⟩))).setCell ⟨x, 1, none⟩ (.map (some w3.heap.size))).alloc (.map #[] 0)) x b w3.heap.size none [] ∧ MvK [x] w (((w3.setCell ⟨x, 0, none⟩ (.pointer (some ⟨b, 0, none⟩))).setCell ⟨x, 1, none⟩ (.map (some w3.heap.size))).alloc (.map #[] 0)) := by
  have hxw := lt_of_heap h.2
  have hsz := hb.size
  have hx3 := (hb.block x hxw).trans h.2
  have hbx : b ≠ x := by have := hq.lb; omega
  obtain ⟨W, hW⟩ : ∃ W, W = (w3.setCell ⟨x, 0, none⟩ (.pointer (some ⟨b, 0, none⟩))).setCell ⟨x, 1, none⟩ (.map (some w3.heap.size)) := ⟨_, rfl⟩
  have hWs : W.heap.size = w3.heap.size := by rw [hW]; simp [World.setCell]
  have hWx : W.heap[x]? = some (.cells #[.pointer (some ⟨b, 0, none⟩), .map (some w3.heap.size)] 62 (0, 0)) := by rw [hW]; simp [World.setCell, Array.getElem?_modify, hx3]
  have hWo : ∀ k, k ≠ x → W.heap[k]? = w3.heap[k]? := fun k hk => by rw [hW, Below.heap_setCell _ _ _ _ (show k ≠ x from hk), Below.heap_setCell _ _ _ _ (show k ≠ x from hk)]
  have hWm : MvK [x] w W := by
    have hm : MvK [x] w w3 := MvK.of_below hb
    exact ⟨by rw [hW]; exact hm.os, by rw [hW]; exact hm.tape, by rw [hW]; exact hm.output, by omega, fun k hk hn => (hWo k (fun e => hn (by simp [e]))).trans (hm.block k hk hn)⟩
  rw [← hW]
  have ba : Below W.heap.size W (W.alloc (.map #[] 0)) := (Below.refl _ _).alloc (Nat.le_refl _) _
  refine ⟨⟨h.1, by omega, (ba.block x (by omega)).trans hWx, ?_, ?_, (fun j hj => by cases hj), Ed.good_nil⟩, hWm.trans (K' := []) (MvK.of_below ba) (fun k hk => by cases hk)⟩
  · obtain ⟨v, l, ht, h4⟩ := hq
    have hq2 : Hq LB w3 b none [] := ⟨v, l, ⟨ht.head, ht.row.mono hL, by have := ht.lb; omega⟩, h4⟩
    exact hq2.of_blocks ((ba.block b (by rw [hWs]; exact hq2.lt)).trans (hWo b hbx)) (fun k hk => by cases hk)
  · have hk := World.ownsMap_made (H := Unit) W Try.prog 3 unitElem
    rw [hWs] at hk
    exact ki_of hk rfl (fun i => rfl)
theorem add_first (LB x : Nat) (j : Jo) (hi : I64 j.id) (hm : mayJ j = true) (w : World) (h : X0 LB w x) :
    Calls Try.prog 14 #[.pointer (some ⟨x, 0, none⟩), .agg #[.int .i64 j.id, .int .i64 j.rel, .int .i64 j.dl, .int .i64 j.le]] w fun e w' => e = .returned (.int .i64 0) ∧ ∃ b m r', X1 LB w' x b m r' (Hp.ins Ed.ahead j []) ∧ MvK [x] w w' ∧ NwK w [x] (x :: b :: m :: r'.toList) := by
  have MB := Lib.hid (maybe_any j)
  rw [hm] at MB
  have hh : hasR [] j.id = false := rfl
  have B0 := Lib.hid ((Below.refl w.heap.size w).alloc (Nat.le_refl _) (.cells #[.int .i64 j.id, .int .i64 j.rel, .int .i64 j.dl, .int .i64 j.le] 31))
  have Q0 := Lib.hid (h.call B0.out)
  have J0 := Lib.hid (bx_new w j)
  have HS := Lib.hid (fun W h => has_any LB x [x] [] j.id hi W (.inl ⟨rfl, rfl, h⟩))
  rw [hh] at HS
  have HH := Lib.hid (And.intro hi (And.intro hm hh))
  have HL : Hid (LB ≤ x ∧ x < w.heap.size) := Lib.hid ⟨h.1, lt_of_heap h.2⟩
  have HO : Hid (Ed.Own [j]) := Lib.hid (List.nodup_cons.2 ⟨by simp, List.nodup_nil⟩)
  have BD0 := Lib.hid bydl_any
  have hl : ([] : List Jo).length ≤ 1000 := by simp
  clear hm hh h hi
  go_enter Try.func14, Try.ntmps14
  go_wp2_with fail
  (with_reducible refine (MB.out _).mono ?_)
  rintro e w1 ⟨rfl, b1⟩
  have B1 := Lib.hid (B0.out.trans (b1.mono B0.out.size))
  have Q1 := Lib.hid (Q0.out.call b1)
  have J1 := Lib.hid (J0.out.call b1)
  obtain ⟨c0, -⟩ := J1.out.at
  clear b1 B0 Q0 J0 MB
  go_wp2_with fail
  clear c0
  obtain ⟨X, hX⟩ : ∃ X, X = w.heap.size := ⟨_, rfl⟩
  have hXb : Hid (w.heap.size ≤ X) := Lib.hid (by omega)
  have hXc : Hid (X = w.heap.size) := Lib.hid hX
  rw [← hX] at J1
  rw [← hX]
  clear hX
  (with_reducible refine (HS.out _ Q1.out).mono ?_)
  rintro e w2 ⟨rfl, b2⟩
  have B2 := Lib.hid (B1.out.trans (b2.mono B1.out.size))
  have Q2 := Lib.hid (Q1.out.call b2)
  have J2 := Lib.hid (J1.out.call b2)
  have d0 := Q2.out.c0
  clear b2 B1 Q1 J1 HS
  go_wp2_with fail
  (with_reducible refine (BD0.out w2).mono ?_)
  rintro e w3 ⟨rfl, hq, b3⟩
  have Q3 := Lib.hid (Q2.out.call b3)
  have d3 := Q3.out.c0
  have d4 := Q3.out.c1
  have f3 := fun o => Lib.frozen_of_heap Q3.out.2 o
  have hxw := lt_of_heap Q3.out.2
  have hmm := @run_makeMap Try.prog
  have XM := Lib.hid (x1_made Q2.out hq b3 (by have := HL.out; have := B2.out.size; omega))
  have BL := Lib.hid b3.size
  have J3 := Lib.hid (J2.out.call b3)
  obtain ⟨b, hbb⟩ : ∃ b, b = w2.heap.size := ⟨_, rfl⟩
  have HN : Hid (X ≠ b ∧ X ≠ w3.heap.size ∧ (none : Option Nat) ≠ some X) := Lib.hid ⟨by rw [hbb]; have := lt_of_heap J2.out; omega, by have := lt_of_heap J3.out; omega, by simp⟩
  have HXx : Hid (X ≠ x) := Lib.hid (by rw [hXc.out]; have := HL.out; omega)
  have NV : Hid (NwK w [x] (x :: b :: w3.heap.size :: (none : Option Nat).toList)) := Lib.hid (fun k hk => by
    have h1 := B2.out.size
    have h2 := b3.size
    simp at hk
    rcases hk with rfl | rfl | rfl
    · exact .inl (by simp)
    · exact .inr (by omega)
    · exact .inr (by omega))
  have XN := Lib.hid XM.out.1
  have MV := Lib.hid ((MvK.of_below (K := [x]) B2.out).trans XM.out.2 (NwK.refl _ _))
  rw [← hbb] at XN MV
  have JN : Hid (Bx (((w3.setCell ⟨x, 0, none⟩ (.pointer (some ⟨b, 0, none⟩))).setCell ⟨x, 1, none⟩ (.map (some w3.heap.size))).alloc (.map #[] 0)) X j) := Lib.hid (by
    have hs : ((w3.setCell ⟨x, 0, none⟩ (.pointer (some ⟨b, 0, none⟩))).setCell ⟨x, 1, none⟩ (.map (some w3.heap.size))).heap.size = w3.heap.size := by simp [World.setCell]
    refine J3.out.of_block ?_
    rw [((Below.refl _ _).alloc (Nat.le_refl _) _).block X (by rw [hs]; exact lt_of_heap J3.out), Below.heap_setCell _ _ _ _ (show X ≠ x from HXx.out), Below.heap_setCell _ _ _ _ (show X ≠ x from HXx.out)])
  clear hq b3 Q3 Q2 d0 XM BL BD0
  go_upto_region 7 with (fail)
  rw [← hbb]
  clear hbb J2 J3 B2 d3 d4 f3
  generalize (((w3.setCell ⟨x, 0, none⟩ (.pointer (some ⟨b, 0, none⟩))).setCell ⟨x, 1, none⟩ (.map (some w3.heap.size))).alloc (.map #[] 0)) = V at *
  generalize w3.heap.size = m at *
  have QV := XN
  have JV := JN
  have PU := Lib.hid (fun W h => put_any LB b none [] j W h HO.out (by simp))
  clear XN JN
  have XD := Lib.hid (QV.out.call (Below.refl V.heap.size V).drew)
  have BD := Lib.hid (MV.out.trans (MvK.of_below (K := []) (Below.refl V.heap.size V).drew) (fun k hk => by cases hk))
  have JD := Lib.hid (JV.out.call (Below.refl V.heap.size V).drew)
  have cD := And.intro XD.out.c0 JD.out.at
  clear QV MV JV
  refine wp_region_held_drew (S := (fun W' => W'.cell? ⟨x, 0, none⟩ = some (.pointer (some ⟨b, 0, none⟩)) ∧ W'.cell? ⟨X, 0, none⟩ = some (.int .i64 j.id) ∧ W'.cell? ⟨X, 1, none⟩ = some (.int .i64 j.rel) ∧ W'.cell? ⟨X, 2, none⟩ = some (.int .i64 j.dl) ∧ W'.cell? ⟨X, 3, none⟩ = some (.int .i64 j.le))) (by kernel_rfl) (cD) (fun hHeld => ?_)
  refine Gh.tk 0 ?_
  refine Gh.tk 1 ?_
  refine Gh.tk 2 ?_
  refine Gh.tk 3 ?_
  refine Gh.tk 4 ?_
  refine Gh.rd 5 (fun K hK => ?_)
  go_simp
  (with_reducible refine (PU.out _ XD.out.hq).mono ?_)
  rintro e wP ⟨rfl, r3, q3, m3, n3⟩
  have J3 := Lib.hid (JD.out.mvb m3 HN.out.1 HN.out.2.2)
  have e3 : wP.heap[x]? = _ := m3.block x (lt_of_heap XD.out.blk) XD.out.ne.1 XD.out.ne.2.2.2.1
  have cE := And.intro ((World.cell?_of_block (a := ⟨x, 0, none⟩) e3).trans XD.out.c0) J3.out.at
  have e1 := (World.cell?_of_block (a := ⟨x, 1, none⟩) e3).trans XD.out.c1
  have k3 := XD.out.ki.of_block (m3.block m XD.out.ki.lt (fun e => XD.out.ne.2.2.1 e.symm) XD.out.ne.2.2.2.2.1)
  obtain ⟨D, hD, hs, hk⟩ := k3
  have MD := Lib.hid (And.intro hD (And.intro hs hk))
  have FQ := Lib.hid (And.intro q3 (And.intro m3 n3))
  clear hD hs hk q3 m3 n3 e3 PU JD cD
  go_simp
  refine hK.out _ _ (cE) (fun hHeld => ?_)
  clear hK K
  refine Gh.pt ?_
  refine wpAnyH_done (by kernel_rfl) ?_ _
  clear hHeld
  go_upto_region 8 with (fail)
  obtain ⟨w4, hrun4, hown4, hgrow4⟩ : ∃ w4, (Instr.mapUpdate 60 (.map (some m)) (.int .i64 j.id) (.agg #[])).run Try.prog wP.drew = .ok () w4 ∧ w4.ownsMap Try.prog 3 unitElem m (([] : List Jo).length + 1) (D.put (.int .i64 j.id) (.agg [])) ∧ wP.drew.grownBy w4 (some m) := by
    obtain ⟨w4, h1, h2, h3⟩ := World.ownsMap.store (w := wP.drew) MD.out.1 law Try.underlying60 (by unfold maxLen; omega) (Go.Maps.keyOf_int_mk Try.underlying3 HH.out.1.wf) (unitElem_mk (H := Unit))
    exact ⟨w4, h1, h2, h3.grown⟩
  have HQ3 := Lib.hid (FQ.out.1.call (Below.refl wP.heap.size wP).drew)
  have MV3 := Lib.hid (FQ.out.2.1.trans (Mv.of_below (b := b) (r := none) (Below.refl wP.heap.size wP).drew) (fun j e => by cases e))
  have FA := Lib.hid (x1_added XD.out HQ3.out MV3.out FQ.out.2.2 HH.out.1 HH.out.2.1 HH.out.2.2 MD.out.1 MD.out.2.1 MD.out.2.2 hown4 hgrow4)
  have MA := Lib.hid (BD.out.trans FA.out.2.1 NV.out)
  have NA : Hid (NwK w [x] (x :: b :: m :: r3.toList)) := Lib.hid (fun k hk => by
    rcases FA.out.2.2 k hk with e | e
    · exact NV.out k e
    · exact .inr (Nat.le_trans BD.out.size e))
  have cE4 : w4.cell? ⟨x, 1, none⟩ = some (.map (some m)) ∧ w4.cell? ⟨X, 0, none⟩ = some (.int .i64 j.id) := ⟨FA.out.1.c1, (World.cell?_of_block (w := wP) (a := ⟨X, 0, none⟩) (hgrow4.block X (lt_of_heap J3.out) (by intro e; exact HN.out.2.1 (Option.some.inj e)))).trans J3.out.at.1⟩
  have cE : wP.drew.cell? ⟨x, 1, none⟩ = some (.map (some m)) ∧ wP.drew.cell? ⟨X, 0, none⟩ = some (.int .i64 j.id) := ⟨e1, J3.out.at.1⟩
  clear hown4 hgrow4 HQ3 MV3 MD FQ J3 XD e1
  refine wp_region_held_drew (S := (fun W' => W'.cell? ⟨x, 1, none⟩ = some (.map (some m)) ∧ W'.cell? ⟨X, 0, none⟩ = some (.int .i64 j.id))) (by kernel_rfl) (cE) (fun hHeld => ?_)
  refine Gh.tk 0 ?_
  refine Gh.tk 1 ?_
  refine Gh.tk 2 ?_
  refine Gh.tk 3 ?_
  refine Gh.tk 4 ?_
  refine Gh.tk 5 ?_
  refine Gh.tk 6 ?_
  refine Gh.rd 7 (fun K hK => ?_)
  go_simp
  refine hK.out _ _ (cE4) (fun hHeld => ?_)
  clear hK K
  refine Gh.pt ?_
  refine wpAnyH_done (by kernel_rfl) ?_ _
  clear hHeld
  go_wp2
  go_ret
  exact ⟨rfl, b, m, r3, FA.out.1, MA.out, NA.out⟩
variable (LB x : Nat) (K : List Nat) (s : List Jo)
theorem xadd_any (j : Jo) (hi : I64 j.id) (hl : s.length ≤ 1000) (w : World) (h : Xq LB w x K s) :
    Calls Try.prog 14 #[.pointer (some ⟨x, 0, none⟩), .agg #[.int .i64 j.id, .int .i64 j.rel, .int .i64 j.dl, .int .i64 j.le]] w fun e w' => e = .returned (.int .i64 (addR s j).2) ∧ ∃ K', Xq LB w' x K' (addR s j).1 ∧ MvK K w w' ∧ NwK w K K' := by
  cases hm : mayJ j with
  | false =>
    have e : addR s j = (s, 1) := by unfold addR; rw [if_pos hm]
    rw [e]
    exact (add_bad x j hm w).mono fun e w' ⟨h1, h2⟩ => ⟨h1, K, h.call h2, .of_below h2, NwK.refl _ _⟩
  | true =>
    cases hh : hasR s j.id with
    | true =>
      have e : addR s j = (s, 14) := by unfold addR; rw [if_neg (by rw [hm]; simp), if_pos hh]
      rw [e]
      exact (add_there LB x K s j hi hm hh w h).mono fun e w' ⟨h1, h2⟩ => ⟨h1, K, h.call h2, .of_below h2, NwK.refl _ _⟩
    | false =>
      have e : addR s j = (Hp.ins Ed.ahead j s, 0) := by unfold addR; rw [if_neg (by rw [hm]; simp), if_neg (by rw [hh]; simp)]
      rw [e]
      rcases h with ⟨rfl, rfl, h⟩ | ⟨b, m, r, rfl, h⟩
      · exact (add_first LB x j hi hm w h).mono fun e w' ⟨h1, b, m, r, h2, h3, h4⟩ => ⟨h1, _, .of_x1 h2, h3, h4⟩
      · exact (add_one LB x b m r s j hi hm hh hl w h).mono fun e w' ⟨h1, r', h2, h3, h4⟩ => ⟨h1, _, .of_x1 h2, h3, h4⟩
end Go.Proofs.Yteagimnlhopjpaa.Hj
