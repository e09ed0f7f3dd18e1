/- What package heap keeps of its things: contract of without. -/
import Derived.Sort.CutIn
import Derived.Lib.Builder
import Derived.Test.YteagimnlhopjpaaHjR
namespace Go.Proofs.Yteagimnlhopjpaa.Hj
open Go.ChangeShapes Go.WideShapes Go.ChangeAt Go.RowKit Go.Joins Go.Shelf
open Hp (Wk An Srt le ins sort sort_len sort_min sort_srt sort_ins sort_eq hp_nil hp_min hp_head)
open Ed (Jo wk own_an)
attribute [local go_sem] Oper.semAt_some
set_option maxRecDepth 100000
set_option maxRecDepth 100000
set_option linter.unusedVariables false
set_option linter.unusedSimpArgs false
theorem wpListIn_append_run {F : Fence} {n : Nat} {P : Program} (w : World) {ops : Array Oper} {rest : List Oper} {o : Oper} {a : Act} {Q : Exit → Act → World → Prop} (hgd : o.guard = none) (s x : Operand) (t tn : TypeId)
    (hop : o.op = .call { callee := .builtin .append, args := #[s, x], argTypes := #[t, tn] }) (vs vx : Value) (hs : a.eval s = vs) (hx : a.eval x = vx)
    (v' : Value) (w' : World) (hr : (Builtin.append_ #[t, tn] o.type #[vs, vx]).run P w = .ok v' w') (h : wpListIn F n P ops Q rest (a.put o.dst v') w') : wpListIn F n P ops Q (o :: rest) a w := by
  refine wpListIn_plain hgd fun K hK' => ?_
  unfold Oper.wpIn
  refine ⟨?_, ?_⟩
  · simp [Oper.about, hop, resolve, Target.leads, Sem.run_pure]
  · rw [Oper.semAt_plain F _ _ (by rw [hop]; intro c hc'; cases hc')]
    simp [execOp, hop, resolve, invoke, builtin, hs, hx, hr, Result.andThen]
    exact hK' _ _ h
/-- the blocks of without: what is asked, and what is kept so far -/
structure Wi (w : World) (F : Nat) (p : Jo → Bool) (u : Value) (Q : Nat) (R : Option Nat) (pre : List Jo) (A : World) : Prop where
  asks : A.heap[w.heap.size]? = some (.cells #[.func (.func F) #[] #[]] 65 (0, 0))
  kept : A.heap[w.heap.size + 1]? = some (.cells #[u] 27 (0, 0))
  row : NRow w.heap.size A u (pre.filter (fun x => !p x))
  off : ∀ k, u.ownBlock = some k → k ≠ Q ∧ R ≠ some k
  bel : Below w.heap.size w A
  size : w.heap.size + 3 ≤ A.heap.size
def WiI (w : World) (F : Nat) (p : Jo → Bool) (Q : Nat) (R : Option Nat) (pre : List Jo) (A : World) : Prop := ∃ u, Wi w F p u Q R pre A
section
variable {w : World} {F : Nat} {p : Jo → Bool} {u : Value} {Q : Nat} {R : Option Nat} {pre : List Jo} {A A' : World}
theorem Wi.turned (h : Wi w F p u Q R pre A) (e : ∀ (k : Nat) (cs : Array Value) (T : TypeId) (fz : Nat × Nat), A.heap[k]? = some (Obj.cells cs T fz) → k ≠ Q → R ≠ some k → A'.heap[k]? = A.heap[k]?) (hQ : w.heap.size + 3 ≤ Q) (hR : ∀ k, R = some k → w.heap.size + 3 ≤ k) (b : Below w.heap.size w A') (hs : A.heap.size ≤ A'.heap.size) : Wi w F p u Q R pre A' := by
  have ne : ∀ k, k < w.heap.size + 3 → R ≠ some k := fun k hk e => by have := hR k e; omega
  refine ⟨(e _ _ _ _ h.asks (by omega) (ne _ (by omega))).trans h.asks, (e _ _ _ _ h.kept (by omega) (ne _ (by omega))).trans h.kept, h.row.of_blocks fun k hk => ?_, h.off, b, Nat.le_trans h.size hs⟩
  obtain ⟨cur, hc⟩ := h.row.block k hk
  exact e _ _ _ _ hc (h.off k hk).1 (h.off k hk).2
theorem Wi.call (h : Wi w F p u Q R pre A) (b : Below A.heap.size A A') : Wi w F p u Q R pre A' :=
  ⟨(b.block _ (lt_of_heap h.asks)).trans h.asks, (b.block _ (lt_of_heap h.kept)).trans h.kept, h.row.call b, h.off, h.bel.trans (b.mono h.bel.size), Nat.le_trans h.size b.size⟩
theorem Keeps.of_below (m : Mine Q R A) (b : Below A.heap.size A A') : Keeps Q R A A' :=
  ⟨b.size, by obtain ⟨cs, e⟩ := m.head; exact b.block Q (lt_of_heap e), fun k hk => by obtain ⟨cs, e⟩ := m.row k hk; exact b.block k (lt_of_heap e)⟩
theorem stays_below {B : Nat} (b : Below A.heap.size A A') : Stays B A A' := fun k o _ h _ => (b.block k (lt_of_heap h)).trans h
theorem wi_start (w : World) (F : Nat) (p : Jo → Bool) (bv : Value) : Wi w F p (.slice none 0 0) (w.heap.size + 3) none [] (((w.alloc (.cells #[.func (.func F) #[] #[]] 65)).alloc (.cells #[.slice none 0 0] 27)).alloc (.cells #[bv] 59)) := by
  have b1 := (Below.refl w.heap.size w).alloc (Nat.le_refl _) (.cells #[.func (.func F) #[] #[]] 65)
  have b2 := b1.alloc (by simp) (.cells #[.slice none 0 0] 27)
  have b3 := b2.alloc (by simp; omega) (.cells #[bv] 59)
  refine ⟨?_, ?_, nrow_nil _ _, fun k hk => (by cases hk), b3, by simp⟩
  all_goals simp only [World.alloc, Array.getElem?_push, Array.size_push]
  · rw [if_neg (by omega), if_neg (by omega), if_pos trivial]
  · rw [if_neg (by omega), if_pos trivial]
theorem wi_between {w W : World} {F : Nat} {p : Jo → Bool} (h : Wi w F p (.slice none 0 0) (w.heap.size + 3) none [] W) (hW : W.heap.size = w.heap.size + 3) (N : Nat) : Between N W (WiI w F p) := by
  refine ⟨fun A Q R hA hQ hR => ⟨.slice none 0 0, ?_⟩, fun Q R pre A A' ⟨u, hu⟩ hQ hR hm => ⟨u, hu.turned (fun k cs T fz hk h1 h2 => hm.block k (lt_of_heap hk) h1 h2) (by omega) (fun k hk => by have := hR k hk; omega) (hu.bel.trans (hm.below (by have := hu.size; omega) (by omega) (fun k hk => by have := hR k hk; omega))) hm.size⟩⟩
  have hs := hA.size
  exact ⟨(hA.block _ (by omega)).trans h.asks, (hA.block _ (by omega)).trans h.kept, nrow_nil _ _, fun k hk => (by cases hk), h.bel.trans (hA.mono (by omega)), by omega⟩
theorem wi_cellwise {w : World} {F : Nat} {p : Jo → Bool} {B : Nat} (hB : w.heap.size ≤ B) : Cellwise B (WiI w F p) := by
  rintro Q R pre A l o o' ⟨u, hu⟩ hl ho hc
  have ne : ∀ (k : Nat) (cs : Array Value) (T : TypeId) (fz : Nat × Nat), A.heap[k]? = some (Obj.cells cs T fz) → (A.putObj l o').heap[k]? = A.heap[k]? := fun k cs T fz hk => World.putObj_heap_other (by rintro rfl; rw [ho] at hk; cases hk; cases hc)
  refine ⟨u, (ne _ _ _ _ hu.asks).trans hu.asks, (ne _ _ _ _ hu.kept).trans hu.kept, hu.row.of_blocks fun k hk => ?_, hu.off, hu.bel.trans ⟨rfl, rfl, rfl, by simp [World.putObj], fun k hk => World.putObj_heap_other (by omega)⟩, by simpa [World.putObj] using hu.size⟩
  obtain ⟨cur, hc'⟩ := hu.row.block k hk
  exact ne _ _ _ _ hc'
end
theorem taken1_hands (n : Nat) (hn : 1 ≤ n) (X LB b : Nat) (v : Value) (l : List Jo) (w : World) (hX : w.cell? ⟨X, 0, none⟩ = some (.pointer (some ⟨b, 0, none⟩))) (h : Ht LB w b v l) (hp : Hp.Hp Ed.ahead l) (hO : Ed.Own l) (hl : l.length ≤ 90000) :
    Hands Try.prog n 58 #[.pointer (some ⟨X, 0, none⟩)] (sort Ed.ahead l) w := fun Y J W hW hJ hY =>
  taken1_in n hn Y X LB b v l W (carry hW hX) (h.call hW) hp hO hl J hJ.start hJ.own (fun Q R pre x A h1 h2 h3 => hY Q R pre x A h1 h2 (by rw [sort_len]; exact h3))
set_option maxHeartbeats 4000000 in
theorem without_any (LB b : Nat) (v : Value) (l : List Jo) (w : World) (h : Ht LB w b v l) (hp : Hp.Hp Ed.ahead l) (hO : Ed.Own l) (hl : l.length ≤ 90000) (F : Nat) (p : Jo → Bool) (eg : ∀ args w, (callFunc F args).run Try.prog w = .ok (.enter F args) w)
    (hF : ∀ x W, Calls Try.prog F #[.agg #[.int .i64 x.id, .int .i64 x.rel, .int .i64 x.dl, .int .i64 x.le]] W fun e W' => e = .returned (.bool (p x)) ∧ Below W.heap.size W W') :
    Calls Try.prog 46 #[.pointer (some ⟨b, 0, none⟩), .func (.func F) #[] #[]] w fun e w' => ∃ u, e = .returned u ∧ NRow w.heap.size w' u ((sort Ed.ahead l).filter (fun x => !p x)) ∧ Below w.heap.size w w' := by
  refine (callsIn_wide (n := 4)).1 ?_
  refine callsIn_of_wp_marks Try.func46 rfl trivial ?_ rfl
  simp only [Try.ntmps46, List.size_toArray, List.length_cons, List.length_nil, Nat.reduceAdd, Nat.reduceSub, Array.replicate_succ, Array.replicate_zero, List.push_toArray, List.append_toArray, List.nil_append, List.cons_append]
  have S0 := wi_start w F p (.pointer (some ⟨b, 0, none⟩))
  refine wpIn_wide.2 ?_
  have TK := Lib.hid (fun w => taken_any (some ⟨b, 0, none⟩) w)
  have HH := Lib.hid h
  go_wp2_with fail
  go_step3
  go_wp2_with fail
  go_step3
  go_wp2_with fail
  (with_reducible refine (TK.out _).mono ?_)
  rintro e w1 ⟨rfl, rfl⟩
  clear TK
  go_wp2_with fail
  have hsz : (((w.alloc (.cells #[.func (.func F) #[] #[]] 65)).alloc (.cells #[.slice none 0 0] 27)).alloc (.cells #[.pointer (some ⟨b, 0, none⟩)] 59)).heap.size = w.heap.size + 3 := by simp
  have hX : (((w.alloc (.cells #[.func (.func F) #[] #[]] 65)).alloc (.cells #[.slice none 0 0] 27)).alloc (.cells #[.pointer (some ⟨b, 0, none⟩)] 59)).cell? ⟨w.heap.size + 1 + 1, 0, none⟩ = some (.pointer (some ⟨b, 0, none⟩)) := by simp [go_sem]
  generalize (((w.alloc (.cells #[.func (.func F) #[] #[]] 65)).alloc (.cells #[.slice none 0 0] 27)).alloc (.cells #[.pointer (some ⟨b, 0, none⟩)] 59)) = W0 at *
  have hW := h.call (S0.bel)
  have HF := Lib.hid hF
  refine (wpIn_wide (n := 4)).1 ?_
  refine range_all (by omega) (gf := 58) (lb := #[.pointer (some ⟨w.heap.size + 1 + 1, 0, none⟩)]) rfl (enters_of Try.func58 (by kernel_rfl) rfl) rfl
    (taken1_hands _ (by omega) _ LB b v l W0 hX hW hp hO hl) (WiI w F p) (wi_between S0 hsz _) (wi_cellwise (by omega))
    (fun x X => { tmps := #[.pointer (some ⟨b, 0, none⟩), .func (.func F) #[] #[], undef, .pointer (some ⟨w.heap.size, 0, none⟩), .slice none 0 0, .pointer (some ⟨w.heap.size + 1, 0, none⟩), .pointer (some ⟨X, 0, none⟩), .pointer (some ⟨b, 0, none⟩), .func (.func 58) #[] #[.pointer (some ⟨w.heap.size + 1 + 1, 0, none⟩)], .agg #[.int .i64 x.id, .int .i64 x.rel, .int .i64 x.dl, .int .i64 x.le], undef, undef, undef, undef, undef, undef, undef, undef], defers := [] })
    (fun Q R pre A A' ⟨u, hu⟩ bb => ⟨u, hu.call bb⟩) ?assign ?body ?done
  case assign =>
    intro Y x W K hK
    gi_wp2
    exact hK
  case body =>
    rintro Y Q R pre x A X hY ⟨u, hu⟩ hmine hbx hX2 hlen
    obtain ⟨x0, x1, x2, x3⟩ := hbx.at
    have ca : A.cell? ⟨w.heap.size, 0, none⟩ = some (.func (.func F) #[] #[]) := by rw [Lib.cell_of_heap hu.asks]; rfl
    have CF := Lib.hid ((callsIn_wide (n := 4 - 1 - 1 - 1)).2 (HF.out x A))
    have hfl : (pre.filter (fun x => !p x)).length ≤ 90000 := by
      have := List.length_filter_le (fun x => !p x) pre
      rw [sort_len] at hlen; omega
    have HU := Lib.hid hu
    have HM := Lib.hid hmine
    have HBX := Lib.hid hbx
    cases hpx : p x with
    | true =>
      rw [hpx] at CF
      have e : (pre ++ [x]).filter (fun x => !p x) = pre.filter (fun x => !p x) := by simp [List.filter_append, hpx]
      have EE := Lib.hid e
      clear hF HF hu hmine hlen hpx hp h hW S0 hX HH e hbx hfl
      gi_wp2
      refine ⟨trivial, ?_⟩
      refine (CallsIn.inRound Y CF.out).mono ?_
      rintro e w3 ⟨rfl, b3⟩
      have FIN : Hid (WiI w F p Q R (pre ++ [x]) w3 ∧ Keeps Q R A w3 ∧ Stays W0.heap.size A w3) := Lib.hid (by
        have hu3 := HU.out.call b3
        exact ⟨⟨u, hu3.asks, hu3.kept, by rw [EE.out]; exact hu3.row, hu3.off, hu3.bel, hu3.size⟩, Keeps.of_below HM.out b3, stays_below b3⟩)
      clear b3 HU HM EE CF HBX
      gi_wp2
      rw [← hsz]
      exact FIN.out
    | false =>
      rw [hpx] at CF
      have HPX := Lib.hid hpx
      have HFL := Lib.hid hfl
      clear hF HF hu hmine hlen hpx hp h hW S0 hX HH hbx hfl
      gi_wp2
      refine ⟨trivial, ?_⟩
      refine (CallsIn.inRound Y CF.out).mono ?_
      rintro e w3 ⟨rfl, b3⟩
      have hu := HU.out.call b3
      have hm3 := HM.out.keeps (Keeps.of_below HM.out b3)
      have hbx3 := HBX.out.call b3
      obtain ⟨z0, z1, z2, z3⟩ := hbx3.at
      have ck : w3.cell? ⟨w.heap.size + 1, 0, none⟩ = some u := by rw [Lib.cell_of_heap hu.kept]; rfl
      obtain ⟨pa, pc, rfl, -, -⟩ := hu.row.form
      obtain ⟨g, cp, w2, hap, hrow, hb2, hk2, hs2, hnew⟩ := nrow_append w.heap.size w3 _ _ x hu.row (by have := hu.size; omega) (by have := HFL.out; omega)
      have hkn : (Value.slice pa (pre.filter (fun x => !p x)).length pc).ownBlock ≠ some (w.heap.size + 1) := hu.row.apart hu.kept (by decide)
      have hgk : g ≠ w.heap.size + 1 := by
        rintro rfl
        rcases hnew with e | e
        · exact hkn e
        · have := hu.size; omega
      have hk3 : w2.heap[w.heap.size + 1]? = some (.cells #[.slice pa (pre.filter (fun x => !p x)).length pc] 27 (0, 0)) := (hk2 _ (by have := hu.size; omega) hkn).trans hu.kept
      have ck2 : w2.cell? ⟨w.heap.size + 1, 0, none⟩ = some (.slice pa (pre.filter (fun x => !p x)).length pc) := by rw [Lib.cell_of_heap hk3]; rfl
      have fk2 := Lib.frozen_of_heap hk3 0
      have FIN : Hid (WiI w F p Q R (pre ++ [x]) (w2.setCell ⟨w.heap.size + 1, 0, none⟩ (.slice (some ⟨g, 0, none⟩) ((pre.filter (fun x => !p x)).length + 1) cp)) ∧ Keeps Q R A (w2.setCell ⟨w.heap.size + 1, 0, none⟩ (.slice (some ⟨g, 0, none⟩) ((pre.filter (fun x => !p x)).length + 1) cp)) ∧ Stays W0.heap.size A (w2.setCell ⟨w.heap.size + 1, 0, none⟩ (.slice (some ⟨g, 0, none⟩) ((pre.filter (fun x => !p x)).length + 1) cp))) := Lib.hid (by
        have hz := hu.size
        have e : (pre ++ [x]).filter (fun x => !p x) = pre.filter (fun x => !p x) ++ [x] := by simp [List.filter_append, HPX.out]
        have ot : ∀ k, k ≠ w.heap.size + 1 → (w2.setCell ⟨w.heap.size + 1, 0, none⟩ (.slice (some ⟨g, 0, none⟩) ((pre.filter (fun x => !p x)).length + 1) cp)).heap[k]? = w2.heap[k]? := fun k hk => Below.heap_setCell _ _ _ _ hk
        have sz : (w2.setCell ⟨w.heap.size + 1, 0, none⟩ (.slice (some ⟨g, 0, none⟩) ((pre.filter (fun x => !p x)).length + 1) cp)).heap.size = w2.heap.size := by simp [World.setCell]
        have hQA : Q < w3.heap.size := by obtain ⟨cs, e⟩ := hm3.head; exact lt_of_heap e
        have hQk : Q ≠ w.heap.size + 1 := by rintro rfl; obtain ⟨cs, e⟩ := hm3.head; rw [hu.kept] at e; cases e
        have hRk : ∀ k, R = some k → k < w3.heap.size ∧ k ≠ w.heap.size + 1 := fun k hk => by
          obtain ⟨cs, e⟩ := hm3.row k hk
          exact ⟨lt_of_heap e, by rintro rfl; rw [hu.kept] at e; cases e⟩
        have ho := hu.off
        refine ⟨⟨.slice (some ⟨g, 0, none⟩) ((pre.filter (fun x => !p x)).length + 1) cp, (ot _ (by omega)).trans ((hk2 _ (by omega) (hu.row.apart hu.asks (by decide))).trans hu.asks), by simp [World.setCell, Array.getElem?_modify, hk3], by rw [e]; exact hrow.of_blocks (fun k hk => by cases hk; exact ot _ hgk), fun k hk => ?_, ?_, by omega⟩,
          (Keeps.of_below HM.out b3).trans ⟨by omega, (ot _ hQk).trans (hk2 _ hQA (fun e => (ho Q e).1 rfl)), fun k hk => (ot _ (hRk k hk).2).trans (hk2 _ (hRk k hk).1 (fun e => (ho k e).2 hk))⟩, fun k o hk hok hc => ?_⟩
        · cases hk
          rcases hnew with e2 | e2
          · exact ho g e2
          · have hg' : w3.heap.size ≤ g := e2
            exact ⟨show g ≠ Q by omega, fun e3 => by have := (hRk g e3).1; omega⟩
        · exact hu.bel.trans (hb2.setCell (by simp) _)
        · replace hok := stays_below b3 k o hk hok hc
          have hka := lt_of_heap hok
          refine (ot k (by rintro rfl; rw [hu.kept] at hok; cases hok; cases hc)).trans ((hk2 k hka (fun e => ?_)).trans hok)
          obtain ⟨cur, hcur⟩ := hu.row.block k e
          rw [hcur] at hok; cases hok; cases hc)
      generalize (pre.filter (fun x => !p x)).length = fl at *
      generalize fl + 1 = fl1 at *
      clear HU HM HBX CF HPX HFL hu hm3 hbx3 b3 hrow hb2 hk2 hs2 hnew hkn hgk hk3 x0 x1 x2 x3 ca
      gi_wp2_with (gi_at_builtin; refine wpListIn_append_run _ rfl _ _ _ _ rfl _ _ rfl rfl _ _ hap ?_)
      rw [← hsz]
      exact FIN.out
  case done =>
    rintro D Q R W hD ⟨u, hu⟩ hK
    have ck : W.cell? ⟨w.heap.size + 1, 0, none⟩ = some u := by rw [Lib.cell_of_heap hu.kept]; rfl
    have F2 : Hid (NRow w.heap.size (W.putObj D (.deferred none)) u ((sort Ed.ahead l).filter (fun x => !p x)) ∧ Below w.heap.size w (W.putObj D (.deferred none))) := Lib.hid (by
      refine ⟨hu.row.of_blocks fun k hk => World.putObj_heap_other ?_, hu.bel.trans ⟨rfl, rfl, rfl, by simp [World.putObj], fun k hk => World.putObj_heap_other (by omega)⟩⟩
      rintro rfl
      obtain ⟨cur, hcur⟩ := hu.row.block _ hk
      rw [hK] at hcur; cases hcur)
    obtain ⟨pa, pc, rfl, -, -⟩ := hu.row.form
    have HK := Lib.hid hK
    generalize ((sort Ed.ahead l).filter (fun x => !p x)).length = fl at *
    clear hF HF hu hp h hW S0 hX HH hK
    go_wp2_with fail
    go_wp2
    simp only [Exit.noGoto]
    refine ⟨by simp, .inl ⟨_, _, rfl, run_takeDeferred HK.out, ?_⟩⟩
    exact ⟨_, by simp [results, Try.results46, go_sem], ⟨_, rfl, F2.out⟩⟩
end Go.Proofs.Yteagimnlhopjpaa.Hj
