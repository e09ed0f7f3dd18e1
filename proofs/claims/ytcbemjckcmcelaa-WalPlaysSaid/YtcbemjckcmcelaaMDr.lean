/- The document's disk in memory. Contracts of the document's disk: fails, Fail, Read, Write. Contracts of the document's disk: Write, Flush. -/
import Derived.Test.YtcbemjckcmcelaaMDc
import Derived.BigRegion
namespace Go.Proofs.Ytcbemjckcmcelaa.Dk
open Go.ChangeShapes Go.WideShapes Go.ChangeAt Go.RowKit Go.Joins
set_option maxRecDepth 100000
set_option linter.unusedVariables false
set_option linter.unusedSimpArgs false
def secV (S : List (List UInt8)) : List Value := S.map fun l => Value.string (mkB l)
def opnV (O : List (Nat × List UInt8)) : List Value := (O.map fun p => [Value.int .i64 (p.1 : Int), Value.string (mkB p.2)]).flatten
structure RkAt (B b : Nat) (vS vL : Value) (s : DS) (w : World) : Prop where
  ok : s.Ok
  hb : B ≤ b
  blk : w.heap[b]? = some (.cells #[vS, vL, .int .i64 (s.fail : Int), .int .i64 (s.reads : Int)] 49 (0, 0))
  rowS : w.ownsRow B 9 1 vS s.sec.length (secV s.sec)
  rowL : w.ownsRow B 92 2 vL s.opn.length (opnV s.opn)
def Rk (B b : Nat) (s : DS) (w : World) : Prop := ∃ vS vL, RkAt B b vS vL s w
theorem own_block {w : World} {B : Nat} {e : TypeId} {size n : Nat} {v : Value} {xs : List Value} (h : w.ownsRow B e size v n xs) {k : Nat} (hk : v.ownBlock = some k) : ∃ cur, w.heap[k]? = some (.cells cur e (0, 0)) := by
  rcases h.2 with ⟨rfl, _⟩ | ⟨g', cap, cur, rfl, _, hg, _⟩
  · simp [Value.ownBlock] at hk
  · simp [Value.ownBlock] at hk; subst hk; exact ⟨cur, hg⟩
theorem own_of_block {w w' : World} {B : Nat} {e : TypeId} {size n : Nat} {v : Value} {xs : List Value} (h : w.ownsRow B e size v n xs) (hk : ∀ k, v.ownBlock = some k → w'.heap[k]? = w.heap[k]?) : w'.ownsRow B e size v n xs := by
  refine ⟨h.1, ?_⟩
  rcases h.2 with hn | ⟨g, cap, cur, rfl, hB, hg, rest⟩
  · exact .inl hn
  · exact .inr ⟨g, cap, cur, rfl, hB, by rw [hk g rfl]; exact hg, rest⟩
theorem own_form {w : World} {B : Nat} {e : TypeId} {size n : Nat} {v : Value} {xs : List Value} (h : w.ownsRow B e size v n xs) : ∃ p cap, v = .slice p n cap ∧ n ≤ cap ∧ (0 < n → ∃ k, p = some ⟨k, 0, none⟩) := by
  rcases h.2 with ⟨rfl, h0⟩ | ⟨g', cap, cur, rfl, _, _, hc, _⟩
  · exact ⟨none, 0, by rw [h0], by omega, by omega⟩
  · exact ⟨_, cap, rfl, hc, fun _ => ⟨_, rfl⟩⟩
section
variable {B b : Nat} {vS vL : Value} {s : DS} {w w' : World}
theorem RkAt.lt (h : RkAt B b vS vL s w) : b < w.heap.size := lt_of_heap h.blk
theorem RkAt.le (h : RkAt B b vS vL s w) : B ≤ w.heap.size := by have := h.lt; have := h.hb; omega
theorem RkAt.c0 (h : RkAt B b vS vL s w) : w.cell? ⟨b, 0, none⟩ = some vS := by rw [Lib.cell_of_heap h.blk]; rfl
theorem RkAt.c1 (h : RkAt B b vS vL s w) : w.cell? ⟨b, 1, none⟩ = some vL := by rw [Lib.cell_of_heap h.blk]; rfl
theorem RkAt.c2 (h : RkAt B b vS vL s w) : w.cell? ⟨b, 2, none⟩ = some (.int .i64 (s.fail : Int)) := by rw [Lib.cell_of_heap h.blk]; rfl
theorem RkAt.c3 (h : RkAt B b vS vL s w) : w.cell? ⟨b, 3, none⟩ = some (.int .i64 (s.reads : Int)) := by rw [Lib.cell_of_heap h.blk]; rfl
theorem RkAt.fz (h : RkAt B b vS vL s w) (o : Nat) : w.frozen? ⟨b, o, none⟩ = false := Lib.frozen_of_heap h.blk o
theorem blk_ne {w : World} {k b : Nat} {c c' : Array Value} {T T' : TypeId} {f f' : Nat × Nat} (h : w.heap[k]? = some (.cells c T f)) (h' : w.heap[b]? = some (.cells c' T' f')) (hT : T ≠ T') : k ≠ b := by
  rintro rfl
  rw [h] at h'
  simp only [Option.some.injEq, Obj.cells.injEq] at h'
  exact hT h'.2.1
theorem RkAt.nS (h : RkAt B b vS vL s w) {k : Nat} (e : vS.ownBlock = some k) : k ≠ b := by
  obtain ⟨c, hc⟩ := own_block h.rowS e
  exact blk_ne hc h.blk (by decide)
theorem RkAt.nL (h : RkAt B b vS vL s w) {k : Nat} (e : vL.ownBlock = some k) : k ≠ b := by
  obtain ⟨c, hc⟩ := own_block h.rowL e
  exact blk_ne hc h.blk (by decide)
theorem RkAt.nSL (h : RkAt B b vS vL s w) {k j : Nat} (e : vS.ownBlock = some k) (e' : vL.ownBlock = some j) : k ≠ j := by
  obtain ⟨c, hc⟩ := own_block h.rowS e
  obtain ⟨c', hc'⟩ := own_block h.rowL e'
  exact blk_ne hc hc' (by decide)
theorem RkAt.owns (h : RkAt B b vS vL s w) {k : Nat} : Own w b k ↔ k = b ∨ vS.ownBlock = some k ∨ vL.ownBlock = some k := by
  unfold Own
  rw [h.c0, h.c1]
  rfl
theorem RkAt.ownLt (h : RkAt B b vS vL s w) {k : Nat} (e : Own w b k) : B ≤ k ∧ k < w.heap.size := by
  rcases h.owns.1 e with rfl | e | e
  · exact ⟨h.hb, h.lt⟩
  · exact h.rowS.lt k e
  · exact h.rowL.lt k e
theorem RkAt.of_blocks (h : RkAt B b vS vL s w) (e : ∀ k, Own w b k → w'.heap[k]? = w.heap[k]?) : RkAt B b vS vL s w' :=
  ⟨h.ok, h.hb, by rw [e b (.inl rfl)]; exact h.blk, own_of_block h.rowS (fun k hk => e k (h.owns.2 (.inr (.inl hk)))), own_of_block h.rowL (fun k hk => e k (h.owns.2 (.inr (.inr hk))))⟩
theorem RkAt.call (h : RkAt B b vS vL s w) (hb : Below w.heap.size w w') : RkAt B b vS vL s w' := h.of_blocks fun k hk => hb.block k (h.ownLt hk).2
theorem RkAt.drew (h : RkAt B b vS vL s w) : RkAt B b vS vL s w.drew := h.of_blocks fun _ _ => rfl
theorem RkAt.alloc (h : RkAt B b vS vL s w) (o : Obj) : RkAt B b vS vL s (w.alloc o) := h.call ((Below.refl _ _).alloc (Nat.le_refl _) _)
theorem Rk.call (h : Rk B b s w) (hb : Below w.heap.size w w') : Rk B b s w' := by obtain ⟨g, v, h⟩ := h; exact ⟨g, v, h.call hb⟩
theorem Rk.lt (h : Rk B b s w) : b < w.heap.size := by obtain ⟨g, v, h⟩ := h; exact h.lt
theorem Rk.le (h : Rk B b s w) : B ≤ w.heap.size := by obtain ⟨g, v, h⟩ := h; exact h.le
theorem Rk.ok (h : Rk B b s w) : s.Ok := by obtain ⟨g, v, h⟩ := h; exact h.ok
theorem Rk.ownLt (h : Rk B b s w) {k : Nat} (e : Own w b k) : B ≤ k ∧ k < w.heap.size := by obtain ⟨g, v, h⟩ := h; exact h.ownLt e
theorem Rk.moved {c : Nat} (h : Rk B b s w) (m : Moved c w w') (ha : ∀ k, Own w b k → ¬ Own w c k) : Rk B b s w' := by
  obtain ⟨g, v, h⟩ := h
  exact ⟨g, v, h.of_blocks fun k hk => m.block k (h.ownLt hk).2 (ha k hk)⟩
theorem Rk.below (h : Rk B b s w) (m : Moved b w w') : Below B w w' := m.below (fun k hk => (h.ownLt hk).1) h.le
theorem Rk.mono {A : Nat} (h : Rk B b s w) (hA : A ≤ B) : Rk A b s w := by
  obtain ⟨g, v, h⟩ := h
  have mono : ∀ {e size n v xs}, w.ownsRow B e size v n xs → w.ownsRow A e size v n xs := fun h => ⟨h.1, h.2.imp id (fun ⟨g, cap, cur, e, hB, rest⟩ => ⟨g, cap, cur, e, Nat.le_trans hA hB, rest⟩)⟩
  exact ⟨g, v, h.ok, Nat.le_trans hA h.hb, h.blk, mono h.rowS, mono h.rowL⟩
theorem grown_set (w : World) (b o : Nat) (v : Value) : w.grownBy (w.setCell ⟨b, o, none⟩ v) (some b) :=
  ⟨rfl, rfl, rfl, by simp [World.setCell], fun k _ hk => Below.heap_setCell _ _ _ _ (fun e => hk (by simp [e]))⟩
theorem RkAt.setFail (h : RkAt B b vS vL s w) {x : Int} {f : Nat} (e : x = (f : Int)) : RkAt B b vS vL ⟨s.sec, s.opn, f, s.reads⟩ (w.setCell ⟨b, 2, none⟩ (.int .i64 x)) := by
  subst e
  exact ⟨h.ok.with _ _, h.hb, by simp [World.setCell, Array.getElem?_modify, h.blk], h.rowS.kept (grown_set _ _ _ _) (.inr fun e => h.nS e rfl), h.rowL.kept (grown_set _ _ _ _) (.inr fun e => h.nL e rfl)⟩
theorem RkAt.setReads (h : RkAt B b vS vL s w) {x : Int} {f : Nat} (e : x = (f : Int)) : RkAt B b vS vL ⟨s.sec, s.opn, s.fail, f⟩ (w.setCell ⟨b, 3, none⟩ (.int .i64 x)) := by
  subst e
  exact ⟨h.ok.with _ _, h.hb, by simp [World.setCell, Array.getElem?_modify, h.blk], h.rowS.kept (grown_set _ _ _ _) (.inr fun e => h.nS e rfl), h.rowL.kept (grown_set _ _ _ _) (.inr fun e => h.nL e rfl)⟩
theorem rFail (h : RkAt B b vS vL s w) (x : Int) : Moved b w (w.setCell ⟨b, 2, none⟩ (.int .i64 x)) := (Moved.refl b w).set h.c2 (fun k hk _ => by simp [Value.ownBlock] at hk)
theorem rReads (h : RkAt B b vS vL s w) (x : Int) : Moved b w (w.setCell ⟨b, 3, none⟩ (.int .i64 x)) := (Moved.refl b w).set h.c3 (fun k hk _ => by simp [Value.ownBlock] at hk)
/-- no write is open -/
theorem RkAt.shut (h : RkAt B b vS vL s w) : RkAt B b vS (.slice none 0 0) ⟨s.sec, [], s.fail, s.reads⟩ (w.setCell ⟨b, 1, none⟩ (.slice none 0 0)) ∧ Moved b w (w.setCell ⟨b, 1, none⟩ (.slice none 0 0)) :=
  ⟨⟨⟨h.ok.len, h.ok.sec, fun p hp => by cases hp⟩, h.hb, by simp [World.setCell, Array.getElem?_modify, h.blk], h.rowS.kept (grown_set _ _ _ _) (.inr fun e => h.nS e rfl), World.ownsRow_nil _ _ _ _⟩, (Moved.refl b w).set h.c1 (fun k hk _ => by simp [Value.ownBlock] at hk)⟩
/-- a sector told anew -/
theorem RkAt.setSec {g cap : Nat} (h : RkAt B b (.slice (some ⟨g, 0, none⟩) s.sec.length cap) vL s w) (a : Nat) (x : List UInt8) (hx : x.length = 64) :
    RkAt B b (.slice (some ⟨g, 0, none⟩) s.sec.length cap) vL ⟨s.sec.set a x, s.opn, s.fail, s.reads⟩ (w.setCell ⟨g, a, none⟩ (.string (mkB x))) ∧ Moved b w (w.setCell ⟨g, a, none⟩ (.string (mkB x))) := by
  have hne : g ≠ b := h.nS rfl
  have hgL : vL.ownBlock ≠ some g := fun e => h.nSL (k := g) rfl e rfl
  have hg : Own w b g := h.owns.2 (.inr (.inl rfl))
  constructor
  · refine ⟨⟨by simpa using h.ok.len, fun y hy => ?_, fun p hp => by simpa using h.ok.opn p hp⟩, h.hb, ?_, ?_, h.rowL.kept (grown_set _ _ _ _) (.inr hgL)⟩
    · rcases List.mem_or_eq_of_mem_set hy with e | rfl
      · exact h.ok.sec y e
      · exact hx
    · rw [Below.heap_setCell _ _ _ _ (Ne.symm hne)]
      simp only [List.length_set]
      exact h.blk
    · have := (World.ownsRow.stored h.rowS a (.string (mkB x))).1
      simp only [List.length_set]
      unfold secV at *
      rw [List.map_set]
      exact this
  · exact ⟨rfl, rfl, rfl, by simp [World.setCell], fun k hk hn => Below.heap_setCell _ _ _ _ (fun e => hn (by have e' : k = g := e; rw [e']; exact hg)), fun k hk => .inl (hk.of_block (Below.heap_setCell _ _ _ _ (Ne.symm hne)))⟩
/-- a sector's text, an open write -/
theorem RkAt.secAt {g cap : Nat} (h : RkAt B b (.slice (some ⟨g, 0, none⟩) s.sec.length cap) vL s w) {i : Nat} (hi : i < s.sec.length) : w.cell? ⟨g, i, none⟩ = some (.string (mkB s.sec[i])) := by
  rw [World.ownsRow.cellAt h.rowS i (by omega)]
  simp [secV, hi]
theorem RkAt.opnAt {g cap : Nat} (h : RkAt B b vS (.slice (some ⟨g, 0, none⟩) s.opn.length cap) s w) {i : Nat} (hi : i < s.opn.length) : w.cell? ⟨g, i * 2, none⟩ = some (.int .i64 (s.opn[i].1 : Int)) ∧ w.cell? ⟨g, i * 2 + 1, none⟩ = some (.string (mkB s.opn[i].2)) := by
  have hm : ∀ x ∈ s.opn.map (fun p => [Value.int .i64 (p.1 : Int), Value.string (mkB p.2)]), x.length = 2 := by intro x hx; simp at hx; obtain ⟨a, c, -, rfl⟩ := hx; rfl
  have key : ∀ j, j < 2 → w.cell? ⟨g, i * 2 + j, none⟩ = [Value.int .i64 (s.opn[i].1 : Int), Value.string (mkB s.opn[i].2)][j]? := by
    intro j hj
    rw [World.ownsRow.cellAt h.rowL (i * 2 + j) (by omega)]
    unfold opnV
    rw [show i * 2 + j = 2 * i + j by omega, flat_get hm (by simpa using hi) hj]
    simp
  have k0 := key 0 (by omega)
  have k1 := key 1 (by omega)
  simp only [Nat.add_zero] at k0
  exact ⟨by rw [k0]; rfl, by rw [k1]; rfl⟩
end
end Go.Proofs.Ytcbemjckcmcelaa.Dk
namespace Go.Proofs.Ytcbemjckcmcelaa.Dk
open Go.ChangeShapes Go.WideShapes Go.ChangeAt Go.RowKit Go.Joins
set_option maxRecDepth 100000
set_option linter.unusedVariables false
set_option linter.unusedSimpArgs false
theorem fails_ok (B b : Nat) (s : DS) (w : World) (h : Rk B b s w) (hf : s.fail ≠ 1) (hb : s.fail < 9223372036854775808) :
    Calls Try.prog 48 #[ptr b] w fun e w' => e = .returned (.bool false) ∧ Rk B b ⟨s.sec, s.opn, s.fail - 1, s.reads⟩ w' ∧ Moved b w w' := by
  obtain ⟨g, v, h⟩ := h
  have c2 := h.c2
  have f2 := h.fz 2
  rcases Nat.eq_zero_or_pos s.fail with h0 | h0
  · have FIN : Hid (Rk B b ⟨s.sec, s.opn, s.fail - 1, s.reads⟩ w ∧ Moved b w w) := Lib.hid ⟨⟨g, v, by
      have e : DS.mk s.sec s.opn (s.fail - 1) s.reads = s := by rw [h0]; cases s; simp at h0; subst h0; rfl
      rw [e]; exact h⟩, Moved.refl _ _⟩
    rw [h0] at c2
    clear h h0 hf hb
    go_enter Try.func48, Try.ntmps48
    go_wp2
    go_ret
    exact ⟨rfl, FIN.out⟩
  · have FIN := Lib.hid (fun x (e : x = ((s.fail - 1 : Nat) : Int)) => And.intro (show Rk B b _ _ from ⟨g, v, h.setFail e⟩) (rFail h x))
    have t0 : ((s.fail : Int) == 0) = false := by simp; omega
    have t1 : ((s.fail : Int) - 1 == 0) = false := by simp; omega
    generalize hF : (s.fail : Int) = F at *
    have b1 : 2 ≤ F := by omega
    have b2 : F < 9223372036854775808 := by omega
    have E := Lib.hid (show F - 1 = ((s.fail - 1 : Nat) : Int) by omega)
    clear hF h hb h0
    go_enter Try.func48, Try.ntmps48
    go_wp2
    go_ret
    exact ⟨rfl, FIN.out _ E.out⟩
theorem fails_io (B b : Nat) (s : DS) (w : World) (h : Rk B b s w) (hf : s.fail = 1) :
    Calls Try.prog 48 #[ptr b] w fun e w' => e = .returned (.bool true) ∧ Rk B b ⟨s.sec, s.opn, 0, s.reads⟩ w' ∧ Moved b w w' := by
  obtain ⟨g, v, h⟩ := h
  have c2 := h.c2
  have f2 := h.fz 2
  have FIN := Lib.hid (And.intro (show Rk B b _ _ from ⟨g, v, h.setFail (x := 0) (f := 0) rfl⟩) (rFail h 0))
  rw [hf] at c2
  clear h hf
  go_enter Try.func48, Try.ntmps48
  go_wp2
  go_ret
  exact ⟨rfl, FIN.out⟩
theorem fail_rf (B b : Nat) (s : DS) (n : Int) (w : World) (h : Rk B b s w) (hn : n < 9223372036854775808) :
    Calls Try.prog 20 #[ptr b, .int .i64 n] w fun e w' => e = .returned (.tuple #[]) ∧ Rk B b (failR s n) w' ∧ Moved b w w' := by
  obtain ⟨g, v, h⟩ := h
  have c2 := h.c2
  have f2 := h.fz 2
  have FIN := Lib.hid (fun x (e : x = ((n.toNat : Nat) : Int)) => And.intro (show Rk B b (failR s n) _ from ⟨g, v, h.setFail e⟩) (rFail h x))
  clear h
  by_cases h0 : n < 0
  · have E := Lib.hid (show (0 : Int) = ((n.toNat : Nat) : Int) by omega)
    go_enter Try.func20, Try.ntmps20
    go_wp2
    go_end0
    exact ⟨rfl, FIN.out _ E.out⟩
  · have E := Lib.hid (show n = ((n.toNat : Nat) : Int) by omega)
    have h1 : 0 ≤ n := by omega
    clear h0
    go_enter Try.func20, Try.ntmps20
    go_wp2
    go_end0
    exact ⟨rfl, FIN.out _ E.out⟩
def RdRel (s : DS) (a : Nat) (W : World) (g : Nat) (s7 : Value) (wx : World) : Prop := g ≤ s.opn.length ∧ s7 = .int .i64 ((g : Int) - 1) ∧ lastOf (s.opn.drop g) a = none ∧ wx = W
set_option maxRecDepth 100000 in
set_option maxHeartbeats 1000000 in
theorem read_yes (B b : Nat) (s : DS) (a : Nat) (w : World) (h : Rk B b s w) (ha : a < s.sec.length) (hio : s.fail ≠ 1) (hr : s.reads ≤ 1000000000) (hn : s.opn.length ≤ 1000000) (hf : s.fail < 9223372036854775808) :
    Calls Try.prog 35 #[ptr b, .int .i64 (a : Int)] w fun e w' => e = .returned (.tuple #[.string (mkB (newestOf s a)), .int .i64 0]) ∧ Rk B b ⟨s.sec, s.opn, s.fail - 1, s.reads + 1⟩ w' ∧ Moved b w w' := by
  obtain ⟨vS, vL, h⟩ := h
  have hl := h.ok.len
  have c0 := h.c0
  have c3 := h.c3
  have f3 := h.fz 3
  obtain ⟨pS, capS, hvS, -, hpS⟩ := own_form h.rowS
  obtain ⟨gS, rfl⟩ := hpS (by omega)
  have hk := h.setReads (x := (s.reads : Int) + 1) (f := s.reads + 1) (by omega)
  have mk := Lib.hid (rReads h ((s.reads : Int) + 1))
  have OP := Lib.hid (fails_ok B b _ _ ⟨vS, vL, hk⟩ hio hf)
  rw [hvS] at c0
  clear h hk hio
  generalize hRR : (s.reads : Int) = R at *
  have hR : R ≤ 1000000000 := by omega
  have hR0 : 0 ≤ R := by omega
  clear hRR
  have ha1 : (a : Int) < (s.sec.length : Int) := by omega
  go_enter Try.func35, Try.ntmps35
  go_wp2_with fail
  (with_reducible refine OP.out.mono ?_)
  rintro e w2 ⟨rfl, ⟨vS, vL, k2⟩, m2⟩
  have FIN := Lib.hid (And.intro (show Rk B b ⟨s.sec, s.opn, s.fail - 1, s.reads + 1⟩ w2 from ⟨vS, vL, k2⟩) (mk.out.trans m2))
  have z0 := k2.c0
  have z1 := k2.c1
  obtain ⟨pS, cS, rfl, -, hpS⟩ := own_form k2.rowS
  obtain ⟨gS, rfl⟩ := hpS (by show 0 < s.sec.length; omega)
  obtain ⟨pL, cL, rfl, -, hpL⟩ := own_form k2.rowL
  have HPL := Lib.hid hpL
  have K2 := Lib.hid k2
  have SA := Lib.hid (k2.secAt (i := a) ha)
  clear m2 mk OP c3 f3 c0 hvS k2 hpL
  simp only at z0 z1 HPL SA
  go_wp2_with fail
  go_loopg [7] (s.opn.length) (RdRel s a w2)
  case atStart => exact ⟨Nat.le_refl _, rfl, by simp [lastOf], rfl⟩
  case round =>
    obtain ⟨hg, rfl, hno, rfl⟩ := hrel
    rcases Nat.eq_zero_or_pos gk with rfl | hpos
    · have E : Hid (newestOf s a = s.sec[a]) := Lib.hid (by
        unfold newestOf
        rw [List.drop_zero] at hno
        rw [hno]; simp [ha])
      have sc := SA.out
      generalize s.sec[a] = X at *
      clear hno SA
      go_wp2
      go_ret2
      exact ⟨by rw [E.out]; rfl, FIN.out⟩
    · obtain ⟨i, rfl⟩ : ∃ i, gk = i + 1 := ⟨gk - 1, by omega⟩
      have hi : i < s.opn.length := by omega
      obtain ⟨k, rfl⟩ := HPL.out (by omega)
      obtain ⟨R0, R1⟩ := RkAt.opnAt (s := ⟨s.sec, s.opn, s.fail - 1, s.reads + 1⟩) K2.out (i := i) hi
      simp only at R0 R1
      have x1 : ((i + 1 : Nat) : Int) - 1 = (i : Int) := by omega
      rw [x1]
      by_cases he : s.opn[i].1 = a
      · have E : Hid (newestOf s a = s.opn[i].2) := Lib.hid (by unfold newestOf; rw [lastOf_at hi hno he]; rfl)
        have t : ((s.opn[i].1 : Int) == (a : Int)) = true := by simp [he]
        generalize s.opn[i].1 = q at *
        generalize s.opn[i].2 = bs at *
        clear hno he x1
        go_wp2
        go_ret2
        exact ⟨by rw [E.out]; rfl, FIN.out⟩
      · have N1 := Lib.hid (lastOf_not hi hno he)
        have t : ((s.opn[i].1 : Int) == (a : Int)) = false := by simp; omega
        generalize s.opn[i].1 = q at *
        clear hno he x1
        go_wp2
        go_roundg i
        case measure => omega
        case rel => exact ⟨by omega, rfl, N1.out, rfl⟩
theorem read_rf (B b : Nat) (s : DS) (a : Int) (w : World) (h : Rk B b s w) (hr : s.reads ≤ 1000000000) (hn : s.opn.length ≤ 1000000) (hf : s.fail < 9223372036854775808) :
    Calls Try.prog 35 #[ptr b, .int .i64 a] w fun e w' => e = .returned (.tuple #[.string (mkB (readR s a).2.1), .int .i64 ((readR s a).2.2 : Int)]) ∧ Rk B b (readR s a).1 w' ∧ Moved b w w' := by
  by_cases hv : 0 ≤ a ∧ a < s.sec.length
  · obtain ⟨h0, h1⟩ := hv
    by_cases hio : s.fail = 1
    · rw [io_read s h0 h1 hio]
      obtain ⟨vS, vL, h⟩ := h
      have c0 := h.c0
      have c3 := h.c3
      have f3 := h.fz 3
      obtain ⟨pS, capS, rfl, -, hpS⟩ := own_form h.rowS
      have hk := h.setReads (x := (s.reads : Int) + 1) (f := s.reads + 1) (by omega)
      have mk := Lib.hid (rReads h ((s.reads : Int) + 1))
      have OP := Lib.hid (fails_io B b _ _ ⟨_, vL, hk⟩ hio)
      clear h hk hio hpS hf
      generalize hRR : (s.reads : Int) = R at *
      have hR : R ≤ 1000000000 := by omega
      have hR0 : 0 ≤ R := by omega
      clear hRR
      go_enter Try.func35, Try.ntmps35
      go_wp2_with fail
      (with_reducible refine OP.out.mono ?_)
      rintro e w2 ⟨rfl, k2, m2⟩
      have FIN := Lib.hid (And.intro k2 (mk.out.trans m2))
      clear k2 m2 mk OP c3 f3 c0
      go_wp2
      go_ret2
      exact ⟨rfl, FIN.out⟩
    · rw [newest_read s h0 h1 hio]
      have := read_yes B b s a.toNat w h (by omega) hio hr hn hf
      rw [show ((a.toNat : Nat) : Int) = a by omega] at this
      exact this
  · rw [arg_read s hv]
    have FIN := Lib.hid (And.intro h (Moved.refl b w))
    obtain ⟨vS, vL, h⟩ := h
    have c0 := h.c0
    obtain ⟨pS, capS, rfl, -, hpS⟩ := own_form h.rowS
    clear h hpS
    by_cases h0 : a < 0
    · clear hv
      go_enter Try.func35, Try.ntmps35
      go_wp2
      go_ret2
      exact ⟨rfl, FIN.out⟩
    · have h1 : 0 ≤ a := by omega
      have h2 : (s.sec.length : Int) ≤ a := by omega
      clear hv h0
      go_enter Try.func35, Try.ntmps35
      go_wp2
      go_ret2
      exact ⟨rfl, FIN.out⟩
end Go.Proofs.Ytcbemjckcmcelaa.Dk
namespace Go.Proofs.Ytcbemjckcmcelaa.Dk
open Go.ChangeShapes Go.WideShapes Go.ChangeAt Go.RowKit Go.Joins
set_option maxRecDepth 100000
set_option linter.unusedVariables false
set_option linter.unusedSimpArgs false
theorem infoP : (Try.prog.info? 92).map (fun i => (i.zero, i.size, i.bytes)) = some (some (.agg #[.int .i64 0, .string ⟨#[]⟩]), 2, 24) := by kernel_rfl
theorem RkAt.wrote {B b : Nat} {vS vL : Value} {s : DS} {w w1 w2 : World} {k cap : Nat} {p : Nat × List UInt8} (h : RkAt B b vS vL s w) (h1 : RkAt B b vS vL s w1) (m1 : Moved b w w1) (hp : p.1 < s.sec.length ∧ p.2.length = 64)
    (hown : w2.ownsRow B 92 2 (.slice (some ⟨k, 0, none⟩) (s.opn.length + 1) cap) (s.opn.length + 1) (opnV s.opn ++ [.int .i64 (p.1 : Int), .string (mkB p.2)])) (hg : w1.grownBy w2 vL.ownBlock) (hn : vL.ownBlock = some k ∨ w.heap.size ≤ k) :
    RkAt B b vS (.slice (some ⟨k, 0, none⟩) (s.opn.length + 1) cap) ⟨s.sec, s.opn ++ [p], s.fail, s.reads⟩ (w2.setCell ⟨b, 1, none⟩ (.slice (some ⟨k, 0, none⟩) (s.opn.length + 1) cap)) ∧ Moved b w (w2.setCell ⟨b, 1, none⟩ (.slice (some ⟨k, 0, none⟩) (s.opn.length + 1) cap)) := by
  have nb : vL.ownBlock ≠ some b := fun e => h1.nL e rfl
  have eb : w2.heap[b]? = w1.heap[b]? := hg.block b h1.lt (fun e => nb e.symm)
  have b2 := eb.trans h1.blk
  have rS : w2.ownsRow B 9 1 vS s.sec.length (secV s.sec) := own_of_block h1.rowS (fun j hj => hg.block j (h1.rowS.lt j hj).2 (fun e => h1.nSL hj e.symm rfl))
  have kb : k ≠ b := by
    obtain ⟨cur, hcur⟩ := own_block hown (k := k) rfl
    exact blk_ne hcur b2 (by decide)
  constructor
  · refine ⟨⟨h1.ok.len, h1.ok.sec, fun q hq => ?_⟩, h.hb, by simp [World.setCell, Array.getElem?_modify, b2], rS.kept (grown_set _ _ _ _) (.inr fun e => h1.nS e rfl), ?_⟩
    · simp only [List.mem_append, List.mem_singleton] at hq
      rcases hq with hq | rfl
      · exact h1.ok.opn q hq
      · exact hp
    · have := hown.kept (grown_set w2 b 1 (.slice (some ⟨k, 0, none⟩) (s.opn.length + 1) cap)) (.inr (by simp [Value.ownBlock]; exact kb))
      show World.ownsRow _ _ _ _ _ (s.opn ++ [p]).length (opnV (s.opn ++ [p]))
      unfold opnV at *
      rw [List.map_append, List.flatten_append, List.length_append]
      simpa using this
  · have m2 := m1.grown hg h1.lt nb (fun k hk => h1.owns.2 (.inr (.inr hk)))
    refine m2.set (x := vL) (by rw [Lib.cell_of_heap b2]; rfl) (fun k' hk' _ => ?_)
    simp [Value.ownBlock] at hk'
    subst hk'
    rcases hn with e | e
    · exact .inl (h.owns.2 (.inr (.inr e)))
    · exact .inr e
set_option maxRecDepth 100000 in
set_option maxHeartbeats 1000000 in
theorem write_yes (B b : Nat) (s : DS) (a : Nat) (t : ByteArray) (w : World) (h : Rk B b s w) (ha : a < s.sec.length) (ht : t.size = 64) (hio : s.fail ≠ 1) (hn : s.opn.length ≤ 900000) (hf : s.fail < 9223372036854775808) :
    Calls Try.prog 43 #[ptr b, .int .i64 (a : Int), .string t] w fun e w' => e = .returned (.int .i64 0) ∧ Rk B b ⟨s.sec, s.opn ++ [(a, t.data.toList)], s.fail - 1, s.reads⟩ w' ∧ Moved b w w' := by
  have OP := Lib.hid (fails_ok B b s w h hio hf)
  have tl : t.data.toList.length = 64 := by rw [← size_list]; exact ht
  obtain ⟨vS, vL, h⟩ := h
  have hl := h.ok.len
  have c0 := h.c0
  obtain ⟨pS, capS, rfl, -, hpS⟩ := own_form h.rowS
  clear h hpS
  have ha1 : (a : Int) < (s.sec.length : Int) := by omega
  go_enter Try.func43, Try.ntmps43
  go_wp2_with fail
  (with_reducible refine OP.out.mono ?_)
  rintro e w2 ⟨rfl, ⟨vS, vL, k2⟩, m2⟩
  clear OP c0
  have z1 := k2.c1
  have k3 := k2.alloc (.cells #[.int .i64 (a : Int), .string t] 92)
  obtain ⟨q, cap, w4, hap, hown, hgrow, hnew⟩ := append_one (P := Try.prog) (w2.alloc (.cells #[.int .i64 (a : Int), .string t] 92)) B 47 47 92 _ 2 24 Try.underlying47 infoP rfl (by omega) (by omega) vL s.opn.length (opnV s.opn) k3.rowL ⟨w2.heap.size, 0, none⟩ [.int .i64 (a : Int), .string t] rfl (fun j u hj => by
    rw [addr_add, Nat.zero_add, Lib.cell_of_heap (heap_alloc_new _ _)]; simpa using hj) (fun u hu => by simp at hu; rcases hu with rfl | rfl <;> rfl) (by omega) k3.le
  have nb : vL.ownBlock ≠ some b := fun e => k3.nL e rfl
  have b4 := (hgrow.block b k3.lt (fun e => nb e.symm)).trans k3.blk
  have FN := k2.wrote k3 ((Moved.refl b w2).alloc k2.lt _) (p := (a, t.data.toList)) ⟨ha, tl⟩ (by rw [mkB_of]; exact hown) hgrow (hnew.imp id (fun e => by simp at e; exact Nat.le_of_succ_le e))
  have FIN := Lib.hid (And.intro (show Rk B b _ _ from ⟨_, _, FN.1⟩) (m2.trans FN.2))
  have d1 : w4.cell? ⟨b, 1, none⟩ = some vL := by rw [Lib.cell_of_heap b4]; rfl
  have f1 : w4.frozen? ⟨b, 1, none⟩ = false := Lib.frozen_of_heap b4 1
  clear FN hown hgrow hnew nb b4 k3 k2 m2 tl
  go_wp2_with (at_builtin; refine Lib.wpList_append_run _ rfl _ _ _ _ rfl _ _ rfl rfl _ _ hap ?_)
  go_ret
  exact ⟨rfl, FIN.out⟩
theorem write_rf (B b : Nat) (s : DS) (a : Int) (t : ByteArray) (w : World) (h : Rk B b s w) (hn : s.opn.length ≤ 900000) (hf : s.fail < 9223372036854775808) :
    Calls Try.prog 43 #[ptr b, .int .i64 a, .string t] w fun e w' => e = .returned (.int .i64 ((writeR s a t.data.toList).2 : Int)) ∧ Rk B b (writeR s a t.data.toList).1 w' ∧ Moved b w w' := by
  unfold writeR
  by_cases hv : (0 ≤ a ∧ a < s.sec.length) ∧ t.size = 64
  · rw [if_pos (by rw [← size_list]; exact hv)]
    obtain ⟨⟨h0, h1⟩, ht⟩ := hv
    by_cases hio : s.fail = 1
    · rw [if_pos hio]
      have OP := Lib.hid (fails_io B b s w h hio)
      obtain ⟨vS, vL, h⟩ := h
      have c0 := h.c0
      obtain ⟨pS, capS, rfl, -, hpS⟩ := own_form h.rowS
      clear h hpS hio hf
      go_enter Try.func43, Try.ntmps43
      go_wp2_with fail
      (with_reducible refine OP.out.mono ?_)
      rintro e w2 ⟨rfl, hk⟩
      have FIN := Lib.hid hk
      clear hk OP c0
      go_wp2
      go_ret
      exact ⟨rfl, FIN.out⟩
    · rw [if_neg hio]
      have := write_yes B b s a.toNat t w h (by omega) ht hio hn hf
      rw [show ((a.toNat : Nat) : Int) = a by omega] at this
      exact this
  · rw [if_neg (by rw [← size_list]; exact hv)]
    have FIN := Lib.hid (And.intro h (Moved.refl b w))
    obtain ⟨vS, vL, h⟩ := h
    have c0 := h.c0
    obtain ⟨pS, capS, rfl, -, hpS⟩ := own_form h.rowS
    clear h hpS hf
    by_cases h0 : a < 0
    · clear hv
      go_enter Try.func43, Try.ntmps43
      go_wp2
      go_ret
      exact ⟨rfl, FIN.out⟩
    · have h1 : 0 ≤ a := by omega
      by_cases h2 : (s.sec.length : Int) ≤ a
      · clear hv h0
        go_enter Try.func43, Try.ntmps43
        go_wp2
        go_ret
        exact ⟨rfl, FIN.out⟩
      · have h3 : a < (s.sec.length : Int) := by omega
        have t1 : ((t.size : Int) == 64) = false := by simp; omega
        have t2 : ((t.size : Int) != 64) = true := by simp; omega
        clear hv h0 h2
        go_enter Try.func43, Try.ntmps43
        go_wp2
        go_ret
        exact ⟨rfl, FIN.out⟩
theorem put64 {S : List (List UInt8)} {a : Nat} {bs : List UInt8} (hS : ∀ x ∈ S, x.length = 64) (ha : a < S.length) (hb : bs.length = 64) : putS S a bs 64 = S.set a bs := by
  unfold putS
  have : S[a]?.getD [] = S[a] := by simp [ha]
  rw [this, List.take_of_length_le (by omega), List.drop_eq_nil_of_le (by rw [hS _ (List.getElem_mem ha)]; omega), List.append_nil]
def RfRel (B b : Nat) (vS vL : Value) (s : DS) (w : World) (m : Nat) (s4 : Value) (wx : World) : Prop :=
  ∃ i : Nat, i + m = s.opn.length ∧ s4 = .int .i64 (i : Int) ∧ RkAt B b vS vL ⟨laid s.sec s.opn (fun _ => 64) i, s.opn, s.fail, s.reads⟩ wx ∧ Moved b w wx
set_option maxRecDepth 100000 in
set_option maxHeartbeats 4000000 in
theorem flush_yes (B b : Nat) (s : DS) (w : World) (h : Rk B b s w) (hio : s.fail ≠ 1) (hn : s.opn.length ≤ 1000000) (hf : s.fail < 9223372036854775808) :
    Calls Try.prog 44 #[ptr b] w fun e w' => e = .returned (.int .i64 0) ∧ Rk B b ⟨flushedS s, [], s.fail - 1, s.reads⟩ w' ∧ Moved b w w' := by
  have OP := Lib.hid (fails_ok B b s w h hio hf)
  have hl := h.ok.len
  clear h
  go_enter Try.func44, Try.ntmps44
  go_wp2_with fail
  (with_reducible refine OP.out.mono ?_)
  rintro e w1 ⟨rfl, ⟨vS, vL, k1⟩, m1⟩
  clear OP
  have EX2 : Hid (∀ w' u v, RkAt B b u v ⟨flushedS ⟨s.sec, s.opn, s.fail - 1, s.reads⟩, [], (DS.mk s.sec s.opn (s.fail - 1) s.reads).fail, (DS.mk s.sec s.opn (s.fail - 1) s.reads).reads⟩ w' → Rk B b ⟨flushedS s, [], s.fail - 1, s.reads⟩ w') := Lib.hid (fun w' u v h => ⟨u, v, h⟩)
  obtain ⟨s2, hs2⟩ : ∃ s2 : DS, s2 = ⟨s.sec, s.opn, s.fail - 1, s.reads⟩ := ⟨_, rfl⟩
  rw [← hs2] at k1 EX2
  have hn2 : s2.opn.length ≤ 1000000 := by rw [hs2]; exact hn
  have hl2 : s2.sec.length ≤ 1024 := by rw [hs2]; exact hl
  clear hs2
  have OK := Lib.hid k1.ok
  obtain ⟨pS, capS, rfl, -, hpS⟩ := own_form k1.rowS
  obtain ⟨pL, capL, rfl, -, hpL⟩ := own_form k1.rowL
  have HS := Lib.hid hpS
  have HP := Lib.hid hpL
  have K1 := Lib.hid (And.intro k1 m1)
  clear k1 m1 hpS hpL
  generalize hL : s2.opn.length = L at *
  have HL := Lib.hid hL
  clear hL
  generalize hN : s2.sec.length = N at *
  have HN := Lib.hid hN
  clear hN
  go_wp2_with fail
  go_loopg [4] L (RfRel B b (.slice pS N capS) (.slice pL L capL) s2 w)
  case atStart => exact ⟨0, by rw [HL.out]; omega, rfl, K1.out.1, K1.out.2⟩
  case round =>
    clear K1
    obtain ⟨i, hi, rfl, hk, hm⟩ := hrel
    have hl3 := HL.out
    have c0 := hk.c0
    have c1 := hk.c1
    rcases Nat.lt_or_ge i L with hlt | hge
    · have hlt' : i < s2.opn.length := by omega
      obtain ⟨k, rfl⟩ := HP.out (by omega)
      have hp := OK.out.opn _ (List.getElem_mem hlt')
      obtain ⟨g, rfl⟩ := HS.out (by have := HN.out; omega)
      obtain ⟨q0, q1⟩ := RkAt.opnAt (s := ⟨laid s2.sec s2.opn (fun _ => 64) i, s2.opn, s2.fail, s2.reads⟩) (g := k) (cap := capL) (by show RkAt B b _ (.slice _ s2.opn.length _) _ _; rw [hl3]; exact hk) (i := i) hlt'
      simp only at q0 q1
      have hln : (laid s2.sec s2.opn (fun _ => 64) i).length = N := by rw [laid_length]; exact HN.out
      have hk' : RkAt B b (.slice (some ⟨g, 0, none⟩) (DS.mk (laid s2.sec s2.opn (fun _ => 64) i) s2.opn s2.fail s2.reads).sec.length capS) (.slice (some ⟨k, 0, none⟩) L capL) ⟨laid s2.sec s2.opn (fun _ => 64) i, s2.opn, s2.fail, s2.reads⟩ wr.drew := by
        show RkAt B b (.slice _ (laid s2.sec s2.opn (fun _ => 64) i).length _) _ _ _
        rw [hln]; exact hk.drew
      have st := hk'.setSec s2.opn[i].1 s2.opn[i].2 hp.2
      have ha : s2.opn[i].1 < N := by have := HN.out; omega
      have NX : Hid (RkAt B b (.slice (some ⟨g, 0, none⟩) N capS) (.slice (some ⟨k, 0, none⟩) L capL) ⟨laid s2.sec s2.opn (fun _ => 64) (i + 1), s2.opn, s2.fail, s2.reads⟩ (wr.drew.setCell ⟨g, s2.opn[i].1, none⟩ (.string (mkB s2.opn[i].2))) ∧ Moved b w (wr.drew.setCell ⟨g, s2.opn[i].1, none⟩ (.string (mkB s2.opn[i].2)))) := Lib.hid (by
        refine ⟨?_, hm.drew.trans st.2⟩
        rw [laid_succ hlt', put64 (laid_sec OK.out.sec OK.out.opn (fun _ => Nat.le_refl _) i) (by rw [laid_length]; exact hp.1) hp.2]
        have e := st.1
        have e2 : (DS.mk (laid s2.sec s2.opn (fun _ => 64) i) s2.opn s2.fail s2.reads).sec.length = N := hln
        rw [e2] at e
        exact e)
      have cs := RkAt.secAt hk' (i := s2.opn[i].1) (by show _ < (laid _ _ _ _).length; rw [hln]; exact ha)
      have fs := World.ownsRow.frozenAt hk'.rowS s2.opn[i].1
      rw [World.cell?_drew] at cs
      rw [World.frozen?_drew] at fs
      simp only at cs fs
      generalize (laid s2.sec s2.opn (fun _ => 64) i)[s2.opn[i].1]'(by rw [hln]; exact ha) = old at *
      generalize s2.opn[i].1 = a at *
      generalize s2.opn[i].2 = bs at *
      have ha1 : (a : Int) < (N : Int) := by omega
      have HI := Lib.hid hi
      have hg0 : 0 < gk := by omega
      have il : (i : Int) < (L : Int) := by omega
      clear hk hm hl3 hlt' hp hln hk' st hi
      go_wp2_with fail
      go_still_tail 21, (by kernel_rfl)
      change wpList _ _ _ _ _ wr.drew
      go_wp2
      go_roundg (gk - 1)
      case measure => omega
      case rel => exact ⟨i + 1, by have := HI.out; omega, by go_num, NX.out⟩
    · obtain rfl : i = L := by omega
      have f1 := hk.fz 1
      have FIN := Lib.hid (And.intro (EX2.out _ _ _ (by have := hk.shut.1; rw [← hl3] at this; exact this)) (hm.trans hk.shut.2))
      have il : (i : Int) ≤ (i : Int) := by omega
      clear hk hm hl3 EX2
      go_wp2
      go_ret
      exact ⟨rfl, FIN.out⟩
theorem flush_rf (B b : Nat) (s : DS) (w : World) (h : Rk B b s w) (hn : s.opn.length ≤ 1000000) (hf : s.fail < 9223372036854775808) :
    Calls Try.prog 44 #[ptr b] w fun e w' => e = .returned (.int .i64 ((flushR s).2 : Int)) ∧ Rk B b (flushR s).1 w' ∧ Moved b w w' := by
  unfold flushR
  by_cases hio : s.fail = 1
  · rw [if_pos hio]
    have OP := Lib.hid (fails_io B b s w h hio)
    clear h hio hf
    go_enter Try.func44, Try.ntmps44
    go_wp2_with fail
    (with_reducible refine OP.out.mono ?_)
    rintro e w1 ⟨rfl, hk⟩
    have FIN := Lib.hid hk
    clear OP hk
    go_wp2
    go_ret
    exact ⟨rfl, FIN.out⟩
  · rw [if_neg hio]; exact flush_yes B b s w h hio hn hf
end Go.Proofs.Ytcbemjckcmcelaa.Dk
