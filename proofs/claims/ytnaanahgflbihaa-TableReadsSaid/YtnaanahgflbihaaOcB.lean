/- The builder's methods, of a builder within a writer. -/
import Derived.Test.YtnaanahgflbihaaOcF
namespace Go.Proofs.Ytnaanahgflbihaa.Oc
open Go.ChangeShapes Go.WideShapes Go.ChangeAt Go.RowKit Go.Joins
set_option maxRecDepth 100000
set_option linter.unusedVariables false
set_option linter.unusedSimpArgs false
abbrev self (b : Nat) : Value := .pointer (some ⟨b, 0, none⟩)
theorem szB : (Try.prog.info? 87).map (·.size) = some 2 := by kernel_rfl
theorem liesB : liesAt Try.prog Try.prog.depth 89 (3 / Try.prog.cellsOf 89) 0 87 1 = true := by kernel_rfl
theorem infoByte : (Try.prog.info? 5).map (fun i => (i.zero, i.size, i.bytes)) = some (some (.int .u8 0), 1, 1) := by kernel_rfl
theorem cellsByte : Try.prog.cellsOf 5 = 1 := by kernel_rfl
set_option maxHeartbeats 1000000 in
set_option maxRecDepth 100000 in
theorem copy_used (b : Nat) (w : World) (h0 : w.cell? ⟨b, 0, none⟩ = some (self b)) :
    Calls Try.prog 92 #[self b] w fun e w' => e = .returned (.tuple #[]) ∧ w' = w := by
  obtain ⟨j, hj, _⟩ := Option.map_eq_some_iff.1 szB
  go_enter Try.func92, Try.ntmps92
  go_wp2
  rw [Lib.run_neq_ptr_same w _ Try.underlying85 hj]
  go_wp2
  go_end0
  exact ⟨rfl, rfl⟩
set_option maxHeartbeats 1000000 in
set_option maxRecDepth 100000 in
theorem copy_fresh (b : Nat) (w : World) (h0 : w.cell? ⟨b, 0, none⟩ = some (.pointer none)) (hsh : w.shape? b = some (89, 3)) (hfz : w.frozen? ⟨b, 0, none⟩ = false) :
    Calls Try.prog 92 #[self b] w fun e w' => e = .returned (.tuple #[]) ∧ w' = w.setCell ⟨b, 0, none⟩ (self b) := by
  obtain ⟨j, hj, hjs⟩ := Option.map_eq_some_iff.1 szB
  go_enter Try.func92, Try.ntmps92
  go_wp2
  rw [Lib.run_to_unsafe w ⟨b, 0, none⟩ Try.underlying85 Try.underlying135 hj (by rw [hjs]; decide) hsh (Nat.zero_lt_succ 2)]
  simp only [Result.andThen]
  rw [Oper.upon_value]
  go_wp2
  rw [run_callFunc_extern Try.func93 (by kernel_rfl) (by kernel_rfl) (by kernel_rfl) (e := Extern.AbiNoEscape.same) (by kernel_rfl)]
  rw [Lib.run_noEscape]
  simp only [Result.andThen]
  rw [Oper.upon_value]
  go_wp2
  rw [Lib.run_from_unsafe w ⟨b, 0, none⟩ Try.underlying135 Try.underlying85 hj hsh liesB]
  simp only [Result.andThen]
  rw [Oper.upon_value]
  go_wp2
  go_end0
  exact ⟨rfl, rfl⟩
def Own (b : Nat) (p : Value) : Prop := p = .pointer none ∨ p = self b
theorem own_nil (b : Nat) : Own b (.pointer none) := Or.inl rfl
theorem own_self (b : Nat) : Own b (self b) := Or.inr rfl
theorem copy_any (B b : Nat) (p h : Value) (l : List UInt8) (w : World) (k : BAt B b p h l w) (hp : Own b p) :
    Calls Try.prog 92 #[self b] w fun e w' => e = .returned (.tuple #[]) ∧ BAt B b (self b) h l w' ∧ Moved b w w' := by
  have k' := k
  obtain ⟨hB, v, hb, hown, hn⟩ := k'
  rcases hp with rfl | rfl
  · refine (copy_fresh b w (by rw [Lib.cell_of_heap hb]; rfl) (by simp [World.shape?, hb]) (by simp [World.frozen?, hb])).mono ?_
    rintro e w' ⟨rfl, rfl⟩
    exact ⟨rfl, k.used _, Moved.set hb 0 _ (by omega)⟩
  · refine (copy_used b w (by rw [Lib.cell_of_heap hb]; rfl)).mono ?_
    rintro e w' ⟨rfl, rfl⟩
    exact ⟨rfl, k, Moved.refl _ _⟩
theorem byteCells_snoc (l : List UInt8) (c : UInt8) : Lib.byteCells (l ++ [c]) = Lib.byteCells l ++ [.int .u8 c.toNat] := by simp [Lib.byteCells]
theorem Moved.grown {b : Nat} {p v h : Value} {w w' : World} {T : TypeId} {fz : Nat × Nat} (hb : w.heap[b]? = some (.cells #[p, v, h] T fz)) (hne : v.ownBlock ≠ some b) (hg : w.grownBy w' v.ownBlock) : Moved b w w' := by
  refine ⟨hg.os, hg.tape, hg.output, hg.size, fun k hk hkb hkn => hg.block k hk (fun e => hkn (by rw [bufOf_eq hb]; exact e.symm)), fun k hk => ?_⟩
  left
  have hb' : w'.heap[b]? = some (.cells #[p, v, h] T fz) := by rw [hg.block b (lt_of_heap hb) (fun e => hne e.symm)]; exact hb
  rwa [bufOf_eq hb', ← bufOf_eq hb] at hk
theorem Moved.alloc {b : Nat} {w : World} (hb : b < w.heap.size) (o : Obj) : Moved b w (w.alloc o) := by
  refine ⟨rfl, rfl, rfl, by simp, fun k hk _ _ => Below.heap_alloc _ _ _ hk, fun k hk => .inl ?_⟩
  unfold bufOf at hk ⊢
  rwa [World.cell?_of_block (Below.heap_alloc w o b hb)] at hk
theorem wp_append {ops : Array Oper} {rest : List Oper} {o : Oper} {a : Act} {Q : Exit → Act → World → Prop} {w w' : World} {v y v' : Value} (hgd : o.guard = none) (s x : Operand) (t u ty : TypeId)
    (ho : o.op = .call { callee := .builtin .append, args := #[s, x], argTypes := #[t, u] }) (hty : o.type = ty) (hs : a.eval s = v) (hx : a.eval x = y)
    (hr : (Builtin.append_ #[t, u] ty #[v, y]).run Try.prog w = .ok v' w') (h : wpList Try.prog ops Q rest (a.put o.dst v') w') : wpList Try.prog ops Q (o :: rest) a w := by
  subst hty
  refine wpList_plain hgd fun K hK => ?_
  unfold Oper.wp execOp
  simp only [ho, resolve, invoke, builtin, Sem.run_bind, Sem.run_pure, Result.andThen_ok, List.map_toArray, List.map_cons, List.map_nil, hs, hx, hr]
  exact hK _ _ h
/-- a byte more: the row is the one that it was, or a new one -/
theorem append_byte (w : World) (B : Nat) (v : Value) (l : List UInt8) (a : Addr) (c : UInt8) (hown : w.ownsRowF B 5 1 v l.length (Lib.byteCells l)) (ha : w.cell? a = some (.int .u8 c.toNat)) (hlen : l.length ≤ 1000000) (hB : B ≤ w.heap.size) :
    ∃ g cap w', (Builtin.append_ #[46, 46] 46 #[v, .slice (some a) 1 1]).run Try.prog w = .ok (.slice (some ⟨g, 0, none⟩) (l.length + 1) cap) w' ∧ w'.ownsRowF B 5 1 (.slice (some ⟨g, 0, none⟩) (l.length + 1) cap) (l ++ [c]).length (Lib.byteCells (l ++ [c])) ∧ w.grownBy w' v.ownBlock ∧ (v.ownBlock = some g ∨ w.heap.size ≤ g) := by
  obtain ⟨i0, hi, hz0, hz1, hz2⟩ := info_parts infoByte
  have hc1 : ∀ j u, [Value.int .u8 (c.toNat : Int)][j]? = some u → w.cell? (a.add j) = some u := by
    intro j u hj
    match j, hj with
    | 0, hj => simp at hj; subst hj; simpa [Addr.add] using ha
  have hc2 : ∀ u ∈ [Value.int .u8 (c.toNat : Int)], u.oneCell' = true := by intro u hu; simp at hu; subst hu; rfl
  have h63 : l.length + 1 ≤ maxLen := by unfold maxLen; omega
  have fin : ∀ {base : Nat} {v' : Value} {w' : World}, w'.ownsRowF base 5 1 v' (l.length + 1) (Lib.byteCells l ++ [.int .u8 (c.toNat : Int)]) → ∃ g cap, v' = .slice (some ⟨g, 0, none⟩) (l.length + 1) cap := by
    intro base v' w' ho
    rcases ho.2 with ⟨_, h0⟩ | ⟨g, cap, cur, fz, hv, _⟩
    · omega
    · exact ⟨g, cap, hv⟩
  obtain ⟨v', w', hr, hown', hgrow, _⟩ := run_append_ownF (P := Try.prog) w B 46 46 5 i0 (.int .u8 0) 1 1 Try.underlying46 hi hz0 hz1 hz2 rfl (by decide) v l.length _ hown a 1 1 [.int .u8 (c.toNat : Int)] rfl hc1 hc2 h63 (by omega) hB
  obtain ⟨g, cap, rfl⟩ := fin hown'
  refine ⟨g, cap, w', hr, by rw [byteCells_snoc]; simpa using hown', hgrow, ?_⟩
  rcases hown.2 with ⟨rfl, h0⟩ | ⟨g0, cap0, cur, fz, rfl, hbg, hg, hfz, hnc, hcm, hcs, htake⟩
  · obtain ⟨v2, w2, hr2, hown2, _⟩ := run_append_ownF (P := Try.prog) w w.heap.size 46 46 5 i0 (.int .u8 0) 1 1 Try.underlying46 hi hz0 hz1 hz2 rfl (by decide) (.slice none 0 0) l.length _ ⟨hown.1, .inl ⟨rfl, h0⟩⟩ a 1 1 [.int .u8 (c.toNat : Int)] rfl hc1 hc2 h63 (by omega) (Nat.le_refl _)
    rw [hr] at hr2
    cases hr2
    exact .inr (hown2.lt g rfl).1
  · by_cases hroom : l.length + 1 ≤ cap0
    · have hr2 := run_append_roomF (P := Try.prog) w 46 46 5 i0 Try.underlying46 hi g0 l.length cap0 cur fz hg (by rw [hz1]; exact hfz) a 1 1 [.int .u8 (c.toNat : Int)] (by rw [hz1]; rfl) hc1 hc2 hroom (by rw [hz1]; simp; omega)
      rw [hr] at hr2
      cases hr2
      exact .inl rfl
    · have hr2 := run_append_grow (P := Try.prog) w 46 46 5 i0 (.int .u8 0) Try.underlying46 hi hz0 ⟨g0, 0, none⟩ l.length cap0 _ (by rw [hz1]; exact hown.1) (hown.cells (g := g0) rfl) a 1 1 [.int .u8 (c.toNat : Int)] (by rw [hz1]; rfl) hc1 (by omega) (by omega) (by rw [hz2]; exact growslice_fits (by omega) (by omega))
      rw [hr] at hr2
      cases hr2
      exact .inr (Nat.le_refl _)
theorem append_text (w : World) (B : Nat) (v : Value) (l : List UInt8) (s : ByteArray) (hown : w.ownsRowF B 5 1 v l.length (Lib.byteCells l)) (hlen : l.length + s.size ≤ 1000000) (hB : B ≤ w.heap.size) :
    ∃ v' w', (Builtin.append_ #[46, 9] 46 #[v, .string s]).run Try.prog w = .ok v' w' ∧ w'.ownsRowF B 5 1 v' (l ++ s.data.toList).length (Lib.byteCells (l ++ s.data.toList)) ∧ w.grownBy w' v.ownBlock ∧ (∀ k, v'.ownBlock = some k → v.ownBlock = some k ∨ w.heap.size ≤ k) ∧ (v = .slice none 0 0 → s.size = 0 → v' = .slice none 0 0) := by
  obtain ⟨i0, hi, hz0, hz1, hz2⟩ := info_parts infoByte
  have h63 : l.length + s.size ≤ maxLen := by unfold maxLen; omega
  obtain ⟨v', w', hr, hown', hgrow, hnil⟩ := Lib.run_append_own_stringF (P := Try.prog) w B 46 9 46 5 i0 Try.underlying46 Try.underlying9 hi hz0 hz1 hz2 v l.length _ hown s h63 (by omega) hB
  refine ⟨v', w', hr, ?_, hgrow, ?_, fun a b => hnil.2 ⟨a, b⟩⟩
  · rw [Lib.byteCells_append, ← Lib.strCells_eq, List.length_append]
    simpa using hown'
  rcases hown.2 with ⟨rfl, h0⟩ | ⟨g0, cap0, cur, fz, rfl, hbg, hg, hfz, hnc, hcm, hcs, htake⟩
  · obtain ⟨v2, w2, hr2, hown2, _⟩ := Lib.run_append_own_stringF (P := Try.prog) w w.heap.size 46 9 46 5 i0 Try.underlying46 Try.underlying9 hi hz0 hz1 hz2 (.slice none 0 0) l.length _ ⟨hown.1, .inl ⟨rfl, h0⟩⟩ s h63 (by omega) (Nat.le_refl _)
    rw [hr] at hr2
    cases hr2
    exact fun k hk => .inr (hown2.lt k hk).1
  · by_cases hroom : l.length + s.size ≤ cap0
    · have hr2 := Lib.run_append_room_stringF (P := Try.prog) w 46 9 46 5 i0 Try.underlying46 Try.underlying9 hi hz1 g0 l.length cap0 cur fz hg (by simpa using hfz) s hroom (by omega)
      rw [hr] at hr2
      cases hr2
      exact fun k hk => .inl hk
    · have hr2 := Lib.run_append_grow_string (P := Try.prog) w 46 9 46 5 i0 (.int .u8 0) Try.underlying46 Try.underlying9 hi hz0 ⟨g0, 0, none⟩ l.length cap0 _ (by rw [hz1]; exact hown.1) (hown.cells (g := g0) rfl) s (by omega) (by omega) (by rw [hz2]; exact growslice_fits (by omega) (by omega))
      rw [hr] at hr2
      cases hr2
      intro k hk
      simp [Value.ownBlock] at hk
      exact .inr (by omega)
set_option maxHeartbeats 2000000 in
set_option maxRecDepth 100000 in
theorem writeByte_any (B b : Nat) (p h : Value) (l : List UInt8) (c : UInt8) (w : World) (k : BAt B b p h l w) (hp : Own b p) (hlen : l.length ≤ 1000000) (hBw : B ≤ w.heap.size) :
    Calls Try.prog 88 #[self b, .int .u8 (c.toNat : Int)] w fun e w' => e = .returned .nilIface ∧ BAt B b (self b) h (l ++ [c]) w' ∧ Moved b w w' := by
  have CC := Lib.hid (copy_any B b p h l w k hp)
  clear k hp
  go_enter Try.func88, Try.ntmps88
  go_wp2_with fail
  (with_reducible refine CC.out.mono ?_)
  rintro e w1 ⟨rfl, h1, m1⟩
  clear CC
  obtain ⟨hB, v, hbk, hown, hn⟩ := h1
  have hne : v.ownBlock ≠ some b := neF hown hbk (by decide)
  have c0 : w1.cell? ⟨b, 0, none⟩ = some (self b) := by rw [Lib.cell_of_heap hbk]; rfl
  have c1 : w1.cell? ⟨b, 1, none⟩ = some v := by rw [Lib.cell_of_heap hbk]; rfl
  have hlt : b < w1.heap.size := lt_of_heap hbk
  have hz := m1.size
  have hba : (w1.alloc (.cells #[.int .u8 (c.toNat : Int)] 5)).heap[b]? = some (.cells #[self b, v, h] 89 (0, 0)) := by rw [Lib.alloc_old w1 _ b hlt]; exact hbk
  have ma : Moved b w (w1.alloc (.cells #[.int .u8 (c.toNat : Int)] 5)) := m1.trans (Moved.alloc hlt _)
  obtain ⟨g, cap, w2, hr, hown', hgrow, hnew⟩ := append_byte (w1.alloc (.cells #[.int .u8 (c.toNat : Int)] 5)) B v l ⟨w1.heap.size, 0, none⟩ c (hown.alloc _) (by simp [go_sem]) hlen (by simp; omega)
  have mb := ma.trans (Moved.grown hba hne hgrow)
  have hb2 : w2.heap[b]? = some (.cells #[self b, v, h] 89 (0, 0)) := by
    rw [hgrow.block b (by simp; omega) (fun e => hne e.symm)]; exact hba
  have FIN : Hid (BAt B b (self b) h (l ++ [c]) (w2.setCell ⟨b, 1, none⟩ (.slice (some ⟨g, 0, none⟩) (l.length + 1) cap)) ∧ Moved b w (w2.setCell ⟨b, 1, none⟩ (.slice (some ⟨g, 0, none⟩) (l.length + 1) cap))) := by
    refine ⟨BAt.put hB hb2 hown' (by simp), ⟨mb.os, mb.tape, mb.output, by simpa [World.setCell] using mb.size, fun k hk hkb hkn => (Below.heap_setCell _ _ _ _ hkb).trans (mb.block k hk hkb hkn), fun k hk => ?_⟩⟩
    unfold bufOf at hk
    rw [World.cell?_setCell_same _ _ _ (show w2.cell? ⟨b, 1, none⟩ = some v by rw [Lib.cell_of_heap hb2]; rfl)] at hk
    simp [Value.ownBlock] at hk
    subst hk
    rcases hnew with e | e
    · exact ma.own g (by rw [bufOf_eq hba]; exact e)
    · exact .inr (by simp at e; omega)
  have d1 : w2.cell? ⟨b, 1, none⟩ = some v := by rw [Lib.cell_of_heap hb2]; rfl
  have f1 : w2.frozen? ⟨b, 1, none⟩ = false := Lib.frozen_of_heap hb2 1
  clear hown' hgrow hnew mb hb2 ma hba hz hown hn hne hbk m1
  go_wp2_with (at_builtin; refine wp_append rfl _ _ _ _ _ rfl rfl rfl rfl hr ?_)
  go_wp2
  go_ret
  exact ⟨rfl, FIN.out⟩
set_option maxHeartbeats 2000000 in
set_option maxRecDepth 100000 in
theorem writeString_any (B b : Nat) (p h : Value) (l : List UInt8) (s : ByteArray) (w : World) (k : BAt B b p h l w) (hp : Own b p) (hlen : l.length + s.size ≤ 1000000) (hBw : B ≤ w.heap.size) :
    Calls Try.prog 91 #[self b, .string s] w fun e w' => e = .returned (.tuple #[.int .i64 s.size, .nilIface]) ∧ BAt B b (self b) h (l ++ s.data.toList) w' ∧ Moved b w w' := by
  have CC := Lib.hid (copy_any B b p h l w k hp)
  clear k hp
  go_enter Try.func91, Try.ntmps91
  go_wp2_with fail
  (with_reducible refine CC.out.mono ?_)
  rintro e w1 ⟨rfl, h1, m1⟩
  clear CC
  obtain ⟨hB, v, hbk, hown, hn⟩ := h1
  have hne : v.ownBlock ≠ some b := neF hown hbk (by decide)
  have c0 : w1.cell? ⟨b, 0, none⟩ = some (self b) := by rw [Lib.cell_of_heap hbk]; rfl
  have c1 : w1.cell? ⟨b, 1, none⟩ = some v := by rw [Lib.cell_of_heap hbk]; rfl
  have hlt : b < w1.heap.size := lt_of_heap hbk
  have hz := m1.size
  obtain ⟨v', w2, hr, hown', hgrow, hnew, hnil⟩ := append_text w1 B v l s hown hlen (by omega)
  have mb := m1.trans (Moved.grown hbk hne hgrow)
  have hb2 : w2.heap[b]? = some (.cells #[self b, v, h] 89 (0, 0)) := by
    rw [hgrow.block b hlt (fun e => hne e.symm)]; exact hbk
  obtain ⟨ao, n', cap, rfl⟩ : ∃ ao n' cap, v' = .slice ao n' cap := by
    rcases hown'.2 with ⟨hv, _⟩ | ⟨g, cap, cur, fz, hv, _⟩
    · exact ⟨_, _, _, hv⟩
    · exact ⟨_, _, _, hv⟩
  have FIN : Hid (BAt B b (self b) h (l ++ s.data.toList) (w2.setCell ⟨b, 1, none⟩ (.slice ao n' cap)) ∧ Moved b w (w2.setCell ⟨b, 1, none⟩ (.slice ao n' cap))) := by
    refine ⟨BAt.put hB hb2 hown' (fun e => ?_), ⟨mb.os, mb.tape, mb.output, by simpa [World.setCell] using mb.size, fun k hk hkb hkn => (Below.heap_setCell _ _ _ _ hkb).trans (mb.block k hk hkb hkn), fun k hk => ?_⟩⟩
    · rw [List.append_eq_nil_iff] at e
      exact hnil (hn e.1) (by have := congrArg List.length e.2; simpa using this)
    unfold bufOf at hk
    rw [World.cell?_setCell_same _ _ _ (show w2.cell? ⟨b, 1, none⟩ = some v by rw [Lib.cell_of_heap hb2]; rfl)] at hk
    rcases hnew k (by simpa using hk) with e | e
    · exact m1.own k (by rw [bufOf_eq hbk]; exact e)
    · exact .inr (by omega)
  have d1 : w2.cell? ⟨b, 1, none⟩ = some v := by rw [Lib.cell_of_heap hb2]; rfl
  have f1 : w2.frozen? ⟨b, 1, none⟩ = false := Lib.frozen_of_heap hb2 1
  clear hown' hgrow hnew mb hb2 hz hown hn hne hbk m1 hnil
  go_wp2_with (at_builtin; refine wp_append rfl _ _ _ _ _ rfl rfl rfl rfl hr ?_)
  go_wp2
  go_ret2
  exact ⟨rfl, FIN.out⟩
set_option maxHeartbeats 2000000 in
set_option maxRecDepth 100000 in
theorem string_any (B b : Nat) (p h : Value) (l : List UInt8) (w : World) (k : BAt B b p h l w) (hlen : l.length ≤ 1000000) :
    Calls Try.prog 76 #[self b] w fun e w' => e = .returned (.string (mkB l)) ∧ BAt B b p h l w' ∧ Moved b w w' := by
  have k' := k
  obtain ⟨hB, v, hbk, hown, hn⟩ := k'
  have hlt : b < w.heap.size := lt_of_heap hbk
  have hbk' : w.drew.heap[b]? = some (.cells #[p, v, h] 89 (0, 0)) := hbk
  by_cases h0 : l = []
  · subst h0
    obtain rfl := hn rfl
    have c1 : w.drew.cell? ⟨b, 1, none⟩ = some (.slice none 0 0) := by rw [Lib.cell_of_heap hbk']; rfl
    have hSD : (Builtin.unsafeSliceData_ #[46] 130 #[.slice none 0 0]).run Try.prog w.drew = .ok (.pointer none) w.drew := rfl
    have hUS : ∀ W : World, (Builtin.unsafeString_ #[130, 3] 9 #[.pointer none, .int .i64 0]).run Try.prog W = .ok (.string .empty) W := fun W => Lib.run_unsafeString_none W _ _ _ none
    have FIN : Hid (BAt B b p h [] w.drew ∧ Moved b w w.drew) := ⟨k.drew, (Moved.refl b w).drew⟩
    clear k hown hn
    go_enter Try.func76, Try.ntmps76
    go_wp2
    go_region
    all_goals (go_wp2; go_ret; exact ⟨rfl, FIN.out⟩)
  · have hl0 : l.length ≠ 0 := by simpa using h0
    obtain ⟨g, cap, cur, fz, rfl, hbg, hg, hfz, hnc, hcm, hcs, htake⟩ : ∃ g cap cur fz, v = .slice (some ⟨g, 0, none⟩) l.length cap ∧ B ≤ g ∧ w.heap[g]? = some (.cells cur 5 fz) ∧ fz.2 ≤ l.length * 1 ∧ l.length ≤ cap ∧ cap ≤ maxLen ∧ cur.size = cap * 1 ∧ cur.toList.take (l.length * 1) = Lib.byteCells l := by
      rcases hown.2 with ⟨_, hz⟩ | ⟨g, cap, cur, fz, hv, r⟩
      · exact absurd hz hl0
      · exact ⟨g, cap, cur, fz, hv, r⟩
    have hne := neF hown hbk (by decide)
    have c1 : w.drew.cell? ⟨b, 1, none⟩ = some (.slice (some ⟨g, 0, none⟩) l.length cap) := by rw [Lib.cell_of_heap hbk']; rfl
    have hg' : w.drew.heap[g]? = some (.cells cur 5 fz) := hg
    have hSD : (Builtin.unsafeSliceData_ #[46] 130 #[.slice (some ⟨g, 0, none⟩) l.length cap]).run Try.prog w.drew = .ok (.pointer (some ⟨g, 0, none⟩)) w.drew :=
      Lib.run_unsafeSliceData_row _ _ _ _ _ _ (by omega)
    have hUS : (Builtin.unsafeString_ #[130, 3] 9 #[.pointer (some ⟨g, 0, none⟩), .int .i64 l.length]).run Try.prog w.drew = .ok (.string (mkB l)) (w.drew.freeze ⟨g, 0, none⟩ l.length) :=
      Lib.run_unsafeString_row w.drew 130 3 9 5 Try.underlying130 cellsByte g cur.size (by simp [World.shape?, hg']) l h0 (by omega) (by unfold maxLen at hcm; omega) (by
        intro j x hx
        exact hown.cells (g := g) rfl j (.int .u8 x.toNat) (by simp [Lib.byteCells, hx]))
    have hgb : g ≠ b := fun e => hne (by simp [Value.ownBlock, e])
    have FIN : Hid (BAt B b p h l (w.drew.freeze ⟨g, 0, none⟩ l.length) ∧ Moved b w (w.drew.freeze ⟨g, 0, none⟩ l.length)) := by
      have hfz' : (w.drew.freeze ⟨g, 0, none⟩ l.length).heap[b]? = some (.cells #[p, .slice (some ⟨g, 0, none⟩) l.length cap, h] 89 (0, 0)) := by
        unfold World.freeze
        rw [if_neg hl0]
        simp only [Array.getElem?_modify]
        rw [if_neg hgb]
        exact hbk'
      refine ⟨⟨hB, _, hfz', ⟨hown.1, .inr ?_⟩, hn⟩, ⟨by unfold World.freeze; split <;> rfl, by unfold World.freeze; split <;> rfl, by unfold World.freeze; split <;> rfl, ?_, fun i hi hib hin => ?_, fun i hi => .inl ?_⟩⟩
      · obtain ⟨lo, hi⟩ := fz
        refine ⟨g, cap, cur, (if lo == hi then (0, 0 + l.length) else (min lo 0, max hi (0 + l.length))), rfl, hbg, ?_, ?_, hnc, hcm, hcs, htake⟩
        · unfold World.freeze
          rw [if_neg hl0]
          simp [Array.getElem?_modify, hg']
        · simp only at hfz
          split <;> simp <;> omega
      · unfold World.freeze
        split <;> simp
      · unfold World.freeze
        rw [if_neg hl0]
        simp only [Array.getElem?_modify]
        rw [if_neg (by intro e; exact hin (by rw [bufOf_eq hbk]; simp [Value.ownBlock]; exact e))]
        rfl
      · rw [bufOf_eq hfz'] at hi
        rw [bufOf_eq hbk]; exact hi
    clear k hown hn htake hcs hg hg' hfz hne hbk hbk'
    go_enter Try.func76, Try.ntmps76
    go_wp2
    go_region
    all_goals (go_wp2; go_ret; exact ⟨rfl, FIN.out⟩)
theorem reset_any (B b : Nat) (p h : Value) (l : List UInt8) (w : World) (k : BAt B b p h l w) :
    Calls Try.prog 90 #[self b] w fun e w' => e = .returned (.tuple #[]) ∧ BAt B b (.pointer none) h [] w' ∧ Moved b w w' := by
  obtain ⟨hB, v, hbk, hown, hn⟩ := k
  have hb1 : (w.setCell ⟨b, 0, none⟩ (.pointer none)).heap[b]? = some (.cells #[.pointer none, v, h] 89 (0, 0)) := by simp [World.setCell, Array.getElem?_modify, hbk]
  have c0 : w.cell? ⟨b, 0, none⟩ = some p := by rw [Lib.cell_of_heap hbk]; rfl
  have c1 : w.cell? ⟨b, 1, none⟩ = some v := by rw [Lib.cell_of_heap hbk]; rfl
  have f0 : w.frozen? ⟨b, 0, none⟩ = false := Lib.frozen_of_heap hbk 0
  have f1 : w.frozen? ⟨b, 1, none⟩ = false := Lib.frozen_of_heap hbk 1
  have FIN : Hid (BAt B b (.pointer none) h [] ((w.setCell ⟨b, 0, none⟩ (.pointer none)).setCell ⟨b, 1, none⟩ (.slice none 0 0)) ∧ Moved b w ((w.setCell ⟨b, 0, none⟩ (.pointer none)).setCell ⟨b, 1, none⟩ (.slice none 0 0))) :=
    ⟨BAt.put hB hb1 (World.ownsRowF_nil _ _ _ _) (fun _ => rfl), (Moved.set hbk 0 _ (by omega)).trans (Moved.set hb1 1 _ (fun _ k hk => by simp [Value.ownBlock] at hk))⟩
  clear hown hn hbk hb1
  go_enter Try.func90, Try.ntmps90
  go_wp2
  go_end0
  exact ⟨rfl, FIN.out⟩
end Go.Proofs.Ytnaanahgflbihaa.Oc
