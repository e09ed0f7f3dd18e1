/- Both logs, each on its own disk, side by side: what each call makes of the pair; so few writes and reads; how a script of steps is opened. -/
import Derived.Test.YtcbemjckcmcelaaMWs
namespace Go.Proofs.Ytcbemjckcmcelaa.Wl
open Go.ChangeShapes Go.WideShapes Go.ChangeAt Go.RowKit Go.Joins
open Dk (Dk Rk DS Own Moved Apt Fats Off ptr)
open Sl (Mv below_drewN rowOf strs_of strs_lt)
set_option maxRecDepth 100000
set_option linter.unusedVariables false
set_option linter.unusedSimpArgs false
theorem Rk_keepT {B b : Nat} {s : DS} {w : World} (h : Rk B b s w) {k : Nat} {cs : Array Value} {T : TypeId} {fz : Nat × Nat} (hk : w.heap[k]? = some (.cells cs T fz)) (h1 : T ≠ 49) (h2 : T ≠ 9) (h3 : T ≠ 92) : ¬ Own w b k := by
  obtain ⟨vS, vL, h⟩ := h
  intro e
  rcases h.owns.1 e with rfl | e | e
  · have := h.blk; rw [hk] at this; simp only [Option.some.injEq, Obj.cells.injEq] at this; exact h1 this.2.1
  · obtain ⟨c, hc⟩ := Dk.own_block h.rowS e; rw [hk] at hc; simp only [Option.some.injEq, Obj.cells.injEq] at hc; exact h2 hc.2.1
  · obtain ⟨c, hc⟩ := Dk.own_block h.rowL e; rw [hk] at hc; simp only [Option.some.injEq, Obj.cells.injEq] at hc; exact h3 hc.2.1
theorem Dk_keepT {B b : Nat} {s : DS} {w : World} (h : Dk B b s w) {k : Nat} {cs : Array Value} {T : TypeId} {fz : Nat × Nat} (hk : w.heap[k]? = some (.cells cs T fz)) (h1 : T ≠ 62) (h2 : T ≠ 84) (h3 : T ≠ 86) : ¬ Own w b k := by
  obtain ⟨g, v, h⟩ := h
  exact h.keepT hk h1 h2 h3
theorem Dk_blocks {B b : Nat} {s : DS} {w w' : World} (h : Dk B b s w) (k : ∀ j, Own w b j → w'.heap[j]? = w.heap[j]?) : Dk B b s w' := by
  obtain ⟨g, v, h⟩ := h
  exact ⟨g, v, h.of_blocks k⟩
theorem heap_ne {w : World} {j k : Nat} {cs ds : Array Value} {S T : TypeId} {f g : Nat × Nat} (hj : w.heap[j]? = some (.cells cs S f)) (hk : w.heap[k]? = some (.cells ds T g)) (h : S ≠ T) : j ≠ k := by
  rintro rfl
  rw [hj] at hk
  simp only [Option.some.injEq, Obj.cells.injEq] at hk
  exact h hk.2.1
/-- the program's log at q on its disk d, the document's at x on its disk r -/
structure Wp (B d q r x : Nat) (sd sr : DS) (td tr : WS) (w0 w : World) : Prop where
  dk : Dk B d sd w
  wl : Wl q d td w
  rk : Rk B r sr w
  rl : Rl x r tr w
  apt : Apt w d r
  hq : B ≤ q
  hx : B ≤ x
  below : Below B w0 w
section
variable {B d q r x : Nat} {sd sr s' : DS} {td tr t' : WS} {w0 w w' : World}
theorem Wp.rOwn (h : Wp B d q r x sd sr td tr w0 w) (m : Mv d q w w') (j : Nat) (hj : Own w r j) : w'.heap[j]? = w.heap[j]? :=
  m.block j (h.rk.ownLt hj).2 (fun e => h.apt j e hj) (fun e => Rk_keepT h.rk h.wl (by decide) (by decide) (by decide) (e ▸ hj))
theorem Wp.left (h : Wp B d q r x sd sr td tr w0 w) (k : Dk B d s' w') (l : Wl q d t' w') (m : Mv d q w w') : Wp B d q r x s' sr t' tr w0 w' := by
  obtain ⟨ep, ln, a, hs⟩ := h.rl
  refine ⟨k, l, Rk_blocks h.rk (h.rOwn m), ⟨ep, ln, a.of_block (m.block x a.lt (Dk_keepT h.dk a (by decide) (by decide) (by decide)) (heap_ne a h.wl (by decide))), hs⟩, fun j hd hr => ?_, h.hq, h.hx, h.below.trans (m.belowD h.dk h.hq)⟩
  have hr' : Own w r j := hr.of_block (h.rOwn m r (.inl rfl))
  rcases m.own j hd with e | e
  · exact h.apt j e hr'
  · have := (h.rk.ownLt hr').2; omega
theorem Wp.dOwn (h : Wp B d q r x sd sr td tr w0 w) (m : Mv r x w w') (j : Nat) (hj : Own w d j) : w'.heap[j]? = w.heap[j]? := by
  obtain ⟨ep, ln, a, hs⟩ := h.rl
  exact m.block j (h.dk.ownLt hj).2 (fun e => h.apt j hj e) (fun e => Dk_keepT h.dk a (by decide) (by decide) (by decide) (e ▸ hj))
theorem Wp.right (h : Wp B d q r x sd sr td tr w0 w) (k : Rk B r s' w') (l : Rl x r t' w') (m : Mv r x w w') : Wp B d q r x sd s' td t' w0 w' := by
  obtain ⟨ep, ln, a, hs⟩ := h.rl
  refine ⟨Dk_blocks h.dk (h.dOwn m), h.wl.of_block (m.block q h.wl.lt (Rk_keepT h.rk h.wl (by decide) (by decide) (by decide)) (heap_ne h.wl a (by decide))), k, l, fun j hd hr => ?_, h.hq, h.hx, h.below.trans (m.below (fun k hk => (h.rk.ownLt hk).1) h.rk.le h.hx)⟩
  have hd' : Own w d j := hd.of_block (h.dOwn m d (.inl rfl))
  rcases m.own j hr with e | e
  · exact h.apt j hd' e
  · have := (h.dk.ownLt hd').2; omega
theorem Wp.call (h : Wp B d q r x sd sr td tr w0 w) (b : Below w.heap.size w w') : Wp B d q r x sd sr td tr w0 w' := by
  obtain ⟨ep, ln, a, hs⟩ := h.rl
  exact ⟨h.dk.call b, h.wl.call b, h.rk.call b, ⟨ep, ln, a.call b, hs⟩, h.apt.call b h.dk.lt h.rk.lt, h.hq, h.hx, h.below.trans (b.mono h.dk.le)⟩
theorem Wp.drewN (h : Wp B d q r x sd sr td tr w0 w) (n : Nat) : Wp B d q r x sd sr td tr w0 (w.drewN n) := h.call (below_drewN w n)
theorem Wp.drew (h : Wp B d q r x sd sr td tr w0 w) : Wp B d q r x sd sr td tr w0 w.drew := h.call ⟨rfl, rfl, rfl, Nat.le_refl _, fun k _ => rfl⟩
theorem Wp.xlt (h : Wp B d q r x sd sr td tr w0 w) : x < w.heap.size := by obtain ⟨ep, ln, a, hs⟩ := h.rl; exact a.lt
end
/-- a step's cells -/
def opW (k n : Int) (t : ByteArray) (e : Nat) (near cr : Bool) (v : Value) : List Value := [.int .i64 k, .int .i64 n, .string t, .int .u64 (e : Int), .bool near, .bool cr, v]
/-- with the block of the step that is done -/
structure Wb (B d q r x ob : Nat) (C : List Value) (sd sr : DS) (td tr : WS) (w0 w : World) : Prop where
  pr : Wp B d q r x sd sr td tr w0 w
  blk : w.heap[ob]? = some (.cells C.toArray 35 (0, 0))
section
variable {B d q r x ob : Nat} {C : List Value} {sd sr s' : DS} {td tr t' : WS} {w0 w w' : World}
theorem Wb.left (h : Wb B d q r x ob C sd sr td tr w0 w) (k : Dk B d s' w') (l : Wl q d t' w') (m : Mv d q w w') : Wb B d q r x ob C s' sr t' tr w0 w' :=
  ⟨h.pr.left k l m, by rw [m.block ob (Dk.lt_of_heap h.blk) (Dk_keepT h.pr.dk h.blk (by decide) (by decide) (by decide)) (heap_ne h.blk h.pr.wl (by decide))]; exact h.blk⟩
theorem Wb.right (h : Wb B d q r x ob C sd sr td tr w0 w) (k : Rk B r s' w') (l : Rl x r t' w') (m : Mv r x w w') : Wb B d q r x ob C sd s' td t' w0 w' := by
  obtain ⟨ep, ln, a, hs⟩ := h.pr.rl
  exact ⟨h.pr.right k l m, by rw [m.block ob (Dk.lt_of_heap h.blk) (Rk_keepT h.pr.rk h.blk (by decide) (by decide) (by decide)) (heap_ne h.blk a (by decide))]; exact h.blk⟩
theorem Wb.call (h : Wb B d q r x ob C sd sr td tr w0 w) (b : Below w.heap.size w w') : Wb B d q r x ob C sd sr td tr w0 w' := ⟨h.pr.call b, by rw [b.block ob (Dk.lt_of_heap h.blk)]; exact h.blk⟩
theorem Wb.drew (h : Wb B d q r x ob C sd sr td tr w0 w) : Wb B d q r x ob C sd sr td tr w0 w.drew := h.call ⟨rfl, rfl, rfl, Nat.le_refl _, fun k _ => rfl⟩
theorem Wb.cell (h : Wb B d q r x ob C sd sr td tr w0 w) (j : Nat) : w.cell? ⟨ob, j, none⟩ = C[j]? := by rw [Lib.cell_of_heap h.blk j, List.getElem?_toArray]
theorem Wb.fz (h : Wb B d q r x ob C sd sr td tr w0 w) (o : Nat) : w.frozen? ⟨ob, o, none⟩ = false := Lib.frozen_of_heap h.blk o
end
section
variable {B d q r x ob : Nat} {sd sr : DS} {td tr : WS} {w0 w : World} {k n : Int} {t : ByteArray} {e : Nat} {near cr : Bool} {v : Value}
/-- the step's epoch is another one -/
theorem Wb.setE (h : Wb B d q r x ob (opW k n t e near cr v) sd sr td tr w0 w) (hb : B ≤ ob) (e' : Nat) : Wb B d q r x ob (opW k n t e' near cr v) sd sr td tr w0 (w.setCell ⟨ob, 3, none⟩ (.int .u64 (e' : Int))) := by
  obtain ⟨ep, ln, a, hs⟩ := h.pr.rl
  have hd := Dk_keepT h.pr.dk h.blk (by decide) (by decide) (by decide)
  have hr := Rk_keepT h.pr.rk h.blk (by decide) (by decide) (by decide)
  have K : ∀ j, j ≠ ob → (w.setCell ⟨ob, 3, none⟩ (.int .u64 (e' : Int))).heap[j]? = w.heap[j]? := fun j hj => Below.heap_setCell w ⟨ob, 3, none⟩ _ j hj
  refine ⟨⟨Sl.Dk_setOther h.pr.dk hd, h.pr.wl.of_block (K q (heap_ne h.pr.wl h.blk (by decide))), Rk_setOther h.pr.rk hr, ⟨ep, ln, a.of_block (K x (heap_ne a h.blk (by decide))), hs⟩, fun j h1 h2 => ?_, h.pr.hq, h.pr.hx, h.pr.below.trans ⟨rfl, rfl, rfl, by simp [World.setCell], fun j hj => K j (by omega)⟩⟩, ?_⟩
  · exact h.pr.apt j (h1.of_block (K d (fun e => hd (.inl e.symm)))) (h2.of_block (K r (fun e => hr (.inl e.symm))))
  · have := h.blk
    simp [World.setCell, Array.getElem?_modify, this, opW]
end
/-- what a Start makes of how a log stands, and its error -/
def startE (t : WS) (e : Nat) : Option (Nat × Nat) × Nat := if e = 0 then (t.st, 1) else (some (e, 0), 0)
/-- what a Scan makes of a disk and of how a log stands, what it tells, and its error -/
def scanE (s : DS) (t : WS) (e : Nat) : DS × Option (Nat × Nat) × List (List UInt8) × Nat :=
  if e = 0 then (s, t.st, [], 1) else ((scanR s t.at_ t.n e).1, scanS s t.at_ t.n e, (scanR s t.at_ t.n e).2.1, (scanR s t.at_ t.n e).2.2)
/-- so few writes are open, so few reads were, and so on -/
structure SmW (s : DS) (t : WS) (i many : Nat) : Prop where
  sec : s.sec.length = many + 2
  opn : s.opn.length ≤ i
  reads : s.reads ≤ 8 * i
  fail : s.fail < 9223372036854775808
  at_ : t.at_ = 1
  n : t.n = many
  st : ∀ e c, t.st = some (e, c) → 1 ≤ e ∧ e < 18446744073709551616 ∧ c ≤ many
section
variable {s : DS} {t : WS} {i many : Nat}
theorem SmW.fit (h : SmW s t i many) (hm : 1 ≤ many) : t.Fit s.sec.length := ⟨by rw [h.n]; exact hm, by rw [h.sec, h.at_, h.n]; omega, fun e c hh => by rw [h.n]; exact h.st e c hh⟩
theorem SmW.len (h : SmW s t i many) : lenOf t.st ≤ t.n := by
  rw [h.n]
  cases hs : t.st with
  | none => exact Nat.zero_le _
  | some ec => obtain ⟨e, c⟩ := ec; exact (h.st e c hs).2.2
theorem SmW.idle (h : SmW s t i many) : SmW s t (i + 1) many := ⟨h.sec, by have := h.opn; omega, by have := h.reads; omega, h.fail, h.at_, h.n, h.st⟩
theorem SmW.start (h : SmW s t i many) (e : Nat) (he : e < 18446744073709551616) : SmW s ⟨t.at_, t.n, (startE t e).1⟩ (i + 1) many := by
  refine ⟨h.sec, by have := h.opn; omega, by have := h.reads; omega, h.fail, h.at_, h.n, fun e' c' hh => ?_⟩
  unfold startE at hh
  split at hh
  · exact h.st e' c' hh
  · cases hh; exact ⟨by omega, he, by omega⟩
theorem SmW.failed (h : SmW s t i many) {n : Nat} (hn : n < 1000) : SmW (Dk.failR s (n : Int)) t (i + 1) many :=
  ⟨h.sec, by show s.opn.length ≤ _; have := h.opn; omega, by show s.reads ≤ _; have := h.reads; omega, by show (n : Int).toNat < _; omega, h.at_, h.n, h.st⟩
theorem SmW.crash (h : SmW s t i many) (fs : List (Int × Int)) : SmW (Dk.crashR s fs).1 t (i + 1) many :=
  ⟨by show (Dk.crashedS s fs).length = _; unfold Dk.crashedS; rw [Dk.laid_length]; exact h.sec, by show 0 ≤ _; omega, by show 0 ≤ _; omega, by show 0 < _; omega, h.at_, h.n, h.st⟩
theorem SmW.scan (h : SmW s t i many) (hm : many ≤ 8) (e : Nat) (he : e < 18446744073709551616) : SmW (scanE s t e).1 ⟨t.at_, t.n, (scanE s t e).2.1⟩ (i + 1) many := by
  unfold scanE
  split
  · exact h.idle
  · next h0 =>
    have hl := scanR_len s t.at_ t.n e
    have hb : (scanR s t.at_ t.n e).1.reads ≤ s.reads + t.n ∧ (scanR s t.at_ t.n e).1.fail ≤ s.fail := by
      have hle := lead_le (rowOf s t.at_ t.n) e
      rw [Sl.rowOf_length] at hle
      have := readsN_le hle
      unfold scanR
      split
      · next hh => exact ⟨by show s.reads + s.fail ≤ _; omega, by show 0 ≤ _; omega⟩
      · exact ⟨by show s.reads + readsN _ _ ≤ _; omega, by show s.fail - _ ≤ _; omega⟩
    refine ⟨by show (scanR s t.at_ t.n e).1.sec.length = _; rw [hl.1]; exact h.sec, by show (scanR s t.at_ t.n e).1.opn.length ≤ _; rw [hl.2]; have := h.opn; omega, by show (scanR s t.at_ t.n e).1.reads ≤ _; have := h.reads; have := h.n; omega, by show (scanR s t.at_ t.n e).1.fail < _; have := h.fail; omega, h.at_, h.n, fun e' c' hh => ?_⟩
    have hh2 : scanS s t.at_ t.n e = some (e', c') := hh
    unfold scanS at hh2
    split at hh2
    · cases hh2
      exact ⟨by omega, he, by have := scanR_told s t.at_ t.n e; have := h.n; omega⟩
    · cases hh2
theorem writeR_keeps (s : DS) (a : Int) (x : List UInt8) : (Dk.writeR s a x).1.sec = s.sec ∧ (Dk.writeR s a x).1.reads = s.reads := by
  unfold Dk.writeR
  split
  · split <;> exact ⟨rfl, rfl⟩
  · exact ⟨rfl, rfl⟩
theorem flushR_keeps (s : DS) : (Dk.flushR s).1.sec.length = s.sec.length ∧ (Dk.flushR s).1.reads = s.reads ∧ (Dk.flushR s).1.opn.length ≤ s.opn.length ∧ (Dk.flushR s).1.fail ≤ s.fail := by
  unfold Dk.flushR
  split
  · exact ⟨rfl, rfl, Nat.le_refl _, by show 0 ≤ _; omega⟩
  · exact ⟨by show (Dk.flushedS s).length = _; unfold Dk.flushedS; rw [Dk.laid_length], rfl, by show 0 ≤ _; omega, by show s.fail - 1 ≤ _; omega⟩
theorem putW_keeps (s : DS) (a : Nat) (x : List UInt8) : (putW s a x).1.sec.length = s.sec.length ∧ (putW s a x).1.reads = s.reads ∧ (putW s a x).1.opn.length ≤ s.opn.length + 1 ∧ (putW s a x).1.fail ≤ s.fail := by
  have h1 := writeR_keeps s (a : Int) x
  have h2 := writeR_bounds (s := s) (a := (a : Int)) (x := x)
  have h3 := flushR_keeps (Dk.writeR s (a : Int) x).1
  unfold putW
  split
  · exact ⟨by rw [h3.1, h1.1], by rw [h3.2.1, h1.2], Nat.le_trans h3.2.2.1 h2.1, Nat.le_trans h3.2.2.2 h2.2⟩
  · exact ⟨by rw [h1.1], h1.2, h2.1, h2.2⟩
theorem SmW.app (h : SmW s t i many) (p : List UInt8) : SmW (appR s t p).1 ⟨t.at_, t.n, (appR s t p).2.1⟩ (i + 1) many := by
  have hi := h.idle
  unfold appR
  split
  · exact hi
  · cases hs : t.st with
    | none => exact ⟨hi.sec, hi.opn, hi.reads, hi.fail, h.at_, h.n, fun e c hh => by cases hh⟩
    | some ec =>
      obtain ⟨e, c⟩ := ec
      have hst := h.st e c hs
      have hk := putW_keeps s (t.at_ + c) (_root_.Go.Proofs.Ytcbemjckcmcelaa.sec p e c)
      simp only
      split
      · exact ⟨hi.sec, hi.opn, hi.reads, hi.fail, h.at_, h.n, fun e' c' hh => by cases hh; exact hst⟩
      · next hc =>
        have h1 : (putW s (t.at_ + c) (_root_.Go.Proofs.Ytcbemjckcmcelaa.sec p e c)).1.sec.length = many + 2 := by rw [hk.1]; exact h.sec
        have h2 : (putW s (t.at_ + c) (_root_.Go.Proofs.Ytcbemjckcmcelaa.sec p e c)).1.opn.length ≤ i + 1 := by have := h.opn; omega
        have h3 : (putW s (t.at_ + c) (_root_.Go.Proofs.Ytcbemjckcmcelaa.sec p e c)).1.reads ≤ 8 * (i + 1) := by have := h.reads; omega
        have h4 : (putW s (t.at_ + c) (_root_.Go.Proofs.Ytcbemjckcmcelaa.sec p e c)).1.fail < 9223372036854775808 := by have := h.fail; omega
        split
        · exact ⟨h1, h2, h3, h4, h.at_, h.n, fun e' c' hh => by cases hh; have := h.n; omega⟩
        · exact ⟨h1, h2, h3, h4, h.at_, h.n, fun e' c' hh => by cases hh⟩
end
section
variable {B d q r x ob : Nat} {C : List Value} {sd sr : DS} {td tr : WS} {w0 w : World} {i many : Nat}
theorem start_p (e : Nat) (w : World) (h : Wb B d q r x ob C sd sr td tr w0 w) (hn : 1 ≤ td.n) :
    Calls Try.prog 17 #[ptr q, .int .u64 (e : Int)] w fun a w' => a = .returned (.int .i64 ((startE td e).2 : Int)) ∧ Wb B d q r x ob C sd sr ⟨td.at_, td.n, (startE td e).1⟩ tr w0 w' := by
  unfold startE
  by_cases h0 : e = 0
  · subst h0
    rw [if_pos rfl]
    exact (start_zero w h.pr.wl hn).mono fun a w' ⟨ha, hw⟩ => ⟨ha, by subst hw; exact h⟩
  · rw [if_neg h0]
    exact (start_any e w h.pr.wl h.pr.dk hn (by omega)).mono fun a w' ⟨ha, l, k, m⟩ => ⟨ha, h.left k l m⟩
theorem start_d (e : Nat) (w : World) (h : Wb B d q r x ob C sd sr td tr w0 w) :
    Calls Try.prog 18 #[ptr x, .int .u64 (e : Int)] w fun a w' => a = .returned (.int .i64 ((startE tr e).2 : Int)) ∧ Wb B d q r x ob C sd sr td ⟨tr.at_, tr.n, (startE tr e).1⟩ w0 w' := by
  unfold startE
  by_cases h0 : e = 0
  · subst h0
    rw [if_pos rfl]
    exact (start_r0 w).mono fun a w' ⟨ha, hw⟩ => ⟨ha, by subst hw; exact h⟩
  · rw [if_neg h0]
    exact (start_r e w h.pr.rl h.pr.rk (by omega)).mono fun a w' ⟨ha, l, k, m⟩ => ⟨ha, h.right k l m⟩
theorem append_p (p : List UInt8) (w : World) (h : Wb B d q r x ob C sd sr td tr w0 w) (sm : SmW sd td i many) (hm : 1 ≤ many) (hi : i ≤ 1000) (hp : p.length ≤ 100) :
    Calls Try.prog 23 #[ptr q, .string (mkB p)] w fun a w' => a = .returned (.int .i64 ((appR sd td p).2.2 : Int)) ∧ Wb B d q r x ob C (appR sd td p).1 sr ⟨td.at_, td.n, (appR sd td p).2.1⟩ tr w0 w' :=
  (append_any p w h.pr.wl h.pr.dk (sm.fit hm) (by omega) (by have := sm.opn; omega) sm.fail).mono fun a w' ⟨ha, k, l, m⟩ => ⟨ha, h.left k l m⟩
theorem append_d (p : List UInt8) (w : World) (h : Wb B d q r x ob C sd sr td tr w0 w) (sm : SmW sr tr i many) (hm : 1 ≤ many) (hi : i ≤ 1000) (hp : p.length ≤ 100) :
    Calls Try.prog 25 #[ptr x, .string (mkB p)] w fun a w' => a = .returned (.int .i64 ((appR sr tr p).2.2 : Int)) ∧ Wb B d q r x ob C sd (appR sr tr p).1 td ⟨tr.at_, tr.n, (appR sr tr p).2.1⟩ w0 w' :=
  (append_r p w h.pr.rl h.pr.rk (sm.fit hm) (by omega) (by have := sm.opn; omega) sm.fail).mono fun a w' ⟨ha, k, l, m⟩ => ⟨ha, h.right k l m⟩
/-- a row of texts that the document's log and disk have nothing to do with -/
def Far (r x : Nat) (v : Value) (ds : List (List UInt8)) (w : World) : Prop := ∃ A, Strs A w v ds ∧ (∀ k, Own w r k → k < A) ∧ x < A
theorem scan_p (e : Nat) (w : World) (h : Wb B d q r x ob C sd sr td tr w0 w) (sm : SmW sd td i many) (hm : 1 ≤ many) (hi : i ≤ 1000) :
    Calls Try.prog 14 #[ptr q, .int .u64 (e : Int)] w fun a w' => ∃ v, a = .returned (.tuple #[v, .int .i64 ((scanE sd td e).2.2.2 : Int)]) ∧ Far r x v (scanE sd td e).2.2.1 w' ∧ Wb B d q r x ob C (scanE sd td e).1 sr ⟨td.at_, td.n, (scanE sd td e).2.1⟩ tr w0 w' := by
  unfold scanE
  by_cases h0 : e = 0
  · subst h0
    rw [if_pos rfl]
    exact (scan_zero w h.pr.wl (sm.fit hm).n1).mono fun a w' ⟨ha, hw⟩ => ⟨_, ha, by subst hw; exact ⟨w'.heap.size, strs_nil _ _, fun k hk => (h.pr.rk.ownLt hk).2, h.pr.xlt⟩, by subst hw; exact h⟩
  · rw [if_neg h0]
    exact (scan_any e w h.pr.wl h.pr.dk (sm.fit hm).n1 (sm.fit hm).room (by omega) (by have := sm.reads; omega) (by have := sm.opn; omega) sm.fail).mono fun a w' ⟨v, ha, st, k, l, m⟩ =>
      ⟨v, ha, ⟨w.heap.size, st, fun j hj => (h.pr.rk.ownLt (hj.of_block (h.pr.rOwn m r (.inl rfl)))).2, h.pr.xlt⟩, h.left k l m⟩
theorem scan_d (e : Nat) (v : Value) (ds : List (List UInt8)) (w : World) (h : Wb B d q r x ob C sd sr td tr w0 w) (sm : SmW sr tr i many) (hm : 1 ≤ many) (hi : i ≤ 1000) (fr : Far r x v ds w) :
    Calls Try.prog 15 #[ptr x, .int .u64 (e : Int)] w fun a w' => ∃ u A D, a = .returned (.tuple #[u, .int .i64 ((scanE sr tr e).2.2.2 : Int)]) ∧ Strs A w' v ds ∧ Strs D w' u (scanE sr tr e).2.2.1 ∧ Wb B d q r x ob C sd (scanE sr tr e).1 td ⟨tr.at_, tr.n, (scanE sr tr e).2.1⟩ w0 w' := by
  obtain ⟨A, st, ho, hxA⟩ := fr
  unfold scanE
  by_cases h0 : e = 0
  · subst h0
    rw [if_pos rfl]
    exact (scan_r0 w).mono fun a w' ⟨ha, hw⟩ => ⟨_, A, 0, ha, by subst hw; exact st, strs_nil _ _, by subst hw; exact h⟩
  · rw [if_neg h0]
    refine (scan_r e w h.pr.rl h.pr.rk (sm.fit hm).n1 (sm.fit hm).room (by omega) (by have := sm.reads; omega) (by have := sm.opn; omega) sm.fail).mono fun a w' ⟨u, ha, su, k, l, m⟩ => ⟨u, A, _, ha, strs_of st (fun g hg => ?_), su, h.right k l m⟩
    have hg' := strs_lt st hg
    exact m.block g hg'.2 (fun e => by have := ho g e; omega) (by omega)
theorem fail_p (n : Nat) (w : World) (h : Wb B d q r x ob C sd sr td tr w0 w) (hn : n < 1000) :
    Calls Try.prog 19 #[ptr d, .int .i64 (n : Int)] w fun a w' => a = .returned (.tuple #[]) ∧ Wb B d q r x ob C (Dk.failR sd (n : Int)) sr td tr w0 w' :=
  (Dk.fail_any B d sd (n : Int) w h.pr.dk (by omega)).mono fun a w' ⟨ha, k, m⟩ => ⟨ha, h.left k (h.pr.wl.disk h.pr.dk m) (.of_moved m)⟩
theorem Rl.disk {s : DS} {t : WS} {w w' : World} (h : Rl x r t w) (d : Rk B r s w) (m : Moved r w w') : Rl x r t w' := by
  obtain ⟨ep, ln, a, hs⟩ := h
  exact ⟨ep, ln, a.disk d m, hs⟩
theorem fail_d (n : Nat) (w : World) (h : Wb B d q r x ob C sd sr td tr w0 w) (hn : n < 1000) :
    Calls Try.prog 20 #[ptr r, .int .i64 (n : Int)] w fun a w' => a = .returned (.tuple #[]) ∧ Wb B d q r x ob C sd (Dk.failR sr (n : Int)) td tr w0 w' :=
  (Dk.fail_rf B r sr (n : Int) w h.pr.rk (by omega)).mono fun a w' ⟨ha, k, m⟩ => ⟨ha, h.right k (h.pr.rl.disk h.pr.rk m) (.of_moved m)⟩
theorem Fats.far {fo : Option Addr} {fs : List (Int × Int)} {w0 w : World} (hf : Fats fo fs w0) (hb : Below w0.heap.size w0 w) : Fats fo fs w := hf.of_blocks hb.size (fun k off e hk => hb.block k hk)
theorem crash_p (fo : Option Addr) (fs : List (Int × Int)) (fc : Nat) (w : World) (h : Wb w0.heap.size d q r x ob C sd sr td tr w0 w) (sm : SmW sd td i many) (hi : i ≤ 1000) (hf : Fats fo fs w0) (hl : fs.length ≤ 9223372036854775807) :
    Calls Try.prog 21 #[ptr d, .slice fo fs.length fc] w fun a w' => a = .returned (.int .i64 ((Dk.crashR sd fs).2 : Int)) ∧ Wb w0.heap.size d q r x ob C (Dk.crashR sd fs).1 sr td tr w0 w' := by
  refine (Dk.crash_any w0.heap.size d sd fo fs fc w h.pr.dk (Fats.far hf h.pr.below) (fun h0 k off e hk => ?_) (by have := sm.opn; omega) hl).mono fun a w' ⟨ha, k, m⟩ => ⟨ha, h.left k (h.pr.wl.disk h.pr.dk m) (.of_moved m)⟩
  obtain ⟨b, o, e2, hb, -⟩ := hf.2 h0
  rw [e] at e2
  simp at e2
  have := (h.pr.dk.ownLt hk).1
  omega
theorem crash_d (fo : Option Addr) (fs : List (Int × Int)) (fc : Nat) (w : World) (h : Wb w0.heap.size d q r x ob C sd sr td tr w0 w) (sm : SmW sr tr i many) (hi : i ≤ 1000) (hf : Fats fo fs w0) (hl : fs.length ≤ 9223372036854775807) :
    Calls Try.prog 22 #[ptr r, .slice fo fs.length fc] w fun a w' => a = .returned (.int .i64 ((Dk.crashR sr fs).2 : Int)) ∧ Wb w0.heap.size d q r x ob C sd (Dk.crashR sr fs).1 td tr w0 w' := by
  refine (Dk.crash_rf w0.heap.size r sr fo fs fc w h.pr.rk (Fats.far hf h.pr.below) (fun h0 k off e hk => ?_) (by have := sm.opn; omega) hl).mono fun a w' ⟨ha, k, m⟩ => ⟨ha, h.right k (h.pr.rl.disk h.pr.rk m) (.of_moved m)⟩
  obtain ⟨b, o, e2, hb, -⟩ := hf.2 h0
  rw [e] at e2
  simp at e2
  have := (h.pr.rk.ownLt hk).1
  omega
theorem left_p (w : World) (h : Wp B d q r x sd sr td tr w0 w) (sm : SmW sd td i many) (hm : 1 ≤ many) (hm2 : many ≤ 8) :
    Calls Try.prog 26 #[ptr q] w fun a w' => a = .returned (.int .i64 (leftOf td.n td.st : Int)) ∧ Below w.heap.size w w' :=
  left_any w h.wl (sm.fit hm).n1 (by have := sm.n; omega) sm.len
theorem left_d (w : World) (h : Wp B d q r x sd sr td tr w0 w) (sm : SmW sr tr i many) (hm2 : many ≤ 8) :
    Calls Try.prog 27 #[ptr x] w fun a w' => a = .returned (.int .i64 (leftOf tr.n tr.st : Int)) ∧ Below w.heap.size w w' :=
  (left_r w h.rl (by have := sm.n; omega) sm.len).mono fun a w' ⟨ha, n, hw⟩ => ⟨ha, by rw [hw]; exact below_drewN w n⟩
theorem len_p (w : World) (h : Wp B d q r x sd sr td tr w0 w) (hn : 1 ≤ td.n) :
    Calls Try.prog 28 #[ptr q] w fun a w' => a = .returned (.int .i64 (lenOf td.st : Int)) ∧ Below w.heap.size w w' :=
  len_any w h.wl hn
theorem many_d (w : World) (h : Wp B d q r x sd sr td tr w0 w) :
    Calls Try.prog 29 #[ptr x] w fun a w' => a = .returned (.int .i64 (lenOf tr.st : Int)) ∧ Below w.heap.size w w' :=
  (many_r w h.rl).mono fun a w' ⟨ha, hw⟩ => ⟨ha, by rw [hw]; exact Below.refl _ _⟩
theorem open_p (w : World) (h : Wp B d q r x sd sr td tr w0 w) :
    Calls Try.prog 30 #[ptr d] w fun a w' => a = .returned (.int .i64 (sd.opn.length : Int)) ∧ Below w.heap.size w w' :=
  (Dk.open_any B d sd w h.dk).mono fun a w' ⟨ha, hw⟩ => ⟨ha, by rw [hw]; exact Below.refl _ _⟩
theorem reads_p (w : World) (h : Wp B d q r x sd sr td tr w0 w) :
    Calls Try.prog 31 #[ptr d] w fun a w' => a = .returned (.int .i64 (sd.reads : Int)) ∧ Below w.heap.size w w' :=
  (Dk.reads_any B d sd w h.dk).mono fun a w' ⟨ha, hw⟩ => ⟨ha, by rw [hw]; exact Below.refl _ _⟩
/-- with what a law reads of the document's disk -/
structure Ws (B d q r x : Nat) (sd sr : DS) (td tr : WS) (pL : Option Addr) (oL capL : Nat) (rL : Int) (w0 w : World) : Prop where
  wp : Wp B d q r x sd sr td tr w0 w
  c1 : w.cell? ⟨r, 1, none⟩ = some (.slice pL oL capL)
  c3 : w.cell? ⟨r, 3, none⟩ = some (.int .i64 rL)
theorem Ws.call {pL : Option Addr} {oL capL : Nat} {rL : Int} {w' : World} (h : Ws B d q r x sd sr td tr pL oL capL rL w0 w) (b : Below w.heap.size w w') : Ws B d q r x sd sr td tr pL oL capL rL w0 w' :=
  ⟨h.wp.call b, by rw [b.cell (p := ⟨r, 1, none⟩) h.wp.rk.lt]; exact h.c1, by rw [b.cell (p := ⟨r, 3, none⟩) h.wp.rk.lt]; exact h.c3⟩
theorem Ws.drew {pL : Option Addr} {oL capL : Nat} {rL : Int} (h : Ws B d q r x sd sr td tr pL oL capL rL w0 w) : Ws B d q r x sd sr td tr pL oL capL rL w0 w.drew := h.call ⟨rfl, rfl, rfl, Nat.le_refl _, fun k _ => rfl⟩
theorem Wp.seen (h : Wp B d q r x sd sr td tr w0 w) : ∃ pL capL, Ws B d q r x sd sr td tr pL sr.opn.length capL (sr.reads : Int) w0 w := by
  have h' := h
  obtain ⟨vS, vL, rk⟩ := h'.rk
  obtain ⟨pL, capL, rfl, -, -⟩ := Dk.own_form rk.rowL
  exact ⟨pL, capL, h, by simpa using rk.c1, rk.c3⟩
end
/-- a script of steps that came in -/
structure StepAt (b o : Nat) (k n : Int) (t : ByteArray) (e : Nat) (near cr : Bool) (fo : Option Addr) (fs : List (Int × Int)) (fc : Nat) (w : World) : Prop where
  at_ : w.rangeAt b o (opW k n t e near cr (.slice fo fs.length fc))
  ik : Dk.In64 k
  i_n : Dk.In64 n
  ie : e < 18446744073709551616
  fats : Fats fo fs w
  len : fs.length ≤ 9223372036854775807
def Steps (ao : Option Addr) (len : Nat) (w : World) : Prop := 0 < len → ∃ b off, ao = some ⟨b, off, none⟩ ∧ b < w.heap.size ∧ ∀ i, i < len → ∃ k n t e near cr fo fs fc, StepAt b (off + i * 7) k n t e near cr fo fs fc w
theorem open_steps {H : Type} {enc : TypeId × Value → H} {W : World} {r : Reach} {b0 base : Nat} {spare : Nat → Bool} {held : Bool} {v : Value} {d : DataW H} {p : List MemPlace}
    (hok : Value.okWide Try.prog W r b0 22 v) (h : DataW.Trod enc Try.prog W base spare held 22 v d p) :
    ∃ ao len cap, v = .slice ao len cap ∧ len ≤ 9223372036854775807 ∧ Steps ao len W := by
  obtain ⟨ao, len, cap, rfl⟩ := okWide_slice Try.underlying22 hok
  obtain ⟨fuel, hf⟩ := h
  rcases Go.Deep.open_slice Try.underlying22 hf with ⟨hcs, hx⟩ | ⟨a, len', cap', m, n, D, Pl, hcs, _, hl, hm, hmm, hx, hi⟩
  · simp [Value.cells] at hcs
    obtain ⟨rfl, rfl, rfl⟩ := hcs
    exact ⟨none, 0, 0, rfl, by omega, fun h => by omega⟩
  · simp [Value.cells] at hcs
    obtain ⟨rfl, rfl, rfl⟩ := hcs
    have hml : len ≤ m := by rw [hmm]; split <;> omega
    have hC : Try.prog.cellsOf 35 = 7 := by kernel_rfl
    have c3 : Try.prog.cellsOf 3 = 1 := by kernel_rfl
    have c5 : Try.prog.cellsOf 32 = 1 := by kernel_rfl
    have c4 : Try.prog.cellsOf 4 = 1 := by kernel_rfl
    have c9 : Try.prog.cellsOf 9 = 1 := by kernel_rfl
    have c28 : Try.prog.cellsOf 33 = 1 := by kernel_rfl
    rw [hC] at hi
    refine ⟨some a, len, cap, rfl, by unfold maxLen at hm; omega, fun h0 => ?_⟩
    have key : ∀ i, i < len → ∃ (k q : Int) (t : ByteArray) (e : Nat) (near cr : Bool) (fo : Option Addr) (fs : List (Int × Int)) (fc : Nat), (∀ j v, (opW k q t e near cr (.slice fo fs.length fc))[j]? = some v → W.cell? ((a.add (i * 7)).add j) = some v) ∧ Dk.In64 k ∧ Dk.In64 q ∧ e < 18446744073709551616 ∧ Fats fo fs W ∧ fs.length ≤ 9223372036854775807 := by
      intro i hil
      obtain ⟨cs, hc, ht⟩ := hi i (by omega)
      obtain ⟨_, hcl, hat⟩ := World.cells?_some hc
      obtain ⟨ys, n', hn', hy, hlen, hyl, hfd⟩ := DataW.trod_struct Try.underlying35 ht
      have hy4 : ys.length = 7 := by rw [hyl]; rfl
      have g0 : DataW.trod enc Try.prog W base spare held n' 3 ((cs.drop 0).take (Try.prog.cellsOf 3)) = ys[0]? := hfd 0 _ rfl
      have g1 : DataW.trod enc Try.prog W base spare held n' 3 ((cs.drop 1).take (Try.prog.cellsOf 3)) = ys[1]? := hfd 1 _ rfl
      have g2 : DataW.trod enc Try.prog W base spare held n' 9 ((cs.drop 2).take (Try.prog.cellsOf 9)) = ys[2]? := hfd 2 _ rfl
      have g3 : DataW.trod enc Try.prog W base spare held n' 32 ((cs.drop 3).take (Try.prog.cellsOf 32)) = ys[3]? := hfd 3 _ rfl
      have g4 : DataW.trod enc Try.prog W base spare held n' 4 ((cs.drop 4).take (Try.prog.cellsOf 4)) = ys[4]? := hfd 4 _ rfl
      have g5 : DataW.trod enc Try.prog W base spare held n' 4 ((cs.drop 5).take (Try.prog.cellsOf 4)) = ys[5]? := hfd 5 _ rfl
      have g6 : DataW.trod enc Try.prog W base spare held n' 33 ((cs.drop 6).take (Try.prog.cellsOf 33)) = ys[6]? := hfd 6 _ rfl
      rw [c3, Dk.one_of (j := 0) (by omega), List.getElem?_eq_getElem (by omega)] at g0
      rw [c3, Dk.one_of (j := 1) (by omega), List.getElem?_eq_getElem (by omega)] at g1
      rw [c9, Dk.one_of (j := 2) (by omega), List.getElem?_eq_getElem (by omega)] at g2
      rw [c5, Dk.one_of (j := 3) (by omega), List.getElem?_eq_getElem (by omega)] at g3
      rw [c4, Dk.one_of (j := 4) (by omega), List.getElem?_eq_getElem (by omega)] at g4
      rw [c4, Dk.one_of (j := 5) (by omega), List.getElem?_eq_getElem (by omega)] at g5
      rw [c28, Dk.one_of (j := 6) (by omega), List.getElem?_eq_getElem (by omega)] at g6
      obtain ⟨k, e0, -, wk⟩ := DataW.trod_int Try.underlying3 g0
      obtain ⟨q, e1, -, wq⟩ := DataW.trod_int Try.underlying3 g1
      obtain ⟨t, e2, -, -⟩ := DataW.trod_string Try.underlying9 g2
      obtain ⟨c, e3, -, wc⟩ := DataW.trod_int Try.underlying32 g3
      obtain ⟨raw, e4, -⟩ := DataW.trod_bool Try.underlying4 g4
      obtain ⟨fl, e5, -⟩ := DataW.trod_bool Try.underlying4 g5
      obtain ⟨fo, fs, fc, e6, hfl, hfa⟩ := Dk.fates_of2 g6
      have hcb : 0 ≤ c ∧ c < 18446744073709551616 := by simp [Lit.wf, IntKind.min, IntKind.max, IntKind.bits, IntKind.signed] at wc; omega
      obtain ⟨cc, rfl⟩ : ∃ cc : Nat, c = (cc : Int) := ⟨c.toNat, by omega⟩
      have ecs : cs = opW k q t cc raw fl (.slice fo fs.length fc) := by
        apply List.ext_getElem
        · rw [hcl]; rfl
        · intro j h1 h2
          have h3 : j < 7 := by rw [hcl] at h1; exact h1
          have : j = 0 ∨ j = 1 ∨ j = 2 ∨ j = 3 ∨ j = 4 ∨ j = 5 ∨ j = 6 := by omega
          rcases this with rfl | rfl | rfl | rfl | rfl | rfl | rfl
          · simpa [opW] using e0
          · simpa [opW] using e1
          · simpa [opW] using e2
          · simpa [opW] using e3
          · simpa [opW] using e4
          · simpa [opW] using e5
          · simpa [opW] using e6
      refine ⟨k, q, t, cc, raw, fl, fo, fs, fc, fun j v hv => ?_, Dk.in64_wf wk, Dk.in64_wf wq, by omega, hfa, hfl⟩
      rw [← ecs] at hv
      have hj : j < 7 := by have := (List.getElem?_eq_some_iff.1 hv).1; rw [hcl] at this; exact this
      rw [hat j hj]; exact hv
    obtain ⟨b, off, spot⟩ := a
    obtain ⟨k0, q0, t0, e0, r0, f0, fo0, fs0, fc0, h00, _⟩ := key 0 h0
    have h01 := h00 0 _ rfl
    have hspot : spot = none := by simpa [Addr.add] using World.cell?_spot h01
    subst hspot
    refine ⟨b, off, rfl, World.block_lt_of_cell? _ _ h01, fun i hi => ?_⟩
    obtain ⟨k, q, t, e, near, cr, fo, fs, fc, h1, h2, h3, h4, h5, h6⟩ := key i hi
    refine ⟨k, q, t, e, near, cr, fo, fs, fc, fun j v hv => ?_, h2, h3, h4, h5, h6⟩
    have := h1 j v hv
    rw [Dk.addr_add, Dk.addr_add] at this
    exact this
end Go.Proofs.Ytcbemjckcmcelaa.Wl
