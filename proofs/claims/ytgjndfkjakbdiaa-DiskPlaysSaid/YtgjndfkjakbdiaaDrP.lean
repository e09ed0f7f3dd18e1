/- A disk and the document's, side by side; how a script of steps is opened. -/
import Derived.Test.YtgjndfkjakbdiaaDrN
namespace Go.Proofs.Ytgjndfkjakbdiaa.Dk
open Go.ChangeShapes Go.WideShapes Go.ChangeAt Go.RowKit Go.Joins
set_option linter.unusedVariables false
set_option linter.unusedSimpArgs false
theorem Rk.keep {B b : Nat} {s : DS} {w w' : World} (h : Rk B b s w) (m : Moved b w w') {k : Nat} {cs : Array Value} {T : TypeId} {fz : Nat × Nat} (hk : w.heap[k]? = some (.cells cs T fz)) (h1 : T ≠ 43) (h2 : T ≠ 9) (h3 : T ≠ 65) : w'.heap[k]? = some (.cells cs T fz) := by
  obtain ⟨vS, vL, h⟩ := h
  rw [m.block k (lt_of_heap hk) ?_]
  · exact hk
  · intro e
    rcases h.owns.1 e with rfl | e | e
    · have := h.blk; rw [hk] at this; simp only [Option.some.injEq, Obj.cells.injEq] at this; exact h1 this.2.1
    · obtain ⟨c, hc⟩ := own_block h.rowS e; rw [hk] at hc; simp only [Option.some.injEq, Obj.cells.injEq] at hc; exact h2 hc.2.1
    · obtain ⟨c, hc⟩ := own_block h.rowL e; rw [hk] at hc; simp only [Option.some.injEq, Obj.cells.injEq] at hc; exact h3 hc.2.1
/-- a disk at d, the document's at r, and nothing shared -/
structure Pr (B d r : Nat) (sd sr : DS) (w0 w : World) : Prop where
  dk : Dk B d sd w
  rk : Rk B r sr w
  apt : Apt w d r
  below : Below B w0 w
section
variable {B d r : Nat} {sd sr s' : DS} {w0 w w' : World}
theorem Pr.left (h : Pr B d r sd sr w0 w) (k : Dk B d s' w') (m : Moved d w w') : Pr B d r s' sr w0 w' :=
  ⟨k, h.rk.moved m (fun k hk hc => h.apt k hc hk), h.apt.moved m (fun k hk => (h.rk.ownLt hk).2), h.below.trans (h.dk.below m)⟩
theorem Pr.right (h : Pr B d r sd sr w0 w) (k : Rk B r s' w') (m : Moved r w w') : Pr B d r sd s' w0 w' :=
  ⟨h.dk.moved m h.apt, k, (h.apt.symm.moved m (fun k hk => (h.dk.ownLt hk).2)).symm, h.below.trans (h.rk.below m)⟩
theorem Pr.call (h : Pr B d r sd sr w0 w) (b : Below w.heap.size w w') : Pr B d r sd sr w0 w' :=
  ⟨h.dk.call b, h.rk.call b, h.apt.call b h.dk.lt h.rk.lt, h.below.trans (b.mono h.dk.le)⟩
theorem Pr.drewN (h : Pr B d r sd sr w0 w) (n : Nat) : Pr B d r sd sr w0 (w.drewN n) := by
  have hh : (w.drewN n).heap = w.heap := by simp
  exact h.call ⟨rfl, rfl, rfl, by rw [hh]; exact Nat.le_refl _, fun k _ => by rw [hh]⟩
theorem Pr.drew (h : Pr B d r sd sr w0 w) : Pr B d r sd sr w0 w.drew := h.call ⟨rfl, rfl, rfl, Nat.le_refl _, fun k _ => rfl⟩
end
/-- with a block of the law's own: the step that is done -/
structure Pl (B d r ob : Nat) (C : Array Value) (sd sr : DS) (w0 w : World) : Prop where
  pr : Pr B d r sd sr w0 w
  blk : w.heap[ob]? = some (.cells C 30 (0, 0))
section
variable {B d r ob : Nat} {C : Array Value} {sd sr s' : DS} {w0 w w' : World}
theorem Pl.left (h : Pl B d r ob C sd sr w0 w) (k : Dk B d s' w') (m : Moved d w w') : Pl B d r ob C s' sr w0 w' := ⟨h.pr.left k m, h.pr.dk.keep m h.blk (by decide) (by decide) (by decide)⟩
theorem Pl.right (h : Pl B d r ob C sd sr w0 w) (k : Rk B r s' w') (m : Moved r w w') : Pl B d r ob C sd s' w0 w' := ⟨h.pr.right k m, h.pr.rk.keep m h.blk (by decide) (by decide) (by decide)⟩
theorem Pl.call (h : Pl B d r ob C sd sr w0 w) (b : Below w.heap.size w w') : Pl B d r ob C sd sr w0 w' := ⟨h.pr.call b, by rw [b.block ob (lt_of_heap h.blk)]; exact h.blk⟩
theorem Pl.drew (h : Pl B d r ob C sd sr w0 w) : Pl B d r ob C sd sr w0 w.drew := h.call ⟨rfl, rfl, rfl, Nat.le_refl _, fun k _ => rfl⟩
theorem Pl.cell (h : Pl B d r ob C sd sr w0 w) (j : Nat) : w.cell? ⟨ob, j, none⟩ = C[j]? := Lib.cell_of_heap h.blk j
end
/-- so few writes are open, so few reads were, and so on -/
structure Small (s : DS) (i many : Nat) : Prop where
  sec : s.sec.length = many
  opn : s.opn.length ≤ i
  reads : s.reads ≤ i
  fail : s.fail < 9223372036854775808
theorem Small.read {s : DS} {i many : Nat} (h : Small s i many) (a : Int) : Small (readR s a).1 (i + 1) many := by
  obtain ⟨h1, h2, h3, h4⟩ := h
  unfold readR
  split
  · split
    · exact ⟨h1, by show s.opn.length ≤ _; omega, by show s.reads + 1 ≤ _; omega, by show 0 < _; omega⟩
    · exact ⟨h1, by show s.opn.length ≤ _; omega, by show s.reads + 1 ≤ _; omega, by show s.fail - 1 < _; omega⟩
  · exact ⟨h1, by show s.opn.length ≤ _; omega, by show s.reads ≤ _; omega, h4⟩
theorem Small.write {s : DS} {i many : Nat} (h : Small s i many) (a : Int) (t : List UInt8) : Small (writeR s a t).1 (i + 1) many := by
  obtain ⟨h1, h2, h3, h4⟩ := h
  unfold writeR
  split
  · split
    · exact ⟨h1, by show s.opn.length ≤ _; omega, by show s.reads ≤ _; omega, by show 0 < _; omega⟩
    · exact ⟨h1, by show (s.opn ++ [_]).length ≤ _; simp; omega, by show s.reads ≤ _; omega, by show s.fail - 1 < _; omega⟩
  · exact ⟨h1, by show s.opn.length ≤ _; omega, by show s.reads ≤ _; omega, h4⟩
theorem Small.flush {s : DS} {i many : Nat} (h : Small s i many) : Small (flushR s).1 (i + 1) many := by
  obtain ⟨h1, h2, h3, h4⟩ := h
  unfold flushR
  split
  · exact ⟨h1, by show s.opn.length ≤ _; omega, by show s.reads ≤ _; omega, by show 0 < _; omega⟩
  · exact ⟨by show (flushedS s).length = _; unfold flushedS; rw [laid_length]; exact h1, by show 0 ≤ _; omega, by show s.reads ≤ _; omega, by show s.fail - 1 < _; omega⟩
theorem Small.failed {s : DS} {i many : Nat} (h : Small s i many) {n : Int} (hn : In64 n) : Small (failR s n) (i + 1) many := by
  obtain ⟨h1, h2, h3, h4⟩ := h
  exact ⟨h1, by show s.opn.length ≤ _; omega, by show s.reads ≤ _; omega, by show n.toNat < _; unfold In64 at hn; omega⟩
theorem Small.crash {s : DS} {i many : Nat} (h : Small s i many) (fs : List (Int × Int)) : Small (crashR s fs).1 (i + 1) many := by
  obtain ⟨h1, h2, h3, h4⟩ := h
  exact ⟨by show (crashedS s fs).length = _; unfold crashedS; rw [laid_length]; exact h1, by show 0 ≤ _; omega, by show 0 ≤ _; omega, by show 0 < _; omega⟩
theorem Small.idle {s : DS} {i many : Nat} (h : Small s i many) : Small s (i + 1) many := ⟨h.sec, by have := h.opn; omega, by have := h.reads; omega, h.fail⟩
/-- a step's cells -/
def opC (k a : Int) (c : UInt8) (raw fl : Bool) (t : ByteArray) (n : Int) (v : Value) : List Value := [.int .i64 k, .int .i64 a, .int .u8 (c.toNat : Int), .bool raw, .bool fl, .string t, .int .i64 n, v]
structure OpAt (b o : Nat) (k a : Int) (c : UInt8) (raw fl : Bool) (t : ByteArray) (n : Int) (fo : Option Addr) (fs : List (Int × Int)) (fc : Nat) (w : World) : Prop where
  at_ : w.rangeAt b o (opC k a c raw fl t n (.slice fo fs.length fc))
  ik : In64 k
  ia : In64 a
  i_n : In64 n
  fats : Fats fo fs w
  len : fs.length ≤ 9223372036854775807
def Ops (ao : Option Addr) (len : Nat) (w : World) : Prop := 0 < len → ∃ b off, ao = some ⟨b, off, none⟩ ∧ b < w.heap.size ∧ ∀ i, i < len → ∃ k a c raw fl t n fo fs fc, OpAt b (off + i * 8) k a c raw fl t n fo fs fc w
theorem fates_of2 {H : Type} {enc : TypeId × Value → H} {W : World} {base : Nat} {spare : Nat → Bool} {held : Bool} {v : Value} {fuel : Nat} {x : DataW H × List MemPlace}
    (hf : DataW.trod enc Try.prog W base spare held fuel 28 [v] = some x) : ∃ ao fs fc, v = .slice ao (fs : List (Int × Int)).length fc ∧ fs.length ≤ 9223372036854775807 ∧ Fats ao fs W := by
  obtain ⟨ao, len, cap, rfl⟩ : ∃ ao len cap, v = .slice ao len cap := by
    rcases Go.Deep.open_slice Try.underlying28 hf with ⟨hcs, hx⟩ | ⟨a, len', cap', m, n, D, Pl, hcs, _⟩
    · simp at hcs; exact ⟨none, 0, 0, hcs⟩
    · simp at hcs; exact ⟨some a, len', cap', hcs⟩
  obtain ⟨fs, rfl, h1, h2⟩ := fates_of hf
  exact ⟨ao, fs, cap, rfl, h1, h2⟩
theorem open_ops {H : Type} {enc : TypeId × Value → H} {W : World} {r : Reach} {b0 base : Nat} {spare : Nat → Bool} {held : Bool} {v : Value} {d : DataW H} {p : List MemPlace}
    (hok : Value.okWide Try.prog W r b0 22 v) (h : DataW.Trod enc Try.prog W base spare held 22 v d p) :
    ∃ ao len cap, v = .slice ao len cap ∧ len ≤ 9223372036854775807 ∧ Ops ao len W := by
  obtain ⟨ao, len, cap, rfl⟩ := okWide_slice Try.underlying22 hok
  obtain ⟨fuel, hf⟩ := h
  rcases Go.Deep.open_slice Try.underlying22 hf with ⟨hcs, hx⟩ | ⟨a, len', cap', m, n, D, Pl, hcs, _, hl, hm, hmm, hx, hi⟩
  · simp [Value.cells] at hcs
    obtain ⟨rfl, rfl, rfl⟩ := hcs
    exact ⟨none, 0, 0, rfl, by omega, fun h => by omega⟩
  · simp [Value.cells] at hcs
    obtain ⟨rfl, rfl, rfl⟩ := hcs
    have hml : len ≤ m := by rw [hmm]; split <;> omega
    have hC : Try.prog.cellsOf 30 = 8 := by kernel_rfl
    have c3 : Try.prog.cellsOf 3 = 1 := by kernel_rfl
    have c5 : Try.prog.cellsOf 5 = 1 := by kernel_rfl
    have c4 : Try.prog.cellsOf 4 = 1 := by kernel_rfl
    have c9 : Try.prog.cellsOf 9 = 1 := by kernel_rfl
    have c28 : Try.prog.cellsOf 28 = 1 := by kernel_rfl
    rw [hC] at hi
    refine ⟨some a, len, cap, rfl, by unfold maxLen at hm; omega, fun h0 => ?_⟩
    have key : ∀ i, i < len → ∃ (k q : Int) (c : UInt8) (raw fl : Bool) (t : ByteArray) (nn : Int) (fo : Option Addr) (fs : List (Int × Int)) (fc : Nat), (∀ j v, (opC k q c raw fl t nn (.slice fo fs.length fc))[j]? = some v → W.cell? ((a.add (i * 8)).add j) = some v) ∧ In64 k ∧ In64 q ∧ In64 nn ∧ Fats fo fs W ∧ fs.length ≤ 9223372036854775807 := by
      intro i hil
      obtain ⟨cs, hc, ht⟩ := hi i (by omega)
      obtain ⟨_, hcl, hat⟩ := World.cells?_some hc
      obtain ⟨ys, n', hn', hy, hlen, hyl, hfd⟩ := DataW.trod_struct Try.underlying30 ht
      have hy4 : ys.length = 8 := by rw [hyl]; rfl
      have g0 : DataW.trod enc Try.prog W base spare held n' 3 ((cs.drop 0).take (Try.prog.cellsOf 3)) = ys[0]? := hfd 0 _ rfl
      have g1 : DataW.trod enc Try.prog W base spare held n' 3 ((cs.drop 1).take (Try.prog.cellsOf 3)) = ys[1]? := hfd 1 _ rfl
      have g2 : DataW.trod enc Try.prog W base spare held n' 5 ((cs.drop 2).take (Try.prog.cellsOf 5)) = ys[2]? := hfd 2 _ rfl
      have g3 : DataW.trod enc Try.prog W base spare held n' 4 ((cs.drop 3).take (Try.prog.cellsOf 4)) = ys[3]? := hfd 3 _ rfl
      have g4 : DataW.trod enc Try.prog W base spare held n' 4 ((cs.drop 4).take (Try.prog.cellsOf 4)) = ys[4]? := hfd 4 _ rfl
      have g5 : DataW.trod enc Try.prog W base spare held n' 9 ((cs.drop 5).take (Try.prog.cellsOf 9)) = ys[5]? := hfd 5 _ rfl
      have g6 : DataW.trod enc Try.prog W base spare held n' 3 ((cs.drop 6).take (Try.prog.cellsOf 3)) = ys[6]? := hfd 6 _ rfl
      have g7 : DataW.trod enc Try.prog W base spare held n' 28 ((cs.drop 7).take (Try.prog.cellsOf 28)) = ys[7]? := hfd 7 _ rfl
      rw [c3, one_of (j := 0) (by omega), List.getElem?_eq_getElem (by omega)] at g0
      rw [c3, one_of (j := 1) (by omega), List.getElem?_eq_getElem (by omega)] at g1
      rw [c5, one_of (j := 2) (by omega), List.getElem?_eq_getElem (by omega)] at g2
      rw [c4, one_of (j := 3) (by omega), List.getElem?_eq_getElem (by omega)] at g3
      rw [c4, one_of (j := 4) (by omega), List.getElem?_eq_getElem (by omega)] at g4
      rw [c9, one_of (j := 5) (by omega), List.getElem?_eq_getElem (by omega)] at g5
      rw [c3, one_of (j := 6) (by omega), List.getElem?_eq_getElem (by omega)] at g6
      rw [c28, one_of (j := 7) (by omega), List.getElem?_eq_getElem (by omega)] at g7
      obtain ⟨k, e0, -, wk⟩ := DataW.trod_int Try.underlying3 g0
      obtain ⟨q, e1, -, wq⟩ := DataW.trod_int Try.underlying3 g1
      obtain ⟨c, e2, -, wc⟩ := DataW.trod_int Try.underlying5 g2
      obtain ⟨raw, e3, -⟩ := DataW.trod_bool Try.underlying4 g3
      obtain ⟨fl, e4, -⟩ := DataW.trod_bool Try.underlying4 g4
      obtain ⟨t, e5, -, -⟩ := DataW.trod_string Try.underlying9 g5
      obtain ⟨nn, e6, -, wn⟩ := DataW.trod_int Try.underlying3 g6
      obtain ⟨fo, fs, fc, e7, hfl, hfa⟩ := fates_of2 g7
      have hcb : 0 ≤ c ∧ c < 256 := by simp [Lit.wf, IntKind.min, IntKind.max, IntKind.bits, IntKind.signed] at wc; omega
      obtain ⟨cc, hcc⟩ : ∃ cc : UInt8, (cc.toNat : Int) = c := ⟨UInt8.ofNat c.toNat, by rw [UInt8.toNat_ofNat']; omega⟩
      have ecs : cs = opC k q cc raw fl t nn (.slice fo fs.length fc) := by
        apply List.ext_getElem
        · rw [hcl]; rfl
        · intro j h1 h2
          have h3 : j < 8 := by rw [hcl] at h1; exact h1
          have : j = 0 ∨ j = 1 ∨ j = 2 ∨ j = 3 ∨ j = 4 ∨ j = 5 ∨ j = 6 ∨ j = 7 := by omega
          rcases this with rfl | rfl | rfl | rfl | rfl | rfl | rfl | rfl
          · simpa [opC] using e0
          · simpa [opC] using e1
          · simpa [opC, hcc] using e2
          · simpa [opC] using e3
          · simpa [opC] using e4
          · simpa [opC] using e5
          · simpa [opC] using e6
          · simpa [opC] using e7
      refine ⟨k, q, cc, raw, fl, t, nn, fo, fs, fc, fun j v hv => ?_, in64_wf wk, in64_wf wq, in64_wf wn, hfa, hfl⟩
      rw [← ecs] at hv
      have hj : j < 8 := by have := (List.getElem?_eq_some_iff.1 hv).1; rw [hcl] at this; exact this
      rw [hat j hj]; exact hv
    obtain ⟨b, off, spot⟩ := a
    obtain ⟨k0, q0, c0, r0, f0, t0, n0, fo0, fs0, fc0, h00, _⟩ := key 0 h0
    have h01 := h00 0 _ rfl
    have hspot : spot = none := by simpa [Addr.add] using World.cell?_spot h01
    subst hspot
    refine ⟨b, off, rfl, World.block_lt_of_cell? _ _ h01, fun i hi => ?_⟩
    obtain ⟨k, q, c, raw, fl, t, nn, fo, fs, fc, h1, h2, h3, h4, h5, h6⟩ := key i hi
    refine ⟨k, q, c, raw, fl, t, nn, fo, fs, fc, fun j v hv => ?_, h2, h3, h4, h5, h6⟩
    have := h1 j v hv
    rw [addr_add, addr_add] at this
    exact this
end Go.Proofs.Ytgjndfkjakbdiaa.Dk
