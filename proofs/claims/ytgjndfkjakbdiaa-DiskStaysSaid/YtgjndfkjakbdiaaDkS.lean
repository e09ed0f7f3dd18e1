/- What a crash makes of sectors: a beginning of a write of it, and then what it was ahead. -/
import Derived.Test.YtgjndfkjakbdiaaDkT
namespace Go.Proofs.Ytgjndfkjakbdiaa.Dk
open Go.ChangeShapes Go.WideShapes Go.ChangeAt Go.RowKit Go.Joins
set_option linter.unusedVariables false
set_option linter.unusedSimpArgs false
/-- the first m bytes are of writes, the others are as they were -/
def Shape (l : UInt8) (x : List UInt8) : Prop := ∃ m : Nat, m ≤ 64 ∧ x.length = 64 ∧ (∀ j (h : j < x.length), j < m → 100 ≤ (x[j]).toNat) ∧ (∀ j (h : j < x.length), m ≤ j → x[j] = l)
theorem shape_rep (l : UInt8) : Shape l (List.replicate 64 l) := ⟨0, by omega, by simp, fun j h hj => by omega, fun j h _ => List.getElem_replicate _⟩
theorem shape_put {l c : UInt8} {x : List UInt8} {k : Nat} (h : Shape l x) (hc : 100 ≤ c.toNat) (hk : k ≤ 64) : Shape l ((List.replicate 64 c).take k ++ x.drop k) := by
  obtain ⟨m, hm, hl, h1, h2⟩ := h
  have e : (List.replicate 64 c).take k = List.replicate k c := by rw [List.take_replicate, Nat.min_eq_left hk]
  rw [e]
  refine ⟨max k m, by omega, by simp; omega, fun j hj hlt => ?_, fun j hj hge => ?_⟩
  · by_cases hjk : j < k
    · rw [List.getElem_append_left (by simpa using hjk)]
      simpa using hc
    · rw [List.getElem_append_right (by simpa using hjk)]
      simp only [List.getElem_drop, List.length_replicate]
      have hj2 : k + (j - k) < x.length := by simp at hj; omega
      have := h1 (k + (j - k)) hj2 (by omega)
      exact this
  · rw [List.getElem_append_right (by simp; omega)]
    simp only [List.getElem_drop, List.length_replicate]
    exact h2 (k + (j - k)) (by simp at hj; omega) (by omega)
/-- of each sector behind a crash: its shape; and where nothing was written, itself -/
theorem laid_shape {S : List (List UInt8)} {O : List (Nat × List UInt8)} {k : Nat → Nat} {la : List UInt8} (hla : la.length = S.length) (hS : ∀ j (h : j < S.length), S[j] = List.replicate 64 (la[j]'(by omega))) (hO : ∀ p ∈ O, ∃ c : UInt8, p.2 = List.replicate 64 c ∧ 100 ≤ c.toNat) (hk : ∀ i, k i ≤ 64) (n : Nat) (j : Nat) (hj : j < S.length) :
    ∃ x, (laid S O k n)[j]? = some x ∧ Shape (la[j]'(by omega)) x ∧ ((∀ p ∈ O, p.1 ≠ j) → x = S[j]) := by
  induction n with
  | zero => exact ⟨S[j], by simp [laid, hj], by rw [hS j hj]; exact shape_rep _, fun _ => rfl⟩
  | succ n ih =>
    obtain ⟨x, hx, hs, hn⟩ := ih
    simp only [laid]
    split
    · rename_i p hp
      have hm := List.mem_of_getElem? hp
      have hj' : j < (laid S O k n).length := by rw [laid_length]; exact hj
      have ex : (laid S O k n)[j] = x := by rw [List.getElem?_eq_getElem hj'] at hx; exact Option.some.inj hx
      rw [putS_get _ _ _ _ _ hj', ex]
      refine ⟨_, rfl, ?_, fun hne => ?_⟩
      · split
        · obtain ⟨c, hc, h100⟩ := hO p hm
          rw [hc]
          exact shape_put hs h100 (hk n)
        · exact hs
      · rw [if_neg (hne p hm)]; exact hn hne
    · exact ⟨x, hx, hs, hn⟩
/-- a row of values of the law's own -/
def RowV (w : World) (g : Nat) (T : TypeId) (cs : List Value) : Prop := w.heap[g]? = some (.cells cs.toArray T (0, 0))
theorem RowV.lt {w : World} {g : Nat} {T : TypeId} {cs : List Value} (h : RowV w g T cs) : g < w.heap.size := lt_of_heap h
theorem RowV.cell {w : World} {g : Nat} {T : TypeId} {cs : List Value} (h : RowV w g T cs) {j : Nat} (hj : j < cs.length) : w.cell? ⟨g, j, none⟩ = some cs[j] := by
  rw [Lib.cell_of_heap h, List.getElem?_toArray, List.getElem?_eq_getElem hj]
theorem RowV.frozen {w : World} {g : Nat} {T : TypeId} {cs : List Value} (h : RowV w g T cs) (j : Nat) : w.frozen? ⟨g, j, none⟩ = false := by unfold RowV at h; simp [World.frozen?, h]
theorem RowV.of_block {w w' : World} {g : Nat} {T : TypeId} {cs : List Value} (h : RowV w g T cs) (e : w'.heap[g]? = w.heap[g]?) : RowV w' g T cs := by unfold RowV at *; rw [e]; exact h
theorem RowV.call {w w' : World} {g : Nat} {T : TypeId} {cs : List Value} (h : RowV w g T cs) (hb : Below w.heap.size w w') : RowV w' g T cs := h.of_block (hb.block g h.lt)
theorem RowV.set {w : World} {g : Nat} {T : TypeId} {cs : List Value} (h : RowV w g T cs) (j : Nat) (v : Value) : RowV (w.setCell ⟨g, j, none⟩ v) g T (cs.set j v) := by
  unfold RowV at *
  rw [setCell_eq_setRow w g j _ T (0, 0) _ h]
  have : cs.toArray.setIfInBounds j v = (cs.set j v).toArray := by simp
  rw [this]
  exact setRow_heap _ _ _ _ _ _ h
theorem RowV.disk {B b : Nat} {s : DS} {w w' : World} {q : Nat} {cs : List Value} (h : RowV w q 47 cs) (k : Dk B b s w) (m : Moved b w w') : RowV w' q 47 cs :=
  k.keep m h (by decide) (by decide) (by decide)
theorem Dk.notOwnV {B b q : Nat} {s : DS} {w : World} {cs : List Value} (h : Dk B b s w) (r : RowV w q 47 cs) : ¬ Own w b q := by
  obtain ⟨g, u, h⟩ := h
  exact h.keepT r (by decide) (by decide) (by decide)
def bools (l : List Bool) : List Value := l.map Value.bool
theorem bools_set (l : List Bool) (j : Nat) (b : Bool) : (bools l).set j (.bool b) = bools (l.set j b) := by simp [bools, List.map_set]
theorem bools_len (l : List Bool) : (bools l).length = l.length := by simp [bools]
/-- a law's first writes: what a disk says, and what the law knows of it -/
structure In (B d q : Nat) (w : World) (i r : Nat) (la : List UInt8) (s : DS) (wx : World) : Prop where
  dk : Dk B d s wx
  row : RowB wx q 46 la
  len : la.length = 4
  sec : s.sec.length = 4
  fail : s.fail = 0
  opn : s.opn.length ≤ i
  reads : s.reads ≤ r
  small : ∀ x ∈ la, x.toNat ≤ 12
  says : ∀ k (h : k < la.length), newestOf s k = List.replicate 64 la[k]
  below : Below B w wx
theorem In.write {B d q : Nat} {w wx wf wg : World} {i r a : Nat} {la : List UInt8} {s : DS} {c : UInt8} {x : Int} (h : In B d q w i r la s wx) (ha : a < 4) (hc : c.toNat ≤ 12) (hq : B ≤ q) (hx : x = (c.toNat : Int)) (bf : Below wx.heap.size (wx.setCell ⟨q, a, none⟩ (.int .u8 x)) wf) (kg : Dk B d (wroteS s a (List.replicate 64 c)) wg) (m : Moved d wf wg) : In B d q w (i + 1) r (la.set a c) (wroteS s a (List.replicate 64 c)) wg := by
  have k1 := h.dk.setOther (v := .int .u8 x) (o := a) (h.dk.notOwn h.row)
  have r1 : RowB (wx.setCell ⟨q, a, none⟩ (.int .u8 x)) q 46 (la.set a c) := h.row.set hx
  have b1 : Below (wx.setCell ⟨q, a, none⟩ (.int .u8 x)).heap.size (wx.setCell ⟨q, a, none⟩ (.int .u8 x)) wf := by simpa [World.setCell] using bf
  have k2 := k1.call b1
  have r2 := r1.call b1
  refine ⟨kg, r2.disk k2 m, by simp [h.len], h.sec, rfl, by show (s.opn ++ [_]).length ≤ _; simp; exact h.opn, h.reads, fun y hy => ?_, fun k hk => ?_, ((h.below.setCell hq _).trans (b1.mono k1.le)).trans (k2.below m)⟩
  · rcases List.mem_or_eq_of_mem_set hy with e | rfl
    · exact h.small y e
    · exact hc
  · rw [newest_wrote, List.getElem_set]
    have hk' : k < la.length := by simpa using hk
    by_cases e : a = k
    · rw [if_pos e, if_pos e]
    · rw [if_neg e, if_neg e]; exact h.says k hk'
/-- behind the flush: the sectors lie as S tells; what was written since is known -/
structure In2 (B d q p : Nat) (w : World) (i : Nat) (la : List UInt8) (S : List (List UInt8)) (ov : List Bool) (s : DS) (wx : World) : Prop where
  dk : Dk B d s wx
  row : RowB wx q 46 la
  rov : RowV wx p 47 (bools ov)
  len : la.length = 4
  lov : ov.length = 4
  lS : S.length = 4
  sec : s.sec = S
  fail : s.fail = 0
  opn : s.opn.length ≤ i
  puts : ∀ x ∈ s.opn, x.1 < 4 ∧ ov[x.1]? = some true ∧ ∃ c : UInt8, x.2 = List.replicate 64 c ∧ 100 ≤ c.toNat
  small : ∀ x ∈ la, x.toNat ≤ 12
  says : ∀ k (h : k < S.length) (h' : k < la.length), S[k] = List.replicate 64 la[k]
  below : Below B w wx
theorem In.flush {B d q p : Nat} {w wx wg : World} {i r : Nat} {la : List UInt8} {s : DS} (h : In B d q w i r la s wx) (kg : Dk B d (flushS s) wg) (m : Moved d wx wg) (hp : p = wg.heap.size) :
    In2 B d q p w 0 la (flushS s).sec [false, false, false, false] (flushS s) (wg.alloc (.cells #[.bool false, .bool false, .bool false, .bool false] 47)) := by
  subst hp
  have hb : Below wg.heap.size wg (wg.alloc (.cells #[.bool false, .bool false, .bool false, .bool false] 47)) := (Below.refl _ _).alloc (Nat.le_refl _) _
  refine ⟨kg.call hb, (h.row.disk h.dk m).call hb, heap_alloc_new _ _, h.len, rfl, by rw [flushS_len]; exact h.sec, rfl, rfl, by show 0 ≤ 0; omega, fun x hx => (by cases hx), h.small, fun k hk hk' => ?_, (h.below.trans (h.dk.below m)).trans (hb.mono (Nat.le_trans h.dk.le m.size))⟩
  have := newest_flushed h.dk.ok (k := k) (by rw [h.sec]; have := h.len; omega)
  rw [h.says k hk'] at this
  rw [← this]
  unfold newestOf
  show _ = (lastOf [] k).getD ((flushS s).sec[k]?.getD [])
  simp [lastOf, hk]
theorem In2.write {B d q p : Nat} {w wx wf wg : World} {i a : Nat} {la : List UInt8} {S : List (List UInt8)} {ov : List Bool} {s : DS} {c : UInt8} (h : In2 B d q p w i la S ov s wx) (ha : a < 4) (hc : 100 ≤ c.toNat) (hp : B ≤ p) (bf : Below wx.heap.size (wx.setCell ⟨p, a, none⟩ (.bool true)) wf) (kg : Dk B d (wroteS s a (List.replicate 64 c)) wg) (m : Moved d wf wg) : In2 B d q p w (i + 1) la S (ov.set a true) (wroteS s a (List.replicate 64 c)) wg := by
  have k1 := h.dk.setOther (v := .bool true) (o := a) (h.dk.notOwnV h.rov)
  have ne : q ≠ p := fun e => by
    have h1 := h.row; have h2 := h.rov
    unfold RowB at h1; unfold RowV at h2
    rw [e, h2] at h1
    simp only [Option.some.injEq, Obj.cells.injEq] at h1
    exact absurd h1.2.1 (by decide)
  have r1 : RowB (wx.setCell ⟨p, a, none⟩ (.bool true)) q 46 la := h.row.of_block (Below.heap_setCell _ _ _ _ ne)
  have v1 : RowV (wx.setCell ⟨p, a, none⟩ (.bool true)) p 47 (bools (ov.set a true)) := by rw [← bools_set]; exact h.rov.set a _
  have b1 : Below (wx.setCell ⟨p, a, none⟩ (.bool true)).heap.size (wx.setCell ⟨p, a, none⟩ (.bool true)) wf := by simpa [World.setCell] using bf
  have k2 := k1.call b1
  have r2 := r1.call b1
  have v2 := v1.call b1
  refine ⟨kg, r2.disk k2 m, v2.disk k2 m, h.len, by simp [h.lov], h.lS, h.sec, rfl, by show (s.opn ++ [_]).length ≤ _; simp; exact h.opn, fun x hx => ?_, h.small, h.says, ((h.below.setCell hp _).trans (b1.mono k1.le)).trans (k2.below m)⟩
  have hx' : x ∈ s.opn ∨ x = (a, List.replicate 64 c) := by simpa [wroteS] using hx
  rcases hx' with hx | rfl
  · obtain ⟨x1, x2, x3⟩ := h.puts x hx
    refine ⟨x1, ?_, x3⟩
    rw [List.getElem?_set]
    split
    · rw [if_pos (by rw [h.lov]; exact ha)]
    · exact x2
  · exact ⟨ha, by simp [h.lov, ha], c, rfl, hc⟩
/-- behind the crash -/
structure In3 (B d q p : Nat) (w : World) (r : Nat) (la : List UInt8) (ov : List Bool) (S : List (List UInt8)) (wx : World) : Prop where
  dk : Dk B d ⟨S, [], 0, r⟩ wx
  row : RowB wx q 46 la
  rov : RowV wx p 47 (bools ov)
  len : la.length = 4
  lov : ov.length = 4
  lS : S.length = 4
  small : ∀ x ∈ la, x.toNat ≤ 12
  shape : ∀ k (h : k < S.length) (h' : k < la.length), Shape la[k] S[k]
  stays : ∀ k (h : k < S.length) (h' : k < la.length), ov[k]? = some false → S[k] = List.replicate 64 la[k]
  below : Below B w wx
theorem In2.crash {B d q p : Nat} {w wx wg : World} {i : Nat} {la : List UInt8} {S : List (List UInt8)} {ov : List Bool} {s : DS} (fs : List (Int × Int)) (h : In2 B d q p w i la S ov s wx) (kg : Dk B d (crashR s fs).1 wg) (m : Moved d wx wg) : In3 B d q p w 0 la ov (crashedS s fs) wg := by
  have hl : (crashedS s fs).length = 4 := by unfold crashedS; rw [laid_length, h.sec]; exact h.lS
  have key : ∀ k (hk : k < S.length), ∃ x, (crashedS s fs)[k]? = some x ∧ Shape (la[k]'(by rw [h.len, ← h.lS]; exact hk)) x ∧ ((∀ p ∈ s.opn, p.1 ≠ k) → x = S[k]) := by
    intro k hk
    unfold crashedS
    rw [h.sec]
    exact laid_shape (by rw [h.len, h.lS]) (fun j hj => h.says j hj _) (fun x hx => (h.puts x hx).2.2) (keptAt_le fs) _ k hk
  refine ⟨kg, h.row.disk h.dk m, h.rov.disk h.dk m, h.len, h.lov, hl, h.small, fun k hk hk' => ?_, fun k hk hk' hov => ?_, h.below.trans (h.dk.below m)⟩
  · obtain ⟨x, hx, hs, -⟩ := key k (by rw [h.lS, ← hl]; exact hk)
    rw [List.getElem?_eq_getElem hk] at hx
    rw [Option.some.inj hx]; exact hs
  · obtain ⟨x, hx, -, hn⟩ := key k (by rw [h.lS, ← hl]; exact hk)
    rw [List.getElem?_eq_getElem hk] at hx
    rw [Option.some.inj hx, hn (fun p hp e => by
      have := (h.puts p hp).2.1
      rw [e, hov] at this
      simp at this)]
    exact h.says k _ hk'
theorem In3.read {B d q p : Nat} {w wx wg : World} {r : Nat} {la : List UInt8} {ov : List Bool} {S : List (List UInt8)} (h : In3 B d q p w r la ov S wx) (kg : Dk B d (readS ⟨S, [], 0, r⟩) wg) (m : Moved d wx wg) : In3 B d q p w (r + 1) la ov S wg :=
  ⟨kg, h.row.disk h.dk m, h.rov.disk h.dk m, h.len, h.lov, h.lS, h.small, h.shape, h.stays, h.below.trans (h.dk.below m)⟩
theorem In3.call {B d q p : Nat} {w wx wg : World} {r : Nat} {la : List UInt8} {ov : List Bool} {S : List (List UInt8)} (h : In3 B d q p w r la ov S wx) (b : Below wx.heap.size wx wg) : In3 B d q p w r la ov S wg :=
  ⟨h.dk.call b, h.row.call b, h.rov.call b, h.len, h.lov, h.lS, h.small, h.shape, h.stays, h.below.trans (b.mono h.dk.le)⟩
end Go.Proofs.Ytgjndfkjakbdiaa.Dk
