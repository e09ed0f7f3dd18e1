/- Slots as the statements use them: on a disk on which nothing fails, unless it is told. -/
import Derived.Test.YtgfpnjidpdjpaaaSlQ
namespace Go.Proofs.Ytgfpnjidpdjpaaa.Sl
open Go.ChangeShapes Go.WideShapes Go.ChangeAt Go.RowKit Go.Joins
open Dk (Dk DS Moved ptr)
set_option maxRecDepth 100000
set_option linter.unusedVariables false
set_option linter.unusedSimpArgs false
/-- a disk and its slots, since world w0 -/
structure Lw (B b q : Nat) (t : SS) (s : DS) (w0 w : World) : Prop where
  dk : Dk B b s w
  sl : Sl q b t w
  bel : Below B w0 w
  hq : B ≤ q
section
variable {B b q : Nat} {t t' : SS} {s s' : DS} {w0 w w' : World}
theorem Lw.call (h : Lw B b q t s w0 w) (hb : Below w.heap.size w w') : Lw B b q t s w0 w' := ⟨h.dk.call hb, h.sl.call hb, h.bel.trans (hb.mono h.dk.le), h.hq⟩
theorem Lw.go (h : Lw B b q t s w0 w) (k : Dk B b s' w') (l : Sl q b t' w') (m : Mv b q w w') : Lw B b q t' s' w0 w' := ⟨k, l, h.bel.trans (m.belowD h.dk h.hq), h.hq⟩
theorem Lw.disk (h : Lw B b q t s w0 w) (k : Dk B b s' w') (m : Moved b w w') : Lw B b q t s' w0 w' := h.go k (h.sl.disk h.dk m) (.of_moved m)
end
def snapV (told : Option (Nat × List UInt8)) : Value := .agg #[.int .u64 ((told.getD (0, [])).1 : Int), .string (mkB (told.getD (0, [])).2)]
/-- small numbers -/
structure Few (t : SS) (s : DS) : Prop where
  k1 : 1 ≤ t.k
  k2 : t.k ≤ 64
  room : t.at_ + 2 * t.k ≤ s.sec.length
  opn : s.opn.length ≤ 800000
  reads : s.reads ≤ 800000000
  fail : s.fail = 0
theorem told_some {s : DS} {a k nx N : Nat} {told : Option (Nat × List UInt8)} (h : InvD s a k nx N told) : decide (0 < (told.getD (0, [])).1) = told.isSome := by
  cases told with
  | none => rfl
  | some c => obtain ⟨e, d⟩ := c; have := (h.inv.ts e d rfl).1; simp; omega
theorem read_t (B b q : Nat) (t : SS) (s : DS) (nx N : Nat) (told : Option (Nat × List UInt8)) (w0 w : World) (h : Lw B b q t s w0 w) (f : Few t s) (hi : InvD s t.at_ t.k nx N told) :
    Calls Try.prog 10 #[ptr q] w fun e w' => e = .returned (.tuple #[snapV told, .bool told.isSome, .int .i64 0]) ∧ Lw B b q ⟨t.at_, t.k, true, newR t s, nx⟩ (gotR s t.k) w0 w' ∧ Mv b q w w' := by
  have := read_ok B b q t s w h.dk h.sl f.k1 f.k2 f.room (by have := f.reads; omega) (by have := f.opn; omega) (by rw [f.fail]; omega) (.inl f.fail)
  rw [hi.told f.k1] at this
  refine this.mono ?_
  rintro e w' ⟨rfl, k, l, m⟩
  refine ⟨?_, h.go k l m, m⟩
  show Ending.returned (.tuple #[snapV told, .bool (decide (0 < (told.getD (0, [])).1)), .int .i64 0]) = _
  rw [told_some hi]
theorem InvD.got {s : DS} {a k nx N : Nat} {told : Option (Nat × List UInt8)} (h : InvD s a k nx N told) (m : Nat) : InvD (gotR s m) a k nx N told := h.same rfl rfl
/-- what a Write leaves -/
def putS (t : SS) (s : DS) (data : List UInt8) : DS := ⟨Dk.flushedS ⟨s.sec, s.opn ++ wrs (t.at_ + t.nx * t.k) data (t.nw + 1) t.k, 0, s.reads⟩, [], 0, s.reads⟩
theorem putS_len (t : SS) (s : DS) (data : List UInt8) : (putS t s data).sec.length = s.sec.length := by
  show (Dk.flushedS _).length = _
  unfold Dk.flushedS; rw [Dk.laid_length]
theorem write_t (B b q : Nat) (t : SS) (s : DS) (N : Nat) (told : Option (Nat × List UInt8)) (data : List UInt8) (w0 w : World) (h : Lw B b q t s w0 w) (f : Few t s) (hi : InvD s t.at_ t.k t.nx t.nw told) (hr : t.rd = true) (hw : t.nw + 1 < 256) (hd : data.length ≤ 1000) (hd2 : data.length ≤ 43 * t.k) :
    Calls Try.prog 13 #[ptr q, .string (mkB data)] w fun e w' => e = .returned (.tuple #[.int .u64 ((t.nw + 1 : Nat) : Int), .int .i64 0]) ∧ Lw B b q ⟨t.at_, t.k, true, t.nw + 1, 1 - t.nx⟩ (putS t s data) w0 w' ∧ Mv b q w w' := by
  have := write_any B b q t s data w h.dk h.sl f.k1 f.k2 hi.x1 (rooms hi.x1 f.room).1 hr (by omega) hd hd2 f.opn (by rw [f.fail]; omega)
  have e : putR s (t.at_ + t.nx * t.k) t.k data (t.nw + 1) = (putS t s data, true) := by
    unfold putR putS
    rw [if_neg (by rw [f.fail]; omega), f.fail, Nat.zero_sub]
  rw [e] at this
  refine this.mono ?_
  rintro e w' ⟨rfl, k, l, m⟩
  exact ⟨rfl, h.go k l m, m⟩
theorem InvD.put {t : SS} {s : DS} {told : Option (Nat × List UInt8)} {data : List UInt8} (hi : InvD s t.at_ t.k t.nx t.nw told) (ok : s.Ok) (f : Few t s) (hw : t.nw + 1 < 256) (hd2 : data.length ≤ 43 * t.k) : InvD (putS t s data) t.at_ t.k (1 - t.nx) (t.nw + 1) (some (t.nw + 1, data)) :=
  hi.done ok f.k1 f.k2 f.room (by omega) hw hd2
theorem short_any (l : List UInt8) (n : Nat) (w : World) (hn : n ≤ 1000) :
    Calls Try.prog 11 #[.string (mkB l), .int .i64 (n : Int)] w fun e w' => e = .returned (.string (mkB (l.take n))) ∧ w' = w := by
  have hz := mkB_size l
  have hx := ext_head (mkB l) n
  rw [mkB_data] at hx
  rcases Nat.lt_or_ge n l.length with h | h
  · have h1 : (n : Int) < ((mkB l).size : Int) := by omega
    have h2 : n < (mkB l).size := by omega
    generalize mkB (l.take n) = X at *
    generalize mkB l = Y at *
    go_enter Try.func11, Try.ntmps11
    go_wp2
    go_ret
    exact ⟨by rw [← hx]; rfl, rfl⟩
  · have h1 : ((mkB l).size : Int) ≤ (n : Int) := by omega
    rw [List.take_of_length_le h]
    generalize mkB l = Y at *
    go_enter Try.func11, Try.ntmps11
    go_wp2
    go_ret
    exact ⟨rfl, rfl⟩
/-- a disk, and slots on it -/
theorem lw_new {B b : Nat} {s : DS} {w0 w w' : World} {t : SS} (dk : Dk B b s w) (bel : Below B w0 w) (sl : Sl w.heap.size b t w') (hb : Below w.heap.size w w') : Lw B b w.heap.size t s w0 w' :=
  ⟨dk.call hb, sl, bel.trans (hb.mono dk.le), dk.le⟩
theorem newS_few (n k : Nat) (hk : 1 ≤ k) (hk2 : k ≤ 64) (hn : 2 * k ≤ n) (rd : Bool) (nw nx : Nat) : Few ⟨0, k, rd, nw, nx⟩ (Dk.newR n) := ⟨hk, hk2, by simp [Dk.newR]; omega, by simp [Dk.newR], by simp [Dk.newR], rfl⟩
theorem newR_zero {n k : Nat} {t : SS} (ht : t.at_ = 0) (htk : t.k = k) (hk : 1 ≤ k) (hn : 2 * k ≤ n) : newR t (Dk.newR n) = 0 := by
  have h := invD_new n t.at_ t.k (by omega) (by rw [ht, htk]; omega)
  have := h.newest.2
  omega
theorem disk4 (w : World) : Calls Try.prog 8 #[.int .i64 4] w fun e w' => e = .returned (ptr (w.heap.size + 1)) ∧ Dk w.heap.size (w.heap.size + 1) (Dk.newR 4) w' ∧ Below w.heap.size w w' := Dk.new_yes 4 w (by omega) (by omega)
theorem slots02 (B b : Nat) (s : DS) (w : World) (h : Dk B b s w) (h3 : 4 ≤ s.sec.length) :
    Calls Try.prog 9 #[ptr b, .int .i64 0, .int .i64 2] w fun e w' => e = .returned (ptr w.heap.size) ∧ Sl w.heap.size b ⟨0, 2, false, 0, 0⟩ w' ∧ Below w.heap.size w w' := new_yes B b s 0 2 w h (by omega) (by omega) (by omega)
theorem awake_any (w : World) :
    Calls Try.prog 7 #[] w fun e w' => e = .returned (.bool true) ∧ Below w.heap.size w w' := by
  have ND := Lib.hid (disk4 w)
  go_enter Try.func7, Try.ntmps7
  go_wp2_with fail
  (with_reducible refine ND.out.mono ?_)
  rintro e w1 ⟨rfl, k1, b1⟩
  clear ND
  have NS := Lib.hid (slots02 w.heap.size (w.heap.size + 1) (Dk.newR 4) w1 k1 (by simp [Dk.newR]))
  go_wp2_with fail
  (with_reducible refine NS.out.mono ?_)
  rintro e w2 ⟨rfl, s2, b2⟩
  have L2 := Lib.hid (lw_new k1 b1 s2 b2)
  clear NS k1 b1 s2 b2
  have f2 := newS_few 4 2 (by omega) (by omega) (by omega) false 0 0
  have i2 : InvD (Dk.newR 4) 0 2 0 0 none := invD_new 4 0 2 (by omega) (by omega)
  generalize w1.heap.size = q at *
  generalize w.heap.size + 1 = b at *
  have RD := Lib.hid (read_t w.heap.size b q _ _ 0 0 none w w2 L2.out f2 i2)
  go_wp2_with fail
  (with_reducible refine RD.out.mono ?_)
  rintro e w3 ⟨rfl, L3, _⟩
  rw [newR_zero (k := 2) rfl rfl (by omega) (by omega)] at L3
  clear RD L2
  have L4 := Lib.hid (L3.call ((Below.refl _ _).alloc (Nat.le_refl _) (.cells #[.int .u64 0, .string ⟨#[]⟩] 33)))
  clear L3
  have ok3 := L4.out.dk.ok
  have f3 : Few ⟨0, 2, true, 0, 0⟩ (gotR (Dk.newR 4) 2) := ⟨by show 1 ≤ 2; omega, by show 2 ≤ 64; omega, by simp [Dk.newR, gotR], by simp [Dk.newR, gotR], by simp [Dk.newR, gotR], rfl⟩
  have WR := Lib.hid (write_t w.heap.size b q _ _ 0 none [97] w _ L4.out f3 (i2.got 2) rfl (by show 0 + 1 < 256; omega) (by simp) (by simp))
  have i4 := (i2.got 2).put (t := ⟨0, 2, true, 0, 0⟩) (data := [97]) ok3 f3 (by show 0 + 1 < 256; omega) (by simp)
  have l4 := putS_len ⟨0, 2, true, 0, 0⟩ (gotR (Dk.newR 4) 2) [97]
  have f4 : Few ⟨0, 2, true, 0 + 1, 1 - 0⟩ (putS ⟨0, 2, true, 0, 0⟩ (gotR (Dk.newR 4) 2) [97]) := ⟨by show 1 ≤ 2; omega, by show 2 ≤ 64; omega, by rw [l4]; simp [Dk.newR, gotR], by simp [putS], by simp [putS, Dk.newR, gotR], rfl⟩
  have HA : (mkB [97] : ByteArray) = ⟨#[97]⟩ := rfl
  rw [HA] at WR
  have se : snapV none = .agg #[.int .u64 0, .string ⟨#[]⟩] := rfl
  rw [se]
  go_wp2_with fail
  (with_reducible refine WR.out.mono ?_)
  rintro e w5 ⟨rfl, L5, _⟩
  clear WR L4
  have RD := Lib.hid (read_t w.heap.size b q _ _ _ _ _ w w5 L5 f4 i4)
  go_wp2_with fail
  (with_reducible refine RD.out.mono ?_)
  rintro e w6 ⟨rfl, L6, _⟩
  have FIN := Lib.hid (L6.call ((Below.refl _ _).alloc (Nat.le_refl _) (.cells #[.int .u64 1, .string ⟨#[97]⟩] 33))).bel
  clear RD L5 L6
  have se2 : snapV (some (0 + 1, [97])) = .agg #[.int .u64 1, .string ⟨#[97]⟩] := rfl
  rw [se2]
  go_wp2
  go_ret
  exact ⟨rfl, FIN.out⟩
end Go.Proofs.Ytgfpnjidpdjpaaa.Sl
