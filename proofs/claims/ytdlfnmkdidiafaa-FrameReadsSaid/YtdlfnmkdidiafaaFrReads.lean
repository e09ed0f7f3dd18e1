/- horariumlaw04.FrameReads answers true at every cell, every text and every three numbers, and leaves its arguments as they were: any sector is read as the document's own answer reads it. No condition. -/
import Derived.Test.YtdlfnmkdidiafaaFrG
import Derived.Test.YtdlfnmkdidiafaaGnY
import Derived.Deep.RegionHeld3
import Derived.Deep.DeepCutAuto
import Derived.BigQuiet
namespace Go.Proofs.Ytdlfnmkdidiafaa.frameReads
open Go.ChangeShapes Go.WideShapes Go.ChangeAt Go.RowKit Go.Joins
set_option linter.unusedVariables false
set_option linter.unusedSimpArgs false

theorem rem_pos (a : Int) (m : Int) (hm : 0 < m) : ∃ k : Nat, (a.tmod m + m).tmod m = (k : Int) ∧ (a.tmod m + m) % m = (k : Int) ∧ (k : Int) < m ∧ -m < a.tmod m ∧ a.tmod m < m := by
  have h1 := Int.tmod_lt_of_pos a hm
  have h2 := Int.lt_tmod_of_pos a hm
  have k0 : 0 ≤ (a.tmod m + m) % m := Int.emod_nonneg _ (by omega)
  have k1 : (a.tmod m + m) % m < m := Int.emod_lt_of_pos _ hm
  obtain ⟨k, hk⟩ := Int.eq_ofNat_of_zero_le k0
  exact ⟨k, by rw [Int.tmod_eq_emod_of_nonneg (by omega)]; exact hk, hk, by rw [← hk]; exact k1, h2, h1⟩
theorem cellOf_some (o : Option Cl) : ∃ (Q : ByteArray) (f m : Int), cellOf o = .agg #[.string Q, .int .u64 f, .int .u64 m] := by
  cases o with
  | none => exact ⟨_, _, _, rfl⟩
  | some c => exact ⟨_, _, _, rfl⟩
theorem s_call {w : World} {x yb tb : Nat} {Q : ByteArray} {f m E M : Int} {ok : Bool} {e n : Nat} {u v : World} (h : u.cell? ⟨x, 0, none⟩ = some (.string Q) ∧ u.cell? ⟨x, 1, none⟩ = some (.int .u64 f) ∧ u.cell? ⟨x, 2, none⟩ = some (.int .u64 m) ∧ u.cell? ⟨yb, 0, none⟩ = some (.string Q) ∧ u.cell? ⟨yb, 1, none⟩ = some (.int .u64 f) ∧ u.cell? ⟨yb, 2, none⟩ = some (.int .u64 m) ∧ u.cell? ⟨tb, 0, none⟩ = some (.int .u64 E) ∧ u.cell? ⟨tb, 1, none⟩ = some (.int .u64 M) ∧ u.cell? ⟨tb, 2, none⟩ = some (.bool ok) ∧ u.cell? ⟨w.heap.size, 1, none⟩ = some (.int .u64 (e : Int)) ∧ u.cell? ⟨w.heap.size, 2, none⟩ = some (.int .u64 (n : Int)) ∧ Below w.heap.size w u) (b : Below u.heap.size u v) : v.cell? ⟨x, 0, none⟩ = some (.string Q) ∧ v.cell? ⟨x, 1, none⟩ = some (.int .u64 f) ∧ v.cell? ⟨x, 2, none⟩ = some (.int .u64 m) ∧ v.cell? ⟨yb, 0, none⟩ = some (.string Q) ∧ v.cell? ⟨yb, 1, none⟩ = some (.int .u64 f) ∧ v.cell? ⟨yb, 2, none⟩ = some (.int .u64 m) ∧ v.cell? ⟨tb, 0, none⟩ = some (.int .u64 E) ∧ v.cell? ⟨tb, 1, none⟩ = some (.int .u64 M) ∧ v.cell? ⟨tb, 2, none⟩ = some (.bool ok) ∧ v.cell? ⟨w.heap.size, 1, none⟩ = some (.int .u64 (e : Int)) ∧ v.cell? ⟨w.heap.size, 2, none⟩ = some (.int .u64 (n : Int)) ∧ Below w.heap.size w v := by
  obtain ⟨h0, h1, h2, h3, h4, h5, h6, h7, h8, h9, h10, h11⟩ := h
  exact ⟨carry b h0, carry b h1, carry b h2, carry b h3, carry b h4, carry b h5, carry b h6, carry b h7, carry b h8, carry b h9, carry b h10, h11.trans (b.mono h11.size)⟩
theorem s_drew {w : World} {x yb tb : Nat} {Q : ByteArray} {f m E M : Int} {ok : Bool} {e n : Nat} {u : World} (h : u.cell? ⟨x, 0, none⟩ = some (.string Q) ∧ u.cell? ⟨x, 1, none⟩ = some (.int .u64 f) ∧ u.cell? ⟨x, 2, none⟩ = some (.int .u64 m) ∧ u.cell? ⟨yb, 0, none⟩ = some (.string Q) ∧ u.cell? ⟨yb, 1, none⟩ = some (.int .u64 f) ∧ u.cell? ⟨yb, 2, none⟩ = some (.int .u64 m) ∧ u.cell? ⟨tb, 0, none⟩ = some (.int .u64 E) ∧ u.cell? ⟨tb, 1, none⟩ = some (.int .u64 M) ∧ u.cell? ⟨tb, 2, none⟩ = some (.bool ok) ∧ u.cell? ⟨w.heap.size, 1, none⟩ = some (.int .u64 (e : Int)) ∧ u.cell? ⟨w.heap.size, 2, none⟩ = some (.int .u64 (n : Int)) ∧ Below w.heap.size w u) : u.drew.cell? ⟨x, 0, none⟩ = some (.string Q) ∧ u.drew.cell? ⟨x, 1, none⟩ = some (.int .u64 f) ∧ u.drew.cell? ⟨x, 2, none⟩ = some (.int .u64 m) ∧ u.drew.cell? ⟨yb, 0, none⟩ = some (.string Q) ∧ u.drew.cell? ⟨yb, 1, none⟩ = some (.int .u64 f) ∧ u.drew.cell? ⟨yb, 2, none⟩ = some (.int .u64 m) ∧ u.drew.cell? ⟨tb, 0, none⟩ = some (.int .u64 E) ∧ u.drew.cell? ⟨tb, 1, none⟩ = some (.int .u64 M) ∧ u.drew.cell? ⟨tb, 2, none⟩ = some (.bool ok) ∧ u.drew.cell? ⟨w.heap.size, 1, none⟩ = some (.int .u64 (e : Int)) ∧ u.drew.cell? ⟨w.heap.size, 2, none⟩ = some (.int .u64 (n : Int)) ∧ Below w.heap.size w u.drew := s_call h (Below.refl _ _).drew
/-- the cell's tag in memory, and what Read told -/
structure Tail1 (w : World) (x : Nat) (Q : ByteArray) (f m : Int) (e n : Nat) (v : World) : Prop where
  x0 : v.cell? ⟨x, 0, none⟩ = some (.string Q)
  x1 : v.cell? ⟨x, 1, none⟩ = some (.int .u64 f)
  x2 : v.cell? ⟨x, 2, none⟩ = some (.int .u64 m)
  c1 : v.cell? ⟨w.heap.size, 1, none⟩ = some (.int .u64 (e : Int))
  c2 : v.cell? ⟨w.heap.size, 2, none⟩ = some (.int .u64 (n : Int))
  bel : Below w.heap.size w v
theorem Tail1.call {w v u : World} {x : Nat} {Q : ByteArray} {f m : Int} {e n : Nat} (h : Tail1 w x Q f m e n v) (b : Below v.heap.size v u) : Tail1 w x Q f m e n u :=
  ⟨carry b h.x0, carry b h.x1, carry b h.x2, carry b h.c1, carry b h.c2, h.bel.trans (b.mono h.bel.size)⟩
theorem tail1_new {w v : World} {Q : ByteArray} {f m : Int} {e n : Nat} (h1 : v.cell? ⟨w.heap.size, 1, none⟩ = some (.int .u64 (e : Int))) (h2 : v.cell? ⟨w.heap.size, 2, none⟩ = some (.int .u64 (n : Int))) (hb : Below w.heap.size w v) : Tail1 w v.heap.size Q f m e n (v.alloc (.cells #[.string Q, .int .u64 f, .int .u64 m] 24)) := by
  have b : Below v.heap.size v (v.alloc (.cells #[.string Q, .int .u64 f, .int .u64 m] 24)) := (Below.refl _ _).alloc (Nat.le_refl _) _
  exact ⟨by simp [go_sem], by simp [go_sem], by simp [go_sem], carry b h1, carry b h2, hb.trans (b.mono hb.size)⟩
structure Tail2 (w : World) (x y : Nat) (Q : ByteArray) (f m : Int) (e n : Nat) (v : World) : Prop extends Tail1 w x Q f m e n v where
  y0 : v.cell? ⟨y, 0, none⟩ = some (.string Q)
  y1 : v.cell? ⟨y, 1, none⟩ = some (.int .u64 f)
  y2 : v.cell? ⟨y, 2, none⟩ = some (.int .u64 m)
theorem Tail2.call {w v u : World} {x y : Nat} {Q : ByteArray} {f m : Int} {e n : Nat} (h : Tail2 w x y Q f m e n v) (b : Below v.heap.size v u) : Tail2 w x y Q f m e n u :=
  ⟨h.toTail1.call b, carry b h.y0, carry b h.y1, carry b h.y2⟩
theorem tail2_new {w v : World} {x : Nat} {Q : ByteArray} {f m : Int} {e n : Nat} (h : Tail1 w x Q f m e n v) : Tail2 w x v.heap.size Q f m e n (v.alloc (.cells #[.string Q, .int .u64 f, .int .u64 m] 24)) :=
  ⟨h.call ((Below.refl _ _).alloc (Nat.le_refl _) _), by simp [go_sem], by simp [go_sem], by simp [go_sem]⟩
theorem tail_all {w v : World} {x yb : Nat} {Q : ByteArray} {f m E M : Int} {ok : Bool} {e n : Nat} (h : Tail2 w x yb Q f m e n v) : (v.alloc (.cells #[.int .u64 E, .int .u64 M, .bool ok] 41)).cell? ⟨x, 0, none⟩ = some (.string Q) ∧ (v.alloc (.cells #[.int .u64 E, .int .u64 M, .bool ok] 41)).cell? ⟨x, 1, none⟩ = some (.int .u64 f) ∧ (v.alloc (.cells #[.int .u64 E, .int .u64 M, .bool ok] 41)).cell? ⟨x, 2, none⟩ = some (.int .u64 m) ∧ (v.alloc (.cells #[.int .u64 E, .int .u64 M, .bool ok] 41)).cell? ⟨yb, 0, none⟩ = some (.string Q) ∧ (v.alloc (.cells #[.int .u64 E, .int .u64 M, .bool ok] 41)).cell? ⟨yb, 1, none⟩ = some (.int .u64 f) ∧ (v.alloc (.cells #[.int .u64 E, .int .u64 M, .bool ok] 41)).cell? ⟨yb, 2, none⟩ = some (.int .u64 m) ∧ (v.alloc (.cells #[.int .u64 E, .int .u64 M, .bool ok] 41)).cell? ⟨v.heap.size, 0, none⟩ = some (.int .u64 E) ∧ (v.alloc (.cells #[.int .u64 E, .int .u64 M, .bool ok] 41)).cell? ⟨v.heap.size, 1, none⟩ = some (.int .u64 M) ∧ (v.alloc (.cells #[.int .u64 E, .int .u64 M, .bool ok] 41)).cell? ⟨v.heap.size, 2, none⟩ = some (.bool ok) ∧ (v.alloc (.cells #[.int .u64 E, .int .u64 M, .bool ok] 41)).cell? ⟨w.heap.size, 1, none⟩ = some (.int .u64 (e : Int)) ∧ (v.alloc (.cells #[.int .u64 E, .int .u64 M, .bool ok] 41)).cell? ⟨w.heap.size, 2, none⟩ = some (.int .u64 (n : Int)) ∧ Below w.heap.size w (v.alloc (.cells #[.int .u64 E, .int .u64 M, .bool ok] 41)) := by
  have b : Below v.heap.size v (v.alloc (.cells #[.int .u64 E, .int .u64 M, .bool ok] 41)) := (Below.refl _ _).alloc (Nat.le_refl _) _
  have k := h.call b
  exact ⟨k.x0, k.x1, k.x2, k.y0, k.y1, k.y2, by simp [go_sem], by simp [go_sem], by simp [go_sem], k.c1, k.c2, k.bel⟩
/-- the arguments in memory: the cell, and the three numbers -/
structure Arg (w : World) (p : ByteArray) (e n : Nat) (a b c : Int) (wx : World) : Prop where
  c0 : wx.cell? ⟨w.heap.size, 0, none⟩ = some (.string p)
  c1 : wx.cell? ⟨w.heap.size, 1, none⟩ = some (.int .u64 (e : Int))
  c2 : wx.cell? ⟨w.heap.size, 2, none⟩ = some (.int .u64 (n : Int))
  f0 : wx.frozen? ⟨w.heap.size, 0, none⟩ = false
  q0 : wx.cell? ⟨w.heap.size + 1, 0, none⟩ = some (.int .i64 a)
  q1 : wx.cell? ⟨w.heap.size + 1, 1, none⟩ = some (.int .i64 b)
  q2 : wx.cell? ⟨w.heap.size + 1, 2, none⟩ = some (.int .i64 c)
  bel : Below w.heap.size w wx
theorem Arg.call {w wx wy : World} {p : ByteArray} {e n : Nat} {a b c : Int} (h : Arg w p e n a b c wx) (k : Below wx.heap.size wx wy) : Arg w p e n a b c wy :=
  ⟨carry k h.c0, carry k h.c1, carry k h.c2, by rw [k.frozen (p := ⟨w.heap.size, 0, none⟩) (lt_of_cell h.c0)]; exact h.f0, carry k h.q0, carry k h.q1, carry k h.q2, h.bel.trans (k.mono h.bel.size)⟩
theorem Arg.put {w wx : World} {p : ByteArray} {e n : Nat} {a b c : Int} (h : Arg w p e n a b c wx) (p1 : ByteArray) : Arg w p1 e n a b c (wx.setCell ⟨w.heap.size, 0, none⟩ (.string p1)) :=
  ⟨World.cell?_setCell_same _ _ _ h.c0, by rw [World.cell?_setCell_other _ _ _ _ (by simp)]; exact h.c1, by rw [World.cell?_setCell_other _ _ _ _ (by simp)]; exact h.c2, by simpa using h.f0, by rw [World.cell?_setCell_other _ _ _ _ (by simp)]; exact h.q0, by rw [World.cell?_setCell_other _ _ _ _ (by simp)]; exact h.q1, by rw [World.cell?_setCell_other _ _ _ _ (by simp)]; exact h.q2, h.bel.setCell (Nat.le_refl _) _⟩
theorem Arg.set {w wx : World} {p : ByteArray} {e n g k : Nat} {a b c : Int} {v : Value} (h : Arg w p e n a b c wx) (hg : w.heap.size + 1 < g) : Arg w p e n a b c (wx.setCell ⟨g, k, none⟩ v) := by
  have n1 : (⟨g, k, none⟩ : Addr).block ≠ w.heap.size := by show g ≠ _; omega
  have n2 : (⟨g, k, none⟩ : Addr).block ≠ w.heap.size + 1 := by show g ≠ _; omega
  exact ⟨(World.cell?_setCell_far _ _ _ _ n1).trans h.c0, (World.cell?_setCell_far _ _ _ _ n1).trans h.c1, (World.cell?_setCell_far _ _ _ _ n1).trans h.c2, by simpa using h.f0, (World.cell?_setCell_far _ _ _ _ n2).trans h.q0, (World.cell?_setCell_far _ _ _ _ n2).trans h.q1, (World.cell?_setCell_far _ _ _ _ n2).trans h.q2, h.bel.setCell (by show _ ≤ g; omega) _⟩
theorem Arg.lt {w wx : World} {p : ByteArray} {e n : Nat} {a b c : Int} (h : Arg w p e n a b c wx) : w.heap.size + 1 < wx.heap.size := lt_of_cell h.q0
def CutRel (w : World) (e n : Nat) (s1 : Value) (wx : World) : Prop := ∃ T : ByteArray, s1 = .string T ∧ wx.cell? ⟨w.heap.size, 1, none⟩ = some (.int .u64 (e : Int)) ∧ wx.cell? ⟨w.heap.size, 2, none⟩ = some (.int .u64 (n : Int)) ∧ Below w.heap.size w wx
set_option maxRecDepth 100000 in
set_option maxHeartbeats 8000000 in
theorem walk (p : ByteArray) (e n : Nat) (s : ByteArray) (a b c : Int) (w : World) (we : e < 18446744073709551616) (wn : n < 18446744073709551616) :
    Calls Try.prog 4 #[.agg #[.string p, .int .u64 (e : Int), .int .u64 (n : Int)], .string s, .agg #[.int .i64 a, .int .i64 b, .int .i64 c]] w fun r w' => r = .returned (.bool true) ∧ Below w.heap.size w w' := by
  have S1 : Hid (∀ w : World, Calls Try.prog 9 #[.string p, .int .i64 43] w fun e w' => e = .returned (.string (cut p 43)) ∧ w' = w) := Lib.hid (fun w => short_any p 43 w (by omega))
  have S2 : Hid (∀ w : World, Calls Try.prog 9 #[.string s, .int .i64 70] w fun e w' => e = .returned (.string (cut s 70)) ∧ w' = w) := Lib.hid (fun w => short_any s 70 w (by omega))
  have z1 := cut_size p 43
  generalize cut p 43 = p1 at *
  generalize cut s 70 = s0 at *
  obtain ⟨z, hz⟩ : ∃ z : Int, bits .and .i64 a 3 = z := ⟨_, rfl⟩
  go_enter Try.func4, Try.ntmps4
  go_wp2_with fail
  (with_reducible refine (awake_any _).mono ?_)
  rintro r w1 ⟨rfl, b1⟩
  have A1 : Arg w p e n a b c w1 := ⟨carry b1 (by simp [go_sem]), carry b1 (by simp [go_sem]), carry b1 (by simp [go_sem]), by rw [b1.frozen (p := ⟨w.heap.size, 0, none⟩) (by simp; omega)]; simp [go_sem], carry b1 (by simp [go_sem]), carry b1 (by simp [go_sem]), carry b1 (by simp [go_sem]), (((Below.refl _ _).alloc (Nat.le_refl _) _).alloc (by simp) _).trans (b1.mono (by simp; omega))⟩
  clear b1
  go_wp2_with fail
  (with_reducible refine (S2.out _).mono ?_)
  rintro r w2 ⟨rfl, rfl⟩
  have HA := Lib.hid A1
  have q0 := A1.q0
  clear A1 S2
  go_upto_if 26 with (fail)
  go_cut [1] (CutRel w e n)
  case first =>
    by_cases hz0 : z = 0
    · have t1 : (z != 0) = false := by simp [hz0]
      clear hz0
      go_wp2_with fail
      go_meet
      exact ⟨_, rfl, HA.out.c1, HA.out.c2, HA.out.bel⟩
    · have t1 : (z != 0) = true := by simp [hz0]
      clear hz0
      obtain ⟨k, hk, hk', hk3, hq1, hq2⟩ := rem_pos b 64 (by omega)
      obtain ⟨q, hq⟩ : ∃ q : Int, b.tmod 64 = q := ⟨_, rfl⟩
      rw [hq] at hk hk' hq1 hq2
      have hl : p1.data.toList.length ≤ 43 := by rw [← size_list]; exact z1
      have MB := Lib.hid (fun w => make_rf_yes p1 e n w z1 we wn)
      have zX : (mkB (sec p1.data.toList e n)).size = 64 := by rw [mkB_size, sec_length hl]
      have dX : (mkB (sec p1.data.toList e n)).data.toList = sec p1.data.toList e n := mkB_data _
      have l64 : (sec p1.data.toList e n).length = 64 := sec_length hl e n
      generalize sec p1.data.toList e n = ss at *
      generalize mkB ss = X at *
      have cv := bytes_of X
      simp only [zX] at cv
      have DX := Lib.hid dX
      obtain ⟨y, hy⟩ : ∃ y : Nat, c % 256 = (y : Int) := ⟨(c % 256).toNat, by omega⟩
      have hyw : IntKind.u8.wrap c = (y : Int) := by rw [IntKind.wrap_u8]; exact hy
      have wy : y < 256 := by omega
      have lk : k < ss.length := by omega
      obtain ⟨d, hd⟩ : ∃ d, ss[k] = d := ⟨_, rfl⟩
      have hx : bits .xor .u8 (d.toNat : Int) (y : Int) = ((d.toNat ^^^ y : Nat) : Int) := u8_xor_nat _ _ d.toNat_lt wy
      have hxl : d.toNat ^^^ y < 256 := Nat.xor_lt_two_pow (n := 8) d.toNat_lt wy
      clear dX hl
      have c0 := HA.out.c0
      have c1 := HA.out.c1
      have c2 := HA.out.c2
      have f0 := HA.out.f0
      go_wp2_with fail
      (with_reducible refine (S1.out _).mono ?_)
      rintro r w3 ⟨rfl, rfl⟩
      have H3 := Lib.hid (HA.out.put p1)
      have d0 := H3.out.c0
      have d1 := H3.out.c1
      have d2 := H3.out.c2
      go_wp2_with fail
      (with_reducible refine (MB.out _).mono ?_)
      rintro r W ⟨rfl, b4⟩
      have H4 := Lib.hid (H3.out.call b4)
      clear H3 b4 MB d0 d1 d2 c0 c1 c2 f0 q0 HA S1
      have Y0 : Hid (Byt (W.alloc (Obj.cells (bytesRow X (grownCap W 64 0 5)) 5 ((bytesRow X (grownCap W 64 0 5)).size, (bytesRow X (grownCap W 64 0 5)).size + 1))).drew W.heap.size ss) := Lib.hid (by rw [← DX.out]; exact byt_new W X _ _ _ rfl)
      have D5 : Hid (Arg w p1 e n a b c (W.alloc (Obj.cells (bytesRow X (grownCap W 64 0 5)) 5 ((bytesRow X (grownCap W 64 0 5)).size, (bytesRow X (grownCap W 64 0 5)).size + 1))).drew) := Lib.hid (H4.out.call ((Below.refl _ _).alloc (Nat.le_refl _) _).drew)
      have ltW := H4.out.lt
      go_upto_region 7 with (fail)
      generalize (W.alloc (Obj.cells (bytesRow X (grownCap W 64 0 5)) 5 ((bytesRow X (grownCap W 64 0 5)).size, (bytesRow X (grownCap W 64 0 5)).size + 1))).drew = wm at *
      generalize grownCap W 64 0 5 = cap at *
      generalize W.heap.size = g at *
      clear cv H4
      have cl := (Y0.out k lk).1
      have cf := (Y0.out k lk).2
      rw [hd] at cl
      have q1 := D5.out.q1
      have q2 := D5.out.q2
      have ki : (k : Int) < 64 := by omega
      have Y1 : Hid (Byt (wm.setCell ⟨g, k, none⟩ (.int .u8 ((d.toNat ^^^ y : Nat) : Int))).drew g (ss.set k (UInt8.ofNat (d.toNat ^^^ y)))) := Lib.hid ((Y0.out.set lk (by rw [UInt8.toNat_ofNat', Nat.mod_eq_of_lt hxl])).of_block rfl)
      have D6 : Hid (Arg w p1 e n a b c (wm.setCell ⟨g, k, none⟩ (.int .u8 ((d.toNat ^^^ y : Nat) : Int))).drew) := Lib.hid ((D5.out.set ltW).call (Below.refl _ _).drew)
      have tx := Y1.out.text cap 64 (by rw [List.length_set, l64])
      have zZ : ((mkB (ss.set k (UInt8.ofNat (d.toNat ^^^ y)))).size : Int) = 64 := by rw [mkB_size, List.length_set, l64]; rfl
      generalize d.toNat ^^^ y = cy at *
      generalize (d.toNat : Int) = cn at *
      generalize mkB (ss.set k (UInt8.ofNat cy)) = Z at *
      clear Y0 D5 Y1 DX hxl hd
      go_wp2_with fail
      go_region
      have q0 := D6.out.q0
      generalize (wm.setCell ⟨g, k, none⟩ (.int .u8 (cy : Int))).drew = wk at *
      by_cases h3 : z = 3
      · have t3 : (z == 3) = true := by simp [h3]
        clear h3 hx cl cf
        go_wp2_with fail
        go_meet
        exact ⟨_, rfl, D6.out.c1, D6.out.c2, D6.out.bel⟩
      · have t3 : (z == 3) = false := by simp [h3]
        clear h3 hx cl cf
        go_wp2_with fail
        go_meet
        exact ⟨_, rfl, D6.out.c1, D6.out.c2, D6.out.bel⟩
  case rest =>
    obtain ⟨T, rfl, k1, k2, bl⟩ := hcut
    have BL := Lib.hid bl
    clear HA q0 bl S1 z1 hz
    obtain ⟨Q, f, m, hQ⟩ := cellOf_some (rdc T.data.toList)
    have RA := Lib.hid (fun w => read_any T w)
    have RB := Lib.hid (fun w => read_rf4 T w)
    rw [hQ] at RA RB
    have TA := Lib.hid (fun w => tag_any T w)
    have TB := Lib.hid (fun w => tag_rf T w)
    have WA := Lib.hid (fun w => whole_any T e n w)
    have WB := Lib.hid (fun w => whole_rf T e n w)
    generalize (rdc T.data.toList).isSome = ib at *
    generalize (tagE T.data.toList : Int) = E at *
    generalize (tagN T.data.toList : Int) = M at *
    generalize decide (T.size = 64) = ok at *
    generalize whole T.data.toList e n = bw at *
    clear hQ
    go_wp2_with fail
    (with_reducible refine (RA.out _).mono ?_)
    rintro r v1 ⟨rfl, b1⟩
    have K1 := Lib.hid (show Tail1 w v1.heap.size Q f m e n (v1.alloc (.cells #[.string Q, .int .u64 f, .int .u64 m] 24)) from tail1_new (carry b1 k1) (carry b1 k2) (BL.out.trans (b1.mono BL.out.size)))
    clear b1 RA k1 k2 BL
    go_wp2_with fail
    (with_reducible refine (RB.out _).mono ?_)
    rintro r v2 ⟨rfl, b2⟩
    have K2 := Lib.hid (show Tail2 w v1.heap.size v2.heap.size Q f m e n (v2.alloc (.cells #[.string Q, .int .u64 f, .int .u64 m] 24)) from tail2_new (K1.out.call b2))
    clear b2 RB K1
    generalize v1.heap.size = x at *
    go_wp2_with fail
    (with_reducible refine (TA.out _).mono ?_)
    rintro r v3 ⟨rfl, b3⟩
    have K3 := Lib.hid (K2.out.call b3)
    generalize v2.heap.size = yb at *
    clear b3 TA K2
    go_wp2_with fail
    (with_reducible refine (TB.out _).mono ?_)
    rintro r v4 ⟨rfl, b4⟩
    have K5 := Lib.hid (tail_all (E := E) (M := M) (ok := ok) (K3.out.call b4))
    clear b4 TB K3
    have K6 := Lib.hid (s_drew K5.out)
    go_upto_region 16 with (fail)
    generalize (v4.alloc (.cells #[.int .u64 E, .int .u64 M, .bool ok] 41)) = v5 at *
    generalize v4.heap.size = tb at *
    go_region_held3 (fun w' => (w'.cell? ⟨x, 0, none⟩ = some (.string Q) ∧ w'.cell? ⟨x, 1, none⟩ = some (.int .u64 f) ∧ w'.cell? ⟨x, 2, none⟩ = some (.int .u64 m) ∧ w'.cell? ⟨yb, 0, none⟩ = some (.string Q) ∧ w'.cell? ⟨yb, 1, none⟩ = some (.int .u64 f) ∧ w'.cell? ⟨yb, 2, none⟩ = some (.int .u64 m) ∧ w'.cell? ⟨tb, 0, none⟩ = some (.int .u64 E) ∧ w'.cell? ⟨tb, 1, none⟩ = some (.int .u64 M) ∧ w'.cell? ⟨tb, 2, none⟩ = some (.bool ok) ∧ w'.cell? ⟨w.heap.size, 1, none⟩ = some (.int .u64 (e : Int)) ∧ w'.cell? ⟨w.heap.size, 2, none⟩ = some (.int .u64 (n : Int)) ∧ Below w.heap.size w w')) (first | exact K6.out | exact K5.out | assumption)
      (first
        | (go_at_call 19; (with_reducible refine (WA.out _).mono ?_); rintro r v6 ⟨rfl, b6⟩; (have k6 := s_call (by first | exact K6.out | exact K5.out) b6))
        | (go_at_call 20; (with_reducible refine (WB.out _).mono ?_); rintro r v7 ⟨rfl, b7⟩; (have k7 := s_call k6 b7))
        | fail)
    have B := Lib.hid k7.2.2.2.2.2.2.2.2.2.2.2
    clear k7 k6 b6 b7 K5 K6 WA WB
    go_wp2
    go_ret
    exact ⟨rfl, B.out⟩

set_option maxRecDepth 100000 in
set_option maxHeartbeats 1600000 in
theorem lifted (os : Os) (started : os.Started) (H : Type) (enc : TypeId × Value → H) :
    ReturnsInHanded {} Try.checked os 4 .any (Rows.frameReadsSpec.pre6 enc Try.prog Try.f4 Rows.frameReadsRow.domain false) (Rows.frameReadsSpec.post enc Try.prog Try.f4 false true false false) := by
  refine returnsInHanded_of_change (C := Try.checked) own started (by kernel_rfl) Try.func4
    (ChangeSpec.witness6 (enc := enc) (C := Try.checked) false ⟨#[], #[.agg #[.string ⟨#[]⟩, .int .u64 0, .int .u64 0], .string ⟨#[]⟩, .agg #[.int .i64 0, .int .i64 0, .int .i64 0]], []⟩ 8 (by kernel_rfl) (by kernel_rfl) (by kernel_rfl) (by kernel_rfl)) ?_
  intro W base args ds gs before hval0 hW hcnd _
  have hval : ∀ (j : Nat) t v, Try.f4.params[j]? = some t → args[j]? = some v → Value.okWide Try.prog W .any base t v := hval0
  have hW' := hW
  obtain ⟨p, q, hA0, hV, rfl, hfz, hnd⟩ := hW
  have hA : DataW.TrodAll enc Try.prog W 0 (fun _ => true) true Try.f4.params.toList args.toList ds p := hA0
  rw [Try.params4] at hA hval
  obtain ⟨v0, vs0, d0, ds0, p0, q0, hargs, rfl, rfl, h0, r0⟩ := trodAll_cons hA
  obtain ⟨v1, vs1, d1, ds1, p1, q1, rfl, rfl, rfl, h1, r1⟩ := trodAll_cons r0
  obtain ⟨v2, vs2, d2, ds2, p2, q2, rfl, rfl, rfl, h2, r2⟩ := trodAll_cons r1
  obtain ⟨rfl, rfl, rfl⟩ := trodAll_nil r2
  obtain rfl : args = #[v0, v1, v2] := by cases args; simp_all
  obtain ⟨rfl, rfl⟩ := trodVars_none hV
  have lt0 : ∀ x ∈ p0, x.block < W.heap.size := by obtain ⟨m, hm⟩ := h0; exact DataW.trod_lt m _ _ _ hm
  obtain ⟨p, e, n, rfl, we, wn⟩ := open_cell (hval 0 24 v0 rfl rfl) h0
  have lt1 : ∀ x ∈ p1, x.block < W.heap.size := by obtain ⟨m, hm⟩ := h1; exact DataW.trod_lt m _ _ _ hm
  obtain ⟨s, e1, -, -, szs⟩ := Go.ChangeMaps.open_string Try.underlying9 (hval 1 9 v1 rfl rfl) h1
  subst e1
  have lt2 : ∀ x ∈ p2, x.block < W.heap.size := by obtain ⟨m, hm⟩ := h2; exact DataW.trod_lt m _ _ _ hm
  obtain ⟨zs, ez, hz, -⟩ := open_ints Try.underlying34 Try.underlying3 (by kernel_rfl) (by kernel_rfl) (hval 2 34 v2 rfl rfl) h2
  obtain ⟨a, b, c, rfl⟩ := array3 hz
  simp only [List.map_toArray, List.map_cons, List.map_nil] at ez
  subst ez
  clear hA0 hval0
  refine (walk p e n s a b c W we wn).mono fun e W' ⟨he, bel⟩ => ?_
  subst he
  exact ⟨_, rfl, _, _, _, [], _, [], hW', trodAll_mk1 (shut_bool Try.underlying4 _), (trodAll_cons_mk (Below.trod laidOut (by kernel_rfl) (of_decide_eq_true (by kernel_rfl)) h0 bel lt0) (trodAll_cons_mk (Below.trod laidOut (by kernel_rfl) (of_decide_eq_true (by kernel_rfl)) h1 bel lt1) (trodAll_cons_mk (Below.trod laidOut (by kernel_rfl) (of_decide_eq_true (by kernel_rfl)) h2 bel lt2) trodAll_mk0))), rfl, bel.frame _, fun h => by cases h⟩

theorem proved : Rows.FrameReadsSaid :=
  OpenClaim.holds_of_wide 4 Try.f4 rfl rfl rfl rfl rfl rfl rfl ⟨rfl, rfl, rfl, rfl, rfl⟩ rfl rfl rfl rfl rfl (by kernel_rfl) Try.func4 (by kernel_rfl)
    (of_decide_eq_true (by kernel_rfl)) (by unfold Func.isWrapper; first | (rw [if_pos (by decide +kernel)]; kernel_rfl) | (rw [if_neg (by decide +kernel)]; exact ⟨rfl, rfl⟩))
    (fun os started H enc _ => lifted os started H enc)
#print axioms proved
end Go.Proofs.Ytdlfnmkdidiafaa.frameReads
