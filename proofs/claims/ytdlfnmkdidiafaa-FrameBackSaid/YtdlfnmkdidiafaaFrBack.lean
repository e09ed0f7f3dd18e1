/- horariumlaw04.FrameBack answers true at every cell, every number and every byte, and leaves its arguments as they were: a cell comes back from its sector; turned in one byte behind the first one it is none. No condition. -/
import Derived.Test.YtdlfnmkdidiafaaFrG
import Derived.Test.YtdlfnmkdidiafaaGnY
import Derived.Deep.RegionHeld3
import Derived.Deep.DeepCutAuto
import Derived.BigQuiet
namespace Go.Proofs.Ytdlfnmkdidiafaa.frameBack
open Go.ChangeShapes Go.WideShapes Go.ChangeAt Go.RowKit Go.Joins
set_option linter.unusedVariables false
set_option linter.unusedSimpArgs false

theorem rem_pos (a : Int) (m : Int) (hm : 0 < m) : ∃ k : Nat, (a.tmod m + m).tmod m = (k : Int) ∧ (a.tmod m + m) % m = (k : Int) ∧ (k : Int) < m ∧ -m < a.tmod m ∧ a.tmod m < m := by
  have h1 := Int.tmod_lt_of_pos a hm
  have h2 := Int.lt_tmod_of_pos a hm
  have k0 : 0 ≤ (a.tmod m + m) % m := Int.emod_nonneg _ (by omega)
  have k1 : (a.tmod m + m) % m < m := Int.emod_lt_of_pos _ hm
  obtain ⟨k, hk⟩ := Int.eq_ofNat_of_zero_le k0
  exact ⟨k, by rw [Int.tmod_eq_emod_of_nonneg (by omega)]; exact hk, hk, by rw [← hk]; exact k1, h2, h1⟩
/-- two cells in memory that say the same: the one that came, and what Read told -/
structure Two3 (w : World) (g : Nat) (p : ByteArray) (e n : Nat) (wx : World) : Prop where
  c0 : wx.cell? ⟨w.heap.size, 0, none⟩ = some (.string p)
  c1 : wx.cell? ⟨w.heap.size, 1, none⟩ = some (.int .u64 (e : Int))
  c2 : wx.cell? ⟨w.heap.size, 2, none⟩ = some (.int .u64 (n : Int))
  d0 : wx.cell? ⟨g, 0, none⟩ = some (.string p)
  d1 : wx.cell? ⟨g, 1, none⟩ = some (.int .u64 (e : Int))
  d2 : wx.cell? ⟨g, 2, none⟩ = some (.int .u64 (n : Int))
  bel : Below w.heap.size w wx
theorem two3_new {w w4 : World} {q : ByteArray} {e n : Nat} (h : w4.cell? ⟨w.heap.size, 0, none⟩ = some (.string q) ∧ w4.cell? ⟨w.heap.size, 1, none⟩ = some (.int .u64 (e : Int)) ∧ w4.cell? ⟨w.heap.size, 2, none⟩ = some (.int .u64 (n : Int)) ∧ Below w.heap.size w w4) (p : ByteArray) (e' n' : Nat) (hp : q = p := by rfl) (he : e = e' := by rfl) (hn : n = n' := by rfl) :
    Two3 w w4.heap.size p e' n' (w4.alloc (.cells #[.string p, .int .u64 (e' : Int), .int .u64 (n' : Int)] 24)) := by
  subst hp he hn
  have b : Below w4.heap.size w4 (w4.alloc (.cells #[.string q, .int .u64 (e : Int), .int .u64 (n : Int)] 24)) := (Below.refl _ _).alloc (Nat.le_refl _) _
  exact ⟨carry b h.1, carry b h.2.1, carry b h.2.2.1, by simp [go_sem], by simp [go_sem], by simp [go_sem], h.2.2.2.trans (b.mono h.2.2.2.size)⟩
theorem Two3.call {w wx wy : World} {g : Nat} {p : ByteArray} {e n : Nat} (h : Two3 w g p e n wx) (b : Below wx.heap.size wx wy) : Two3 w g p e n wy :=
  ⟨carry b h.c0, carry b h.c1, carry b h.c2, carry b h.d0, carry b h.d1, carry b h.d2, h.bel.trans (b.mono h.bel.size)⟩
theorem Two3.set {w wx : World} {g b k : Nat} {p : ByteArray} {e n : Nat} {v : Value} (h : Two3 w g p e n wx) (h1 : w.heap.size < b) (h2 : g < b) : Two3 w g p e n (wx.setCell ⟨b, k, none⟩ v) :=
  ⟨by rw [World.cell?_setCell_other _ _ _ _ (by first | (simp; done) | (simp; omega))]; exact h.c0, by rw [World.cell?_setCell_other _ _ _ _ (by first | (simp; done) | (simp; omega))]; exact h.c1, by rw [World.cell?_setCell_other _ _ _ _ (by first | (simp; done) | (simp; omega))]; exact h.c2, by rw [World.cell?_setCell_other _ _ _ _ (by first | (simp; done) | (simp; omega))]; exact h.d0, by rw [World.cell?_setCell_other _ _ _ _ (by first | (simp; done) | (simp; omega))]; exact h.d1, by rw [World.cell?_setCell_other _ _ _ _ (by first | (simp; done) | (simp; omega))]; exact h.d2, h.bel.setCell (by show _ ≤ b; omega) _⟩
/-- what Read tells of a sector that is turned in one byte -/
theorem read_turned {l : List UInt8} {e n k y : Nat} {c : UInt8} (hl : l.length ≤ 43) (we : e < 18446744073709551616) (wn : n < 18446744073709551616) (hk : 1 ≤ k) (hk2 : k < (sec l e n).length) (hy : y < 256) (hc : (sec l e n)[k] = c) :
    ∃ (q : ByteArray) (f m : Int), ∀ w : World, Calls Try.prog 15 #[.string (mkB ((sec l e n).set k (UInt8.ofNat (c.toNat ^^^ y))))] w fun r w' => r = .returned (.tuple #[.agg #[.string q, .int .u64 f, .int .u64 m], .bool ((y : Int) == 0)]) ∧ Below w.heap.size w w' := by
  by_cases h0 : y = 0
  · subst h0
    have e1 : (sec l e n).set k (UInt8.ofNat (c.toNat ^^^ 0)) = sec l e n := by
      rw [Nat.xor_zero, UInt8.ofNat_toNat, ← hc, List.set_getElem_self]
    refine ⟨mkB l, e, n, fun w => ?_⟩
    rw [e1]
    have := read_any (mkB (sec l e n)) w
    rw [mkB_data, rdc_sec hl we wn] at this
    exact this
  · have hs : (sec l e n).set k (UInt8.ofNat (c.toNat ^^^ y)) ≠ sec l e n := by
      intro h
      have h1 := congrArg (fun t => t[k]?) h
      simp only [List.getElem?_set_self hk2, List.getElem?_eq_getElem hk2, Option.some.injEq] at h1
      rw [hc] at h1
      have h2 := congrArg UInt8.toNat h1
      rw [UInt8.toNat_ofNat', Nat.mod_eq_of_lt (Nat.xor_lt_two_pow (n := 8) c.toNat_lt hy)] at h2
      have h3 := congrArg (c.toNat ^^^ ·) h2
      simp only [← Nat.xor_assoc, Nat.xor_self, Nat.zero_xor] at h3
      exact h0 h3
    refine ⟨⟨#[]⟩, 0, 0, fun w => ?_⟩
    have := read_any (mkB ((sec l e n).set k (UInt8.ofNat (c.toNat ^^^ y)))) w
    rw [mkB_data, turned hl we wn hk hs] at this
    have e2 : ((y : Int) == 0) = false := by simp; omega
    rw [e2]
    exact this
set_option maxRecDepth 100000 in
set_option maxHeartbeats 8000000 in
theorem walk (p : ByteArray) (e n : Nat) (a : Int) (y : Nat) (w : World) (we : e < 18446744073709551616) (wn : n < 18446744073709551616) (wy : y < 256) :
    Calls Try.prog 5 #[.agg #[.string p, .int .u64 (e : Int), .int .u64 (n : Int)], .int .i64 a, .int .u8 (y : Int)] w fun r w' => r = .returned (.bool true) ∧ Below w.heap.size w w' := by
  have S1 : Hid (∀ w : World, Calls Try.prog 9 #[.string p, .int .i64 43] w fun e w' => e = .returned (.string (cut p 43)) ∧ w' = w) := Lib.hid (fun w => short_any p 43 w (by omega))
  have z1 := cut_size p 43
  generalize cut p 43 = p1 at *
  obtain ⟨k, hk, hk', hk3, hq1, hq2⟩ := rem_pos a 63 (by omega)
  obtain ⟨q, hq⟩ : ∃ q : Int, a.tmod 63 = q := ⟨_, rfl⟩
  rw [hq] at hk hk' hq1 hq2
  have MA := Lib.hid (fun w => make_yes p1 e n w z1 we wn)
  have hl : p1.data.toList.length ≤ 43 := by rw [← size_list]; exact z1
  have lk : k + 1 < (sec p1.data.toList e n).length := by rw [sec_length hl]; omega
  obtain ⟨c, hc⟩ : ∃ c, (sec p1.data.toList e n)[k + 1] = c := ⟨_, rfl⟩
  obtain ⟨rq, rf, rm, RB0⟩ := read_turned hl we wn (by omega) lk wy hc
  have RB := Lib.hid RB0
  have RA : Hid (∀ w : World, Calls Try.prog 15 #[.string (mkB (sec p1.data.toList e n))] w fun r w' => r = .returned (.tuple #[.agg #[.string p1, .int .u64 (e : Int), .int .u64 (n : Int)], .bool true]) ∧ Below w.heap.size w w') := Lib.hid (fun w => by
    have := read_any (mkB (sec p1.data.toList e n)) w
    rw [mkB_data, rdc_sec hl we wn] at this
    have e1 : cellOf (some (p1.data.toList, e, n)) = .agg #[.string p1, .int .u64 (e : Int), .int .u64 (n : Int)] := by
      show Value.agg #[.string (mkB p1.data.toList), _, _] = _
      rw [mkB_of]
    rw [e1] at this
    exact this)
  have WA : Hid (∀ w : World, Calls Try.prog 19 #[.string (mkB (sec p1.data.toList e n)), .int .u64 (e : Int), .int .u64 (n : Int)] w fun r w' => r = .returned (.bool true) ∧ Below w.heap.size w w') := Lib.hid (fun w => by
    have := whole_any (mkB (sec p1.data.toList e n)) e n w
    rw [mkB_data, whole_sec hl we wn] at this
    simpa using this)
  obtain ⟨e', he'⟩ : ∃ e' : Nat, ((e : Int) + 1) % 18446744073709551616 = (e' : Int) := ⟨(e + 1) % 18446744073709551616, by omega⟩
  have ne : e ≠ e' := by omega
  have he2 : IntKind.u64.wrap ((e : Int) + 1) = (e' : Int) := by rw [IntKind.wrap_u64]; exact he'
  have WB : Hid (∀ w : World, Calls Try.prog 19 #[.string (mkB (sec p1.data.toList e n)), .int .u64 (e' : Int), .int .u64 (n : Int)] w fun r w' => r = .returned (.bool false) ∧ Below w.heap.size w w') := Lib.hid (fun w => by
    have := whole_any (mkB (sec p1.data.toList e n)) e' n w
    rw [mkB_data, whole_sec hl we wn, beq_eq_false_iff_ne.2 ne] at this
    simpa using this)
  have zX : (mkB (sec p1.data.toList e n)).size = 64 := by rw [mkB_size, sec_length hl]
  have zi : ((mkB (sec p1.data.toList e n)).size : Int) = 64 := by omega
  have dX : (mkB (sec p1.data.toList e n)).data.toList = sec p1.data.toList e n := mkB_data _
  have l64 : (sec p1.data.toList e n).length = 64 := sec_length hl e n
  generalize hS : sec p1.data.toList e n = ss at *
  generalize mkB ss = X at *
  have cv := bytes_of X
  simp only [zX] at cv
  have DX := Lib.hid dX
  clear dX hS RB0 ne hl
  have hx : bits .xor .u8 (c.toNat : Int) (y : Int) = ((c.toNat ^^^ y : Nat) : Int) := u8_xor_nat _ _ c.toNat_lt wy
  have hxl : c.toNat ^^^ y < 256 := Nat.xor_lt_two_pow (n := 8) c.toNat_lt wy
  have yy : ((y : Int) == 0) = ((y : Int) == 0) := rfl
  go_enter Try.func5, Try.ntmps5
  go_wp2_with fail
  (with_reducible refine (awake_any _).mono ?_)
  rintro r w1 ⟨rfl, b1⟩
  have c0 := carry b1 (p := ⟨w.heap.size, 0, none⟩) (v := .string p) (by simp [go_sem])
  have c1 := carry b1 (p := ⟨w.heap.size, 1, none⟩) (v := .int .u64 (e : Int)) (by simp [go_sem])
  have c2 := carry b1 (p := ⟨w.heap.size, 2, none⟩) (v := .int .u64 (n : Int)) (by simp [go_sem])
  have f0 : w1.frozen? ⟨w.heap.size, 0, none⟩ = false := by rw [b1.frozen (p := ⟨w.heap.size, 0, none⟩) (by simp)]; simp [go_sem]
  have bl1 : Below w.heap.size w w1 := ((Below.refl _ _).alloc (Nat.le_refl _) _).trans (b1.mono (by simp))
  have lt1 : w.heap.size < w1.heap.size := lt_of_cell c0
  clear b1
  go_wp2_with fail
  (with_reducible refine (S1.out _).mono ?_)
  rintro r w2 ⟨rfl, rfl⟩
  have K1 : Hid ((w2.setCell ⟨w.heap.size, 0, none⟩ (.string p1)).cell? ⟨w.heap.size, 0, none⟩ = some (.string p1) ∧ (w2.setCell ⟨w.heap.size, 0, none⟩ (.string p1)).cell? ⟨w.heap.size, 1, none⟩ = some (.int .u64 (e : Int)) ∧ (w2.setCell ⟨w.heap.size, 0, none⟩ (.string p1)).cell? ⟨w.heap.size, 2, none⟩ = some (.int .u64 (n : Int)) ∧ Below w.heap.size w (w2.setCell ⟨w.heap.size, 0, none⟩ (.string p1))) :=
    Lib.hid ⟨World.cell?_setCell_same _ _ _ c0, by rw [World.cell?_setCell_other _ _ _ _ (by simp)]; exact c1, by rw [World.cell?_setCell_other _ _ _ _ (by simp)]; exact c2, bl1.setCell (Nat.le_refl _) _⟩
  clear S1
  have k1 := K1.out.1
  have k2 := K1.out.2.1
  have k3 := K1.out.2.2.1
  go_wp2_with fail
  (with_reducible refine (MA.out _).mono ?_)
  rintro r w3 ⟨rfl, b3⟩
  have K3 := Lib.hid (h3_call K1.out b3)
  clear K1 b3 MA k1 k2 k3 f0 c0 c1 c2 bl1
  go_wp2_with fail
  (with_reducible refine (RA.out _).mono ?_)
  rintro r w4 ⟨rfl, b4⟩
  have D4 : Hid (Two3 w w4.heap.size p1 e n (w4.alloc (.cells #[.string p1, .int .u64 (e : Int), .int .u64 (n : Int)] 24))) := Lib.hid (two3_new (h3_call K3.out b4) p1 e n)
  have lt4 : w.heap.size < w4.heap.size := lt_of_cell (h3_call K3.out b4).1
  clear K3 b4 RA
  go_upto_region 7 with (fail)
  have hz : (w4.alloc (.cells #[.string p1, .int .u64 (e : Int), .int .u64 (n : Int)] 24)).heap.size = w4.heap.size + 1 := by simp
  generalize (w4.alloc (.cells #[.string p1, .int .u64 (e : Int), .int .u64 (n : Int)] 24)) = W at *
  generalize w4.heap.size = g4 at *
  have Y0 : Hid (Byt (W.alloc (Obj.cells (bytesRow X (grownCap W 64 0 5)) 5 ((bytesRow X (grownCap W 64 0 5)).size, (bytesRow X (grownCap W 64 0 5)).size + 1))).drew W.heap.size ss) := Lib.hid (by rw [← DX.out]; exact byt_new W X _ _ _ rfl)
  have D5 : Hid (Two3 w g4 p1 e n (W.alloc (Obj.cells (bytesRow X (grownCap W 64 0 5)) 5 ((bytesRow X (grownCap W 64 0 5)).size, (bytesRow X (grownCap W 64 0 5)).size + 1))).drew) := Lib.hid (D4.out.call ((Below.refl _ _).alloc (Nat.le_refl _) _).drew)
  clear D4
  go_upto_region 8 with (fail)
  generalize (W.alloc (Obj.cells (bytesRow X (grownCap W 64 0 5)) 5 ((bytesRow X (grownCap W 64 0 5)).size, (bytesRow X (grownCap W 64 0 5)).size + 1))).drew = wm at *
  generalize grownCap W 64 0 5 = cap at *
  rw [hz] at Y0
  clear cv
  have cl := (Y0.out (k + 1) lk).1
  have cf := (Y0.out (k + 1) lk).2
  rw [hc] at cl
  have j1 : (1 + (k : Int)).toNat = k + 1 := by omega
  have j2 : 1 + (k : Int) < 64 := by omega
  have j3 : (0 : Int) ≤ 1 + (k : Int) := by omega
  have Y1 : Hid (Byt (wm.setCell ⟨g4 + 1, k + 1, none⟩ (.int .u8 ((c.toNat ^^^ y : Nat) : Int))) (g4 + 1) (ss.set (k + 1) (UInt8.ofNat (c.toNat ^^^ y)))) := Lib.hid (Y0.out.set lk (by rw [UInt8.toNat_ofNat', Nat.mod_eq_of_lt hxl]))
  have D6 : Hid (Two3 w g4 p1 e n (wm.setCell ⟨g4 + 1, k + 1, none⟩ (.int .u8 ((c.toNat ^^^ y : Nat) : Int)))) := Lib.hid (D5.out.set (by omega) (by omega))
  have tx := Y1.out.text cap 64 (by rw [List.length_set, l64])
  generalize c.toNat ^^^ y = cy at *
  generalize (c.toNat : Int) = cn at *
  generalize mkB (ss.set (k + 1) (UInt8.ofNat cy)) = Z at *
  clear Y0 D5 Y1 DX hxl hc
  go_wp2_with fail
  (with_reducible refine (RB.out _).mono ?_)
  rintro r w5 ⟨rfl, b5⟩
  have D7 := Lib.hid ((D6.out.call b5).call ((Below.refl _ _).alloc (Nat.le_refl _) (.cells #[.string rq, .int .u64 rf, .int .u64 rm] 24)))
  clear D6 b5 RB tx
  go_upto_region 11 with (fail)
  generalize (w5.alloc (.cells #[.string rq, .int .u64 rf, .int .u64 rm] 24)) = w6 at *
  have x0 := D7.out.c0
  have x1 := D7.out.c1
  have x2 := D7.out.c2
  have y0 := D7.out.d0
  have y1 := D7.out.d1
  have y2 := D7.out.d2
  go_wp2_with fail
  (with_reducible refine (WA.out _).mono ?_)
  rintro r w7 ⟨rfl, b7⟩
  have D8 := Lib.hid (D7.out.call b7)
  clear D7 b7 WA x0 x1 x2 y0 y1 y2
  have x1 := D8.out.c1
  have x2 := D8.out.c2
  go_wp2_with fail
  (with_reducible refine (WB.out _).mono ?_)
  rintro r w8 ⟨rfl, b8⟩
  have B := Lib.hid (D8.out.bel.trans (b8.mono D8.out.bel.size))
  clear D8 b8 WB x1 x2
  go_wp2
  go_ret
  exact ⟨rfl, B.out⟩

set_option maxRecDepth 100000 in
set_option maxHeartbeats 1600000 in
theorem lifted (os : Os) (started : os.Started) (H : Type) (enc : TypeId × Value → H) :
    ReturnsInHanded {} Try.checked os 5 .any (Rows.frameBackSpec.pre6 enc Try.prog Try.f5 Rows.frameBackRow.domain false) (Rows.frameBackSpec.post enc Try.prog Try.f5 false true false false) := by
  refine returnsInHanded_of_change (C := Try.checked) own started (by kernel_rfl) Try.func5
    (ChangeSpec.witness6 (enc := enc) (C := Try.checked) false ⟨#[], #[.agg #[.string ⟨#[]⟩, .int .u64 0, .int .u64 0], .int .i64 0, .int .u8 0], []⟩ 8 (by kernel_rfl) (by kernel_rfl) (by kernel_rfl) (by kernel_rfl)) ?_
  intro W base args ds gs before hval0 hW hcnd _
  have hval : ∀ (j : Nat) t v, Try.f5.params[j]? = some t → args[j]? = some v → Value.okWide Try.prog W .any base t v := hval0
  have hW' := hW
  obtain ⟨p, q, hA0, hV, rfl, hfz, hnd⟩ := hW
  have hA : DataW.TrodAll enc Try.prog W 0 (fun _ => true) true Try.f5.params.toList args.toList ds p := hA0
  rw [Try.params5] at hA hval
  obtain ⟨v0, vs0, d0, ds0, p0, q0, hargs, rfl, rfl, h0, r0⟩ := trodAll_cons hA
  obtain ⟨v1, vs1, d1, ds1, p1, q1, rfl, rfl, rfl, h1, r1⟩ := trodAll_cons r0
  obtain ⟨v2, vs2, d2, ds2, p2, q2, rfl, rfl, rfl, h2, r2⟩ := trodAll_cons r1
  obtain ⟨rfl, rfl, rfl⟩ := trodAll_nil r2
  obtain rfl : args = #[v0, v1, v2] := by cases args; simp_all
  obtain ⟨rfl, rfl⟩ := trodVars_none hV
  have lt0 : ∀ x ∈ p0, x.block < W.heap.size := by obtain ⟨m, hm⟩ := h0; exact DataW.trod_lt m _ _ _ hm
  obtain ⟨p, e, n, rfl, we, wn⟩ := open_cell (hval 0 24 v0 rfl rfl) h0
  have lt1 : ∀ x ∈ p1, x.block < W.heap.size := by obtain ⟨m, hm⟩ := h1; exact DataW.trod_lt m _ _ _ hm
  obtain ⟨a, e1, -, -, wfa⟩ := open_int Try.underlying3 (hval 1 3 v1 rfl rfl) h1
  subst e1
  have lt2 : ∀ x ∈ p2, x.block < W.heap.size := by obtain ⟨m, hm⟩ := h2; exact DataW.trod_lt m _ _ _ hm
  obtain ⟨n2, e2, -, -, wf2⟩ := open_int Try.underlying5 (hval 2 5 v2 rfl rfl) h2
  subst e2
  obtain ⟨y, rfl, wy⟩ := is8_nat wf2
  clear hA0 hval0
  refine (walk p e n a y W we wn wy).mono fun e W' ⟨he, bel⟩ => ?_
  subst he
  exact ⟨_, rfl, _, _, _, [], _, [], hW', trodAll_mk1 (shut_bool Try.underlying4 _), (trodAll_cons_mk (Below.trod laidOut (by kernel_rfl) (of_decide_eq_true (by kernel_rfl)) h0 bel lt0) (trodAll_cons_mk (Below.trod laidOut (by kernel_rfl) (of_decide_eq_true (by kernel_rfl)) h1 bel lt1) (trodAll_cons_mk (Below.trod laidOut (by kernel_rfl) (of_decide_eq_true (by kernel_rfl)) h2 bel lt2) trodAll_mk0))), rfl, bel.frame _, fun h => by cases h⟩

theorem proved : Rows.FrameBackSaid :=
  OpenClaim.holds_of_wide 5 Try.f5 rfl rfl rfl rfl rfl rfl rfl ⟨rfl, rfl, rfl, rfl, rfl⟩ rfl rfl rfl rfl rfl (by kernel_rfl) Try.func5 (by kernel_rfl)
    (of_decide_eq_true (by kernel_rfl)) (by unfold Func.isWrapper; first | (rw [if_pos (by decide +kernel)]; kernel_rfl) | (rw [if_neg (by decide +kernel)]; exact ⟨rfl, rfl⟩))
    (fun os started H enc _ => lifted os started H enc)
#print axioms proved
end Go.Proofs.Ytdlfnmkdidiafaa.frameBack
