/- horariumlaw03.OctetReads answers true at every text and every row of calls, and leaves them as they were: any bytes are read, call by call, as the document reads them. No condition. -/
import Derived.Test.YthmbnnbdphobiaaOcC
namespace Go.Proofs.Ythmbnnbdphobiaa.octetReads
open Go.ChangeShapes Go.WideShapes Go.ChangeAt Go.RowKit Go.Joins
set_option linter.unusedVariables false
set_option linter.unusedSimpArgs false

def OrRel (c d : Nat) (w : World) (g : Nat) (s8 : Value) (wx : World) : Prop := ∃ (i : Nat) (o : St), i + g = 20 ∧ s8 = .int .i64 (i : Int) ∧ left o ≤ 120 ∧ Rd RC c o wx ∧ Rd RD d o wx ∧ Below w.heap.size w wx
theorem num_left (o : St) (most : Nat) : left (num o most).2 ≤ left o := by
  cases h : (num o most).2 with
  | none => simp [left]
  | some r => obtain ⟨l, rfl, hlt, -⟩ := num_shorter h; simp only [left]; omega
theorem int_left' (o : St) (most : Int) : left (int o most).2 ≤ left o := by
  unfold int; split
  · simp [left]
  · exact num_left _ _
theorem text_left (o : St) (most : Int) : left (text o most).2 ≤ left o := by
  have := int_left' o most
  unfold text
  cases h : (int o most).2 with
  | none => simp [left]
  | some r =>
    rw [h] at this
    simp only
    split
    · simp only [left] at this ⊢
      rw [List.length_drop]; omega
    · simp [left]
theorem flag_left (o : St) : left (flag o).2 ≤ left o := num_left o 1
theorem held3_call {w0 w w' : World} {b : Nat} {o : Nat} {v : Value} (h : w.cell? ⟨b, o, none⟩ = some v ∧ Below w0.heap.size w0 w) {c : Nat} (hc : w0.heap.size ≤ c) (hb : b ≠ c) (ha : Apart c w w') : w'.cell? ⟨b, o, none⟩ = some v ∧ Below w0.heap.size w0 w' := by
  refine ⟨?_, h.2.trans (ha.below hc h.2.size)⟩
  rw [World.cell?_of_block (w := w) (a := ⟨b, o, none⟩) (ha.block b (World.block_lt_of_cell? _ _ h.1) hb)]
  exact h.1
set_option maxRecDepth 100000 in
set_option maxHeartbeats 16000000 in
theorem walk (s : ByteArray) (ao : Option Addr) (len cap : Nat) (w : World) (hlen : len ≤ 9223372036854775807) (hN : Row ao len w) :
    Calls Try.prog 4 #[.string s, .slice ao len cap] w fun e w' => e = .returned (.bool true) ∧ Below w.heap.size w w' := by
  have S1 : Hid (∀ w : World, Calls Try.prog 9 #[.string s, .int .i64 120] w fun e w' => e = .returned (.string (cut s 120)) ∧ w' = w) := Lib.hid (fun w => short_any s 120 w (by omega))
  have zs := cut_size s 120
  generalize cut s 120 = t at *
  have RR : Hid (∀ W : World, Calls Try.prog 19 #[.string t] W fun e w' => e = .returned (self W.heap.size) ∧ Rd RC W.heap.size (some t.data.toList) w' ∧ Below W.heap.size W w') := Lib.hid (fun W => (read_any t W).mono fun e w' ⟨he, hw⟩ => ⟨he, by
    subst hw
    refine ⟨?_, (Below.refl _ _).alloc (Nat.le_refl _) _⟩
    show _ = some (Obj.cells #[.string (mkB t.data.toList), .bool false] RC (0, 0))
    rw [mkB_of]
    exact heap_alloc_new W _⟩)
  have NU := Lib.hid hN
  clear hN
  go_enter Try.func4, Try.ntmps4
  go_wp2_with fail
  (with_reducible refine (awake_any _).mono ?_)
  rintro e w1 ⟨rfl, b1⟩
  go_wp2_with fail
  (with_reducible refine (S1.out _).mono ?_)
  rintro e w2 ⟨rfl, rfl⟩
  clear S1
  go_wp2_with fail
  (with_reducible refine (RR.out _).mono ?_)
  rintro e w3 ⟨rfl, r3, b3⟩
  have b4 := b1.trans (b3.mono b1.size)
  have zc : w.heap.size ≤ w2.heap.size := b1.size
  have zd : w.heap.size ≤ w3.heap.size := b4.size
  have hdc : w3.heap.size ≠ w2.heap.size := by have := r3.lt; omega
  have K0 : Hid (Rd RC w2.heap.size (some t.data.toList) (w3.alloc (.cells #[.string t, .bool false] RD)) ∧ Rd RD w3.heap.size (some t.data.toList) (w3.alloc (.cells #[.string t, .bool false] RD)) ∧ Below w.heap.size w (w3.alloc (.cells #[.string t, .bool false] RD))) := Lib.hid ⟨r3.call ((Below.refl _ _).alloc (Nat.le_refl _) _), by
    show _ = some (Obj.cells #[.string (mkB t.data.toList), .bool false] RD (0, 0))
    rw [mkB_of]
    exact heap_alloc_new w3 _, b4.alloc zd _⟩
  clear RR b1 b3 b4 r3
  generalize w2.heap.size = c at *
  go_wp2_with fail
  generalize w3.alloc (.cells #[.string t, .bool false] RD) = wq at *
  generalize w3.heap.size = d at *
  go_loopg [8] 20 (OrRel c d w)
  case atStart => exact ⟨0, some t.data.toList, by omega, rfl, by simp only [left]; rw [list_size]; exact zs, K0.out⟩
  case round =>
    obtain ⟨i, o, hg, rfl, hlo, hk⟩ := hrel
    have K := Lib.hid hk
    clear hk K0
    by_cases hin : i < len ∧ i < 20
    · obtain ⟨h1, h2⟩ := hin
      obtain ⟨b, off, rfl, hbl, hcell⟩ := NU.out (by omega)
      obtain ⟨k, n, s0, m, hca⟩ := hcell i h1
      have hca2 := hca.below K.out.2.2 hbl
      have x0 := hca2.kind
      have x1 := hca2.num
      have x2 := hca2.str
      have x3 := hca2.most
      have wn := hca2.wn
      have wm := hca2.wm
      clear hca hca2 hcell NU
      have hnc : wr.heap.size ≠ c := by have := K.out.1.lt; omega
      have hnd : wr.heap.size ≠ d := by have := K.out.2.1.lt; omega
      have AL : Hid (∀ C, Rd RC c o (wr.alloc C) ∧ Rd RD d o (wr.alloc C) ∧ Below w.heap.size w (wr.alloc C)) := Lib.hid (fun C => ⟨K.out.1.call ((Below.refl _ _).alloc (Nat.le_refl _) _), K.out.2.1.call ((Below.refl _ _).alloc (Nat.le_refl _) _), K.out.2.2.alloc K.out.2.2.size _⟩)
      have hz : ∃ z, bits .and .i64 k 3 = z := ⟨_, rfl⟩
      obtain ⟨z, hz⟩ := hz
      by_cases z0 : z = 0
      · have t0 : (z == 0) = true := by simp [z0]
        clear z0
        have K2 := Lib.hid (AL.out (.cells #[.int .i64 k, .int .u64 (n : Int), .string s0, .int .i64 m] 33))
        have y0 : (wr.alloc (.cells #[.int .i64 k, .int .u64 (n : Int), .string s0, .int .i64 m] 33)).cell? ⟨wr.heap.size, 0, none⟩ = some (.int .i64 k) := by simp [go_sem]
        have y1 : (wr.alloc (.cells #[.int .i64 k, .int .u64 (n : Int), .string s0, .int .i64 m] 33)).cell? ⟨wr.heap.size, 1, none⟩ = some (.int .u64 (n : Int)) := by simp [go_sem]
        have y3 : (wr.alloc (.cells #[.int .i64 k, .int .u64 (n : Int), .string s0, .int .i64 m] 33)).cell? ⟨wr.heap.size, 3, none⟩ = some (.int .i64 m) := by simp [go_sem]
        have hR : Hid (∀ W, Rd RC c o W → Calls Try.prog 20 #[self c, .int .u64 (n : Int)] W fun e w' => e = .returned (.int .u64 ((num o n).1 : Int)) ∧ Rd RC c (num o n).2 w' ∧ Apart c W w') := Lib.hid (fun W k => num_rd c o n W k wn (by omega))
        have hX : Hid (∀ W, Rd RD d o W → Calls Try.prog 21 #[self d, .int .u64 (n : Int)] W fun e w' => e = .returned (.int .u64 ((num o n).1 : Int)) ∧ Rd RD d (num o n).2 w' ∧ Apart d W w') := Lib.hid (fun W k => num_dc d o n W k wn (by omega))
        have lo := num_left o n
        generalize num o n = vo at *
        obtain ⟨v, o'⟩ := vo
        simp only at hR hX lo
        have lo2 : left o' ≤ 120 := by omega
        clear lo hlo
        go_wp2_with fail
        have KS : Hid ((wr.alloc (.cells #[.int .i64 k, .int .u64 (n : Int), .string s0, .int .i64 m] 33)).cell? ⟨wr.heap.size, 1, none⟩ = some (.int .u64 (n : Int)) ∧ Below w.heap.size w (wr.alloc (.cells #[.int .i64 k, .int .u64 (n : Int), .string s0, .int .i64 m] 33))) := Lib.hid ⟨y1, K2.out.2.2⟩
        have KD : Hid ((wr.alloc (.cells #[.int .i64 k, .int .u64 (n : Int), .string s0, .int .i64 m] 33)).drew.cell? ⟨wr.heap.size, 1, none⟩ = some (.int .u64 (n : Int)) ∧ Below w.heap.size w (wr.alloc (.cells #[.int .i64 k, .int .u64 (n : Int), .string s0, .int .i64 m] 33)).drew) := Lib.hid ⟨y1, K2.out.2.2.drew⟩
        have hrd : Rd RC c o (wr.alloc (.cells #[.int .i64 k, .int .u64 (n : Int), .string s0, .int .i64 m] 33)).drew := K2.out.1
        have hxd : Rd RD d o (wr.alloc (.cells #[.int .i64 k, .int .u64 (n : Int), .string s0, .int .i64 m] 33)).drew := K2.out.2.1
        go_region_held3 (fun w' => w'.cell? ⟨wr.heap.size, 1, none⟩ = some (.int .u64 (n : Int)) ∧ Below w.heap.size w w') (first | exact KS.out | exact KD.out | assumption) (first | (go_at_call 20; (with_reducible refine (hR.out _ hrd).mono ?_); rintro e wn ⟨rfl, hrn, han⟩; (have kn := held3_call (w' := wn) KD.out zc hnc han); (have hxn := hxd.apart han hdc)) | (go_at_call 21; (with_reducible refine (hX.out _ hxn).mono ?_); rintro e wm ⟨rfl, hxm, ham⟩; (have km := held3_call (w' := wm) kn zd hnd ham); (have hrm := hrn.apart ham (Ne.symm hdc))) | fail)
        have bm := km.2
        clear hR hX km kn han ham hrd hxd KS KD hrn hxn y0 y1 y3 K2
        have KM : Hid (Rd RC c o' wm ∧ Rd RD d o' wm ∧ Below w.heap.size w wm) := Lib.hid ⟨hrm, hxm, bm⟩
        obtain ⟨sx, hsx⟩ := hxm.cells
        have cb : wm.cell? ⟨d, 1, none⟩ = some (.bool (!o'.isSome)) := by rw [Lib.cell_of_heap hsx]; rfl
        have GO : Hid (∀ q, Calls Try.prog 28 #[self c] (wm.drewN q) fun e w' => e = .returned (.bool o'.isSome) ∧ w' = wm.drewN q) := Lib.hid (fun q => good_any c o' (wm.drewN q) hrm)
        have EN : Hid (∀ q, Calls Try.prog 29 #[self c] (wm.drewN q) fun e w' => e = .returned (.bool (ended o')) ∧ w' = wm.drewN q) := Lib.hid (fun q => end_rd c o' (wm.drewN q) hrm)
        have EX : Hid (∀ q, Calls Try.prog 30 #[self d] (wm.drewN q) fun e w' => e = .returned (.bool (ended o')) ∧ w' = wm.drewN q) := Lib.hid (fun q => end_dc d o' (wm.drewN q) hxm)
        have LE : Hid (∀ q, Calls Try.prog 31 #[self c] (wm.drewN q) fun e w' => e = .returned (.int .i64 (left o' : Int)) ∧ w' = wm.drewN q) := Lib.hid (fun q => left_rd c o' (wm.drewN q) hrm)
        have LX : Hid (∀ q, Calls Try.prog 32 #[self d] (wm.drewN q) fun e w' => e = .returned (.int .i64 (left o' : Int)) ∧ w' = wm.drewN q) := Lib.hid (fun q => left_dc d o' (wm.drewN q) hxm)
        clear hrm hxm bm hsx
        generalize o'.isSome = gd at GO cb
        generalize ended o' = en at EN EX
        have LO := Lib.hid lo2
        clear lo2
        generalize hle : left o' = le at LE LX
        clear hle
        have n1 : (en != en) = false := by cases en <;> rfl
        have n2 : ((le : Int) != (le : Int)) = false := by simp
        go_wp2_with fail
        cases gd
        all_goals
          go_quiet ((first | (go_at_call 28; exact Calls.quiet_of_same (GO.out _)) | (go_at_call 29; exact Calls.quiet_of_same (EN.out _)) | (go_at_call 30; exact Calls.quiet_of_same (EX.out _)) | (go_at_call 31; exact Calls.quiet_of_same (LE.out _)) | (go_at_call 32; exact Calls.quiet_of_same (LX.out _)) | fail))
          have KQ : Hid (Rd RC c o' (wm.drewN nq) ∧ Rd RD d o' (wm.drewN nq) ∧ Below w.heap.size w (wm.drewN nq)) := Lib.hid ⟨KM.out.1, KM.out.2.1, KM.out.2.2.trans ((below_drewN _ _).mono KM.out.2.2.size)⟩
          clear KM GO EN EX LE LX cb
          go_wp2
          go_roundg (gk - 1)
          case measure => omega
          case rel => exact ⟨i + 1, o', by omega, by go_num, LO.out, KQ.out⟩
      · skip
        by_cases z1 : z = 1
        · have t0 : (z == 0) = false := by simp [z0]
          have t1 : (z == 1) = true := by simp [z1]
          clear z0 z1
          have K2 := Lib.hid (AL.out (.cells #[.int .i64 k, .int .u64 (n : Int), .string s0, .int .i64 m] 33))
          have y0 : (wr.alloc (.cells #[.int .i64 k, .int .u64 (n : Int), .string s0, .int .i64 m] 33)).cell? ⟨wr.heap.size, 0, none⟩ = some (.int .i64 k) := by simp [go_sem]
          have y1 : (wr.alloc (.cells #[.int .i64 k, .int .u64 (n : Int), .string s0, .int .i64 m] 33)).cell? ⟨wr.heap.size, 1, none⟩ = some (.int .u64 (n : Int)) := by simp [go_sem]
          have y3 : (wr.alloc (.cells #[.int .i64 k, .int .u64 (n : Int), .string s0, .int .i64 m] 33)).cell? ⟨wr.heap.size, 3, none⟩ = some (.int .i64 m) := by simp [go_sem]
          have hR : Hid (∀ W, Rd RC c o W → Calls Try.prog 22 #[self c, .int .i64 m] W fun e w' => e = .returned (.int .i64 ((int o m).1 : Int)) ∧ Rd RC c (int o m).2 w' ∧ Apart c W w') := Lib.hid (fun W k => int_rd c o m W k wm (by omega))
          have hX : Hid (∀ W, Rd RD d o W → Calls Try.prog 23 #[self d, .int .i64 m] W fun e w' => e = .returned (.int .i64 ((int o m).1 : Int)) ∧ Rd RD d (int o m).2 w' ∧ Apart d W w') := Lib.hid (fun W k => int_dc d o m W k wm (by omega))
          have lo := int_left' o m
          generalize int o m = vo at *
          obtain ⟨v, o'⟩ := vo
          simp only at hR hX lo
          have lo2 : left o' ≤ 120 := by omega
          clear lo hlo
          go_wp2_with fail
          have KS : Hid ((wr.alloc (.cells #[.int .i64 k, .int .u64 (n : Int), .string s0, .int .i64 m] 33)).cell? ⟨wr.heap.size, 3, none⟩ = some (.int .i64 m) ∧ Below w.heap.size w (wr.alloc (.cells #[.int .i64 k, .int .u64 (n : Int), .string s0, .int .i64 m] 33))) := Lib.hid ⟨y3, K2.out.2.2⟩
          have KD : Hid ((wr.alloc (.cells #[.int .i64 k, .int .u64 (n : Int), .string s0, .int .i64 m] 33)).drew.cell? ⟨wr.heap.size, 3, none⟩ = some (.int .i64 m) ∧ Below w.heap.size w (wr.alloc (.cells #[.int .i64 k, .int .u64 (n : Int), .string s0, .int .i64 m] 33)).drew) := Lib.hid ⟨y3, K2.out.2.2.drew⟩
          have hrd : Rd RC c o (wr.alloc (.cells #[.int .i64 k, .int .u64 (n : Int), .string s0, .int .i64 m] 33)).drew := K2.out.1
          have hxd : Rd RD d o (wr.alloc (.cells #[.int .i64 k, .int .u64 (n : Int), .string s0, .int .i64 m] 33)).drew := K2.out.2.1
          go_region_held3 (fun w' => w'.cell? ⟨wr.heap.size, 3, none⟩ = some (.int .i64 m) ∧ Below w.heap.size w w') (first | exact KS.out | exact KD.out | assumption) (first | (go_at_call 22; (with_reducible refine (hR.out _ hrd).mono ?_); rintro e wn ⟨rfl, hrn, han⟩; (have kn := held3_call (w' := wn) KD.out zc hnc han); (have hxn := hxd.apart han hdc)) | (go_at_call 23; (with_reducible refine (hX.out _ hxn).mono ?_); rintro e wm ⟨rfl, hxm, ham⟩; (have km := held3_call (w' := wm) kn zd hnd ham); (have hrm := hrn.apart ham (Ne.symm hdc))) | fail)
          have bm := km.2
          clear hR hX km kn han ham hrd hxd KS KD hrn hxn y0 y1 y3 K2
          have KM : Hid (Rd RC c o' wm ∧ Rd RD d o' wm ∧ Below w.heap.size w wm) := Lib.hid ⟨hrm, hxm, bm⟩
          obtain ⟨sx, hsx⟩ := hxm.cells
          have cb : wm.cell? ⟨d, 1, none⟩ = some (.bool (!o'.isSome)) := by rw [Lib.cell_of_heap hsx]; rfl
          have GO : Hid (∀ q, Calls Try.prog 28 #[self c] (wm.drewN q) fun e w' => e = .returned (.bool o'.isSome) ∧ w' = wm.drewN q) := Lib.hid (fun q => good_any c o' (wm.drewN q) hrm)
          have EN : Hid (∀ q, Calls Try.prog 29 #[self c] (wm.drewN q) fun e w' => e = .returned (.bool (ended o')) ∧ w' = wm.drewN q) := Lib.hid (fun q => end_rd c o' (wm.drewN q) hrm)
          have EX : Hid (∀ q, Calls Try.prog 30 #[self d] (wm.drewN q) fun e w' => e = .returned (.bool (ended o')) ∧ w' = wm.drewN q) := Lib.hid (fun q => end_dc d o' (wm.drewN q) hxm)
          have LE : Hid (∀ q, Calls Try.prog 31 #[self c] (wm.drewN q) fun e w' => e = .returned (.int .i64 (left o' : Int)) ∧ w' = wm.drewN q) := Lib.hid (fun q => left_rd c o' (wm.drewN q) hrm)
          have LX : Hid (∀ q, Calls Try.prog 32 #[self d] (wm.drewN q) fun e w' => e = .returned (.int .i64 (left o' : Int)) ∧ w' = wm.drewN q) := Lib.hid (fun q => left_dc d o' (wm.drewN q) hxm)
          clear hrm hxm bm hsx
          generalize o'.isSome = gd at GO cb
          generalize ended o' = en at EN EX
          have LO := Lib.hid lo2
          clear lo2
          generalize hle : left o' = le at LE LX
          clear hle
          have n1 : (en != en) = false := by cases en <;> rfl
          have n2 : ((le : Int) != (le : Int)) = false := by simp
          go_wp2_with fail
          cases gd
          all_goals
            go_quiet ((first | (go_at_call 28; exact Calls.quiet_of_same (GO.out _)) | (go_at_call 29; exact Calls.quiet_of_same (EN.out _)) | (go_at_call 30; exact Calls.quiet_of_same (EX.out _)) | (go_at_call 31; exact Calls.quiet_of_same (LE.out _)) | (go_at_call 32; exact Calls.quiet_of_same (LX.out _)) | fail))
            have KQ : Hid (Rd RC c o' (wm.drewN nq) ∧ Rd RD d o' (wm.drewN nq) ∧ Below w.heap.size w (wm.drewN nq)) := Lib.hid ⟨KM.out.1, KM.out.2.1, KM.out.2.2.trans ((below_drewN _ _).mono KM.out.2.2.size)⟩
            clear KM GO EN EX LE LX cb
            go_wp2
            go_roundg (gk - 1)
            case measure => omega
            case rel => exact ⟨i + 1, o', by omega, by go_num, LO.out, KQ.out⟩
        · skip
          by_cases z2 : z = 2
          · have t0 : (z == 0) = false := by simp [z0]
            have t1 : (z == 1) = false := by simp [z1]
            have t2 : (z == 2) = true := by simp [z2]
            clear z0 z1 z2
            have K2 := Lib.hid (AL.out (.cells #[.int .i64 k, .int .u64 (n : Int), .string s0, .int .i64 m] 33))
            have y0 : (wr.alloc (.cells #[.int .i64 k, .int .u64 (n : Int), .string s0, .int .i64 m] 33)).cell? ⟨wr.heap.size, 0, none⟩ = some (.int .i64 k) := by simp [go_sem]
            have y1 : (wr.alloc (.cells #[.int .i64 k, .int .u64 (n : Int), .string s0, .int .i64 m] 33)).cell? ⟨wr.heap.size, 1, none⟩ = some (.int .u64 (n : Int)) := by simp [go_sem]
            have y3 : (wr.alloc (.cells #[.int .i64 k, .int .u64 (n : Int), .string s0, .int .i64 m] 33)).cell? ⟨wr.heap.size, 3, none⟩ = some (.int .i64 m) := by simp [go_sem]
            have hR : Hid (∀ W, Rd RC c o W → Calls Try.prog 24 #[self c, .int .i64 m] W fun e w' => e = .returned (.string (mkB (text o m).1)) ∧ Rd RC c (text o m).2 w' ∧ Apart c W w') := Lib.hid (fun W k => text_rd c o m W k wm (by omega))
            have hX : Hid (∀ W, Rd RD d o W → Calls Try.prog 25 #[self d, .int .i64 m] W fun e w' => e = .returned (.string (mkB (text o m).1)) ∧ Rd RD d (text o m).2 w' ∧ Apart d W w') := Lib.hid (fun W k => text_dc d o m W k wm (by omega))
            have lo := text_left o m
            generalize text o m = vo at *
            obtain ⟨v, o'⟩ := vo
            simp only at hR hX lo
            have lo2 : left o' ≤ 120 := by omega
            clear lo hlo
            go_wp2_with fail
            have KS : Hid ((wr.alloc (.cells #[.int .i64 k, .int .u64 (n : Int), .string s0, .int .i64 m] 33)).cell? ⟨wr.heap.size, 3, none⟩ = some (.int .i64 m) ∧ Below w.heap.size w (wr.alloc (.cells #[.int .i64 k, .int .u64 (n : Int), .string s0, .int .i64 m] 33))) := Lib.hid ⟨y3, K2.out.2.2⟩
            have KD : Hid ((wr.alloc (.cells #[.int .i64 k, .int .u64 (n : Int), .string s0, .int .i64 m] 33)).drew.cell? ⟨wr.heap.size, 3, none⟩ = some (.int .i64 m) ∧ Below w.heap.size w (wr.alloc (.cells #[.int .i64 k, .int .u64 (n : Int), .string s0, .int .i64 m] 33)).drew) := Lib.hid ⟨y3, K2.out.2.2.drew⟩
            have hrd : Rd RC c o (wr.alloc (.cells #[.int .i64 k, .int .u64 (n : Int), .string s0, .int .i64 m] 33)).drew := K2.out.1
            have hxd : Rd RD d o (wr.alloc (.cells #[.int .i64 k, .int .u64 (n : Int), .string s0, .int .i64 m] 33)).drew := K2.out.2.1
            go_region_held3 (fun w' => w'.cell? ⟨wr.heap.size, 3, none⟩ = some (.int .i64 m) ∧ Below w.heap.size w w') (first | exact KS.out | exact KD.out | assumption) (first | (go_at_call 24; (with_reducible refine (hR.out _ hrd).mono ?_); rintro e wn ⟨rfl, hrn, han⟩; (have kn := held3_call (w' := wn) KD.out zc hnc han); (have hxn := hxd.apart han hdc)) | (go_at_call 25; (with_reducible refine (hX.out _ hxn).mono ?_); rintro e wm ⟨rfl, hxm, ham⟩; (have km := held3_call (w' := wm) kn zd hnd ham); (have hrm := hrn.apart ham (Ne.symm hdc))) | fail)
            have bm := km.2
            clear hR hX km kn han ham hrd hxd KS KD hrn hxn y0 y1 y3 K2
            have KM : Hid (Rd RC c o' wm ∧ Rd RD d o' wm ∧ Below w.heap.size w wm) := Lib.hid ⟨hrm, hxm, bm⟩
            obtain ⟨sx, hsx⟩ := hxm.cells
            have cb : wm.cell? ⟨d, 1, none⟩ = some (.bool (!o'.isSome)) := by rw [Lib.cell_of_heap hsx]; rfl
            have GO : Hid (∀ q, Calls Try.prog 28 #[self c] (wm.drewN q) fun e w' => e = .returned (.bool o'.isSome) ∧ w' = wm.drewN q) := Lib.hid (fun q => good_any c o' (wm.drewN q) hrm)
            have EN : Hid (∀ q, Calls Try.prog 29 #[self c] (wm.drewN q) fun e w' => e = .returned (.bool (ended o')) ∧ w' = wm.drewN q) := Lib.hid (fun q => end_rd c o' (wm.drewN q) hrm)
            have EX : Hid (∀ q, Calls Try.prog 30 #[self d] (wm.drewN q) fun e w' => e = .returned (.bool (ended o')) ∧ w' = wm.drewN q) := Lib.hid (fun q => end_dc d o' (wm.drewN q) hxm)
            have LE : Hid (∀ q, Calls Try.prog 31 #[self c] (wm.drewN q) fun e w' => e = .returned (.int .i64 (left o' : Int)) ∧ w' = wm.drewN q) := Lib.hid (fun q => left_rd c o' (wm.drewN q) hrm)
            have LX : Hid (∀ q, Calls Try.prog 32 #[self d] (wm.drewN q) fun e w' => e = .returned (.int .i64 (left o' : Int)) ∧ w' = wm.drewN q) := Lib.hid (fun q => left_dc d o' (wm.drewN q) hxm)
            clear hrm hxm bm hsx
            generalize o'.isSome = gd at GO cb
            generalize ended o' = en at EN EX
            have LO := Lib.hid lo2
            clear lo2
            generalize hle : left o' = le at LE LX
            clear hle
            have n1 : (en != en) = false := by cases en <;> rfl
            have n2 : ((le : Int) != (le : Int)) = false := by simp
            go_wp2_with fail
            cases gd
            all_goals
              go_quiet ((first | (go_at_call 28; exact Calls.quiet_of_same (GO.out _)) | (go_at_call 29; exact Calls.quiet_of_same (EN.out _)) | (go_at_call 30; exact Calls.quiet_of_same (EX.out _)) | (go_at_call 31; exact Calls.quiet_of_same (LE.out _)) | (go_at_call 32; exact Calls.quiet_of_same (LX.out _)) | fail))
              have KQ : Hid (Rd RC c o' (wm.drewN nq) ∧ Rd RD d o' (wm.drewN nq) ∧ Below w.heap.size w (wm.drewN nq)) := Lib.hid ⟨KM.out.1, KM.out.2.1, KM.out.2.2.trans ((below_drewN _ _).mono KM.out.2.2.size)⟩
              clear KM GO EN EX LE LX cb
              go_wp2
              go_roundg (gk - 1)
              case measure => omega
              case rel => exact ⟨i + 1, o', by omega, by go_num, LO.out, KQ.out⟩
          · skip
            have t0 : (z == 0) = false := by simp [z0]
            have t1 : (z == 1) = false := by simp [z1]
            have t2 : (z == 2) = false := by simp [z2]
            clear z0 z1 z2
            have K2 := Lib.hid (AL.out (.cells #[.int .i64 k, .int .u64 (n : Int), .string s0, .int .i64 m] 33))
            have y0 : (wr.alloc (.cells #[.int .i64 k, .int .u64 (n : Int), .string s0, .int .i64 m] 33)).cell? ⟨wr.heap.size, 0, none⟩ = some (.int .i64 k) := by simp [go_sem]
            have y1 : (wr.alloc (.cells #[.int .i64 k, .int .u64 (n : Int), .string s0, .int .i64 m] 33)).cell? ⟨wr.heap.size, 1, none⟩ = some (.int .u64 (n : Int)) := by simp [go_sem]
            have y3 : (wr.alloc (.cells #[.int .i64 k, .int .u64 (n : Int), .string s0, .int .i64 m] 33)).cell? ⟨wr.heap.size, 3, none⟩ = some (.int .i64 m) := by simp [go_sem]
            have hR : Hid (∀ W, Rd RC c o W → Calls Try.prog 26 #[self c] W fun e w' => e = .returned (.bool (flag o).1) ∧ Rd RC c (flag o).2 w' ∧ Apart c W w') := Lib.hid (fun W k => flag_rd c o W k (by omega))
            have hX : Hid (∀ W, Rd RD d o W → Calls Try.prog 27 #[self d] W fun e w' => e = .returned (.bool (flag o).1) ∧ Rd RD d (flag o).2 w' ∧ Apart d W w') := Lib.hid (fun W k => flag_dc d o W k (by omega))
            have lo := flag_left o
            generalize flag o = vo at *
            obtain ⟨v, o'⟩ := vo
            simp only at hR hX lo
            have lo2 : left o' ≤ 120 := by omega
            clear lo hlo
            go_wp2_with fail
            (with_reducible refine (hR.out _ K2.out.1).mono ?_)
            rintro e wn ⟨rfl, hrn, han⟩
            have hxn := K2.out.2.1.apart han hdc
            have bn := K2.out.2.2.trans (han.below zc K2.out.2.2.size)
            go_wp2_with fail
            (with_reducible refine (hX.out _ hxn).mono ?_)
            rintro e wm ⟨rfl, hxm, ham⟩
            have hrm := hrn.apart ham (Ne.symm hdc)
            have bm := bn.trans (ham.below zd bn.size)
            clear hR hX han ham hrn hxn bn y0 y1 y3 K2
            have KM : Hid (Rd RC c o' wm ∧ Rd RD d o' wm ∧ Below w.heap.size w wm) := Lib.hid ⟨hrm, hxm, bm⟩
            obtain ⟨sx, hsx⟩ := hxm.cells
            have cb : wm.cell? ⟨d, 1, none⟩ = some (.bool (!o'.isSome)) := by rw [Lib.cell_of_heap hsx]; rfl
            have GO : Hid (∀ q, Calls Try.prog 28 #[self c] (wm.drewN q) fun e w' => e = .returned (.bool o'.isSome) ∧ w' = wm.drewN q) := Lib.hid (fun q => good_any c o' (wm.drewN q) hrm)
            have EN : Hid (∀ q, Calls Try.prog 29 #[self c] (wm.drewN q) fun e w' => e = .returned (.bool (ended o')) ∧ w' = wm.drewN q) := Lib.hid (fun q => end_rd c o' (wm.drewN q) hrm)
            have EX : Hid (∀ q, Calls Try.prog 30 #[self d] (wm.drewN q) fun e w' => e = .returned (.bool (ended o')) ∧ w' = wm.drewN q) := Lib.hid (fun q => end_dc d o' (wm.drewN q) hxm)
            have LE : Hid (∀ q, Calls Try.prog 31 #[self c] (wm.drewN q) fun e w' => e = .returned (.int .i64 (left o' : Int)) ∧ w' = wm.drewN q) := Lib.hid (fun q => left_rd c o' (wm.drewN q) hrm)
            have LX : Hid (∀ q, Calls Try.prog 32 #[self d] (wm.drewN q) fun e w' => e = .returned (.int .i64 (left o' : Int)) ∧ w' = wm.drewN q) := Lib.hid (fun q => left_dc d o' (wm.drewN q) hxm)
            clear hrm hxm bm hsx
            generalize o'.isSome = gd at GO cb
            generalize ended o' = en at EN EX
            have LO := Lib.hid lo2
            clear lo2
            generalize hle : left o' = le at LE LX
            clear hle
            have n1 : (en != en) = false := by cases en <;> rfl
            have n2 : ((le : Int) != (le : Int)) = false := by simp
            go_wp2_with fail
            cases gd
            all_goals
              go_quiet ((first | (go_at_call 28; exact Calls.quiet_of_same (GO.out _)) | (go_at_call 29; exact Calls.quiet_of_same (EN.out _)) | (go_at_call 30; exact Calls.quiet_of_same (EX.out _)) | (go_at_call 31; exact Calls.quiet_of_same (LE.out _)) | (go_at_call 32; exact Calls.quiet_of_same (LX.out _)) | fail))
              have KQ : Hid (Rd RC c o' (wm.drewN nq) ∧ Rd RD d o' (wm.drewN nq) ∧ Below w.heap.size w (wm.drewN nq)) := Lib.hid ⟨KM.out.1, KM.out.2.1, KM.out.2.2.trans ((below_drewN _ _).mono KM.out.2.2.size)⟩
              clear KM GO EN EX LE LX cb
              go_wp2
              go_roundg (gk - 1)
              case measure => omega
              case rel => exact ⟨i + 1, o', by omega, by go_num, LO.out, KQ.out⟩
    · have hge : ¬ (i < len ∧ i < 20) := hin
      obtain ⟨k1, k2, b1⟩ := K.out
      clear K NU
      by_cases h1 : i < len
      · have h2 : 20 ≤ i := by omega
        clear hin hge
        go_wp2
        go_ret
        exact ⟨rfl, b1⟩
      · have h2 : len ≤ i := by omega
        clear hin hge h1
        go_wp2
        go_ret
        exact ⟨rfl, b1⟩

set_option maxRecDepth 100000 in
set_option maxHeartbeats 1600000 in
theorem lifted (os : Os) (started : os.Started) (H : Type) (enc : TypeId × Value → H) :
    ReturnsInHanded {} Try.checked os 4 .any (Rows.octetReadsSpec.pre6 enc Try.prog Try.f4 Rows.octetReadsRow.domain false) (Rows.octetReadsSpec.post enc Try.prog Try.f4 false true false false) := by
  refine returnsInHanded_of_change (C := Try.checked) own started (by kernel_rfl) Try.func4
    (ChangeSpec.witness6 (enc := enc) (C := Try.checked) false ⟨#[], #[.string ⟨#[]⟩, .slice none 0 0], []⟩ 8 (by kernel_rfl) (by kernel_rfl) (by kernel_rfl) (by kernel_rfl)) ?_
  intro W base args ds gs before hval0 hW hcnd _
  have hval : ∀ (j : Nat) t v, Try.f4.params[j]? = some t → args[j]? = some v → Value.okWide Try.prog W .any base t v := hval0
  have hW' := hW
  obtain ⟨p, q, hA0, hV, rfl, hfz, hnd⟩ := hW
  have hA : DataW.TrodAll enc Try.prog W 0 (fun _ => true) true Try.f4.params.toList args.toList ds p := hA0
  rw [Try.params4] at hA hval
  obtain ⟨v0, vs0, d0, ds0, p0, q0, hargs, rfl, rfl, h0, r0⟩ := trodAll_cons hA
  obtain ⟨v1, vs1, d1, ds1, p1, q1, rfl, rfl, rfl, h1, r1⟩ := trodAll_cons r0
  obtain ⟨rfl, rfl, rfl⟩ := trodAll_nil r1
  obtain rfl : args = #[v0, v1] := by cases args; simp_all
  obtain ⟨rfl, rfl⟩ := trodVars_none hV
  have lt0 : ∀ x ∈ p0, x.block < W.heap.size := by obtain ⟨m, hm⟩ := h0; exact DataW.trod_lt m _ _ _ hm
  obtain ⟨s, e0, -, -, szs⟩ := Go.ChangeMaps.open_string Try.underlying9 (hval 0 9 v0 rfl rfl) h0
  subst e0
  have lt1 : ∀ x ∈ p1, x.block < W.heap.size := by obtain ⟨m, hm⟩ := h1; exact DataW.trod_lt m _ _ _ hm
  obtain ⟨ao, len, cap, e1, hlen, hN⟩ := open_calls (hval 1 22 v1 rfl rfl) h1
  subst e1
  clear hA0 hval0
  refine (walk s ao len cap W hlen hN).mono fun e W' ⟨he, bel⟩ => ?_
  subst he
  exact ⟨_, rfl, _, _, _, [], _, [], hW', trodAll_mk1 (shut_bool Try.underlying4 _), (trodAll_cons_mk (Below.trod laidOut (by kernel_rfl) (of_decide_eq_true (by kernel_rfl)) h0 bel lt0) (trodAll_cons_mk (Below.trod laidOut (by kernel_rfl) (of_decide_eq_true (by kernel_rfl)) h1 bel lt1) trodAll_mk0)), rfl, bel.frame _, fun h => by cases h⟩

theorem proved : Rows.OctetReadsSaid :=
  OpenClaim.holds_of_wide 4 Try.f4 rfl rfl rfl rfl rfl rfl rfl ⟨rfl, rfl, rfl, rfl, rfl⟩ rfl rfl rfl rfl rfl (by kernel_rfl) Try.func4 (by kernel_rfl)
    (of_decide_eq_true (by kernel_rfl)) (by unfold Func.isWrapper; first | (rw [if_pos (by decide +kernel)]; kernel_rfl) | (rw [if_neg (by decide +kernel)]; exact ⟨rfl, rfl⟩))
    (fun os started H enc _ => lifted os started H enc)
#print axioms proved
end Go.Proofs.Ythmbnnbdphobiaa.octetReads
