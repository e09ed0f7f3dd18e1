/- horariumlaw03.OctetWrites answers true at every row of calls, and leaves it as it was: what is put is put as the document puts it. No condition. -/
import Derived.Test.YthmbnnbdphobiaaOcC
namespace Go.Proofs.Ythmbnnbdphobiaa.octetWrites
open Go.ChangeShapes Go.WideShapes Go.ChangeAt Go.RowKit Go.Joins
set_option linter.unusedVariables false
set_option linter.unusedSimpArgs false

def OwRel (B : Nat) (w : World) (g : Nat) (s5 s6 : Value) (wx : World) : Prop := ∃ (i : Nat) (L : List UInt8), i + g = 20 ∧ s6 = .int .i64 (i : Int) ∧ s5 = .string (mkB L) ∧ L.length ≤ 100 * i ∧ Wr B B L wx ∧ Below w.heap.size w wx ∧ B ≤ wx.heap.size
set_option maxRecDepth 100000 in
set_option maxHeartbeats 8000000 in
theorem walk (ao : Option Addr) (len cap : Nat) (w : World) (hlen : len ≤ 9223372036854775807) (hN : Row ao len w) :
    Calls Try.prog 3 #[.slice ao len cap] w fun e w' => e = .returned (.bool true) ∧ Below w.heap.size w w' := by
  obtain ⟨j, hj, _⟩ := Option.map_eq_some_iff.1 szW
  have NE : ∀ (W : World) (a : Addr), (binOp .neq 24 (.pointer (some a)) (.pointer (some a))).run Try.prog W = .ok (.bool false) W := fun W a => Lib.run_neq_ptr_same W a Try.underlying24 hj
  have NU := Lib.hid hN
  clear hN
  go_enter Try.func3, Try.ntmps3
  go_wp2_with fail
  (with_reducible refine (awake_any _).mono ?_)
  rintro e w1 ⟨rfl, b1⟩
  have k0 := fresh_wr w1
  have b2 := b1.alloc b1.size (.cells #[.pointer none, .slice none 0 0, .pointer none] 30)
  have zB : w.heap.size ≤ w1.heap.size := b1.size
  have K0 : Hid (Wr w1.heap.size w1.heap.size [] (w1.alloc (.cells #[.pointer none, .slice none 0 0, .pointer none] 30)) ∧ Below w.heap.size w (w1.alloc (.cells #[.pointer none, .slice none 0 0, .pointer none] 30)) ∧ w1.heap.size ≤ (w1.alloc (.cells #[.pointer none, .slice none 0 0, .pointer none] 30)).heap.size) := Lib.hid ⟨k0, b2, by simp⟩
  clear k0 b1 b2
  go_wp2_with fail
  generalize w1.alloc (.cells #[.pointer none, .slice none 0 0, .pointer none] 30) = w3 at *
  generalize w1.heap.size = B at *
  go_loopg [5, 6] 20 (OwRel B w)
  case atStart => exact ⟨0, [], by omega, rfl, rfl, by simp, K0.out⟩
  case round =>
    obtain ⟨i, L, hg, rfl, rfl, hL, hk⟩ := hrel
    have K := Lib.hid hk
    clear hk K0
    by_cases hin : i < len ∧ i < 20
    · obtain ⟨h1, h2⟩ := hin
      obtain ⟨b, off, rfl, hbl, hcell⟩ := NU.out (by omega)
      obtain ⟨k, n, s0, m, hca⟩ := hcell i h1
      have hca2 := hca.below K.out.2.1 hbl
      have x0 := hca2.kind
      have x1 := hca2.num
      have x2 := hca2.str
      have x3 := hca2.most
      have wn := hca2.wn
      have wm := hca2.wm
      clear hca hca2 hcell NU
      have S1 : Hid (∀ w : World, Calls Try.prog 9 #[.string s0, .int .i64 60] w fun e w' => e = .returned (.string (cut s0 60)) ∧ w' = w) := Lib.hid (fun w => short_any s0 60 w (by omega))
      have zs := cut_size s0 60
      generalize cut s0 60 = s at *
      go_wp2_with fail
      (with_reducible refine (S1.out _).mono ?_)
      rintro e w4 ⟨rfl, hw4⟩
      clear S1
      have K2 : Hid (Wr B B L w4 ∧ Below w.heap.size w w4 ∧ B ≤ w4.heap.size) := Lib.hid (by rw [hw4]; exact ⟨K.out.1.call ((Below.refl _ _).alloc (Nat.le_refl _) _), K.out.2.1.alloc K.out.2.1.size _, by have := K.out.2.2; simp; omega⟩)
      have CB : Hid (w4.heap[wr.heap.size]? = some (.cells #[.int .i64 k, .int .u64 (n : Int), .string s0, .int .i64 m] 33 (0, 0)) ∧ 33 ≠ 5) := Lib.hid (by rw [hw4]; exact ⟨heap_alloc_new wr _, by decide⟩)
      have hne : wr.heap.size ≠ B := by have := K.out.1.lt; omega
      have y0 : w4.cell? ⟨wr.heap.size, 0, none⟩ = some (.int .i64 k) := by rw [Lib.cell_of_heap CB.out.1]; rfl
      have y1 : w4.cell? ⟨wr.heap.size, 1, none⟩ = some (.int .u64 (n : Int)) := by rw [Lib.cell_of_heap CB.out.1]; rfl
      have y3 : w4.cell? ⟨wr.heap.size, 3, none⟩ = some (.int .i64 m) := by rw [Lib.cell_of_heap CB.out.1]; rfl
      clear hw4 K x0 x1 x2 x3
      have hz : ∃ z, bits .and .i64 k 3 = z := ⟨_, rfl⟩
      obtain ⟨z, hz⟩ := hz
      have hfb : ∃ fb, (bits .and .u64 (n : Int) 1 == 1) = fb := ⟨_, rfl⟩
      obtain ⟨fb, hfb⟩ := hfb
      by_cases z0 : z = 0
      · have t0 : (z == 0) = true := by simp [z0]
        clear z0
        have lp : (enc n).length ≤ 80 := by have := enc_len9 wn; omega
        have sp := mkB_size (enc n)
        have sL := mkB_size L
        have ap : mkB L ++ mkB (enc n) = mkB (L ++ (enc n)) := by rw [app_mkB, mkB_data]
        go_wp2_with fail
        (with_reducible refine (num_any B B n L _ K2.out.1 wn (by omega) K2.out.2.2).mono ?_)
        rintro e w5 ⟨rfl, k5, m5⟩
        have b5 := K2.out.2.1.trans ((K2.out.1.below m5 K2.out.2.2).mono zB)
        have z5 := Nat.le_trans K2.out.2.2 m5.size
        have c5 := m5.keep_cells K2.out.1 CB.out hne
        clear m5 K2
        have y1 : w5.cell? ⟨wr.heap.size, 1, none⟩ = some (.int .u64 (n : Int)) := by rw [Lib.cell_of_heap c5]; rfl
        have y3 : w5.cell? ⟨wr.heap.size, 3, none⟩ = some (.int .i64 m) := by rw [Lib.cell_of_heap c5]; rfl
        go_wp2_with fail
        (with_reducible refine (num_rf n _ wn).mono ?_)
        rintro e w6 ⟨rfl, b6⟩
        have k6 := k5.call b6
        have b7 := b5.trans (b6.mono b5.size)
        have z7 := Nat.le_trans z5 b6.size
        clear k5 b5 z5 b6 c5 y1 y3 CB
        go_wp2_with fail
        (with_reducible refine (wstring_any B B (L ++ (enc n)) _ k6 (by rw [List.length_append]; omega)).mono ?_)
        rintro e w7 ⟨rfl, k7, m7⟩
        have K7 : Hid (Wr B B (L ++ (enc n)) w7 ∧ Below w.heap.size w w7 ∧ B ≤ w7.heap.size) := Lib.hid ⟨k7, b7.trans ((k6.below m7 z7).mono zB), Nat.le_trans z7 m7.size⟩
        have HL : Hid ((L ++ (enc n)).length ≤ 100 * (i + 1)) := Lib.hid (by rw [List.length_append]; omega)
        clear k6 k7 m7 b7 z7 ap sp sL lp
        generalize L ++ (enc n) = L' at *
        go_wp2
        go_roundg (gk - 1)
        case measure => omega
        case rel => exact ⟨i + 1, L', by omega, by go_num, rfl, HL.out, K7.out⟩
      · skip
        by_cases z1 : z = 1
        · have t0 : (z == 0) = false := by simp [z0]
          have t1 : (z == 1) = true := by simp [z1]
          clear z0 z1
          have lp : (encInt m).length ≤ 80 := by have := enc_len9 (n := m.toNat) (by have hb : -9223372036854775808 ≤ m ∧ m ≤ 9223372036854775807 := by { simp [Lit.wf, IntKind.min, IntKind.max, IntKind.bits, IntKind.signed] at wm; omega }; omega); unfold encInt; omega
          have sp := mkB_size (encInt m)
          have sL := mkB_size L
          have ap : mkB L ++ mkB (encInt m) = mkB (L ++ (encInt m)) := by rw [app_mkB, mkB_data]
          go_wp2_with fail
          (with_reducible refine (int_any B B m L _ K2.out.1 wm (by omega) K2.out.2.2).mono ?_)
          rintro e w5 ⟨rfl, k5, m5⟩
          have b5 := K2.out.2.1.trans ((K2.out.1.below m5 K2.out.2.2).mono zB)
          have z5 := Nat.le_trans K2.out.2.2 m5.size
          have c5 := m5.keep_cells K2.out.1 CB.out hne
          clear m5 K2
          have y1 : w5.cell? ⟨wr.heap.size, 1, none⟩ = some (.int .u64 (n : Int)) := by rw [Lib.cell_of_heap c5]; rfl
          have y3 : w5.cell? ⟨wr.heap.size, 3, none⟩ = some (.int .i64 m) := by rw [Lib.cell_of_heap c5]; rfl
          go_wp2_with fail
          (with_reducible refine (int_rf m _ wm).mono ?_)
          rintro e w6 ⟨rfl, b6⟩
          have k6 := k5.call b6
          have b7 := b5.trans (b6.mono b5.size)
          have z7 := Nat.le_trans z5 b6.size
          clear k5 b5 z5 b6 c5 y1 y3 CB
          go_wp2_with fail
          (with_reducible refine (wstring_any B B (L ++ (encInt m)) _ k6 (by rw [List.length_append]; omega)).mono ?_)
          rintro e w7 ⟨rfl, k7, m7⟩
          have K7 : Hid (Wr B B (L ++ (encInt m)) w7 ∧ Below w.heap.size w w7 ∧ B ≤ w7.heap.size) := Lib.hid ⟨k7, b7.trans ((k6.below m7 z7).mono zB), Nat.le_trans z7 m7.size⟩
          have HL : Hid ((L ++ (encInt m)).length ≤ 100 * (i + 1)) := Lib.hid (by rw [List.length_append]; omega)
          clear k6 k7 m7 b7 z7 ap sp sL lp
          generalize L ++ (encInt m) = L' at *
          go_wp2
          go_roundg (gk - 1)
          case measure => omega
          case rel => exact ⟨i + 1, L', by omega, by go_num, rfl, HL.out, K7.out⟩
        · skip
          by_cases z2 : z = 2
          · have t0 : (z == 0) = false := by simp [z0]
            have t1 : (z == 1) = false := by simp [z1]
            have t2 : (z == 2) = true := by simp [z2]
            clear z0 z1 z2
            have lp : (encText s.data.toList).length ≤ 80 := by have := enc_len9 (n := s.size) (by omega); unfold encText; rw [List.length_append, list_size]; omega
            have sp := mkB_size (encText s.data.toList)
            have sL := mkB_size L
            have ap : mkB L ++ mkB (encText s.data.toList) = mkB (L ++ (encText s.data.toList)) := by rw [app_mkB, mkB_data]
            go_wp2_with fail
            (with_reducible refine (text_any B B s L _ K2.out.1 (by omega) (by omega) K2.out.2.2).mono ?_)
            rintro e w5 ⟨rfl, k5, m5⟩
            have b5 := K2.out.2.1.trans ((K2.out.1.below m5 K2.out.2.2).mono zB)
            have z5 := Nat.le_trans K2.out.2.2 m5.size
            have c5 := m5.keep_cells K2.out.1 CB.out hne
            clear m5 K2
            have y1 : w5.cell? ⟨wr.heap.size, 1, none⟩ = some (.int .u64 (n : Int)) := by rw [Lib.cell_of_heap c5]; rfl
            have y3 : w5.cell? ⟨wr.heap.size, 3, none⟩ = some (.int .i64 m) := by rw [Lib.cell_of_heap c5]; rfl
            go_wp2_with fail
            (with_reducible refine (text_rf s _ (by omega)).mono ?_)
            rintro e w6 ⟨rfl, b6⟩
            have k6 := k5.call b6
            have b7 := b5.trans (b6.mono b5.size)
            have z7 := Nat.le_trans z5 b6.size
            clear k5 b5 z5 b6 c5 y1 y3 CB
            go_wp2_with fail
            (with_reducible refine (wstring_any B B (L ++ (encText s.data.toList)) _ k6 (by rw [List.length_append]; omega)).mono ?_)
            rintro e w7 ⟨rfl, k7, m7⟩
            have K7 : Hid (Wr B B (L ++ (encText s.data.toList)) w7 ∧ Below w.heap.size w w7 ∧ B ≤ w7.heap.size) := Lib.hid ⟨k7, b7.trans ((k6.below m7 z7).mono zB), Nat.le_trans z7 m7.size⟩
            have HL : Hid ((L ++ (encText s.data.toList)).length ≤ 100 * (i + 1)) := Lib.hid (by rw [List.length_append]; omega)
            clear k6 k7 m7 b7 z7 ap sp sL lp
            generalize L ++ (encText s.data.toList) = L' at *
            go_wp2
            go_roundg (gk - 1)
            case measure => omega
            case rel => exact ⟨i + 1, L', by omega, by go_num, rfl, HL.out, K7.out⟩
          · skip
            have t0 : (z == 0) = false := by simp [z0]
            have t1 : (z == 1) = false := by simp [z1]
            have t2 : (z == 2) = false := by simp [z2]
            clear z0 z1 z2
            have lp : (encFlag fb).length ≤ 80 := by have := enc_len9 (n := if fb then 1 else 0) (by split <;> omega); unfold encFlag; omega
            have sp := mkB_size (encFlag fb)
            have sL := mkB_size L
            have ap : mkB L ++ mkB (encFlag fb) = mkB (L ++ (encFlag fb)) := by rw [app_mkB, mkB_data]
            go_wp2_with fail
            (with_reducible refine (flag_any B B fb L _ K2.out.1 (by omega) K2.out.2.2).mono ?_)
            rintro e w5 ⟨rfl, k5, m5⟩
            have b5 := K2.out.2.1.trans ((K2.out.1.below m5 K2.out.2.2).mono zB)
            have z5 := Nat.le_trans K2.out.2.2 m5.size
            have c5 := m5.keep_cells K2.out.1 CB.out hne
            clear m5 K2
            have y1 : w5.cell? ⟨wr.heap.size, 1, none⟩ = some (.int .u64 (n : Int)) := by rw [Lib.cell_of_heap c5]; rfl
            have y3 : w5.cell? ⟨wr.heap.size, 3, none⟩ = some (.int .i64 m) := by rw [Lib.cell_of_heap c5]; rfl
            go_wp2_with fail
            (with_reducible refine (flag_rf fb _).mono ?_)
            rintro e w6 ⟨rfl, b6⟩
            have k6 := k5.call b6
            have b7 := b5.trans (b6.mono b5.size)
            have z7 := Nat.le_trans z5 b6.size
            clear k5 b5 z5 b6 c5 y1 y3 CB
            go_wp2_with fail
            (with_reducible refine (wstring_any B B (L ++ (encFlag fb)) _ k6 (by rw [List.length_append]; omega)).mono ?_)
            rintro e w7 ⟨rfl, k7, m7⟩
            have K7 : Hid (Wr B B (L ++ (encFlag fb)) w7 ∧ Below w.heap.size w w7 ∧ B ≤ w7.heap.size) := Lib.hid ⟨k7, b7.trans ((k6.below m7 z7).mono zB), Nat.le_trans z7 m7.size⟩
            have HL : Hid ((L ++ (encFlag fb)).length ≤ 100 * (i + 1)) := Lib.hid (by rw [List.length_append]; omega)
            clear k6 k7 m7 b7 z7 ap sp sL lp
            generalize L ++ (encFlag fb) = L' at *
            go_wp2
            go_roundg (gk - 1)
            case measure => omega
            case rel => exact ⟨i + 1, L', by omega, by go_num, rfl, HL.out, K7.out⟩
    · have hge : ¬ (i < len ∧ i < 20) := hin
      obtain ⟨k1, b1, z1⟩ := K.out
      clear K NU
      by_cases h1 : i < len
      · have h2 : 20 ≤ i := by omega
        clear hin hge
        go_wp2
        go_ret
        exact ⟨rfl, b1⟩
      · have h2 : len ≤ i := by omega
        clear hin hge h1
        go_wp2
        go_ret
        exact ⟨rfl, b1⟩

set_option maxRecDepth 100000 in
set_option maxHeartbeats 1600000 in
theorem lifted (os : Os) (started : os.Started) (H : Type) (enc : TypeId × Value → H) :
    ReturnsInHanded {} Try.checked os 3 .any (Rows.octetWritesSpec.pre6 enc Try.prog Try.f3 Rows.octetWritesRow.domain false) (Rows.octetWritesSpec.post enc Try.prog Try.f3 false true false false) := by
  refine returnsInHanded_of_change (C := Try.checked) own started (by kernel_rfl) Try.func3
    (ChangeSpec.witness6 (enc := enc) (C := Try.checked) false ⟨#[], #[.slice none 0 0], []⟩ 8 (by kernel_rfl) (by kernel_rfl) (by kernel_rfl) (by kernel_rfl)) ?_
  intro W base args ds gs before hval0 hW hcnd _
  have hval : ∀ (j : Nat) t v, Try.f3.params[j]? = some t → args[j]? = some v → Value.okWide Try.prog W .any base t v := hval0
  have hW' := hW
  obtain ⟨p, q, hA0, hV, rfl, hfz, hnd⟩ := hW
  have hA : DataW.TrodAll enc Try.prog W 0 (fun _ => true) true Try.f3.params.toList args.toList ds p := hA0
  rw [Try.params3] at hA hval
  obtain ⟨v0, vs0, d0, ds0, p0, q0, hargs, rfl, rfl, h0, r0⟩ := trodAll_cons hA
  obtain ⟨rfl, rfl, rfl⟩ := trodAll_nil r0
  obtain rfl : args = #[v0] := by cases args; simp_all
  obtain ⟨rfl, rfl⟩ := trodVars_none hV
  have lt0 : ∀ x ∈ p0, x.block < W.heap.size := by obtain ⟨m, hm⟩ := h0; exact DataW.trod_lt m _ _ _ hm
  obtain ⟨ao, len, cap, e0, hlen, hN⟩ := open_calls (hval 0 22 v0 rfl rfl) h0
  subst e0
  clear hA0 hval0
  refine (walk ao len cap W hlen hN).mono fun e W' ⟨he, bel⟩ => ?_
  subst he
  exact ⟨_, rfl, _, _, _, [], _, [], hW', trodAll_mk1 (shut_bool Try.underlying4 _), (trodAll_cons_mk (Below.trod laidOut (by kernel_rfl) (of_decide_eq_true (by kernel_rfl)) h0 bel lt0) trodAll_mk0), rfl, bel.frame _, fun h => by cases h⟩

theorem proved : Rows.OctetWritesSaid :=
  OpenClaim.holds_of_wide 3 Try.f3 rfl rfl rfl rfl rfl rfl rfl ⟨rfl, rfl, rfl, rfl, rfl⟩ rfl rfl rfl rfl rfl (by kernel_rfl) Try.func3 (by kernel_rfl)
    (of_decide_eq_true (by kernel_rfl)) (by unfold Func.isWrapper; first | (rw [if_pos (by decide +kernel)]; kernel_rfl) | (rw [if_neg (by decide +kernel)]; exact ⟨rfl, rfl⟩))
    (fun os started H enc _ => lifted os started H enc)
#print axioms proved
end Go.Proofs.Ythmbnnbdphobiaa.octetWrites
