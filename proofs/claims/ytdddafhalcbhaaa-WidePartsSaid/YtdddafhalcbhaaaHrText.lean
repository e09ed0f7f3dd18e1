/- The document's Text: what it answers; its Div by 0. -/
import Derived.Test.YtdddafhalcbhaaaHrDiv
import Derived.Test.YtdddafhalcbhaaaHwTL
namespace Go.Proofs.Ytdddafhalcbhaaa
open Go.ChangeShapes Go.WideShapes Go.ChangeAt Go.RowKit Go.Joins
set_option linter.unusedVariables false
set_option linter.unusedSimpArgs false
theorem div_rf_zero (a b : Int) (w : World) :
    Calls Try.prog 21 #[.agg #[.int .u64 a, .int .u64 b], .int .u64 0] w fun e w' => e = .returned (.agg #[.int .u64 0, .int .u64 0, .int .u64 0, .bool false]) ∧ Below w.heap.size w w' := by
  go_enter Try.func21, Try.ntmps21
  go_wp2
  exact bodyPost_ret (v := .agg #[.int .u64 0, .int .u64 0, .int .u64 0, .bool false]) (by simp [results, Try.results21, go_sem]) rfl ⟨rfl, by repeat (first | exact Below.refl _ _ | refine Below.setCell ?_ (by first | omega | (simp; done) | (simp; omega)) _ | refine Below.alloc ?_ (by first | omega | (simp; done) | (simp; omega)) _)⟩
def tailS (N k : Nat) : ByteArray := ⟨(decK N k).toArray⟩
theorem tailS_zero (N : Nat) : tailS N 0 = ⟨#[]⟩ := rfl
theorem tailS_succ (N k : Nat) : (⟨#[UInt8.ofNat (48 + N / 10 ^ k % 10)]⟩ : ByteArray) ++ tailS N k = tailS N (k + 1) := by
  apply ByteArray.ext
  rw [ByteArray.data_append]
  unfold tailS
  rw [decK_top]
  simp [dg]
theorem tailS_next {N k r : Nat} (h : r = N / 10 ^ k % 10) : (⟨#[48 + UInt8.ofNat r]⟩ : ByteArray) ++ tailS N k = tailS N (k + 1) := by
  rw [← tailS_succ, ← h, UInt8.ofNat_add]; rfl
theorem tailS_size (N k : Nat) : (tailS N k).size = k := by
  show (decK N k).toArray.size = _
  simp [decK_length]
theorem one_byte (w : World) (g : Nat) (z : Int) (h : w.cell? ⟨g, 0, none⟩ = some (.int .u8 z)) :
    (convert 59 9 (.slice (some ⟨g, 0, none⟩) 1 1)).run Try.prog w = .ok (.string ⟨#[UInt8.ofNat z.toNat]⟩) w := by
  have hl := run_loadCells (P := Try.prog) (w := w) ⟨g, 0, none⟩ 1 (fun _ => .int .u8 z) (by
    intro j hj
    obtain rfl : j = 0 := by omega
    rw [addr_add]; exact h)
  have hm : (((List.range 1).map fun _ => Value.int .u8 z) : List Value) = [z].map (Value.int .u8) := rfl
  rw [hm] at hl
  rw [run_convert_bytes_string w _ _ _ _ _ _ Try.underlying59 Try.underlying5 Try.underlying9, run_bytesToString w _ _ _ _ hl]
  rfl
def RefTextRel (w : World) (N : Nat) (g : Nat) (s3 : Value) (wx : World) : Prop :=
  ∃ k : Nat, k + g = 40 ∧ (k = 0 ∨ 0 < N / 10 ^ (k - 1)) ∧ s3 = .string (tailS N k) ∧ wx.cell? ⟨w.heap.size, 0, none⟩ = some (.int .u64 (hi ((N / 10 ^ k : Nat) : Int))) ∧ wx.cell? ⟨w.heap.size, 1, none⟩ = some (.int .u64 (lo ((N / 10 ^ k : Nat) : Int))) ∧
    wx.frozen? ⟨w.heap.size, 0, none⟩ = false ∧ wx.frozen? ⟨w.heap.size, 1, none⟩ = false ∧ Below w.heap.size w wx ∧ w.heap.size < wx.heap.size
set_option maxRecDepth 100000 in
set_option maxHeartbeats 4000000 in
theorem text_rf (a b : Int) (N : Nat) (w : World) (ha : Is64 a) (hb : Is64 b) (hN : V a b = N) :
    Calls Try.prog 23 #[.agg #[.int .u64 a, .int .u64 b]] w fun e w' => e = .returned (.string (dec N)) ∧ Below w.heap.size w w' := by
  have HN := Lib.hid hN
  have Hlt : Hid (N < 340282366920938463463374607431768211456) := by
    have := is128_V ha hb
    rw [hN] at this; unfold Is128 at this
    exact Lib.hid (by omega)
  clear hN
  go_enter Try.func23, Try.ntmps23
  go_wp2
  go_loopg [3] 40 (RefTextRel w N)
  case atStart =>
    refine ⟨0, rfl, .inl rfl, rfl, ?_, ?_, by simp [go_sem], by simp [go_sem], below_alloc1 w _, by simp⟩
    · simp [go_sem]; rw [← HN.out, hi_V hb]
    · simp [go_sem]; rw [← HN.out, lo_V hb]
  case round =>
    obtain ⟨k, hkg, hpos, rfl, c0, c1, f0, f1, bl, hz⟩ := hrel
    have hle : N / 10 ^ k ≤ N := Nat.div_le_self _ _
    generalize hm : N / 10 ^ k = m at *
    have HM := Lib.hid hm
    have HP := Lib.hid hpos
    have BL := Lib.hid bl
    clear hm hpos bl
    by_cases hm0 : m = 0
    · have x0 : hi ((m : Nat) : Int) = 0 := by rw [hm0]; rfl
      have x1 : lo ((m : Nat) : Int) = 0 := by rw [hm0]; rfl
      rw [x0] at c0
      rw [x1] at c1
      by_cases hk : k = 0
      · subst hk
        have e : dec N = ⟨#[48]⟩ := by
          have : N = 0 := by have := HM.out; simp at this; omega
          rw [this]; exact dec_zero
        have E := Lib.hid e
        clear e x0 x1 hm0 hle
        rw [tailS_zero]
        go_wp2
        go_ret
        exact ⟨(show Ending.returned (.string ⟨#[48]⟩) = .returned (.string (dec N)) from by rw [E.out]), BL.out⟩
      · have e : dec N = tailS N k := by
          have hnd : ndig N = k := by
            refine ndig_eq (lt41 Hlt.out) (by omega) ?_ ?_
            · rcases Nat.lt_or_ge N (10 ^ k) with h | h
              · exact h
              · have h2 := Nat.div_pos h (Nat.pow_pos (by decide)); have h3 := HM.out; omega
            · have hp := HP.out
              right
              rcases Nat.lt_or_ge N (10 ^ (k - 1)) with h' | h'
              · rw [Nat.div_eq_of_lt h'] at hp; omega
              · exact h'
          unfold dec tailS; rw [hnd]
        have E := Lib.hid e
        have hsz := tailS_size N k
        have hie : (tailS N k).toList.isEmpty = false := by
          have h2 : (tailS N k).toList.length = k := by rw [ByteArray.toList_eq]; simp [tailS, decK_length]
          cases h : (tailS N k).toList with
          | nil => rw [h] at h2; simp at h2; omega
          | cons x l => rfl
        clear e x0 x1 hm0 hle hsz
        go_wp2
        go_ret
        exact ⟨(show Ending.returned (.string (tailS N k)) = .returned (.string (dec N)) from by rw [E.out]), BL.out⟩
    · have hk39 : k < 39 := by
        rcases Nat.lt_or_ge k 39 with h | h
        · exact h
        · exfalso
          apply hm0
          rw [← HM.out]
          exact Nat.div_eq_of_lt (Nat.lt_of_lt_of_le (lt128 Hlt.out) (Nat.pow_le_pow_right (by decide) h))
      have h128 : Is128 (m : Int) := by have h2 := Hlt.out; unfold Is128; omega
      have DV : Hid (∀ w, Calls Try.prog 21 #[.agg #[.int .u64 (hi (m : Int)), .int .u64 (lo (m : Int))], .int .u64 10] w fun e w' => e = .returned (quoV m 10) ∧ Below w.heap.size w w') :=
        Lib.hid (fun w => div_rf_yes (hi (m : Int)) (lo (m : Int)) 10 m 10 w (is64_hi h128) (is64_lo _) (by unfold Is64; omega) rfl (by rw [V_hi_lo]; rfl) rfl)
      unfold quoV at DV
      obtain ⟨q, hq⟩ : ∃ q : Nat, q = m / 10 := ⟨_, rfl⟩
      obtain ⟨r, hr⟩ : ∃ r : Nat, r = m % 10 := ⟨_, rfl⟩
      rw [← hq, ← hr] at DV
      have hr0 : (0 : Int) ≤ r := by omega
      have hr1 : (r : Int) < 10 := by omega
      have HQ : Hid (N / 10 ^ (k + 1) = q) := Lib.hid (by rw [hq, ← HM.out, Nat.pow_succ, Nat.div_div_eq_div_mul])
      have HR : Hid (r = N / 10 ^ k % 10) := Lib.hid (by rw [hr, ← HM.out])
      have hts := tailS_size N k
      have hts1 : (tailS N k).size ≤ 40 := by omega
      have hcv := fun (W : World) (g : Nat) (h : W.cell? ⟨g, 0, none⟩ = some (.int .u8 (48 + (r : Int)))) => one_byte W g (48 + (r : Int)) h
      have hx : ¬ hi ((m : Nat) : Int) = 0 ∨ (hi ((m : Nat) : Int) = 0 ∧ ¬ lo ((m : Nat) : Int) = 0) := by
        have := V_hi_lo ((m : Nat) : Int)
        unfold V at this
        omega
      have HP1 : Hid (0 < N / 10 ^ (k + 1 - 1)) := Lib.hid (by rw [Nat.add_sub_cancel, HM.out]; omega)
      clear hq hr hts hle h128 hm0
      rcases hx with hx | ⟨hx0, hx⟩
      · have hx1 : (hi ((m : Nat) : Int) != 0) = true := by simpa using hx
        clear hx
        go_wp2_with fail
        (with_reducible refine (DV.out _).mono ?_)
        rintro e w1 ⟨rfl, hb1⟩
        have g0 := carry hb1 c0
        have g1 := carry hb1 c1
        have h0 := carry_fr hb1 c0 f0
        have h1 := carry_fr hb1 c1 f1
        have z1 : w.heap.size < w1.heap.size := by have := hb1.size; omega
        have BL1 := Lib.hid (BL.out.trans (hb1.mono BL.out.size))
        clear hb1 c0 c1 f0 f1 hz BL
        go_wp2
        go_roundg (gk - 1)
        case measure => omega
        case rel =>
          have z2 : w.heap.size < w1.heap.size + 1 := by omega
          refine ⟨k + 1, by omega, .inr HP1.out, ?_, ?_, ?_, ?_, ?_, ?_, by simp; omega⟩
          · rw [tailS_next HR.out]
          · rw [HQ.out]; simp [go_sem, z1, z2, g0, g1]
          · rw [HQ.out]; simp [go_sem, z1, z2, g0, g1]
          · simp [go_sem, z1, z2, h0]
          · simp [go_sem, z1, z2, h1]
          · exact (((BL1.out.setCell (by simp) _).setCell (by simp) _).alloc (by simp; omega) _).alloc (by simp; omega) _
      · rw [hx0] at c0 DV
        have hx1 : (lo ((m : Nat) : Int) != 0) = true := by simpa using hx
        have HX := Lib.hid hx0
        clear hx hx0
        go_wp2_with fail
        (with_reducible refine (DV.out _).mono ?_)
        rintro e w1 ⟨rfl, hb1⟩
        have g0 := carry hb1 c0
        have g1 := carry hb1 c1
        have h0 := carry_fr hb1 c0 f0
        have h1 := carry_fr hb1 c1 f1
        have z1 : w.heap.size < w1.heap.size := by have := hb1.size; omega
        have BL1 := Lib.hid (BL.out.trans (hb1.mono BL.out.size))
        clear hb1 c0 c1 f0 f1 hz BL
        go_wp2
        go_roundg (gk - 1)
        case measure => omega
        case rel =>
          have z2 : w.heap.size < w1.heap.size + 1 := by omega
          refine ⟨k + 1, by omega, .inr HP1.out, ?_, ?_, ?_, ?_, ?_, ?_, by simp; omega⟩
          · rw [tailS_next HR.out]
          · rw [HQ.out]; simp [go_sem, z1, z2, g0, g1]
          · rw [HQ.out]; simp [go_sem, z1, z2, g0, g1]
          · simp [go_sem, z1, z2, h0]
          · simp [go_sem, z1, z2, h1]
          · exact (((BL1.out.setCell (by simp) _).setCell (by simp) _).alloc (by simp; omega) _).alloc (by simp; omega) _
end Go.Proofs.Ytdddafhalcbhaaa
