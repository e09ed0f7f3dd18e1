/- The document's Mul, Cmp, Add, Sub: what they answer. -/
import Derived.Test.YtdddafhalcbhaaaHrN
import Derived.Deep.RegionHeld3
import Derived.Deep.DeepCutAuto
namespace Go.Proofs.Ytdddafhalcbhaaa
open Go.ChangeShapes Go.WideShapes Go.ChangeAt Go.RowKit Go.Joins
set_option linter.unusedVariables false
set_option linter.unusedSimpArgs false
theorem carry_fr {W w1 : World} {p : Addr} {v : Value} (hb : Below W.heap.size W w1) (h : W.cell? p = some v) (hf : W.frozen? p = false) : w1.frozen? p = false := by
  rw [← hf]
  apply hb.frozen
  rcases Nat.lt_or_ge p.block W.heap.size with h' | h'
  · exact h'
  · exfalso; unfold World.cell? at h; rw [Array.getElem?_eq_none h'] at h; cases h
theorem toNat_mul {a b : Int} (ha : Is64 a) (hb : Is64 b) : ((a.toNat * b.toNat : Nat) : Int) = a * b := by
  have h1 := Int.toNat_of_nonneg ha.1
  have h2 := Int.toNat_of_nonneg hb.1
  rw [Int.natCast_mul, h1, h2]
theorem toNat_lt {a : Int} (ha : Is64 a) : a.toNat < 2 ^ 128 := by
  unfold Is64 at ha
  exact Nat.lt_trans (show a.toNat < 18446744073709551616 by omega) (by decide)
theorem mul_times {a b : Int} (ha : Is64 a) (hb : Is64 b) (w : World) :
    Calls Try.prog 31 #[bv a.toNat, bv b.toNat] w fun e w' => e = .returned (bv (a.toNat * b.toNat)) ∧ Below w.heap.size w w' :=
  times_nat _ _ w (toNat_lt ha) (toNat_lt hb)
theorem mul_back {a b : Int} (ha : Is64 a) (hb : Is64 b) (w : World) :
    Calls Try.prog 26 #[bv (a.toNat * b.toNat)] w fun e w' => e = .returned (.tuple #[.agg #[.int .u64 (hi (a * b)), .int .u64 (lo (a * b))], .bool true]) ∧ Below w.heap.size w w' := by
  have h := (is128_mul ha hb).2
  have e := toNat_mul ha hb
  have := back_yes (a.toNat * b.toNat) w (by have e2 : (2 : Nat) ^ 128 = 340282366920938463463374607431768211456 := by decide
                                             rw [e2]; omega)
  rw [e] at this
  exact this
/-- a block of two cells that may be written -/
def Slot2 (b : Nat) (w : World) : Prop := (∃ u0 u1, w.cell? ⟨b, 0, none⟩ = some u0 ∧ w.cell? ⟨b, 1, none⟩ = some u1) ∧ w.frozen? ⟨b, 0, none⟩ = false ∧ w.frozen? ⟨b, 1, none⟩ = false
theorem slot2_call {b : Nat} {w w' : World} (h : Slot2 b w) (hb : Below w.heap.size w w') : Slot2 b w' := by
  obtain ⟨⟨u0, u1, h0, h1⟩, f0, f1⟩ := h
  exact ⟨⟨u0, u1, carry hb h0, carry hb h1⟩, carry_fr hb h0 f0, carry_fr hb h1 f1⟩
theorem slot2_drew {b : Nat} {w : World} (h : Slot2 b w) : Slot2 b w.drew := by
  obtain ⟨⟨u0, u1, h0, h1⟩, f0, f1⟩ := h
  exact ⟨⟨u0, u1, by simpa [go_sem] using h0, by simpa [go_sem] using h1⟩, by simpa [go_sem] using f0, by simpa [go_sem] using f1⟩
set_option maxHeartbeats 1000000 in
theorem mul_rf (a b : Int) (w : World) (ha : Is64 a) (hb : Is64 b) :
    Calls Try.prog 18 #[.int .u64 a, .int .u64 b] w fun e w' => e = .returned (.agg #[.int .u64 (hi (a * b)), .int .u64 (lo (a * b))]) ∧ Below w.heap.size w w' := by
  have O1 := Lib.hid (fun w => one_nat a w ha)
  have O2 := Lib.hid (fun w => one_nat b w hb)
  have TT := Lib.hid (mul_times ha hb)
  have BB := Lib.hid (mul_back ha hb)
  go_enter Try.func18, Try.ntmps18
  go_wp2_with fail
  have s0 : Slot2 w.heap.size (w.alloc (.cells #[.int .u64 0, .int .u64 0] 24)) := ⟨⟨.int .u64 0, .int .u64 0, by simp [go_sem], by simp [go_sem]⟩, by simp [go_sem], by simp [go_sem]⟩
  have b0 : Below w.heap.size w (w.alloc (.cells #[.int .u64 0, .int .u64 0] 24)) := below_alloc1 w _
  have z0 : w.heap.size < (w.alloc (.cells #[.int .u64 0, .int .u64 0] 24)).heap.size := by simp
  (with_reducible refine (O1.out _).mono ?_)
  rintro e w1 ⟨rfl, hb1⟩
  replace s0 := slot2_call s0 hb1
  replace b0 := b0.trans (hb1.mono (by omega))
  have z1 : w.heap.size < w1.heap.size := by have := hb1.size; omega
  clear hb1 z0
  have S0 := Lib.hid s0
  clear s0
  go_wp2_with fail
  (with_reducible refine (O2.out _).mono ?_)
  rintro e w2 ⟨rfl, hb2⟩
  have s0 := slot2_call S0.out hb2
  replace b0 := b0.trans (hb2.mono (by omega))
  have z2 : w.heap.size < w2.heap.size := by have := hb2.size; omega
  clear hb2 S0 z1
  have S0 := Lib.hid s0
  clear s0
  go_wp2_with fail
  (with_reducible refine (TT.out _).mono ?_)
  rintro e w3 ⟨rfl, hb3⟩
  have s0 := slot2_call S0.out hb3
  replace b0 := b0.trans (hb3.mono (by omega))
  have z3 : w.heap.size < w3.heap.size := by have := hb3.size; omega
  clear hb3 S0 z2
  have S0 := Lib.hid s0
  clear s0
  go_wp2_with fail
  (with_reducible refine (BB.out _).mono ?_)
  rintro e w4 ⟨rfl, hb4⟩
  have s0 := slot2_call S0.out hb4
  replace b0 := b0.trans (hb4.mono (by omega))
  have z4 : w.heap.size < w4.heap.size := by have := hb4.size; omega
  have z5 : ¬ w4.heap.size = w.heap.size := by omega
  clear hb4 S0 z3
  obtain ⟨⟨u0, u1, c0, c1⟩, f0, f1⟩ := s0
  go_wp2
  refine bodyPost_ret (v := .agg #[.int .u64 (hi (a * b)), .int .u64 (lo (a * b))]) (by simp [results, Try.results18, go_sem, c0, c1, z4, z5]) rfl ⟨rfl, ?_⟩
  repeat (first | exact b0 | refine Below.setCell ?_ (by first | omega | (simp; done) | (simp; omega)) _ | refine Below.alloc ?_ (by first | omega | (simp; done) | (simp; omega)) _)
/-- what the calls of a region leave: the two numbers, and the result's place -/
def Wides (w : World) (a b c d : Int) (w' : World) : Prop :=
  w'.cell? ⟨w.heap.size, 0, none⟩ = some (.int .u64 a) ∧ w'.cell? ⟨w.heap.size, 1, none⟩ = some (.int .u64 b) ∧ w'.cell? ⟨w.heap.size + 1, 0, none⟩ = some (.int .u64 c) ∧ w'.cell? ⟨w.heap.size + 1, 1, none⟩ = some (.int .u64 d) ∧ Below w.heap.size w w' ∧ w.heap.size + 1 < w'.heap.size
theorem wides_call {w W w' : World} {a b c d : Int} (h : Wides w a b c d W) (hb : Below W.heap.size W w') : Wides w a b c d w' := by
  obtain ⟨h1, h2, h3, h4, h5, h6⟩ := h
  exact ⟨carry hb h1, carry hb h2, carry hb h3, carry hb h4, h5.trans (hb.mono (by omega)), by have := hb.size; omega⟩
theorem wides_drew {w W : World} {a b c d : Int} (h : Wides w a b c d W) : Wides w a b c d W.drew := by
  obtain ⟨h1, h2, h3, h4, h5, h6⟩ := h
  exact ⟨by simpa [go_sem] using h1, by simpa [go_sem] using h2, by simpa [go_sem] using h3, by simpa [go_sem] using h4, h5.drew, by simpa [go_sem] using h6⟩
theorem wides_alloc {w W : World} {a b c d : Int} {cs : Array Value} {t : TypeId} (h : Wides w a b c d W) : Wides w a b c d (W.alloc (.cells cs t)) := by
  obtain ⟨h1, h2, h3, h4, h5, h6⟩ := h
  have h7 : w.heap.size < W.heap.size := by omega
  exact ⟨by simp [go_sem, h1, h7], by simp [go_sem, h2, h7], by simp [go_sem, h3, h6], by simp [go_sem, h4, h6], h5.alloc (by omega) _, by simp; omega⟩
theorem wides_set {w W : World} {a b c d : Int} {g o : Nat} {v : Value} (h : Wides w a b c d W) (hg : w.heap.size + 1 < g) : Wides w a b c d (W.setCell ⟨g, o, none⟩ v) := by
  obtain ⟨h1, h2, h3, h4, h5, h6⟩ := h
  have n1 : ¬ g = w.heap.size := by omega
  have n2 : ¬ w.heap.size = g := by omega
  have n3 : ¬ g = w.heap.size + 1 := by omega
  have n4 : ¬ w.heap.size + 1 = g := by omega
  exact ⟨by simp [go_sem, h1, n1, n2], by simp [go_sem, h2, n1, n2], by simp [go_sem, h3, n3, n4], by simp [go_sem, h4, n3, n4], h5.setCell (by simp; omega) _, by simpa using h6⟩
set_option maxRecDepth 100000 in
set_option maxHeartbeats 2000000 in
theorem cmp_rf (a b c d : Int) (w : World) (ha : Is64 a) (hb : Is64 b) (hc : Is64 c) (hd : Is64 d) :
    Calls Try.prog 16 #[.agg #[.int .u64 a, .int .u64 b], .agg #[.int .u64 c, .int .u64 d]] w fun e w' => e = .returned (.int .i64 (cmpI (V a b) (V c d))) ∧ Below w.heap.size w w' := by
  have CC : Hid (∀ w, Calls Try.prog 30 #[bv (V a b).toNat, bv (V c d).toNat] w fun e w' => e = .returned (.int .i64 (cmpI (V a b) (V c d))) ∧ Below w.heap.size w w') := Lib.hid (fun w => by
    have := cmp_nat (V a b).toNat (V c d).toNat w (Nat.lt_trans (V_lt ha hb) (by decide)) (Nat.lt_trans (V_lt hc hd) (by decide))
    rw [V_nat ha hb, V_nat hc hd] at this
    exact this)
  go_enter Try.func16, Try.ntmps16
  go_wp2
  have HK := Lib.hid (show Wides w a b c d ((w.alloc (.cells #[.int .u64 a, .int .u64 b] 24)).alloc (.cells #[.int .u64 c, .int .u64 d] 24)) from ⟨by simp [go_sem], by simp [go_sem], by simp [go_sem], by simp [go_sem], below_alloc2 w _ _, by simp⟩)
  go_region_held3 (fun w' => w'.cell? ⟨w.heap.size, 0, none⟩ = some (.int .u64 a) ∧ w'.cell? ⟨w.heap.size, 1, none⟩ = some (.int .u64 b) ∧ w'.cell? ⟨w.heap.size + 1, 0, none⟩ = some (.int .u64 c) ∧ w'.cell? ⟨w.heap.size + 1, 1, none⟩ = some (.int .u64 d) ∧ Below w.heap.size w w' ∧ w.heap.size + 1 < w'.heap.size) (first | exact wides_drew HK.out | exact HK.out | assumption | exact wides_call (by assumption) (by assumption))
    (first
      | (go_at_call 28; (with_reducible refine (of_nat _ _ _ (by assumption) (by assumption)).mono ?_); rintro e wo ⟨rfl, hO⟩; (have kk : Wides w a b c d wo := wides_call (by first | assumption | exact wides_drew HK.out) hO))
      | (go_at_call 30; (with_reducible refine (CC.out _).mono ?_); rintro e wq ⟨rfl, hQ⟩; (have kq : Wides w a b c d wq := wides_call (by first | assumption | exact wides_drew HK.out) hQ)))
  all_goals
    go_wp2
    go_ret
    exact ⟨rfl, kq.2.2.2.2.1⟩
end Go.Proofs.Ytdddafhalcbhaaa
