/- The document's Add: what it answers. -/
import Derived.Test.YtdddafhalcbhaaaHrTop
namespace Go.Proofs.Ytdddafhalcbhaaa
open Go.ChangeShapes Go.WideShapes Go.ChangeAt Go.RowKit Go.Joins
set_option linter.unusedVariables false
set_option linter.unusedSimpArgs false
theorem add_plus {a b c d : Int} (ha : Is64 a) (hb : Is64 b) (hc : Is64 c) (hd : Is64 d) (w : World) :
    Calls Try.prog 27 #[bv (V a b).toNat, bv (V c d).toNat] w fun e w' => e = .returned (bv ((V a b).toNat + (V c d).toNat)) ∧ Below w.heap.size w w' :=
  plus_nat _ _ w (by have h1 := V_lt ha hb; have h2 := V_lt hc hd; have h3 : (2 : Nat) ^ 128 + 2 ^ 128 < 2 ^ 256 := by decide
                     omega)
open Classical in
theorem add_backr {a b c d : Int} (ha : Is64 a) (hb : Is64 b) (hc : Is64 c) (hd : Is64 d) (w : World) :
    Calls Try.prog 26 #[bv ((V a b).toNat + (V c d).toNat)] w fun e w' => e = .returned (.tuple #[.agg #[.int .u64 (addH a b c d), .int .u64 (addL a b c d)], .bool (addB a b c d)]) ∧ Below w.heap.size w w' := by
  have h1 := V_lt ha hb
  have h2 := V_lt hc hd
  have n1 := V_nat ha hb
  have n2 := V_nat hc hd
  have e2 : (2 : Nat) ^ 128 = 340282366920938463463374607431768211456 := by decide
  have e3 : (((V a b).toNat + (V c d).toNat : Nat) : Int) = V a b + V c d := by omega
  by_cases h : Is128 (V a b + V c d)
  · have := back_yes ((V a b).toNat + (V c d).toNat) w (by unfold Is128 at h; omega)
    rw [e3] at this
    unfold addH addL addB
    simpa [h] using this
  · have := back_no ((V a b).toNat + (V c d).toNat) w (by unfold Is128 at h; omega) (by have h3 : (2 : Nat) ^ 128 + 2 ^ 128 < 2 ^ 256 := by decide
                                                                                        omega)
    unfold addH addL addB
    simpa [h] using this
set_option maxRecDepth 100000 in
set_option maxHeartbeats 4000000 in
theorem add_rf (a b c d : Int) (w : World) (ha : Is64 a) (hb : Is64 b) (hc : Is64 c) (hd : Is64 d) :
    Calls Try.prog 12 #[.agg #[.int .u64 a, .int .u64 b], .agg #[.int .u64 c, .int .u64 d]] w fun e w' => e = .returned (.tuple #[.agg #[.int .u64 (addH a b c d), .int .u64 (addL a b c d)], .bool (addB a b c d)]) ∧ Below w.heap.size w w' := by
  have O1 := Lib.hid (fun w => of_nat a b w ha hb)
  have O2 := Lib.hid (fun w => of_nat c d w hc hd)
  have PL := Lib.hid (add_plus ha hb hc hd)
  have BK := Lib.hid (add_backr ha hb hc hd)
  go_enter Try.func12, Try.ntmps12
  go_wp2
  have HK := Lib.hid (show Wides w a b c d (((w.alloc (.cells #[.int .u64 a, .int .u64 b] 24)).alloc (.cells #[.int .u64 c, .int .u64 d] 24)).alloc (.cells #[.int .u64 0, .int .u64 0] 24)) from wides_alloc ⟨by simp [go_sem], by simp [go_sem], by simp [go_sem], by simp [go_sem], below_alloc2 w _ _, by simp⟩)
  go_region_held3 (fun w' => w'.cell? ⟨w.heap.size, 0, none⟩ = some (.int .u64 a) ∧ w'.cell? ⟨w.heap.size, 1, none⟩ = some (.int .u64 b) ∧ w'.cell? ⟨w.heap.size + 1, 0, none⟩ = some (.int .u64 c) ∧ w'.cell? ⟨w.heap.size + 1, 1, none⟩ = some (.int .u64 d) ∧ Below w.heap.size w w' ∧ w.heap.size + 1 < w'.heap.size) (first | exact wides_drew HK.out | exact HK.out | assumption | exact kkhK | exact wides_alloc kkhK | exact kkhM | exact wides_alloc kkhM | exact kkhP | exact wides_alloc kkhP | exact kkhO | exact wides_alloc kkhO | exact wides_alloc (wides_drew HK.out) | exact wides_set (wides_set kkhK (by first | (simp; omega) | omega)) (by first | (simp; omega) | omega) | exact wides_call (by assumption) (by assumption))
    (first
      | (go_at_call_of 28 (Value.agg #[Value.int IntKind.u64 a, Value.int IntKind.u64 b]); (with_reducible refine (O1.out _).mono ?_); rintro e wo ⟨rfl, hO⟩; (have zhO := hO.size); (try simp at zhO); (try (have qhO := Nat.lt_of_succ_le zhO)); (have frhO0 := carry_fr hO (p := ⟨w.heap.size + 1 + 1, 0, none⟩) (v := .int .u64 0) (by first | (simp [go_sem]; done) | assumption | (simp [go_sem, *]; done)) (by first | (simp [go_sem]; done) | assumption | (simp [go_sem, *]; done))); (have crhO0 := carry hO (p := ⟨w.heap.size + 1 + 1, 0, none⟩) (v := .int .u64 0) (by first | (simp [go_sem]; done) | assumption | (simp [go_sem, *]; done))); (have frhO1 := carry_fr hO (p := ⟨w.heap.size + 1 + 1, 1, none⟩) (v := .int .u64 0) (by first | (simp [go_sem]; done) | assumption | (simp [go_sem, *]; done)) (by first | (simp [go_sem]; done) | assumption | (simp [go_sem, *]; done))); (have crhO1 := carry hO (p := ⟨w.heap.size + 1 + 1, 1, none⟩) (v := .int .u64 0) (by first | (simp [go_sem]; done) | assumption | (simp [go_sem, *]; done))); (have kkhO : Wides w a b c d wo := wides_call (by first | assumption | exact wides_drew HK.out | exact HK.out) hO))
      | (go_at_call_of 28 (Value.agg #[Value.int IntKind.u64 c, Value.int IntKind.u64 d]); (with_reducible refine (O2.out _).mono ?_); rintro e wp ⟨rfl, hP⟩; (have zhP := hP.size); (try simp at zhP); (try (have qhP := Nat.lt_of_succ_le zhP)); (have frhP0 := carry_fr hP (p := ⟨w.heap.size + 1 + 1, 0, none⟩) (v := .int .u64 0) (by first | (simp [go_sem]; done) | assumption | (simp [go_sem, *]; done)) (by first | (simp [go_sem]; done) | assumption | (simp [go_sem, *]; done))); (have crhP0 := carry hP (p := ⟨w.heap.size + 1 + 1, 0, none⟩) (v := .int .u64 0) (by first | (simp [go_sem]; done) | assumption | (simp [go_sem, *]; done))); (have frhP1 := carry_fr hP (p := ⟨w.heap.size + 1 + 1, 1, none⟩) (v := .int .u64 0) (by first | (simp [go_sem]; done) | assumption | (simp [go_sem, *]; done)) (by first | (simp [go_sem]; done) | assumption | (simp [go_sem, *]; done))); (have crhP1 := carry hP (p := ⟨w.heap.size + 1 + 1, 1, none⟩) (v := .int .u64 0) (by first | (simp [go_sem]; done) | assumption | (simp [go_sem, *]; done))); (have kkhP : Wides w a b c d wp := wides_call (by first | assumption | exact wides_drew HK.out | exact HK.out) hP))
      | (go_at_call 27; (with_reducible refine (PL.out _).mono ?_); rintro e wm ⟨rfl, hM⟩; (have zhM := hM.size); (try simp at zhM); (try (have qhM := Nat.lt_of_succ_le zhM)); (have frhM0 := carry_fr hM (p := ⟨w.heap.size + 1 + 1, 0, none⟩) (v := .int .u64 0) (by first | (simp [go_sem]; done) | assumption | (simp [go_sem, *]; done)) (by first | (simp [go_sem]; done) | assumption | (simp [go_sem, *]; done))); (have crhM0 := carry hM (p := ⟨w.heap.size + 1 + 1, 0, none⟩) (v := .int .u64 0) (by first | (simp [go_sem]; done) | assumption | (simp [go_sem, *]; done))); (have frhM1 := carry_fr hM (p := ⟨w.heap.size + 1 + 1, 1, none⟩) (v := .int .u64 0) (by first | (simp [go_sem]; done) | assumption | (simp [go_sem, *]; done)) (by first | (simp [go_sem]; done) | assumption | (simp [go_sem, *]; done))); (have crhM1 := carry hM (p := ⟨w.heap.size + 1 + 1, 1, none⟩) (v := .int .u64 0) (by first | (simp [go_sem]; done) | assumption | (simp [go_sem, *]; done))); (have kkhM : Wides w a b c d wm := wides_call (by first | assumption | exact wides_drew HK.out | exact HK.out) hM))
      | (go_at_call 26; (with_reducible refine (BK.out _).mono ?_); rintro e wk ⟨rfl, hK⟩; (have zhK := hK.size); (try simp at zhK); (try (have qhK := Nat.lt_of_succ_le zhK)); (have frhK0 := carry_fr hK (p := ⟨w.heap.size + 1 + 1, 0, none⟩) (v := .int .u64 0) (by first | (simp [go_sem]; done) | assumption | (simp [go_sem, *]; done)) (by first | (simp [go_sem]; done) | assumption | (simp [go_sem, *]; done))); (have crhK0 := carry hK (p := ⟨w.heap.size + 1 + 1, 0, none⟩) (v := .int .u64 0) (by first | (simp [go_sem]; done) | assumption | (simp [go_sem, *]; done))); (have frhK1 := carry_fr hK (p := ⟨w.heap.size + 1 + 1, 1, none⟩) (v := .int .u64 0) (by first | (simp [go_sem]; done) | assumption | (simp [go_sem, *]; done)) (by first | (simp [go_sem]; done) | assumption | (simp [go_sem, *]; done))); (have crhK1 := carry hK (p := ⟨w.heap.size + 1 + 1, 1, none⟩) (v := .int .u64 0) (by first | (simp [go_sem]; done) | assumption | (simp [go_sem, *]; done))); (have kkhK : Wides w a b c d wk := wides_call (by first | assumption | exact wides_drew HK.out | exact HK.out) hK)))
  all_goals
    go_wp2
    refine bodyPost_ret (v := .tuple #[.agg #[.int .u64 (addH a b c d), .int .u64 (addL a b c d)], .bool (addB a b c d)]) (by simp [results, Try.results12, go_sem, crhK0, crhK1]) rfl ⟨rfl, ?_⟩
    repeat (first | exact kkhK.2.2.2.2.1 | refine Below.setCell ?_ (by first | omega | (simp; done) | (simp; omega)) _ | refine Below.drew ?_)
end Go.Proofs.Ytdddafhalcbhaaa
