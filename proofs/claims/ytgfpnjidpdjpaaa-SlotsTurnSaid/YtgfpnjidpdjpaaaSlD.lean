/- The function over which package slots' sectors are gone: its contract, for whatever body. -/
import Derived.Test.YtgfpnjidpdjpaaaSlP
namespace Go.Proofs.Ytgfpnjidpdjpaaa.Sl
open Go.ChangeShapes Go.WideShapes Go.ChangeAt Go.RowKit Go.Joins Go.Shelf
open Dk (Dk DS Moved ptr)
attribute [local go_sem] Oper.semAt_some
set_option maxRecDepth 100000
set_option linter.unusedVariables false
set_option linter.unusedSimpArgs false
set_option maxHeartbeats 4000000 in
theorem places1_in (n : Nat) (hn : 1 ≤ n) (l X q k N0 : Nat) (hk : 1 ≤ k) (hk2 : k ≤ 64) (J Jx : List (Pl k) → World → Prop) (hJ : AbidesFrom N0 J)
    (hY : ∀ pre x W, J pre W → pre.length < 2 * k → YieldAt Fence.wide (n - 1) Try.prog l (encP x) W fun e W' =>
      (e = .returned (.bool true) ∧ J (pre ++ [x]) W' ∧ Kp X q W W') ∨ (e = .returned (.bool false) ∧ Jx (pre ++ [x]) W'))
    (W : World) (hX : W.cell? ⟨X, 0, none⟩ = some (ptr q)) (hq : W.cell? ⟨q, 2, none⟩ = some (.int .i64 (k : Int))) (h0 : J [] W) :
    CallsIn Fence.wide n Try.prog 39 #[.func (.yield l) #[] #[], ptr X] W fun e W' => (∃ v, e = .returned v) ∧
      ((∃ ys, ys = upto (plAt hk) (2 * k) ∧ J ys W') ∨ (∃ pre, (∃ m, m ≤ 2 * k ∧ pre = upto (plAt hk) m) ∧ Jx pre W')) := by
  refine callsIn_of_wp Try.func39 rfl trivial ?_ rfl
  simp only [Try.ntmps39, List.size_toArray, List.length_cons, List.length_nil, Nat.reduceAdd, Nat.reduceSub, Array.replicate_succ, Array.replicate_zero, List.push_toArray, List.append_toArray, List.nil_append, List.cons_append]
  gi_wp2
  gi_loopw [9] (fun i wr => ∃ m : Nat, m ≤ 2 * k ∧ i = .int .i64 m ∧ J (upto (plAt hk) m) wr ∧ Kp X q W wr)
    (fun i _ => 2 * k - (intOf i).toNat)
  case atStart => exact ⟨0, Nat.zero_le _, rfl, h0, rfl, rfl⟩
  case round =>
    obtain ⟨m, hm, rfl, hJs, hkp⟩ := hrel
    have cX : wr.cell? ⟨X, 0, none⟩ = some (ptr q) := (World.cell?_of_block (w := W) (a := ⟨X, 0, none⟩) hkp.1).trans hX
    have cq : wr.cell? ⟨q, 2, none⟩ = some (.int .i64 (k : Int)) := (World.cell?_of_block (w := W) (a := ⟨q, 2, none⟩) hkp.2).trans hq
    by_cases hlt : m < 2 * k
    · have hJd : J (upto (plAt hk) m) wr.drew := hJ _ wr _ none hJs ⟨rfl, rfl, rfl, Nat.le_refl _, fun _ _ _ => rfl⟩ (fun r e => by cases e)
      obtain ⟨fn, tmps, assign, body, hy, hR⟩ := hY _ (plAt hk m) wr.drew hJd (by rw [upto_length]; exact hlt)
      have hR' := hR.mono (R' := fun e W' => ∃ b, e = .returned (.bool b) ∧ ((b = true ∧ J (upto (plAt hk) m ++ [plAt hk m]) W' ∧ Kp X q wr.drew W') ∨ (b = false ∧ Jx (upto (plAt hk) m ++ [plAt hk m]) W'))) (by
        rintro e W' (⟨rfl, h1, h2⟩ | ⟨rfl, h1⟩)
        · exact ⟨true, rfl, .inl ⟨rfl, h1, h2⟩⟩
        · exact ⟨false, rfl, .inr ⟨rfl, h1⟩⟩)
      clear hR
      have h1 : m / k < 2 := by rw [Nat.div_lt_iff_lt_mul (by omega)]; exact hlt
      have hd : (m : Int) / (k : Int) = ((m / k : Nat) : Int) := by push_cast; rfl
      obtain ⟨D, hD⟩ : ∃ D : Int, D = ((m / k : Nat) : Int) := ⟨_, rfl⟩
      obtain ⟨R, hRR⟩ : ∃ R : Int, R = ((m % k : Nat) : Int) := ⟨_, rfl⟩
      have E : encP (plAt hk m) = #[.int .i64 D, .int .i64 R] := by
        have e1 : D = (((m / k) % 2 : Nat) : Int) := by rw [hD, Nat.mod_eq_of_lt h1]
        rw [e1, hRR]
        rfl
      have d1 : (m : Int) / (k : Int) = D := by rw [hd, hD]
      have d2 : (m : Int).tdiv (k : Int) = D := by rw [Int.tdiv_eq_ediv_of_nonneg (by omega), d1]
      have d3 : (m : Int).tmod (k : Int) = R := by rw [hRR, Int.ofNat_tmod]
      have d4 : (m : Int) % (k : Int) = R := by rw [hRR]; push_cast; rfl
      have d5 : 0 ≤ D := by rw [hD]; exact Int.natCast_nonneg _
      have d6 : D ≤ 2 := by rw [hD]; generalize m / k = z at *; omega
      have d7 : 0 ≤ R := by rw [hRR]; exact Int.natCast_nonneg _
      have d9 : IntKind.i64.wrap D = D := IntKind.wrap_i64_of d5 d6
      have d10 : wrap64 D = D := by unfold wrap64; omega
      have d8 : R ≤ 64 := by have := Nat.mod_lt m (show 0 < k by omega); omega
      rw [E] at hy
      have HJK := Lib.hid (And.intro hJs hkp)
      have HLT := Lib.hid hlt
      have HR := Lib.hid hR'
      have lt : (m : Int) < 2 * (k : Int) := by omega
      have k0 : (1 : Int) ≤ (k : Int) := by omega
      have k1 : (k : Int) ≤ 64 := by omega
      have m0 : (0 : Int) ≤ (m : Int) := by omega
      clear hJs hkp hR' hJd hJ hY hX hq E hlt h1 hd hD hRR
      gi_wp2
      gi_region_with (refine HR.out.mono ?_; rintro e W3 ⟨bb, rfl, hbb⟩)
      all_goals
        rcases hbb with ⟨rfl, hJ3, hk3⟩ | ⟨rfl, hJx3⟩
        · gi_wp2
          go_roundw
          case rel => exact ⟨m + 1, by have := HLT.out; omega, by simp, by rw [upto_succ]; exact hJ3, HJK.out.2.trans hk3⟩
          case measure => simp [intOf]; omega
        · gi_wp2
          refine bodyPost_ret (results_none rfl _ _ _) rfl ?_
          exact ⟨⟨_, rfl⟩, .inr ⟨_, ⟨m + 1, by have := HLT.out; omega, (upto_succ _ _).symm⟩, hJx3⟩⟩
    · obtain rfl : m = 2 * k := by omega
      gi_wp2
      go_end0
      exact ⟨⟨_, rfl⟩, .inl ⟨_, rfl, hJs⟩⟩
end Go.Proofs.Ytgfpnjidpdjpaaa.Sl
