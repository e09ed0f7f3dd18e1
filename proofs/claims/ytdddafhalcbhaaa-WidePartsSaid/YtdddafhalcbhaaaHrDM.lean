/- Plain lemmas on the division bit by bit, the document's way. -/
import Derived.Test.YtdddafhalcbhaaaHrLess
namespace Go.Proofs.Ytdddafhalcbhaaa
open Go.ChangeShapes Go.WideShapes Go.ChangeAt Go.RowKit Go.Joins
set_option linter.unusedVariables false
set_option linter.unusedSimpArgs false
theorem set0 (r : Nat) (b : Bool) (j : Nat) : (r * 2 + b.toNat).testBit j = if j = 0 then b else (r * 2).testBit j := by
  cases j with
  | zero => rw [if_pos rfl, Nat.testBit_zero]; cases b <;> simp <;> omega
  | succ j =>
    rw [if_neg (by omega), Nat.testBit_succ, Nat.testBit_succ]
    have e1 : (r * 2 + b.toNat) / 2 = r := by cases b <;> simp <;> omega
    have e2 : r * 2 / 2 = r := by omega
    rw [e1, e2]
theorem setq (t i j : Nat) : (t * 2 ^ (i + 1) + 2 ^ i).testBit j = if j = i then true else (t * 2 ^ (i + 1)).testBit j := by
  have hp : (2 : Nat) ^ i < 2 ^ (i + 1) := Nat.pow_lt_pow_right (by decide) (by omega)
  have h0 : (0 : Nat) < 2 ^ (i + 1) := Nat.pow_pos (by decide)
  have e1 := Nat.testBit_two_pow_mul_add t hp j
  have e2 := Nat.testBit_two_pow_mul_add t h0 j
  rw [Nat.mul_comm t, e1]
  rw [Nat.add_zero] at e2
  rw [e2]
  by_cases h : j = i
  · subst h; simp
  · rw [if_neg h]
    have h2 : ¬ i = j := fun e => h e.symm
    simp [Nat.testBit_two_pow, h2]
theorem div_round {N d i : Nat} (hd : 0 < d) : ∃ top r t : Nat, N / 2 ^ (i + 1) = top ∧ r = top % d ∧ t = top / d ∧ r < d ∧ N / 2 ^ i = 2 * top + (N.testBit i).toNat ∧
    (d ≤ r * 2 + (N.testBit i).toNat → (N / 2 ^ i) % d = r * 2 + (N.testBit i).toNat - d ∧ (N / 2 ^ i) / d = 2 * t + 1) ∧
    (r * 2 + (N.testBit i).toNat < d → (N / 2 ^ i) % d = r * 2 + (N.testBit i).toNat ∧ (N / 2 ^ i) / d = 2 * t) := by
  refine ⟨_, _, _, rfl, rfl, rfl, Nat.mod_lt _ hd, above_bit N i, ?_, ?_⟩
  all_goals
    rw [above_bit N i]
    have hm := Nat.div_add_mod (N / 2 ^ (i + 1)) d
    have hl := Nat.mod_lt (N / 2 ^ (i + 1)) hd
    have hb : (N.testBit i).toNat ≤ 1 := Bool.toNat_le _
    generalize N / 2 ^ (i + 1) = top at *
    generalize (N.testBit i).toNat = b at *
    generalize top % d = r at *
    generalize top / d = t at *
    intro h
  · have e : 2 * top + b = (r * 2 + b - d) + d * (2 * t + 1) := by
      rw [Nat.mul_add, Nat.mul_left_comm]; omega
    rw [e, Nat.add_mul_mod_self_left, Nat.add_mul_div_left _ _ hd, Nat.mod_eq_of_lt (by omega), Nat.div_eq_of_lt (by omega)]
    omega
  · have e : 2 * top + b = (r * 2 + b) + d * (2 * t) := by
      rw [Nat.mul_left_comm]; omega
    rw [e, Nat.add_mul_mod_self_left, Nat.add_mul_div_left _ _ hd, Nat.mod_eq_of_lt h, Nat.div_eq_of_lt h]
    omega
/-- what the memory holds in the division: the number's bits, what is left, the whole part so far, the divisor's bits, and the result's place -/
def DivMem (w : World) (X R Q D : Nat) (N r q d : Nat) (wx : World) : Prop :=
  BitsF wx X N.testBit ∧ BitsF wx R r.testBit ∧ FreeF wx R ∧ BitsF wx Q q.testBit ∧ FreeF wx Q ∧ BitsF wx D d.testBit ∧ wx.there (w.heap.size + 1) 0 4 ∧ Below w.heap.size w wx ∧ (w.heap.size + 1 < X ∧ X < R ∧ R < Q ∧ Q < D)
theorem there_call {w w' : World} {b n : Nat} (h : w.there b 0 n) (hb : Below w.heap.size w w') : w'.there b 0 n := fun j hj => by
  obtain ⟨h1, h2⟩ := h j hj
  obtain ⟨u, hu⟩ := Option.isSome_iff_exists.1 h1
  exact ⟨by rw [carry hb hu]; rfl, carry_fr hb hu h2⟩
theorem there_set {w : World} {b n : Nat} {a : Addr} {v : Value} (h : w.there b 0 n) (hne : ¬ a.block = b) : (w.setCell a v).there b 0 n := fun j hj => by
  obtain ⟨h1, h2⟩ := h j hj
  obtain ⟨u, hu⟩ := Option.isSome_iff_exists.1 h1
  obtain ⟨ab, ao, asp⟩ := a
  have hne' : ¬ b = ab := fun e => hne e.symm
  refine ⟨?_, by simpa [go_sem] using h2⟩
  have : (w.setCell ⟨ab, ao, asp⟩ v).cell? ⟨b, 0 + j, none⟩ = w.cell? ⟨b, 0 + j, none⟩ := World.cell?_of_block (Below.heap_setCell w ⟨ab, ao, asp⟩ v b hne')
  rw [this]; exact h1
theorem dm_call {w wx wy : World} {X R Q D N r q d : Nat} (h : DivMem w X R Q D N r q d wx) (hb : Below wx.heap.size wx wy) : DivMem w X R Q D N r q d wy := by
  obtain ⟨a, b, c, e, f, g, i, j, k⟩ := h
  exact ⟨a.call hb, b.call hb, c.call b hb, e.call hb, f.call e hb, g.call hb, there_call i hb, j.trans (hb.mono j.size), k⟩
theorem dm_storeR {w wx : World} {X R Q D N r r' q d : Nat} (h : DivMem w X R Q D N r q d wx) : DivMem w X R Q D N r' q d (wx.setCells R 0 (bitsL r'.testBit).toArray.toList) := by
  obtain ⟨a, b, c, e, f, g, i, j, k⟩ := h
  exact ⟨a.apart (by omega), BitsF.stored (b.there c), c.setCells, e.apart (by omega), f.setCells, g.apart (by omega), World.there_setCells i _ _ _, below_setCells _ (by omega) _ _ _ j, k⟩
theorem dm_bit {w wx : World} {X R Q D N r q d : Nat} {b : Bool} (h : DivMem w X R Q D N (r * 2) q d wx) : DivMem w X R Q D N (r * 2 + b.toNat) q d (wx.setCell ⟨R, 0, none⟩ (.bool b)) := by
  obtain ⟨a, b', c, e, f, g, i, j, k⟩ := h
  exact ⟨a.other (by omega), b'.set (by decide) (fun j hj => set0 r b j), c.set, e.other (by omega), f.set, g.other (by omega), there_set i (by simp; omega), j.setCell (by simp; omega) _, k⟩
theorem dm_q {w wx : World} {X R Q D N r t d i : Nat} (hi : i < 256) (h : DivMem w X R Q D N r (t * 2 ^ (i + 1)) d wx) : DivMem w X R Q D N r (t * 2 ^ (i + 1) + 2 ^ i) d (wx.setCell ⟨Q, i, none⟩ (.bool true)) := by
  obtain ⟨a, b', c, e, f, g, i', j, k⟩ := h
  exact ⟨a.other (by omega), b'.other (by omega), c.set, e.set hi (fun j hj => setq t i j), f.set, g.other (by omega), there_set i' (by simp; omega), j.setCell (by simp; omega) _, k⟩
end Go.Proofs.Ytdddafhalcbhaaa
