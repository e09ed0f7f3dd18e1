/- Rows of numbers: as they are put, and as they are read; how a slice of numbers that came in is opened. -/
import Derived.Test.YthmbnnbdphobiaaOcJ
import Derived.ChangeSlices
namespace Go.Proofs.Ythmbnnbdphobiaa
open Go.ChangeShapes Go.WideShapes Go.ChangeAt Go.RowKit Go.Joins
set_option linter.unusedVariables false
set_option linter.unusedSimpArgs false
/-- the first i numbers of a row, as they are put -/
def encs (f : Nat → Nat) : Nat → List UInt8 | 0 => [] | i + 1 => encs f i ++ enc (f i)
/-- k numbers from the i-th on -/
def sufs (f : Nat → Nat) : Nat → Nat → List UInt8 | 0, _ => [] | k + 1, i => enc (f i) ++ sufs f k (i + 1)
theorem encs_add (f : Nat → Nat) (k : Nat) : ∀ i, encs f (i + k) = encs f i ++ sufs f k i := by
  induction k with
  | zero => intro i; simp [sufs]
  | succ k ih =>
    intro i
    rw [show i + (k + 1) = (i + 1) + k by omega, ih (i + 1)]
    simp [encs, sufs]
theorem encs_sufs (f : Nat → Nat) (n : Nat) : encs f n = sufs f n 0 := by have := encs_add f n 0; simpa [encs] using this
theorem encs_length {f : Nat → Nat} (h : ∀ i, f i < 18446744073709551616) (n : Nat) : (encs f n).length ≤ 9 * n := by
  induction n with
  | zero => simp [encs]
  | succ n ih => have := enc_len9 (h n); simp only [encs, List.length_append]; omega
theorem bytes1 : bytesOf 1 = [1] := by rw [bytesOf_pos (by decide), show 1 / 256 = 0 from rfl, bytesOf_zero]; rfl
theorem enc1 : enc 1 = [1, 1] := by unfold enc; rw [bytes1]; rfl
theorem encFlag_true : encFlag true = [1, 1] := enc1
theorem flag_enc (r : List UInt8) : flag (some (encFlag true ++ r)) = (true, some r) := by
  unfold flag encFlag
  rw [if_pos rfl, num_enc (by omega) (by omega)]
  rfl
theorem flag_cut : flag (some [1]) = (false, none) := by
  unfold flag
  rw [num_no (by rw [dec_cons, if_neg (by decide)])]
  rfl
/-- a row of numbers that came in: what its cells hold -/
def Nums (ao : Option Addr) (len : Nat) (f : Nat → Nat) (w : World) : Prop := 0 < len → ∃ b off, ao = some ⟨b, off, none⟩ ∧ b < w.heap.size ∧ ∀ i, i < len → w.cell? ⟨b, off + i, none⟩ = some (.int .u64 (f i : Int))
theorem open_nums {H : Type} {enc : TypeId × Value → H} {W : World} {r : Reach} {b0 base : Nat} {spare : Nat → Bool} {held : Bool} {v : Value} {d : DataW H} {p : List MemPlace}
    (hok : Value.okWide Try.prog W r b0 54 v) (h : DataW.Trod enc Try.prog W base spare held 54 v d p) :
    ∃ ao len cap f, v = .slice ao len cap ∧ len ≤ 9223372036854775807 ∧ (∀ i, f i < 18446744073709551616) ∧ Nums ao len f W := by
  obtain ⟨ao, len, cap, rfl⟩ := okWide_slice Try.underlying54 hok
  obtain ⟨fuel, hf⟩ := h
  rcases Go.ChangeShapes.open_ints Try.underlying54 Try.underlying31 (by kernel_rfl) hf with ⟨hcs, hx⟩ | ⟨a, len', cap', zs, hcs, _, hl, hm, hz, hx, hcell, hwz⟩
  · simp [Value.cells] at hcs
    obtain ⟨rfl, rfl, rfl⟩ := hcs
    exact ⟨none, 0, 0, fun _ => 0, rfl, by omega, fun _ => by show 0 < _; omega, fun h => by omega⟩
  · simp [Value.cells] at hcs
    obtain ⟨rfl, rfl, rfl⟩ := hcs
    have hzl : len ≤ zs.length := by rw [hz]; split <;> omega
    have hw : ∀ i, 0 ≤ zs.getD i 0 ∧ zs.getD i 0 < 18446744073709551616 := by
      intro i
      by_cases hi : i < zs.length
      · have := hwz _ (List.getElem_mem hi)
        simp [Lit.wf, IntKind.min, IntKind.max, IntKind.bits, IntKind.signed] at this
        have e : zs.getD i 0 = zs[i] := by simp [List.getD, hi]
        rw [e]
        omega
      · have e : zs.getD i 0 = 0 := by simp [List.getD, List.getElem?_eq_none (show zs.length ≤ i by omega)]
        rw [e]
        omega
    refine ⟨some a, len, cap, fun i => (zs.getD i 0).toNat, rfl, by unfold maxLen at hm; omega, fun i => by have := hw i; show (zs.getD i 0).toNat < _; omega, fun h0 => ?_⟩
    obtain ⟨b, off, spot⟩ := a
    have hspot : spot = none := by simpa [Addr.add] using World.cell?_spot (hcell 0 (by omega))
    subst hspot
    refine ⟨b, off, rfl, World.block_lt_of_cell? _ _ (hcell 0 (by omega)), fun i hi => ?_⟩
    rw [← add_plain, hcell i (by omega)]
    have := hw i
    show some (Value.int .u64 (zs.getD i 0)) = some (Value.int .u64 ((zs.getD i 0).toNat : Int))
    rw [Int.toNat_of_nonneg this.1]
end Go.Proofs.Ythmbnnbdphobiaa
