/- A table of sums in memory: what fill leaves there. -/
import Derived.Test.YtcbemjckcmcelaaCcB
import Derived.Deep.QuietTactic
namespace Go.Proofs.Ytcbemjckcmcelaa
open Go.ChangeShapes Go.WideShapes Go.ChangeAt Go.RowKit Go.Joins
set_option maxRecDepth 100000
set_option linter.unusedVariables false
set_option linter.unusedSimpArgs false
/-- of what was there only block b has turned; what of b may not be written is as it was -/
structure Apart (b : Nat) (w w' : World) : Prop where
  os : w'.os = w.os
  tape : w'.tape = w.tape
  output : w'.output = w.output
  size : w.heap.size ≤ w'.heap.size
  block : ∀ k, k < w.heap.size → k ≠ b → w'.heap[k]? = w.heap[k]?
  frozen : ∀ o, w'.frozen? ⟨b, o, none⟩ = w.frozen? ⟨b, o, none⟩
theorem Apart.refl (b : Nat) (w : World) : Apart b w w := ⟨rfl, rfl, rfl, Nat.le_refl _, fun _ _ _ => rfl, fun _ => rfl⟩
theorem Apart.trans {b : Nat} {u v w : World} (h : Apart b u v) (k : Apart b v w) : Apart b u w :=
  ⟨k.os.trans h.os, k.tape.trans h.tape, k.output.trans h.output, Nat.le_trans h.size k.size, fun i hi hb => (k.block i (Nat.lt_of_lt_of_le hi h.size) hb).trans (h.block i hi hb), fun o => (k.frozen o).trans (h.frozen o)⟩
theorem Apart.drew {b : Nat} {u w : World} (h : Apart b u w) : Apart b u w.drew := h.trans ⟨rfl, rfl, rfl, Nat.le_refl _, fun _ _ _ => rfl, fun _ => by simp [go_sem]⟩
theorem Apart.setCell {b : Nat} {u w : World} (h : Apart b u w) (o : Nat) (v : Value) : Apart b u (w.setCell ⟨b, o, none⟩ v) :=
  h.trans ⟨rfl, rfl, rfl, by simp, fun k hk hb => Below.heap_setCell _ _ _ _ hb, fun o => by simp⟩
theorem Apart.below {b B : Nat} {w w' : World} (h : Apart b w w') (hB : B ≤ b) (hs : B ≤ w.heap.size) : Below B w w' :=
  ⟨h.os, h.tape, h.output, h.size, fun k hk => h.block k (by omega) (by omega)⟩
theorem Apart.cell {b : Nat} {w w' : World} (h : Apart b w w') {p : Addr} (hp : p.block < w.heap.size) (hb : p.block ≠ b) : w'.cell? p = w.cell? p := World.cell?_of_block (w := w) (h.block p.block hp hb)
theorem Apart.of_below {b : Nat} {w w' : World} (h : Below w.heap.size w w') (hb : b < w.heap.size) : Apart b w w' :=
  ⟨h.os, h.tape, h.output, h.size, fun k hk _ => h.block k hk, fun o => h.frozen (p := ⟨b, o, none⟩) hb⟩
theorem lt_of_cell {w : World} {p : Addr} {v : Value} (h : w.cell? p = some v) : p.block < w.heap.size := by
  rcases Nat.lt_or_ge p.block w.heap.size with h' | h'
  · exact h'
  · exfalso; unfold World.cell? at h; rw [Array.getElem?_eq_none h'] at h; cases h
/-- the table's cells are there, and may be written -/
def Open (w : World) (b : Nat) : Prop := ∀ j, j < 256 → (∃ v, w.cell? ⟨b, 3 + j, none⟩ = some v) ∧ w.frozen? ⟨b, 3 + j, none⟩ = false
/-- the first n places are filled -/
def Filled (w : World) (b n : Nat) : Prop := ∀ j, j < n → w.cell? ⟨b, 3 + j, none⟩ = some (.int .u32 (tab j : Int))
def FillRel (w : World) (b g : Nat) (s5 : Value) (wx : World) : Prop := ∃ i : Nat, i + g = 256 ∧ s5 = .int .i64 (i : Int) ∧ Filled wx b i ∧ Open wx b ∧ Apart b w wx ∧ ∀ o, o < 3 → wx.cell? ⟨b, o, none⟩ = w.cell? ⟨b, o, none⟩
def ShRel (t : Nat) (w : World) (g : Nat) (s3 s4 : Value) (wx : World) : Prop := ∃ i y : Nat, i + g = 8 ∧ 1 ≤ i ∧ Is32 y ∧ s3 = .int .u32 (y : Int) ∧ s4 = .int .i64 (i : Int) ∧ shN (g + 1) y = t ∧ wx = w
theorem fill_next {w wr : World} {b i z : Nat} {v : Value} (hi : i < 256) (hz : z = tab i) (H : Filled wr b i ∧ Open wr b ∧ Apart b w wr ∧ ∀ o, o < 3 → wr.cell? ⟨b, o, none⟩ = w.cell? ⟨b, o, none⟩) (hv : wr.cell? ⟨b, 3 + i, none⟩ = some v) :
    FillRel w b (255 - i) (.int .i64 ((i : Int) + 1)) (wr.setCell ⟨b, 3 + i, none⟩ (.int .u32 (z : Int))) := by
  obtain ⟨hf, ho, ha, hl⟩ := H
  refine ⟨i + 1, by omega, rfl, fun j hj => ?_, fun j hj => ⟨?_, by simp [(ho j hj).2]⟩, ha.setCell _ _, fun o h => ?_⟩
  · by_cases e : j = i
    · subst e; rw [World.cell?_setCell_same _ _ _ hv, hz]
    · rw [World.cell?_setCell_other _ _ _ _ (by first | (simp; done) | (simp; omega))]; exact hf j (by omega)
  · by_cases e : j = i
    · subst e; exact ⟨_, World.cell?_setCell_same _ _ _ hv⟩
    · rw [World.cell?_setCell_other _ _ _ _ (by first | (simp; done) | (simp; omega))]; exact (ho j hj).1
  · rw [World.cell?_setCell_other _ _ _ _ (by first | (simp; done) | (simp; omega))]; exact hl o h
set_option maxRecDepth 100000 in
theorem fill_any (b : Nat) (w : World) (ho : Open w b) :
    Calls Try.prog 76 #[.pointer (some ⟨b, 0, none⟩)] w fun e w' => e = .returned (.tuple #[]) ∧ Filled w' b 256 ∧ Apart b w w' ∧ ∀ o, o < 3 → w'.cell? ⟨b, o, none⟩ = w.cell? ⟨b, o, none⟩ := by
  have OP := Lib.hid ho
  clear ho
  go_enter Try.func76, Try.ntmps76
  go_wp2_with fail
  go_step3
  go_wp2_with fail
  go_step3
  go_wp2_with fail
  go_loopg [5] 256 (FillRel w b)
  case atStart => exact ⟨0, rfl, rfl, fun j hj => by omega, OP.out, Apart.refl _ _, fun _ _ => rfl⟩
  case round =>
    clear OP
    obtain ⟨i, hk, rfl, hf, ho, ha, hl⟩ := hrel
    have H := Lib.hid (And.intro hf (And.intro ho (And.intro ha hl)))
    clear hf ho ha hl
    rcases Nat.lt_or_ge i 256 with hlt | hge
    · have hm : (i : Int) % 4294967296 = i := by omega
      go_wp2
      rw [show decide ((i : Int) < 256) = true by simp; omega]
      go_loopg [3, 4] 7 (ShRel (tab i) wr)
      case atStart => exact ⟨1, i, rfl, Nat.le_refl _, by unfold Is32; omega, rfl, rfl, rfl, rfl⟩
      case round =>
        obtain ⟨k, y, hj, h1, hy, rfl, rfl, ht, rfl⟩ := hrel
        have S := Lib.hid (fun w => shift_any y w hy)
        have Y := Lib.hid (sh_is32 hy)
        have T : Hid (shN gk (sh y) = tab i) := Lib.hid ht
        generalize sh y = z at *
        go_wp2_with fail
        (with_reducible refine (S.out _).mono ?_)
        rintro e w1 ⟨rfl, rfl⟩
        rcases Nat.lt_or_ge k 8 with hlt8 | hge8
        · go_wp2
          go_roundg (gk - 1)
          case measure => omega
          case rel => exact ⟨k + 1, z, by omega, by omega, Y.out, rfl, rfl, by have := T.out; rwa [show gk = gk - 1 + 1 by omega] at this, rfl⟩
        · obtain ⟨v, hv⟩ := (H.out.2.1 i hlt).1
          have hz := (H.out.2.1 i hlt).2
          have E : Hid (z = tab i) := Lib.hid (by have := T.out; rwa [show gk = 0 by omega] at this)
          clear T
          go_wp2
          go_roundg (255 - i)
          case measure => omega
          case rel => exact fill_next hlt E.out H.out hv
    · go_wp2
      simp only [Exit.noGoto]
      go_end0
      obtain ⟨hf, ho, ha, hl⟩ := H.out
      exact ⟨rfl, by rwa [show i = 256 by omega] at hf, ha, hl⟩
end Go.Proofs.Ytcbemjckcmcelaa
