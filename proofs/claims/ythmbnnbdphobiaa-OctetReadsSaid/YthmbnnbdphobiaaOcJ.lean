/- Two writers that share nothing; what was read is written so. -/
import Derived.Test.YthmbnnbdphobiaaOcG
namespace Go.Proofs.Ythmbnnbdphobiaa
open Go.ChangeShapes Go.WideShapes Go.ChangeAt Go.RowKit Go.Joins
set_option linter.unusedVariables false
set_option linter.unusedSimpArgs false
theorem Wr.mono {B B' b : Nat} {l : List UInt8} {w : World} (k : Wr B' b l w) (h : B ≤ B') : Wr B b l w := by
  obtain ⟨p, q, ⟨hB, v, hb, hown, hn⟩, e⟩ := k
  refine ⟨p, q, ⟨by omega, v, hb, ⟨hown.1, ?_⟩, hn⟩, e⟩
  rcases hown.2 with e | ⟨g, cap, cur, fz, rfl, hbg, rest⟩
  · exact .inl e
  · exact .inr ⟨g, cap, cur, fz, rfl, by omega, rest⟩
theorem bufOf_block {w w' : World} {b : Nat} (h : w'.heap[b]? = w.heap[b]?) : bufOf w' b = bufOf w b := by
  unfold bufOf; rw [World.cell?_of_block (w := w) (a := ⟨b, 1, none⟩) h]
/-- two writers that share nothing -/
def Two (B x y : Nat) (lx ly : List UInt8) (w : World) : Prop := Wr B x lx w ∧ Wr B y ly w ∧ x ≠ y ∧ ∀ g, bufOf w x = some g → bufOf w y ≠ some g
theorem Two.wx {B x y : Nat} {lx ly : List UInt8} {w : World} (h : Two B x y lx ly w) : Wr B x lx w := h.1
theorem Two.wy {B x y : Nat} {lx ly : List UInt8} {w : World} (h : Two B x y lx ly w) : Wr B y ly w := h.2.1
theorem Two.symm {B x y : Nat} {lx ly : List UInt8} {w : World} (h : Two B x y lx ly w) : Two B y x ly lx w := ⟨h.2.1, h.1, h.2.2.1.symm, fun g a b => h.2.2.2 g b a⟩
theorem Wr.heap {B b : Nat} {l : List UInt8} {w : World} (k : Wr B b l w) : ∃ cs, w.heap[b]? = some (.cells cs 30 (0, 0)) := by
  obtain ⟨p, q, ⟨hB, v, hb, hown, hn⟩, e⟩ := k; exact ⟨_, hb⟩
theorem Two.left {B x y : Nat} {lx ly l' : List UInt8} {w w' : World} (h : Two B x y lx ly w) (m : Moved x w w') (k : Wr B x l' w') : Two B x y l' ly w' := by
  obtain ⟨kx, ky, hne, sep⟩ := h
  obtain ⟨cs, hc⟩ := ky.heap
  have hy : w'.heap[y]? = w.heap[y]? := m.block y ky.lt hne.symm (kx.buf_ne hc (by decide))
  have he := bufOf_block hy
  obtain ⟨cx, hx⟩ := kx.heap
  refine ⟨k, ky.of_blocks hy (fun g hg => m.block g (ky.buf_lt g hg).2 (fun e => ky.buf_ne hx (by decide) (e ▸ hg)) (fun e => sep g e hg)), hne, fun g hg hgy => ?_⟩
  rw [he] at hgy
  rcases m.own g hg with e | e
  · exact sep g e hgy
  · have := (ky.buf_lt g hgy).2; omega
theorem Two.right {B x y : Nat} {lx ly l' : List UInt8} {w w' : World} (h : Two B x y lx ly w) (m : Moved y w w') (k : Wr B y l' w') : Two B x y lx l' w' := (h.symm.left m k).symm
theorem two_new (w : World) : Two w.heap.size w.heap.size (w.heap.size + 1) [] [] ((w.alloc (.cells #[.pointer none, .slice none 0 0, .pointer none] 30)).alloc (.cells #[.pointer none, .slice none 0 0, .pointer none] 30)) := by
  have k1 := (fresh_wr w).call ((Below.refl _ _).alloc (Nat.le_refl _) (.cells #[.pointer none, .slice none 0 0, .pointer none] 30))
  have k2 := fresh_wr (w.alloc (.cells #[.pointer none, .slice none 0 0, .pointer none] 30))
  have e : (w.alloc (.cells #[.pointer none, .slice none 0 0, .pointer none] 30)).heap.size = w.heap.size + 1 := by simp
  rw [e] at k2
  refine ⟨k1, k2.mono (by omega), by omega, fun g hg hg2 => ?_⟩
  have := (k2.buf_lt g hg2).1
  unfold bufOf at hg2
  rw [show ((w.alloc (.cells #[.pointer none, .slice none 0 0, .pointer none] 30)).alloc (.cells #[.pointer none, .slice none 0 0, .pointer none] 30)).cell? ⟨w.heap.size + 1, 1, none⟩ = some (.slice none 0 0) by simp [go_sem]] at hg2
  simp [Value.ownBlock] at hg2
/-- of a number that was read of a text the bytes are those that it was read of -/
theorem read_so {l : List UInt8} {r : List UInt8} (h : (num (some l) 18446744073709551615).2 = some r) : l = enc (num (some l) 18446744073709551615).1 ++ r := by
  obtain ⟨l', e, -, hd⟩ := num_shorter h
  cases e
  exact (dec_some hd).1
end Go.Proofs.Ythmbnnbdphobiaa
