/- The examples stand: awake answers true. -/
import Derived.Test.YtnaanahgflbihaaOcI
namespace Go.Proofs.Ytnaanahgflbihaa.Oc
open Go.ChangeShapes Go.WideShapes Go.ChangeAt Go.RowKit Go.Joins
set_option maxRecDepth 100000
set_option linter.unusedVariables false
set_option linter.unusedSimpArgs false
theorem BAt.of_blocks {B b : Nat} {p h : Value} {l : List UInt8} {w w' : World} (k : BAt B b p h l w) (hb : w'.heap[b]? = w.heap[b]?) (hg : ∀ g, bufOf w b = some g → w'.heap[g]? = w.heap[g]?) : BAt B b p h l w' := by
  obtain ⟨hB, v, hbk, hown, hn⟩ := k
  refine ⟨hB, v, hb.trans hbk, ⟨hown.1, ?_⟩, hn⟩
  rcases hown.2 with e | ⟨g, cap, cur, fz, rfl, hbg, hgg, rest⟩
  · exact .inl e
  · exact .inr ⟨g, cap, cur, fz, rfl, hbg, by rw [hg g (by rw [bufOf_eq hbk]; rfl)]; exact hgg, rest⟩
theorem BAt.buf_lt {B b : Nat} {p h : Value} {l : List UInt8} {w : World} (k : BAt B b p h l w) : ∀ g, bufOf w b = some g → B ≤ g ∧ g < w.heap.size := by
  obtain ⟨hB, v, hbk, hown, hn⟩ := k
  intro g hg
  rw [bufOf_eq hbk] at hg
  exact hown.lt g hg
theorem Wr.lt {B b : Nat} {l : List UInt8} {w : World} (k : Wr B b l w) : b < w.heap.size := by obtain ⟨p, h, k, _⟩ := k; exact k.lt
theorem Wr.le {B b : Nat} {l : List UInt8} {w : World} (k : Wr B b l w) : B ≤ b := by obtain ⟨p, h, k, _⟩ := k; exact k.1
theorem Wr.buf_lt {B b : Nat} {l : List UInt8} {w : World} (k : Wr B b l w) : ∀ g, bufOf w b = some g → B ≤ g ∧ g < w.heap.size := by obtain ⟨p, h, k, _⟩ := k; exact k.buf_lt
theorem Wr.of_blocks {B b : Nat} {l : List UInt8} {w w' : World} (k : Wr B b l w) (hb : w'.heap[b]? = w.heap[b]?) (hg : ∀ g, bufOf w b = some g → w'.heap[g]? = w.heap[g]?) : Wr B b l w' := by
  obtain ⟨p, h, k, e⟩ := k; exact ⟨p, h, k.of_blocks hb hg, e⟩
theorem Wr.call {B b : Nat} {l : List UInt8} {w w' : World} (k : Wr B b l w) (h : Below w.heap.size w w') : Wr B b l w' :=
  k.of_blocks (h.block b k.lt) (fun g hg => h.block g (k.buf_lt g hg).2)
theorem Wr.buf_ne {B b : Nat} {l : List UInt8} {w : World} (k : Wr B b l w) {c : Nat} {cs : Array Value} {T : TypeId} {fz : Nat × Nat} (hc : w.heap[c]? = some (.cells cs T fz)) (hT : T ≠ 5) : bufOf w b ≠ some c := by
  obtain ⟨p, h, k, e⟩ := k
  obtain ⟨hB, v, hbk, hown, hn⟩ := k
  rw [bufOf_eq hbk]
  exact neF hown hc hT
theorem Wr.apart {B b c : Nat} {l : List UInt8} {w w' : World} (k : Wr B b l w) (h : Apart c w w') (hc : b ≠ c) (hn : bufOf w b ≠ some c) : Wr B b l w' :=
  k.of_blocks (h.block b k.lt hc) (fun g hg => h.block g (k.buf_lt g hg).2 (fun e => hn (e ▸ hg)))
theorem Rd.moved {T b c B : Nat} {o : St} {l : List UInt8} {w w' : World} (k : Rd T b o w) (m : Moved c w w') (kw : Wr B c l w) (hT : T ≠ 5) (hc : b ≠ c) : Rd T b o w' := by
  obtain ⟨s, hs⟩ := k.cells
  exact k.of_block (m.block b k.lt hc (kw.buf_ne hs hT))
theorem Wr.below {B b : Nat} {l : List UInt8} {w w' : World} (k : Wr B b l w) (m : Moved b w w') (hs : B ≤ w.heap.size) : Below B w w' := by
  obtain ⟨p, h, k, e⟩ := k; exact m.below k hs
theorem bytes300 : bytesOf 300 = [1, 44] := by
  rw [bytesOf_pos (by decide), bytesOf_pos (n := 300 / 256) (by decide), show 300 / 256 / 256 = 0 from rfl, bytesOf_zero]; rfl
theorem bytes2 : bytesOf 2 = [2] := by
  rw [bytesOf_pos (by decide), show 2 / 256 = 0 from rfl, bytesOf_zero]; rfl
theorem example_bytes : mkB (enc 300 ++ encText [97, 98]) = ⟨#[2, 1, 44, 1, 2, 97, 98]⟩ := by
  unfold encText enc
  rw [show ([97, 98] : List UInt8).length = 2 from rfl, bytes300, bytes2]
  rfl
theorem num_enc {n most : Nat} (hn : n < 18446744073709551616) (hm : n ≤ most) (r : List UInt8) : num (some (enc n ++ r)) most = (n, some r) := num_le (dec_enc hn r) hm
theorem int_enc {n : Nat} {most : Int} (hn : n < 18446744073709551616) (hm : (n : Int) ≤ most) (r : List UInt8) : int (some (enc n ++ r)) most = (n, some r) := by
  unfold int; rw [if_neg (by omega)]; exact num_enc hn (by omega) r
theorem text_enc {t : List UInt8} {most : Int} (hn : t.length < 18446744073709551616) (hm : (t.length : Int) ≤ most) (r : List UInt8) : text (some (encText t ++ r)) most = (t, some r) := by
  unfold text encText
  rw [List.append_assoc, int_enc hn hm]
  simp
end Go.Proofs.Ytnaanahgflbihaa.Oc
