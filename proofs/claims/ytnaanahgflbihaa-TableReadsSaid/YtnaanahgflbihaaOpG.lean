/- Package ops' Bytes. -/
import Derived.Test.YtnaanahgflbihaaOpF
import Derived.Test.YtnaanahgflbihaaOpE
namespace Go.Proofs.Ytnaanahgflbihaa.Ox
open Go.ChangeShapes Go.WideShapes Go.ChangeAt Go.RowKit Go.Joins
open Oc
open Pm (Tk chk chk_iff)
set_option maxRecDepth 100000
set_option maxRecDepth 100000
set_option linter.unusedVariables false
set_option linter.unusedSimpArgs false
theorem Bd.call {B b p T : Nat} {cs : Array Value} {l : List UInt8} {w W W' : World} (h : Bd B b p T cs l w W) (hb : Below W.heap.size W W') : Bd B b p T cs l w W' :=
  ⟨h.wr.call hb, (hb.block p (lt_of_heap h.at_)).trans h.at_, h.ty, h.ne, h.mv.trans ⟨hb.os, hb.tape, hb.output, hb.size, fun k hk _ _ => hb.block k hk, fun k hk => .inl (by
    unfold bufOf at *
    rwa [hb.cell (p := ⟨b, 1, none⟩) h.wr.lt] at hk)⟩, Nat.le_trans h.sz hb.size⟩
theorem cons10 {W : World} {p : Nat} {a b c d e f g h i j : Value} (H : ∀ o, W.cell? ⟨p, o, none⟩ = (#[a, b, c, d, e, f, g, h, i, j] : Array Value)[o]?) : W.cell? ⟨p, 0, none⟩ = some a ∧ W.cell? ⟨p, 1, none⟩ = some b ∧ W.cell? ⟨p, 2, none⟩ = some c ∧ W.cell? ⟨p, 3, none⟩ = some d ∧ W.cell? ⟨p, 4, none⟩ = some e ∧ W.cell? ⟨p, 5, none⟩ = some f ∧ W.cell? ⟨p, 6, none⟩ = some g ∧ W.cell? ⟨p, 7, none⟩ = some h ∧ W.cell? ⟨p, 8, none⟩ = some i ∧ W.cell? ⟨p, 9, none⟩ = some j := ⟨H 0, H 1, H 2, H 3, H 4, H 5, H 6, H 7, H 8, H 9⟩
def bytesR (o : Od) : ByteArray × Int := if chkR o then (mkB (encO o), 0) else (⟨#[]⟩, 1)
theorem enc_of {o : Od} (h : chkR o = true) : encInt o.kind ++ bodyR (ofR o) = encO o := by
  rcases chkR_iff.1 h with ⟨t, s, rfl, hc, hs⟩ | ⟨i, rfl, h1, h2⟩ | ⟨i, c, rfl, h1, h2, h3, h4⟩ | ⟨m, rfl, h1, h2⟩
  · simp [ofR, bodyR, encO]
  · simp [ofR, bodyR, encO]
  · simp [ofR, bodyR, encO]
  · simp [ofR, bodyR, encO]
theorem kind_of {o : Od} (h : chkR o = true) : 0 ≤ o.kind ∧ o.kind ≤ 1000000 := by
  rcases chkR_iff.1 h with ⟨t, s, rfl, hc, hs⟩ | ⟨i, rfl, h1, h2⟩ | ⟨i, c, rfl, h1, h2, h3, h4⟩ | ⟨m, rfl, h1, h2⟩ <;> simp
theorem may_chk {o : Od} (h : chkR o = true) : mayF (ofR o) = true := by
  rw [may_of]; unfold chkR at h; rw [Bool.and_eq_true] at h; exact h.2
end Go.Proofs.Ytnaanahgflbihaa.Ox
