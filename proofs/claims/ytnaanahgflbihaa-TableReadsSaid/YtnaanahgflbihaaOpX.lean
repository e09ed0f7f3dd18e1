/- Two ops in their boxes, behind calls. -/
import Derived.Test.YtnaanahgflbihaaOpW
namespace Go.Proofs.Ytnaanahgflbihaa.Ox
open Go.ChangeShapes Go.WideShapes Go.ChangeAt Go.RowKit Go.Joins
open Oc
open Pm (Tk chk chk_iff I64)
set_option maxRecDepth 100000
set_option linter.unusedVariables false
set_option linter.unusedSimpArgs false
structure B2 (p q : Nat) (cs ds : Array Value) (w W : World) : Prop where
  bx : Bx p cs w W
  at_ : W.heap[q]? = some (.cells ds 29 (0, 0))
theorem B2.call {p q : Nat} {cs ds : Array Value} {w W W' : World} (h : B2 p q cs ds w W) (hb : Below W.heap.size W W') : B2 p q cs ds w W' := ⟨h.bx.call hb, (hb.block q (lt_of_heap h.at_)).trans h.at_⟩
theorem B2.alloc {p q : Nat} {cs ds : Array Value} {w W : World} (h : B2 p q cs ds w W) (x : Obj) : B2 p q cs ds w (W.alloc x) := h.call ((Below.refl _ _).alloc (Nat.le_refl _) _)
theorem Bx.alloc {p : Nat} {cs : Array Value} {w W : World} (h : Bx p cs w W) (x : Obj) : Bx p cs w (W.alloc x) := h.call ((Below.refl _ _).alloc (Nat.le_refl _) _)
theorem b2_new {p : Nat} {cs : Array Value} {w W : World} (h : Bx p cs w W) (ds : Array Value) : B2 p W.heap.size cs ds w (W.alloc (.cells ds 29)) := ⟨h.alloc _, heap_alloc_new _ _⟩
theorem bx_at {w W : World} (h : Below w.heap.size w W) (cs : Array Value) : Bx W.heap.size cs w (W.alloc (.cells cs 29)) := ⟨heap_alloc_new _ _, h.alloc h.size _⟩
theorem B2.swap {p q : Nat} {cs ds : Array Value} {w W : World} (h : B2 p q cs ds w W) : Bx q ds w W := ⟨h.at_, h.bx.bl⟩
theorem B2.cq {p q : Nat} {cs ds : Array Value} {w W : World} (h : B2 p q cs ds w W) (o : Nat) : W.cell? ⟨q, o, none⟩ = ds[o]? := by rw [Lib.cell_of_heap h.at_]
theorem Bx.c10 {p : Nat} {a0 a1 a2 a3 a4 a5 a6 a7 a8 a9 : Value} {w W : World} (h : Bx p #[a0, a1, a2, a3, a4, a5, a6, a7, a8, a9] w W) : W.cell? ⟨p, 0, none⟩ = some a0 ∧ W.cell? ⟨p, 1, none⟩ = some a1 ∧ W.cell? ⟨p, 2, none⟩ = some a2 ∧ W.cell? ⟨p, 3, none⟩ = some a3 ∧ W.cell? ⟨p, 4, none⟩ = some a4 ∧ W.cell? ⟨p, 5, none⟩ = some a5 ∧ W.cell? ⟨p, 6, none⟩ = some a6 ∧ W.cell? ⟨p, 7, none⟩ = some a7 ∧ W.cell? ⟨p, 8, none⟩ = some a8 ∧ W.cell? ⟨p, 9, none⟩ = some a9 := cons10 h.cell
theorem B2.cells {p q : Nat} {a0 a1 a2 a3 a4 a5 a6 a7 a8 a9 d0 d1 d2 d3 d4 d5 d6 d7 d8 d9 : Value} {w W : World} (h : B2 p q #[a0, a1, a2, a3, a4, a5, a6, a7, a8, a9] #[d0, d1, d2, d3, d4, d5, d6, d7, d8, d9] w W) : W.cell? ⟨q, 0, none⟩ = some d0 ∧ W.cell? ⟨q, 1, none⟩ = some d1 ∧ W.cell? ⟨q, 2, none⟩ = some d2 ∧ W.cell? ⟨q, 3, none⟩ = some d3 ∧ W.cell? ⟨q, 4, none⟩ = some d4 ∧ W.cell? ⟨q, 5, none⟩ = some d5 ∧ W.cell? ⟨q, 6, none⟩ = some d6 ∧ W.cell? ⟨q, 7, none⟩ = some d7 ∧ W.cell? ⟨q, 8, none⟩ = some d8 ∧ W.cell? ⟨q, 9, none⟩ = some d9 ∧ W.cell? ⟨p, 0, none⟩ = some a0 ∧ W.cell? ⟨p, 1, none⟩ = some a1 ∧ W.cell? ⟨p, 2, none⟩ = some a2 ∧ W.cell? ⟨p, 3, none⟩ = some a3 ∧ W.cell? ⟨p, 4, none⟩ = some a4 ∧ W.cell? ⟨p, 5, none⟩ = some a5 ∧ W.cell? ⟨p, 6, none⟩ = some a6 ∧ W.cell? ⟨p, 7, none⟩ = some a7 ∧ W.cell? ⟨p, 8, none⟩ = some a8 ∧ W.cell? ⟨p, 9, none⟩ = some a9 :=
  ⟨h.cq 0, h.cq 1, h.cq 2, h.cq 3, h.cq 4, h.cq 5, h.cq 6, h.cq 7, h.cq 8, h.cq 9, h.bx.cell 0, h.bx.cell 1, h.bx.cell 2, h.bx.cell 3, h.bx.cell 4, h.bx.cell 5, h.bx.cell 6, h.bx.cell 7, h.bx.cell 8, h.bx.cell 9⟩
theorem readO_enc {o : Od} (h : chkR o = true) : readO (encO o) = (o, 0) := by unfold readO; rw [readR_enc h]
theorem readO_more {o : Od} (h : chkR o = true) (c : UInt8) : readO (encO o ++ [c]) = (od0, 10) := by unfold readO; rw [readR_more h]
theorem bytesR_yes {o : Od} (h : chkR o = true) : bytesR o = (mkB (encO o), 0) := by unfold bytesR; rw [if_pos h]
end Go.Proofs.Ytnaanahgflbihaa.Ox
