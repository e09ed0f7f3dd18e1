/- The document's side of layer 4: eight, number, Make. The document's side of layer 4: Tag, Read, Whole. The document's side of layer 4: Chunks, Same. -/
import Derived.Test.YtmccoejliaakoaaMFr
import Derived.BigQuiet
namespace Go.Proofs.Ytmccoejliaakoaa
open Go.ChangeShapes Go.WideShapes Go.ChangeAt Go.RowKit Go.Joins
set_option maxRecDepth 100000
set_option linter.unusedVariables false
set_option linter.unusedSimpArgs false
def EiRel (w : World) (n : Nat) (g : Nat) (s0 s3 s4 : Value) (wx : World) : Prop :=
  ∃ (i y : Nat) (t : List UInt8), i + g = 8 ∧ y < 18446744073709551616 ∧ s0 = .int .u64 (y : Int) ∧ s3 = .string (mkB t) ∧ s4 = .int .i64 (i : Int) ∧ be g y ++ t = be 8 n ∧ t.length = i ∧ Below w.heap.size w wx
def NuRel (w : World) (s : ByteArray) (g : Nat) (s3 s4 : Value) (wx : World) : Prop := ∃ i : Nat, i + g = 8 ∧ s3 = .int .u64 (val (s.data.toList.take i) : Int) ∧ s4 = .int .i64 (i : Int) ∧ wx = w
/-- a sector's first bytes: k of what fills it up -/
def lead (p : List UInt8) (e n k : Nat) : List UInt8 := [UInt8.ofNat p.length] ++ be 4 (sumOf p e n) ++ p ++ List.replicate k 0
def LdRel (w : World) (l : List UInt8) (e n g : Nat) (s5 : Value) (wx : World) : Prop := ∃ k, k + g = 43 - l.length ∧ s5 = .string (mkB (lead l e n k)) ∧ Below w.heap.size w wx
end Go.Proofs.Ytmccoejliaakoaa
namespace Go.Proofs.Ytmccoejliaakoaa
open Go.ChangeShapes Go.WideShapes Go.ChangeAt Go.RowKit Go.Joins
set_option maxRecDepth 100000
set_option linter.unusedVariables false
set_option linter.unusedSimpArgs false
/-- where Tag's answer stands, as it was laid -/
structure Rts (w0 w : World) : Prop where
  c0 : w.cell? ⟨w0.heap.size, 0, none⟩ = some (.int .u64 0)
  c1 : w.cell? ⟨w0.heap.size, 1, none⟩ = some (.int .u64 0)
  c2 : w.cell? ⟨w0.heap.size, 2, none⟩ = some (.bool false)
  f0 : w.frozen? ⟨w0.heap.size, 0, none⟩ = false
  f1 : w.frozen? ⟨w0.heap.size, 1, none⟩ = false
  f2 : w.frozen? ⟨w0.heap.size, 2, none⟩ = false
  bel : Below w0.heap.size w0 w
end Go.Proofs.Ytmccoejliaakoaa
namespace Go.Proofs.Ytmccoejliaakoaa
open Go.ChangeShapes Go.WideShapes Go.ChangeAt Go.RowKit Go.Joins
set_option maxRecDepth 100000
set_option linter.unusedVariables false
set_option linter.unusedSimpArgs false
def SmRel (w : World) (n : Nat) (g : Nat) (s5 : Value) (wx : World) : Prop := ∃ i : Nat, i + g = n ∧ s5 = .int .i64 (i : Int) ∧ ∃ q, wx = w.drewN q
theorem drewN_cell (w : World) (q : Nat) (a : Addr) : (w.drewN q).cell? a = w.cell? a := rfl
end Go.Proofs.Ytmccoejliaakoaa
