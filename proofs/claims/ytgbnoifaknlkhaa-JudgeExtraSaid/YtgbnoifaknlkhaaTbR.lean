/- The document's Apply, of whatever op. -/
import Derived.Test.YtgbnoifaknlkhaaTbJ
import Derived.Test.YtgbnoifaknlkhaaTbK
namespace Go.Proofs.Ytgbnoifaknlkhaa.Tb
open Go.ChangeShapes Go.WideShapes Go.ChangeAt Go.RowKit Go.Joins
open Ge (El Seen Row)
open Ox (Od chkR chkR_iff tk0)
theorem rapply_any (t : Tb) (o : Od) (ao : Option Addr) (cap : Nat) (w : World) (hS : Sl (.slice ao t.rows.length cap) t.rows w ao cap) (hl : t.rows.length ≤ 1000) :
    Calls Try.prog 20 #[tv ao t.rows.length cap t.mode, o.v] w fun e w' => ∃ v, e = .returned (.tuple #[v, .int .i64 (applyR t o).2]) ∧ Told v (applyR t o).1 w' ∧ Below w.heap.size w w' := by
  cases hT : chkT t with
  | false => exact rapply_no t o ao cap w hS hl (.inl hT)
  | true =>
    cases hO : chkR o with
    | false => exact rapply_no t o ao cap w hS hl (.inr hO)
    | true =>
      rcases chkR_iff.1 hO with ⟨x, xs, e, -⟩ | ⟨xi, e, -⟩ | ⟨xi, xc, e, -⟩ | ⟨xm, e, -⟩
      · exact rapply_admit t o ao cap w hS hl hT e hO
      · exact rapply_remove t o ao cap w hS hl hT e hO
      · exact rapply_resize t o ao cap w hS hl hT e hO
      · exact rapply_mode t o ao cap w hS hl hT e hO
end Go.Proofs.Ytgbnoifaknlkhaa.Tb
