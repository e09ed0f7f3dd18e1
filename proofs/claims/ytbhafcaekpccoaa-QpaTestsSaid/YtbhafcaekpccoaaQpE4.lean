/- Two arrays of four numbers are equal if their numbers are. -/
import Derived.Test.YtbhafcaekpccoaaQpH
import Derived.Laws.StructEq
namespace Go.Proofs.Ytbhafcaekpccoaa.Qp
open Go.ChangeShapes Go.WideShapes Go.ChangeAt Go.RowKit Go.Joins
set_option maxRecDepth 100000
theorem int_eq (d : Nat) (a b : Int) (w : World) : (Op.equalIn (d + 1) 32 (.int .i64 a) (.int .i64 b)).run Try.prog w = .ok (a == b) w := by
  simp [Op.equalIn, run_underlying Try.underlying32]
theorem eq4 (a b c d : Int) (w : World) : (Op.equalIn 10000 47 (.agg #[.int .i64 a, .int .i64 b, .int .i64 c, .int .i64 d]) (.agg #[.int .i64 a, .int .i64 b, .int .i64 c, .int .i64 d])).run Try.prog w = .ok true w := by
  show (Op.equalIn (9998 + 1 + 1) _ _ _).run _ w = _
  have hs : ∀ w, (sizeOf 32).run Try.prog w = .ok 1 w := fun w => by kernel_rfl
  have e : ∀ (x : Int) w, (Op.equalIn (9998 + 1) 32 (.int .i64 x) (.int .i64 x)).run Try.prog w = .ok true w := fun x w => by rw [int_eq]; simp
  rw [Op.equalIn]
  simp only [Sem.run_bind, run_underlying Try.underlying47, Result.andThen_ok, hs]
  have ha : ∀ w, (isAgg 32).run Try.prog w = .ok false w := fun w => by kernel_rfl
  have hr : List.range' 0 4 = [0, 1, 2, 3] := rfl
  have e' : ∀ (x : Int) w, (Op.equalIn 9999 32 (.int .i64 x) (.int .i64 x)).run Try.prog w = .ok true w := e
  simp [hr, ha, e', part]
end Go.Proofs.Ytbhafcaekpccoaa.Qp
