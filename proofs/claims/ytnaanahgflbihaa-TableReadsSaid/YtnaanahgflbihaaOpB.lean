/- Package ops' Bare, may, Check and Name. -/
import Derived.Test.YtnaanahgflbihaaOpA
import Derived.Deep.RegionWith
namespace Go.Proofs.Ytnaanahgflbihaa.Ox
open Go.ChangeShapes Go.WideShapes Go.ChangeAt Go.RowKit Go.Joins
open Pm (Tk chk chk_iff below_drewN)
set_option maxRecDepth 100000
set_option maxRecDepth 100000
set_option linter.unusedVariables false
set_option linter.unusedSimpArgs false
def od0 : Od := ⟨0, tk0, false, 0, 0, 0⟩
theorem ta_admit_admit (v : Value) (w : World) : (Instr.typeAssert (.iface 119 v) 107 119 true).run Try.prog w = .ok (.tuple #[v, .bool true]) w := by kernel_rfl
theorem ta_admit_remove (v : Value) (w : World) : (Instr.typeAssert (.iface 119 v) 107 121 true).run Try.prog w = .ok (.tuple #[.agg #[.int .i64 0], .bool false]) w := by kernel_rfl
theorem ta_admit_resize (v : Value) (w : World) : (Instr.typeAssert (.iface 119 v) 107 123 true).run Try.prog w = .ok (.tuple #[.agg #[.int .i64 0, .int .i64 0], .bool false]) w := by kernel_rfl
theorem ta_admit_mode (v : Value) (w : World) : (Instr.typeAssert (.iface 119 v) 107 125 true).run Try.prog w = .ok (.tuple #[.agg #[.int .i64 0], .bool false]) w := by kernel_rfl
theorem ta_remove_admit (v : Value) (w : World) : (Instr.typeAssert (.iface 121 v) 107 119 true).run Try.prog w = .ok (.tuple #[.agg #[.int .i64 0, .int .i64 0, .int .i64 0, .int .i64 0, .int .i64 0, .bool false], .bool false]) w := by kernel_rfl
theorem ta_remove_remove (v : Value) (w : World) : (Instr.typeAssert (.iface 121 v) 107 121 true).run Try.prog w = .ok (.tuple #[v, .bool true]) w := by kernel_rfl
theorem ta_remove_resize (v : Value) (w : World) : (Instr.typeAssert (.iface 121 v) 107 123 true).run Try.prog w = .ok (.tuple #[.agg #[.int .i64 0, .int .i64 0], .bool false]) w := by kernel_rfl
theorem ta_remove_mode (v : Value) (w : World) : (Instr.typeAssert (.iface 121 v) 107 125 true).run Try.prog w = .ok (.tuple #[.agg #[.int .i64 0], .bool false]) w := by kernel_rfl
theorem ta_resize_admit (v : Value) (w : World) : (Instr.typeAssert (.iface 123 v) 107 119 true).run Try.prog w = .ok (.tuple #[.agg #[.int .i64 0, .int .i64 0, .int .i64 0, .int .i64 0, .int .i64 0, .bool false], .bool false]) w := by kernel_rfl
theorem ta_resize_remove (v : Value) (w : World) : (Instr.typeAssert (.iface 123 v) 107 121 true).run Try.prog w = .ok (.tuple #[.agg #[.int .i64 0], .bool false]) w := by kernel_rfl
theorem ta_resize_resize (v : Value) (w : World) : (Instr.typeAssert (.iface 123 v) 107 123 true).run Try.prog w = .ok (.tuple #[v, .bool true]) w := by kernel_rfl
theorem ta_resize_mode (v : Value) (w : World) : (Instr.typeAssert (.iface 123 v) 107 125 true).run Try.prog w = .ok (.tuple #[.agg #[.int .i64 0], .bool false]) w := by kernel_rfl
theorem ta_mode_admit (v : Value) (w : World) : (Instr.typeAssert (.iface 125 v) 107 119 true).run Try.prog w = .ok (.tuple #[.agg #[.int .i64 0, .int .i64 0, .int .i64 0, .int .i64 0, .int .i64 0, .bool false], .bool false]) w := by kernel_rfl
theorem ta_mode_remove (v : Value) (w : World) : (Instr.typeAssert (.iface 125 v) 107 121 true).run Try.prog w = .ok (.tuple #[.agg #[.int .i64 0], .bool false]) w := by kernel_rfl
theorem ta_mode_resize (v : Value) (w : World) : (Instr.typeAssert (.iface 125 v) 107 123 true).run Try.prog w = .ok (.tuple #[.agg #[.int .i64 0, .int .i64 0], .bool false]) w := by kernel_rfl
theorem ta_mode_mode (v : Value) (w : World) : (Instr.typeAssert (.iface 125 v) 107 125 true).run Try.prog w = .ok (.tuple #[v, .bool true]) w := by kernel_rfl
theorem ta_unknown_admit (v : Value) (w : World) : (Instr.typeAssert (.iface 132 v) 107 119 true).run Try.prog w = .ok (.tuple #[.agg #[.int .i64 0, .int .i64 0, .int .i64 0, .int .i64 0, .int .i64 0, .bool false], .bool false]) w := by kernel_rfl
theorem ta_unknown_remove (v : Value) (w : World) : (Instr.typeAssert (.iface 132 v) 107 121 true).run Try.prog w = .ok (.tuple #[.agg #[.int .i64 0], .bool false]) w := by kernel_rfl
theorem ta_unknown_resize (v : Value) (w : World) : (Instr.typeAssert (.iface 132 v) 107 123 true).run Try.prog w = .ok (.tuple #[.agg #[.int .i64 0, .int .i64 0], .bool false]) w := by kernel_rfl
theorem ta_unknown_mode (v : Value) (w : World) : (Instr.typeAssert (.iface 132 v) 107 125 true).run Try.prog w = .ok (.tuple #[.agg #[.int .i64 0], .bool false]) w := by kernel_rfl
set_option maxHeartbeats 1000000 in
theorem bare_any (o : Od) (w : World) :
    Calls Try.prog 79 #[o.v] w fun e w' => e = .returned (bareR o).v ∧ Below w.heap.size w w' := by
  have OF := Lib.hid (of_any o)
  have b1 := Lib.hid ((Below.refl w.heap.size w).alloc (Nat.le_refl _) (.cells o.cs 29))
  have HZ : Hid (∀ w3 w4, Below ((w.alloc (.cells o.cs 29)).alloc (.cells od0.cs 29)).heap.size ((w.alloc (.cells o.cs 29)).alloc (.cells od0.cs 29)) w3 → Below w3.heap.size w3 w4 → At w4 (w.heap.size + 1) od0 ∧ Below w.heap.size w w4) := Lib.hid (fun w3 w4 h3 h4 => by
    have z := at_new (w.alloc (.cells o.cs 29)) od0
    rw [World.size_alloc] at z
    have hb : Below w.heap.size w ((w.alloc (.cells o.cs 29)).alloc (.cells od0.cs 29)) := ((Below.refl w.heap.size w).alloc (Nat.le_refl _) _).alloc (by simp) _
    exact ⟨(z.call h3).call h4, (hb.trans (h3.mono hb.size)).trans (h4.mono (hb.trans (h3.mono hb.size)).size)⟩)
  rw [← bare_of]
  generalize ofR o = f at *
  obtain ⟨k, ⟨i, c, d, t, m⟩, s, id, cc, mo⟩ := o
  unfold Od.v Od.cs at *
  simp only [od0, tk0] at *
  cases f with
  | admit t s =>
    have OP := Lib.hid (op_admit t s)
    have MT := m_admit
    simp only [Fd.v, Od.v, Od.cs] at OF OP
    go_enter Try.func79, Try.ntmps79
    go_wp2_with fail
    (with_reducible refine (OF.out _).mono ?_)
    rintro e w3 ⟨rfl, b3⟩
    go_wp2_with fail
    (with_reducible refine (OP.out _).mono ?_)
    rintro e w4 ⟨rfl, b4⟩
    obtain ⟨z, bz⟩ := HZ.out w3 w4 b3 b4
    obtain ⟨c0, c1, c2, c3, c4, c5, c6, c7, c8, c9⟩ := z.cells
    have f0 := z.fz
    have B4 := Lib.hid bz
    clear b3 b4 HZ OF OP bz z
    go_wp2
    refine bodyPost_ret (v := (opR (.admit t s)).v) (by simp [results, Try.results79, go_sem, Od.v, Od.cs, opR, tk0, c0, c1, c2, c3, c4, c5, c6, c7, c8, c9]) rfl ⟨rfl, ?_⟩
    exact setOp_below B4.out (by omega) (opR (.admit t s))
  | remove i =>
    have OP := Lib.hid (op_remove i)
    have MT := m_remove
    simp only [Fd.v, Od.v, Od.cs] at OF OP
    go_enter Try.func79, Try.ntmps79
    go_wp2_with fail
    (with_reducible refine (OF.out _).mono ?_)
    rintro e w3 ⟨rfl, b3⟩
    go_wp2_with fail
    (with_reducible refine (OP.out _).mono ?_)
    rintro e w4 ⟨rfl, b4⟩
    obtain ⟨z, bz⟩ := HZ.out w3 w4 b3 b4
    obtain ⟨c0, c1, c2, c3, c4, c5, c6, c7, c8, c9⟩ := z.cells
    have f0 := z.fz
    have B4 := Lib.hid bz
    clear b3 b4 HZ OF OP bz z
    go_wp2
    refine bodyPost_ret (v := (opR (.remove i)).v) (by simp [results, Try.results79, go_sem, Od.v, Od.cs, opR, tk0, c0, c1, c2, c3, c4, c5, c6, c7, c8, c9]) rfl ⟨rfl, ?_⟩
    exact setOp_below B4.out (by omega) (opR (.remove i))
  | resize i c =>
    have OP := Lib.hid (op_resize i c)
    have MT := m_resize
    simp only [Fd.v, Od.v, Od.cs] at OF OP
    go_enter Try.func79, Try.ntmps79
    go_wp2_with fail
    (with_reducible refine (OF.out _).mono ?_)
    rintro e w3 ⟨rfl, b3⟩
    go_wp2_with fail
    (with_reducible refine (OP.out _).mono ?_)
    rintro e w4 ⟨rfl, b4⟩
    obtain ⟨z, bz⟩ := HZ.out w3 w4 b3 b4
    obtain ⟨c0, c1, c2, c3, c4, c5, c6, c7, c8, c9⟩ := z.cells
    have f0 := z.fz
    have B4 := Lib.hid bz
    clear b3 b4 HZ OF OP bz z
    go_wp2
    refine bodyPost_ret (v := (opR (.resize i c)).v) (by simp [results, Try.results79, go_sem, Od.v, Od.cs, opR, tk0, c0, c1, c2, c3, c4, c5, c6, c7, c8, c9]) rfl ⟨rfl, ?_⟩
    exact setOp_below B4.out (by omega) (opR (.resize i c))
  | mode m =>
    have OP := Lib.hid (op_mode m)
    have MT := m_mode
    simp only [Fd.v, Od.v, Od.cs] at OF OP
    go_enter Try.func79, Try.ntmps79
    go_wp2_with fail
    (with_reducible refine (OF.out _).mono ?_)
    rintro e w3 ⟨rfl, b3⟩
    go_wp2_with fail
    (with_reducible refine (OP.out _).mono ?_)
    rintro e w4 ⟨rfl, b4⟩
    obtain ⟨z, bz⟩ := HZ.out w3 w4 b3 b4
    obtain ⟨c0, c1, c2, c3, c4, c5, c6, c7, c8, c9⟩ := z.cells
    have f0 := z.fz
    have B4 := Lib.hid bz
    clear b3 b4 HZ OF OP bz z
    go_wp2
    refine bodyPost_ret (v := (opR (.mode m)).v) (by simp [results, Try.results79, go_sem, Od.v, Od.cs, opR, tk0, c0, c1, c2, c3, c4, c5, c6, c7, c8, c9]) rfl ⟨rfl, ?_⟩
    exact setOp_below B4.out (by omega) (opR (.mode m))
  | unknown k =>
    have OP := Lib.hid (op_unknown k)
    have MT := m_unknown
    simp only [Fd.v, Od.v, Od.cs] at OF OP
    go_enter Try.func79, Try.ntmps79
    go_wp2_with fail
    (with_reducible refine (OF.out _).mono ?_)
    rintro e w3 ⟨rfl, b3⟩
    go_wp2_with fail
    (with_reducible refine (OP.out _).mono ?_)
    rintro e w4 ⟨rfl, b4⟩
    obtain ⟨z, bz⟩ := HZ.out w3 w4 b3 b4
    obtain ⟨c0, c1, c2, c3, c4, c5, c6, c7, c8, c9⟩ := z.cells
    have f0 := z.fz
    have B4 := Lib.hid bz
    clear b3 b4 HZ OF OP bz z
    go_wp2
    refine bodyPost_ret (v := (opR (.unknown k)).v) (by simp [results, Try.results79, go_sem, Od.v, Od.cs, opR, tk0, c0, c1, c2, c3, c4, c5, c6, c7, c8, c9]) rfl ⟨rfl, ?_⟩
    exact setOp_below B4.out (by omega) (opR (.unknown k))
end Go.Proofs.Ytnaanahgflbihaa.Ox
