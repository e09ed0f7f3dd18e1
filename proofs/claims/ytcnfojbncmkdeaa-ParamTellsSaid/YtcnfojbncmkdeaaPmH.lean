/- Contract of the document's Heavier. -/
import Derived.Test.YtcnfojbncmkdeaaPmB
import Derived.Test.YtcnfojbncmkdeaaMHt
namespace Go.Proofs.Ytcnfojbncmkdeaa.Pm
open Go.ChangeShapes Go.WideShapes Go.ChangeAt Go.RowKit Go.Joins
set_option maxRecDepth 100000
set_option maxRecDepth 100000
set_option linter.unusedVariables false
set_option linter.unusedSimpArgs false
theorem rless_any (a b : Tk) (w : World) (ha : chk a = true) (hb : chk b = true) :
    Calls Try.prog 31 #[.int .u64 a.c, .int .u64 a.t, .int .u64 b.c, .int .u64 b.t] w fun e w' => e = .returned (.bool (light a b)) ∧ Below w.heap.size w w' :=
  less_rf_yes a.c a.t b.c b.t w (by have := chk_iff.1 ha; unfold Is64; omega) (by have := chk_iff.1 ha; unfold Is64; omega) (by have := chk_iff.1 hb; unfold Is64; omega) (by have := chk_iff.1 hb; unfold Is64; omega) (by have := chk_iff.1 ha; simp; omega) (by have := chk_iff.1 hb; simp; omega)
theorem light_not {a b : Tk} (h : light b a = true) : light a b = false := by
  unfold light at *; simp at *; omega
theorem heavy_eq (a b : Tk) : heavy a b = (chk a && chk b && (light b a || (!light a b && decide (a.id < b.id)))) := by
  unfold heavy
  cases h : light b a
  · cases light a b <;> simp
  · rw [light_not h]; simp
set_option maxHeartbeats 4000000 in
theorem rheavier_any (a b : Tk) (w : World) :
    Calls Try.prog 21 #[a.v, b.v] w fun e w' => e = .returned (.bool (heavy a b)) ∧ Below w.heap.size w w' := by
  have CA := Lib.hid (rchk_any a)
  have CB := Lib.hid (rchk_any b)
  have LA : Hid (chk a = true → chk b = true → ∀ w, Calls Try.prog 31 #[.int .u64 a.c, .int .u64 a.t, .int .u64 b.c, .int .u64 b.t] w fun e w' => e = .returned (.bool (light a b)) ∧ Below w.heap.size w w') := Lib.hid (fun h k w => rless_any a b w h k)
  have LB : Hid (chk a = true → chk b = true → ∀ w, Calls Try.prog 31 #[.int .u64 b.c, .int .u64 b.t, .int .u64 a.c, .int .u64 a.t] w fun e w' => e = .returned (.bool (light b a)) ∧ Below w.heap.size w w') := Lib.hid (fun h k w => rless_any b a w k h)
  have WA : Hid (chk a = true → IntKind.u64.wrap a.c = a.c ∧ IntKind.u64.wrap a.t = a.t) := Lib.hid (fun h => by have := chk_iff.1 h; exact ⟨wrap_pos (by omega) (by omega), wrap_pos (by omega) (by omega)⟩)
  have WB : Hid (chk b = true → IntKind.u64.wrap b.c = b.c ∧ IntKind.u64.wrap b.t = b.t) := Lib.hid (fun h => by have := chk_iff.1 h; exact ⟨wrap_pos (by omega) (by omega), wrap_pos (by omega) (by omega)⟩)
  have T0 := Lib.hid (two_new w a b (T := 36))
  have HE := Lib.hid (heavy_eq a b)
  generalize heavy a b = hv at *
  generalize chk a = ca at *
  generalize chk b = cb at *
  generalize light a b = la at *
  generalize light b a = lb at *
  have TC := fun w' => Lib.hid (fun h : Two w a b w' => h.cells)
  obtain ⟨ai, ac, ad, at', am⟩ := a
  obtain ⟨bi, bc, bd, bt, bm⟩ := b
  unfold Tk.v at *
  simp only at *
  go_enter Try.func21, Try.ntmps21
  go_wp2_with fail
  (with_reducible refine (CA.out _).mono ?_)
  rintro e w1 ⟨rfl, b1⟩
  have T1 := Lib.hid (T0.out.call b1)
  clear b1 T0
  obtain ⟨x0, x1, x2, x3, x4, y0, y1, y2, y3, y4⟩ := (TC _).out T1.out
  go_wp2_with fail
  (with_reducible refine (CB.out _).mono ?_)
  rintro e w2 ⟨rfl, b2⟩
  have T2 := Lib.hid (T1.out.call b2)
  clear b2 T1 x0 x1 x2 x3 x4 y0 y1 y2 y3 y4
  obtain ⟨x0, x1, x2, x3, x4, y0, y1, y2, y3, y4⟩ := (TC _).out T2.out
  cases ca
  case false =>
    have E := Lib.hid HE.out
    go_wp2
    go_ret
    exact ⟨by rw [E.out]; rfl, T2.out.bel⟩
  cases cb
  case false =>
    have E := Lib.hid HE.out
    go_wp2
    go_ret
    exact ⟨by rw [E.out]; rfl, T2.out.bel⟩
  obtain ⟨wa1, wa2⟩ := WA.out (by first | trivial | rfl)
  obtain ⟨wb1, wb2⟩ := WB.out (by first | trivial | rfl)
  clear WA WB
  go_wp2_with fail
  (with_reducible refine (LB.out (by first | trivial | rfl) (by first | trivial | rfl) _).mono ?_)
  rintro e w3 ⟨rfl, b3⟩
  have T3 := Lib.hid (T2.out.call b3)
  clear b3 T2 x0 x1 x2 x3 x4 y0 y1 y2 y3 y4
  obtain ⟨x0, x1, x2, x3, x4, y0, y1, y2, y3, y4⟩ := (TC _).out T3.out
  go_wp2_with fail
  (with_reducible refine (LA.out (by first | trivial | rfl) (by first | trivial | rfl) _).mono ?_)
  rintro e w4 ⟨rfl, b4⟩
  have T4 := Lib.hid (T3.out.call b4)
  clear b4 T3 x0 x1 x2 x3 x4 y0 y1 y2 y3 y4
  obtain ⟨x0, x1, x2, x3, x4, y0, y1, y2, y3, y4⟩ := (TC _).out T4.out
  have E := Lib.hid HE.out
  cases lb
  · cases la
    · go_wp2
      go_ret
      exact ⟨by rw [E.out]; simp, T4.out.bel⟩
    · go_wp2
      go_ret
      exact ⟨by rw [E.out]; simp, T4.out.bel⟩
  · go_wp2
    go_ret
    exact ⟨by rw [E.out]; simp, T4.out.bel⟩
end Go.Proofs.Ytcnfojbncmkdeaa.Pm
