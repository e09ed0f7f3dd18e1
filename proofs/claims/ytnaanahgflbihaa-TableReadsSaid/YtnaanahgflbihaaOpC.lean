/- Package ops' may and Check. -/
import Derived.Test.YtnaanahgflbihaaOpB
namespace Go.Proofs.Ytnaanahgflbihaa.Ox
open Go.ChangeShapes Go.WideShapes Go.ChangeAt Go.RowKit Go.Joins
open Pm (Tk chk chk_iff below_drewN)
set_option maxRecDepth 100000
set_option maxRecDepth 100000
set_option linter.unusedVariables false
set_option linter.unusedSimpArgs false
def idR (i : Int) : Bool := decide (0 ≤ i ∧ i ≤ 1023)
theorem isID_any (i : Int) (w : World) :
    Calls Try.prog 89 #[.int .i64 i] w fun e w' => e = .returned (.bool (idR i)) ∧ w' = w := by
  by_cases h0 : 0 ≤ i
  · have e : idR i = decide (i ≤ 1023) := by unfold idR; simp [h0]
    rw [e]
    clear e
    go_enter Try.func89, Try.ntmps89
    go_wp2
    go_ret
    exact ⟨rfl, rfl⟩
  · have e : idR i = false := by unfold idR; simp [h0]
    rw [e]
    have h1 : i < 0 := by omega
    clear e h0
    go_enter Try.func89, Try.ntmps89
    go_wp2
    go_ret
    exact ⟨rfl, rfl⟩
set_option maxHeartbeats 1000000 in
theorem may_any (f : Fd) (w : World) :
    Calls Try.prog 77 #[f.v] w fun e w' => e = .returned (.bool (mayF f)) ∧ Below w.heap.size w w' := by
  cases f with
  | admit t s =>
    have T1 := ta_admit_admit
    have CK := Lib.hid (Pm.chk_any t)
    have HB : Hid (∀ w1, Below (w.alloc (.cells #[.int .i64 t.id, .int .i64 t.c, .int .i64 t.d, .int .i64 t.t, .int .i64 t.m, .bool s] 119)).heap.size (w.alloc (.cells #[.int .i64 t.id, .int .i64 t.c, .int .i64 t.d, .int .i64 t.t, .int .i64 t.m, .bool s] 119)) w1 → (w1.cell? ⟨w.heap.size, 2, none⟩ = some (.int .i64 t.d) ∧ w1.cell? ⟨w.heap.size, 3, none⟩ = some (.int .i64 t.t) ∧ w1.cell? ⟨w.heap.size, 5, none⟩ = some (.bool s)) ∧ Below w.heap.size w w1) := Lib.hid (fun w1 h1 => by
      have z := heap_alloc_new w (.cells #[.int .i64 t.id, .int .i64 t.c, .int .i64 t.d, .int .i64 t.t, .int .i64 t.m, .bool s] 119)
      have z1 := (h1.block w.heap.size (by simp)).trans z
      have hb : Below w.heap.size w (w.alloc (.cells #[.int .i64 t.id, .int .i64 t.c, .int .i64 t.d, .int .i64 t.t, .int .i64 t.m, .bool s] 119)) := (Below.refl w.heap.size w).alloc (Nat.le_refl _) _
      refine ⟨⟨?_, ?_, ?_⟩, hb.trans (h1.mono hb.size)⟩ <;> (rw [Lib.cell_of_heap z1]; rfl))
    obtain ⟨i, c, d, t, m⟩ := t
    have E : mayF (.admit ⟨i, c, d, t, m⟩ s) = (chk ⟨i, c, d, t, m⟩ && (!s || d == t)) := rfl
    rw [E]
    unfold Pm.Tk.v at CK
    simp only [Fd.v] at *
    generalize chk ⟨i, c, d, t, m⟩ = q at *
    have dt : ∀ x : Bool, decide (x = true) = x := fun x => by cases x <;> rfl
    cases q <;> cases s <;> cases hdt : (d == t) <;>
    · go_enter Try.func77, Try.ntmps77
      go_wp2_with fail
      (with_reducible refine (CK.out _).mono ?_)
      rintro e w1 ⟨rfl, b1⟩
      obtain ⟨⟨c2, c3, c5⟩, bz⟩ := HB.out w1 b1
      have Z := Lib.hid bz
      clear b1 bz
      go_wp2
      go_ret
      exact ⟨rfl, Z.out⟩
  | remove i =>
    have T1 := ta_remove_admit
    have T2 := ta_remove_remove
    have CK := Lib.hid (isID_any i)
    have FB := Lib.hid (fun v => (Below.refl w.heap.size w).alloc (Nat.le_refl _) v)
    have E : mayF (.remove i) = idR i := rfl
    rw [E]
    simp only [Fd.v] at *
    go_enter Try.func77, Try.ntmps77
    go_wp2_with fail
    (with_reducible refine (CK.out _).mono ?_)
    rintro e w1 ⟨rfl, rfl⟩
    go_wp2
    go_ret
    exact ⟨rfl, FB.out _⟩
  | resize i c =>
    have T1 := ta_resize_admit
    have T2 := ta_resize_remove
    have T3 := ta_resize_resize
    have CK := Lib.hid (isID_any i)
    have FB := Lib.hid (fun v => (Below.refl w.heap.size w).alloc (Nat.le_refl _) v)
    have E : mayF (.resize i c) = (idR i && decide (1 ≤ c) && decide (c ≤ 2147483648)) := by unfold mayF idR; by_cases h1 : 0 ≤ i <;> by_cases h2 : i ≤ 1023 <;> by_cases h3 : 1 ≤ c <;> simp [h1, h2, h3]
    rw [E]
    clear E
    generalize idR i = q at *
    simp only [Fd.v] at *
    cases q <;> cases h1 : decide (1 ≤ c) <;> cases h2 : decide (c ≤ 2147483648) <;>
    · go_enter Try.func77, Try.ntmps77
      go_wp2_with fail
      (with_reducible refine (CK.out _).mono ?_)
      rintro e w1 ⟨rfl, rfl⟩
      go_wp2
      go_ret
      exact ⟨rfl, FB.out _⟩
  | mode m =>
    have T1 := ta_mode_admit
    have T2 := ta_mode_remove
    have T3 := ta_mode_resize
    have T4 := ta_mode_mode
    have FB := Lib.hid (fun v => (Below.refl w.heap.size w).alloc (Nat.le_refl _) v)
    have E : mayF (.mode m) = (decide (0 ≤ m) && decide (m < 4)) := by unfold mayF; rw [Bool.eq_iff_iff]; simp; omega
    rw [E]
    clear E
    simp only [Fd.v] at *
    cases h1 : decide (0 ≤ m) <;> cases h2 : decide (m < 4) <;>
    · go_enter Try.func77, Try.ntmps77
      go_wp2
      go_ret
      exact ⟨rfl, FB.out _⟩
  | unknown k =>
    have T1 := ta_unknown_admit
    have T2 := ta_unknown_remove
    have T3 := ta_unknown_resize
    have T4 := ta_unknown_mode
    have E : mayF (.unknown k) = false := rfl
    rw [E]
    simp only [Fd.v] at *
    go_enter Try.func77, Try.ntmps77
    go_wp2
    go_ret
    exact ⟨rfl, Below.refl _ _⟩
set_option maxHeartbeats 1000000 in
theorem check_any (o : Od) (w : World) :
    Calls Try.prog 59 #[o.v] w fun e w' => e = .returned (.bool (chkR o)) ∧ Below w.heap.size w w' := by
  have OF := Lib.hid (of_any o)
  have MA := Lib.hid (may_any (ofR o))
  have BA := Lib.hid (bare_any o)
  have EQ := eql_op o (bareR o)
  rw [← chk_of]
  have HZ : Hid (∀ w1, Below (w.alloc (.cells o.cs 29)).heap.size (w.alloc (.cells o.cs 29)) w1 → At w1 w.heap.size o ∧ Below w.heap.size w w1) := Lib.hid (fun w1 h1 => by
    have hb : Below w.heap.size w (w.alloc (.cells o.cs 29)) := (Below.refl w.heap.size w).alloc (Nat.le_refl _) _
    exact ⟨(at_new w o).call h1, hb.trans (h1.mono hb.size)⟩)
  generalize (ofR o).v = fv at *
  generalize mayF (ofR o) = q at *
  generalize decide (o = bareR o) = r at *
  generalize bareR o = b at *
  obtain ⟨k, ⟨i, c, d, t, m⟩, s, id, cc, mo⟩ := o
  obtain ⟨bk, ⟨bi, bc, bd, bt, bm⟩, bs, bid, bcc, bmo⟩ := b
  unfold Od.v Od.cs at *
  simp only at *
  cases q
  · go_enter Try.func59, Try.ntmps59
    go_wp2_with fail
    go_region_with (first | (go_at_call 78; (with_reducible refine (OF.out _).mono ?_); rintro e w1 ⟨rfl, b1⟩) | (go_at_call 77; (with_reducible refine (MA.out _).mono ?_); rintro e w2 ⟨rfl, b2⟩))
    all_goals go_wp2
    all_goals go_ret
    all_goals exact ⟨rfl, by
      have x1 := (HZ.out w1 (by first | exact b1 | exact (Below.refl _ _).drew.trans b1)).2
      exact x1.trans (b2.mono x1.size)⟩
  · go_enter Try.func59, Try.ntmps59
    go_wp2_with fail
    go_region_with (first | (go_at_call 78; (with_reducible refine (OF.out _).mono ?_); rintro e w1 ⟨rfl, b1⟩; (have x1 := HZ.out w1 (by first | exact b1 | exact (Below.refl _ _).drew.trans b1)); clear b1) | (go_at_call 77; (with_reducible refine (MA.out _).mono ?_); rintro e w2 ⟨rfl, b2⟩; (have z2 := x1.1.call b2); (have f2 := x1.2.trans (b2.mono x1.2.size)); clear x1 b2; (obtain ⟨c0, c1, c2, c3, c4, c5, c6, c7, c8, c9⟩ := z2.cells)) | (go_at_call 79; (with_reducible refine (BA.out _).mono ?_); rintro e w3 ⟨rfl, b3⟩; (have z3 := z2.call b3); (have f3 := f2.trans (b3.mono f2.size)); clear z2 f2 b3; (obtain ⟨d0, d1, d2, d3, d4, d5, d6, d7, d8, d9⟩ := z3.cells)))
    all_goals go_wp2
    all_goals go_ret
    all_goals exact ⟨rfl, f3⟩
end Go.Proofs.Ytnaanahgflbihaa.Ox
