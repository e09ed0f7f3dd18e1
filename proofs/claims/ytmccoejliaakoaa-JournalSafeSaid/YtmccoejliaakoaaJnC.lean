/- Contracts of package journal's attempt, with its deferred closure, and of the closures that Append and Snapshot hand to it. -/
import Derived.Test.YtmccoejliaakoaaJnB
import Derived.Test.YtmccoejliaakoaaWlF
import Derived.Tactics2
import Derived.Defers
namespace Go.Proofs.Ytmccoejliaakoaa.Jn
open Go.ChangeShapes Go.WideShapes Go.ChangeAt Go.RowKit Go.Joins
open Dk (Dk DS Own Moved ptr)
open Sl (Mv SS)
open Wl (WS)
set_option maxRecDepth 100000
set_option linter.unusedVariables false
set_option linter.unusedSimpArgs false
/-- one cell in a block -/
def BxAt (w : World) (p : Nat) (v : Value) (T : TypeId) : Prop := w.heap[p]? = some (.cells #[v] T (0, 0))
section
variable {w w' : World} {p : Nat} {v : Value} {T : TypeId}
theorem BxAt.c0 (h : BxAt w p v T) : w.cell? ⟨p, 0, none⟩ = some v := by rw [Lib.cell_of_heap h]; rfl
theorem BxAt.fz (h : BxAt w p v T) (o : Nat) : w.frozen? ⟨p, o, none⟩ = false := Lib.frozen_of_heap h o
theorem BxAt.kp (h : BxAt w p v T) (k : Kp w w') (hT : Jt T) : BxAt w' p v T := k p _ _ _ h hT
theorem BxAt.set (h : BxAt w p v T) (x : Value) : BxAt (w.setCell ⟨p, 0, none⟩ x) p x T := by
  unfold BxAt at *; simp [World.setCell, Array.getElem?_modify, h]
theorem BxAt.other (h : BxAt w p v T) {c o : Nat} (hc : p ≠ c) (x : Value) : BxAt (w.setCell ⟨c, o, none⟩ x) p v T := by
  unfold BxAt at *; rw [Below.heap_setCell w ⟨c, o, none⟩ x p hc]; exact h
end
theorem attempt_end (ce cp j : Nat) (x : Int) (v : Value) (w : World) (h0 : w.cell? ⟨cp, 0, none⟩ = some (ptr j)) (h1 : w.cell? ⟨ce, 0, none⟩ = some (.int .i64 x)) (h2 : w.cell? ⟨j, 3, none⟩ = some v) (h3 : w.frozen? ⟨j, 3, none⟩ = false) (u : FrameMode) :
    CallsD Try.prog 45 #[ptr ce, ptr cp] u w fun e u' w' => u' = u ∧ e = .returned (.tuple #[]) ∧ w' = w.setCell ⟨j, 3, none⟩ (.bool (x != 18)) := by
  go_enter_d Try.func45, Try.ntmps45
  go_wp2
  go_end0
  first | exact ⟨rfl, rfl, rfl⟩ | exact ⟨rfl, rfl⟩ | exact rfl
set_option maxHeartbeats 1000000 in
theorem attempt_app (B b j l q : Nat) (tl tl' : WS) (ts ts' : SS) (e e' : Nat) (s s' : DS) (x : Int) (cap : Array Value) (w0 w : World) (h : Jn B b j l q tl ts e true s w0 w)
    (H : ∀ w1, Jn B b j l q tl ts e true s w0 w1 → Kp w w1 → Calls Try.prog 29 cap w1 fun r w' => r = .returned (.int .i64 x) ∧ Jn B b j l q tl' ts' e' true s' w0 w' ∧ Kp w1 w') :
    Calls Try.prog 27 #[ptr j, .func (.func 29) #[] cap] w fun r w' => r = .returned (.int .i64 x) ∧ Jn B b j l q tl' ts' e' (x != 18) s' w0 w' ∧ Kp w w' := by
  have b1 := (Below.refl w.heap.size w).alloc (Nat.le_refl _) (.cells #[ptr j] 87)
  have b2 := b1.alloc (by simp) (.cells #[.int .i64 0] 27)
  have sz : (w.alloc (.cells #[ptr j] 87)).heap.size = w.heap.size + 1 := by simp
  have bx0 := heap_alloc_new w (.cells #[ptr j] 87)
  have bx1 := heap_alloc_new (w.alloc (.cells #[ptr j] 87)) (.cells #[.int .i64 0] 27)
  have b21 := (Below.refl (w.alloc (.cells #[ptr j] 87)).heap.size (w.alloc (.cells #[ptr j] 87))).alloc (Nat.le_refl _) (.cells #[.int .i64 0] 27)
  rw [sz] at bx1
  have P1 := Lib.hid (And.intro (h.call b2) (And.intro (Kp.below b2) (And.intro (show BxAt ((w.alloc (.cells #[ptr j] 87)).alloc (.cells #[.int .i64 0] 27)) w.heap.size (ptr j) 87 from (b21.block w.heap.size (by rw [sz]; omega)).trans bx0) (show BxAt ((w.alloc (.cells #[ptr j] 87)).alloc (.cells #[.int .i64 0] 27)) (w.heap.size + 1) (.int .i64 0) 27 from bx1))))
  have CL := Lib.hid (H _ P1.out.1 P1.out.2.1)
  have HB : B ≤ w.heap.size := h.dk.le
  clear h H b1 b2 b21 bx0 bx1 sz
  generalize hW : (w.alloc (.cells #[ptr j] 87)).alloc (.cells #[.int .i64 0] 27) = W1 at *
  have c3 := P1.out.1.jn.c3
  have p0 := P1.out.2.2.1.c0
  have p1 := P1.out.2.2.2.c0
  have HC := Lib.hid (show w.heap.size + 1 ≠ w.heap.size by omega)
  go_enter_defers Try.func27, Try.ntmps27
  go_wp2_with fail
  (try rw [hW])
  (with_reducible refine CL.out.mono ?_)
  rintro r w2 ⟨rfl, j2, k2⟩
  have P2 := Lib.hid (And.intro j2 (And.intro (P1.out.2.1.trans k2) (And.intro (P1.out.2.2.1.kp k2 (by decide)) (P1.out.2.2.2.kp k2 (by decide)))))
  have P3 : Hid (Jn B b j l q tl' ts' e' true s' w0 (w2.setCell ⟨w.heap.size + 1, 0, none⟩ (.int .i64 x)) ∧ Kp w (w2.setCell ⟨w.heap.size + 1, 0, none⟩ (.int .i64 x)) ∧ BxAt (w2.setCell ⟨w.heap.size + 1, 0, none⟩ (.int .i64 x)) w.heap.size (ptr j) 87 ∧ BxAt (w2.setCell ⟨w.heap.size + 1, 0, none⟩ (.int .i64 x)) (w.heap.size + 1) (.int .i64 x) 27) := Lib.hid
    ⟨P2.out.1.setNew P2.out.2.2.2 (by decide) (by omega) 0 _, P2.out.2.1.setNew (by omega) 0 _, P2.out.2.2.1.other (Ne.symm HC.out) _, P2.out.2.2.2.set _⟩
  have x0 := P2.out.2.2.2.c0
  have z0 := P2.out.2.2.2.fz 0
  have AE := Lib.hid (fun u => attempt_end (w.heap.size + 1) w.heap.size j x (.bool true) _ P3.out.2.2.1.c0 P3.out.2.2.2.c0 P3.out.1.jn.c3 (P3.out.1.jn.fz 3) u)
  have HR : Hid (((w2.setCell ⟨w.heap.size + 1, 0, none⟩ (.int .i64 x)).setCell ⟨j, 3, none⟩ (.bool (x != 18))).cell? ⟨w.heap.size + 1, 0, none⟩ = some (.int .i64 x)) := Lib.hid ((P3.out.2.2.2.other (c := j) (o := 3) (fun e => by have h1 := P3.out.1.jn; have h2 := P3.out.2.2.2; unfold JAt at h1; unfold BxAt at h2; rw [e] at h1 h2; rw [h1] at h2; simp at h2) (.bool (x != 18))).c0)
  have FIN : Hid (Jn B b j l q tl' ts' e' (x != 18) s' w0 ((w2.setCell ⟨w.heap.size + 1, 0, none⟩ (.int .i64 x)).setCell ⟨j, 3, none⟩ (.bool (x != 18))) ∧ Kp w ((w2.setCell ⟨w.heap.size + 1, 0, none⟩ (.int .i64 x)).setCell ⟨j, 3, none⟩ (.bool (x != 18)))) := Lib.hid ⟨P3.out.1.setG (x != 18), P3.out.2.1.trans (.setJ P3.out.1.jn 3 _)⟩
  clear CL P1 P2 P3 c3 p0 p1 hW HB HC j2 k2
  go_wp2
  refine leaves_cons (f := 45) (args := #[ptr (w.heap.size + 1), ptr w.heap.size]) (by simp) (by simp [go_sem]) ?_
  refine (AE.out _).mono ?_
  rintro r u' w'' ⟨rfl, rfl, rfl⟩
  have hr := HR.out
  have fin := FIN.out
  simp [Leaves, settle, results, Try.results27, go_sem, hr]
  exact fin
set_option maxHeartbeats 1000000 in
theorem attempt_snap (B b j l q : Nat) (tl tl' : WS) (ts ts' : SS) (e e' : Nat) (s s' : DS) (x : Int) (cap : Array Value) (w0 w : World) (h : Jn B b j l q tl ts e true s w0 w)
    (H : ∀ w1, Jn B b j l q tl ts e true s w0 w1 → Kp w w1 → Calls Try.prog 28 cap w1 fun r w' => r = .returned (.int .i64 x) ∧ Jn B b j l q tl' ts' e' true s' w0 w' ∧ Kp w1 w') :
    Calls Try.prog 27 #[ptr j, .func (.func 28) #[] cap] w fun r w' => r = .returned (.int .i64 x) ∧ Jn B b j l q tl' ts' e' (x != 18) s' w0 w' ∧ Kp w w' := by
  have b1 := (Below.refl w.heap.size w).alloc (Nat.le_refl _) (.cells #[ptr j] 87)
  have b2 := b1.alloc (by simp) (.cells #[.int .i64 0] 27)
  have sz : (w.alloc (.cells #[ptr j] 87)).heap.size = w.heap.size + 1 := by simp
  have bx0 := heap_alloc_new w (.cells #[ptr j] 87)
  have bx1 := heap_alloc_new (w.alloc (.cells #[ptr j] 87)) (.cells #[.int .i64 0] 27)
  have b21 := (Below.refl (w.alloc (.cells #[ptr j] 87)).heap.size (w.alloc (.cells #[ptr j] 87))).alloc (Nat.le_refl _) (.cells #[.int .i64 0] 27)
  rw [sz] at bx1
  have P1 := Lib.hid (And.intro (h.call b2) (And.intro (Kp.below b2) (And.intro (show BxAt ((w.alloc (.cells #[ptr j] 87)).alloc (.cells #[.int .i64 0] 27)) w.heap.size (ptr j) 87 from (b21.block w.heap.size (by rw [sz]; omega)).trans bx0) (show BxAt ((w.alloc (.cells #[ptr j] 87)).alloc (.cells #[.int .i64 0] 27)) (w.heap.size + 1) (.int .i64 0) 27 from bx1))))
  have CL := Lib.hid (H _ P1.out.1 P1.out.2.1)
  have HB : B ≤ w.heap.size := h.dk.le
  clear h H b1 b2 b21 bx0 bx1 sz
  generalize hW : (w.alloc (.cells #[ptr j] 87)).alloc (.cells #[.int .i64 0] 27) = W1 at *
  have c3 := P1.out.1.jn.c3
  have p0 := P1.out.2.2.1.c0
  have p1 := P1.out.2.2.2.c0
  have HC := Lib.hid (show w.heap.size + 1 ≠ w.heap.size by omega)
  go_enter_defers Try.func27, Try.ntmps27
  go_wp2_with fail
  (try rw [hW])
  (with_reducible refine CL.out.mono ?_)
  rintro r w2 ⟨rfl, j2, k2⟩
  have P2 := Lib.hid (And.intro j2 (And.intro (P1.out.2.1.trans k2) (And.intro (P1.out.2.2.1.kp k2 (by decide)) (P1.out.2.2.2.kp k2 (by decide)))))
  have P3 : Hid (Jn B b j l q tl' ts' e' true s' w0 (w2.setCell ⟨w.heap.size + 1, 0, none⟩ (.int .i64 x)) ∧ Kp w (w2.setCell ⟨w.heap.size + 1, 0, none⟩ (.int .i64 x)) ∧ BxAt (w2.setCell ⟨w.heap.size + 1, 0, none⟩ (.int .i64 x)) w.heap.size (ptr j) 87 ∧ BxAt (w2.setCell ⟨w.heap.size + 1, 0, none⟩ (.int .i64 x)) (w.heap.size + 1) (.int .i64 x) 27) := Lib.hid
    ⟨P2.out.1.setNew P2.out.2.2.2 (by decide) (by omega) 0 _, P2.out.2.1.setNew (by omega) 0 _, P2.out.2.2.1.other (Ne.symm HC.out) _, P2.out.2.2.2.set _⟩
  have x0 := P2.out.2.2.2.c0
  have z0 := P2.out.2.2.2.fz 0
  have AE := Lib.hid (fun u => attempt_end (w.heap.size + 1) w.heap.size j x (.bool true) _ P3.out.2.2.1.c0 P3.out.2.2.2.c0 P3.out.1.jn.c3 (P3.out.1.jn.fz 3) u)
  have HR : Hid (((w2.setCell ⟨w.heap.size + 1, 0, none⟩ (.int .i64 x)).setCell ⟨j, 3, none⟩ (.bool (x != 18))).cell? ⟨w.heap.size + 1, 0, none⟩ = some (.int .i64 x)) := Lib.hid ((P3.out.2.2.2.other (c := j) (o := 3) (fun e => by have h1 := P3.out.1.jn; have h2 := P3.out.2.2.2; unfold JAt at h1; unfold BxAt at h2; rw [e] at h1 h2; rw [h1] at h2; simp at h2) (.bool (x != 18))).c0)
  have FIN : Hid (Jn B b j l q tl' ts' e' (x != 18) s' w0 ((w2.setCell ⟨w.heap.size + 1, 0, none⟩ (.int .i64 x)).setCell ⟨j, 3, none⟩ (.bool (x != 18))) ∧ Kp w ((w2.setCell ⟨w.heap.size + 1, 0, none⟩ (.int .i64 x)).setCell ⟨j, 3, none⟩ (.bool (x != 18)))) := Lib.hid ⟨P3.out.1.setG (x != 18), P3.out.2.1.trans (.setJ P3.out.1.jn 3 _)⟩
  clear CL P1 P2 P3 c3 p0 p1 hW HB HC j2 k2
  go_wp2
  refine leaves_cons (f := 45) (args := #[ptr (w.heap.size + 1), ptr w.heap.size]) (by simp) (by simp [go_sem]) ?_
  refine (AE.out _).mono ?_
  rintro r u' w'' ⟨rfl, rfl, rfl⟩
  have hr := HR.out
  have fin := FIN.out
  simp [Leaves, settle, results, Try.results27, go_sem, hr]
  exact fin
end Go.Proofs.Ytmccoejliaakoaa.Jn
