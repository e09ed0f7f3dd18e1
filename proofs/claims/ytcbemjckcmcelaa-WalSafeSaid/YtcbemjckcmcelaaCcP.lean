/- (*sync.Once).Do over a table's fill: the first time, and every later time. -/
import Derived.Test.YtcbemjckcmcelaaCcO
namespace Go.Proofs.Ytcbemjckcmcelaa
open Go.ChangeShapes Go.WideShapes Go.ChangeAt Go.RowKit Go.Joins
set_option maxRecDepth 100000
set_option linter.unusedVariables false
set_option linter.unusedSimpArgs false
/-- a new table in block b -/
structure Fresh (w : World) (b : Nat) : Prop where
  done : w.cell? ⟨b, 0, none⟩ = some (.int .u32 0)
  lock : w.cell? ⟨b, 1, none⟩ = some (.int .i32 0)
  fdone : w.frozen? ⟨b, 0, none⟩ = false
  flock : w.frozen? ⟨b, 1, none⟩ = false
  places : Open w b
/-- a table that was asked -/
structure Full (w : World) (b : Nat) : Prop where
  done : w.cell? ⟨b, 0, none⟩ = some (.int .u32 1)
  places : Filled w b 256
def Tbl (w : World) (b : Nat) : Prop := Fresh w b ∨ Full w b
theorem open_setCell {w : World} {b o : Nat} {v : Value} (h : Open w b) (ho : o < 3) : Open (w.setCell ⟨b, o, none⟩ v) b := fun j hj => by
  obtain ⟨⟨x, hx⟩, hz⟩ := h j hj
  refine ⟨⟨x, ?_⟩, by simp [hz]⟩
  rw [World.cell?_setCell_other _ _ _ _ (by first | (simp; done) | (simp; omega))]; exact hx
theorem filled_setCell {w : World} {b o n : Nat} {v : Value} (h : Filled w b n) (ho : o < 3) : Filled (w.setCell ⟨b, o, none⟩ v) b n := fun j hj => by
  rw [World.cell?_setCell_other _ _ _ _ (by first | (simp; done) | (simp; omega))]; exact h j hj
theorem filled_drew {w : World} {b n : Nat} (h : Filled w b n) : Filled w.drew b n := fun j hj => by
  rw [World.cell?_drew]; exact h j hj
theorem load_zero (a : Addr) (w : World) (h0 : w.cell? a = some (.int .u32 0)) :
    Calls Try.prog 77 #[.pointer (some a)] w fun e w' => e = .returned (.bool false) ∧ w' = w := by
  have hl := run_call_load (P := Try.prog) Try.func80 (by kernel_rfl) (by kernel_rfl) (by kernel_rfl) .u32 (by kernel_rfl) h0
  go_enter Try.func77, Try.ntmps77
  go_wp2
  go_ret
  exact ⟨rfl, rfl⟩
theorem load_one (a : Addr) (w : World) (h0 : w.cell? a = some (.int .u32 1)) :
    Calls Try.prog 77 #[.pointer (some a)] w fun e w' => e = .returned (.bool true) ∧ w' = w := by
  have hl := run_call_load (P := Try.prog) Try.func80 (by kernel_rfl) (by kernel_rfl) (by kernel_rfl) .u32 (by kernel_rfl) h0
  go_enter Try.func77, Try.ntmps77
  go_wp2
  go_ret
  exact ⟨rfl, rfl⟩
set_option maxRecDepth 100000 in
set_option maxHeartbeats 1600000 in
theorem slow_any (b : Nat) (w : World) (h : Fresh w b) :
    Calls Try.prog 78 #[.pointer (some ⟨b, 0, none⟩), .func (.func 76) #[.pointer (some ⟨b, 0, none⟩)] #[]] w fun e w' => e = .returned (.tuple #[]) ∧ Full w' b ∧ Apart b w w' := by
  obtain ⟨h0, h1, f0, f1, ho⟩ := h
  have LD := Lib.hid (load_zero ⟨b, 0, none⟩ (w.setCell ⟨b, 1, none⟩ (.int .i32 1)) ((World.cell?_setCell_other _ ⟨b, 1, none⟩ ⟨b, 0, none⟩ _ (by simp)).trans h0))
  have hnot : ∀ (x : Bool) (w : World), (Op.unary .not (.bool x)).run Try.prog w = .ok (.bool (!x)) w := fun _ _ => rfl
  have FL := Lib.hid (fill_any b (w.setCell ⟨b, 1, none⟩ (.int .i32 1)) (open_setCell ho (by omega)))
  clear ho
  go_enter_defers Try.func78, Try.ntmps78
  go_wp2_with (go_at_call 81; refine (lock_free ⟨b, 1, none⟩ _ (by go_simp) (by go_simp)).mono ?_; rintro e w' ⟨rfl, rfl⟩)
  (with_reducible refine LD.out.mono ?_)
  rintro e w' ⟨rfl, rfl⟩
  go_wp2_with fail
  (with_reducible refine FL.out.mono ?_)
  rintro e w1 ⟨rfl, hF, hA, hL⟩
  have c0 : w1.cell? ⟨b, 0, none⟩ = some (.int .u32 0) := by rw [hL 0 (by omega), World.cell?_setCell_other _ _ _ _ (by simp)]; exact h0
  have c1 : w1.cell? ⟨b, 1, none⟩ = some (.int .i32 1) := by rw [hL 1 (by omega)]; exact World.cell?_setCell_same _ _ _ h1
  have z0 : w1.frozen? ⟨b, 0, none⟩ = false := by rw [hA.frozen]; simpa using f0
  have z1 : w1.frozen? ⟨b, 1, none⟩ = false := by rw [hA.frozen]; simpa using f1
  have HA := Lib.hid (((Apart.refl b w).setCell 1 (.int .i32 1)).trans hA)
  have HF := Lib.hid hF
  clear hF hA hL FL LD h0 h1 f0 f1
  go_wp2
  -- the two deferred calls, the last laid first
  refine leaves_cons (f := 83) (args := #[.pointer (some ⟨b, 0, none⟩), .bool true]) (by simp) (by simp [go_sem]) ?_
  refine (store_deferred ⟨b, 0, none⟩ (.int .u32 0) .returning _ c0 z0).mono ?_
  rintro e u' w'' ⟨rfl, rfl, rfl⟩
  refine leaves_cons (f := 82) (args := #[.pointer (some ⟨b, 1, none⟩)]) (by simp [settle]) (by simp [go_sem]) ?_
  refine (unlock_deferred ⟨b, 1, none⟩ _ _ ?_ (by simp [z1])).mono ?_
  · rw [World.cell?_setCell_other _ ⟨b, 0, none⟩ ⟨b, 1, none⟩ _ (by simp), World.cell?_drew]; exact c1
  rintro e u' w'' ⟨rfl, rfl, rfl⟩
  have hE : Full ((w1.drew.setCell ⟨b, 0, none⟩ (.int .u32 1)).setCell ⟨b, 1, none⟩ (.int .i32 0)) b := by
    refine ⟨?_, filled_setCell (filled_setCell (filled_drew HF.out) (by omega)) (by omega)⟩
    rw [World.cell?_setCell_other _ ⟨b, 1, none⟩ ⟨b, 0, none⟩ _ (by simp)]
    exact World.cell?_setCell_same _ _ _ (by rw [World.cell?_drew]; exact c0)
  have hP : Apart b w ((w1.drew.setCell ⟨b, 0, none⟩ (.int .u32 1)).setCell ⟨b, 1, none⟩ (.int .i32 0)) := (HA.out.drew.setCell _ _).setCell _ _
  simp [Leaves, settle, results, Try.results78, hE, hP]
theorem do_first (b : Nat) (w : World) (h : Fresh w b) :
    Calls Try.prog 75 #[.pointer (some ⟨b, 0, none⟩), .func (.func 76) #[.pointer (some ⟨b, 0, none⟩)] #[]] w fun e w' => e = .returned (.tuple #[]) ∧ Full w' b ∧ Apart b w w' := by
  have LD := Lib.hid (load_zero ⟨b, 0, none⟩ w h.done)
  have SL := Lib.hid (slow_any b w h)
  have hnot : ∀ (x : Bool) (w : World), (Op.unary .not (.bool x)).run Try.prog w = .ok (.bool (!x)) w := fun _ _ => rfl
  go_enter Try.func75, Try.ntmps75
  go_wp2_with fail
  (with_reducible refine LD.out.mono ?_)
  rintro e w' ⟨rfl, rfl⟩
  go_wp2_with fail
  (with_reducible refine SL.out.mono ?_)
  rintro e w1 ⟨rfl, hF, hA⟩
  go_wp2
  go_end0
  exact ⟨rfl, hF, hA⟩
theorem do_again (b : Nat) (w : World) (fv : Value) (h : Full w b) :
    Calls Try.prog 75 #[.pointer (some ⟨b, 0, none⟩), fv] w fun e w' => e = .returned (.tuple #[]) ∧ Full w' b ∧ Apart b w w' := by
  have LD := Lib.hid (load_one ⟨b, 0, none⟩ w h.done)
  have hnot : ∀ (x : Bool) (w : World), (Op.unary .not (.bool x)).run Try.prog w = .ok (.bool (!x)) w := fun _ _ => rfl
  go_enter Try.func75, Try.ntmps75
  go_wp2_with fail
  (with_reducible refine LD.out.mono ?_)
  rintro e w' ⟨rfl, rfl⟩
  go_wp2
  go_end0
  exact ⟨rfl, h, Apart.refl _ _⟩
theorem do_any (b : Nat) (w : World) (h : Tbl w b) :
    Calls Try.prog 75 #[.pointer (some ⟨b, 0, none⟩), .func (.func 76) #[.pointer (some ⟨b, 0, none⟩)] #[]] w fun e w' => e = .returned (.tuple #[]) ∧ Full w' b ∧ Apart b w w' := by
  rcases h with h | h
  · exact do_first b w h
  · exact do_again b w _ h
end Go.Proofs.Ytcbemjckcmcelaa
