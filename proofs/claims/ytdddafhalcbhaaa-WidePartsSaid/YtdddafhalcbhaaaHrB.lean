/- Arrays of 256 bools in memory: what stands there, what a store leaves, how one is loaded and stored whole. -/
import Derived.Test.YtdddafhalcbhaaaHwG
import Derived.Deep.WholeRow
import Derived.Deep.MidRow
namespace Go.Proofs.Ytdddafhalcbhaaa
open Go.ChangeShapes Go.WideShapes Go.ChangeAt Go.RowKit Go.Joins
set_option linter.unusedVariables false
set_option linter.unusedSimpArgs false
def bitsL (f : Nat → Bool) : List Value := (List.range 256).map fun i => Value.bool (f i)
def bitsC (f : Nat → Bool) : Array Value := (bitsL f).toArray
/-- the array's bits stand in block b -/
def BitsF (w : World) (b : Nat) (f : Nat → Bool) : Prop := ∀ j, j < 256 → w.cell? ⟨b, j, none⟩ = some (.bool (f j))
def FreeF (w : World) (b : Nat) : Prop := ∀ j, j < 256 → w.frozen? ⟨b, j, none⟩ = false
theorem zeroB : (∀ w, (zeroValue 51).run Try.prog w = .ok (.agg (Array.replicate 256 (.bool false))) w) ∧ (Try.prog.info? 51).map (·.size) = some 256 := zero_of_info (by kernel_rfl)
theorem undB : Try.prog.underlying 51 = some (.array 256 4) := by kernel_rfl
theorem bitsL_length (f : Nat → Bool) : (bitsL f).length = 256 := by simp [bitsL]
theorem bitsL_get {f : Nat → Bool} {j : Nat} (h : j < 256) : (bitsL f)[j]? = some (.bool (f j)) := by simp [bitsL, h]
theorem bitsC_get {f : Nat → Bool} {j : Nat} (h : j < 256) : (bitsC f)[j]? = some (.bool (f j)) := by simp [bitsC, bitsL, h]
theorem bitsC_size (f : Nat → Bool) : (bitsC f).size = 256 := by simp [bitsC, bitsL]
theorem bitsC_one (f : Nat → Bool) : (bitsC f).all (·.oneCell') = true := by
  apply all_oneCell_toArray
  intro v hv
  simp only [bitsL, List.mem_map] at hv
  obtain ⟨i, -, rfl⟩ := hv
  rfl
theorem bitsC_congr {f g : Nat → Bool} (h : ∀ j, j < 256 → f j = g j) : bitsC f = bitsC g := by
  unfold bitsC bitsL
  congr 1
  apply List.map_congr_left
  intro i hi
  rw [h i (by simpa using hi)]
theorem BitsF.congr {w : World} {b : Nat} {f g : Nat → Bool} (h : BitsF w b f) (e : ∀ j, j < 256 → f j = g j) : BitsF w b g := fun j hj => by rw [h j hj, e j hj]
theorem BitsF.range {w : World} {b : Nat} {f : Nat → Bool} (h : BitsF w b f) : w.rangeAt b 0 (bitsL f) := fun j v hv => by
  have hj : j < 256 := by have := (List.getElem?_eq_some_iff.1 hv).1; rwa [bitsL_length] at this
  rw [bitsL_get hj] at hv
  rw [Nat.zero_add, h j hj, hv]
theorem BitsF.there {w : World} {b : Nat} {f : Nat → Bool} (h : BitsF w b f) (k : FreeF w b) : w.there b 0 256 := fun j hj => by
  rw [Nat.zero_add]; exact ⟨by rw [h j hj]; rfl, k j hj⟩
theorem BitsF.new (w : World) (f : Nat → Bool) (t : TypeId) : BitsF (w.alloc (.cells (bitsC f) t)) w.heap.size f := fun j hj => by
  simp [go_sem, bitsC_get hj]
theorem BitsF.zero (w : World) (t : TypeId) : BitsF (w.alloc (.cells (Array.replicate 256 (.bool false)) t)) w.heap.size (fun _ => false) := fun j hj => by
  simp [go_sem, hj]
theorem FreeF.new (w : World) (c : Array Value) (t : TypeId) : FreeF (w.alloc (.cells c t)) w.heap.size := fun j hj => by
  simp [go_sem]
theorem BitsF.lt {w : World} {b : Nat} {f : Nat → Bool} (h : BitsF w b f) : b < w.heap.size := by
  have := h 0 (by decide)
  rcases Nat.lt_or_ge b w.heap.size with h' | h'
  · exact h'
  · exfalso; unfold World.cell? at this; rw [Array.getElem?_eq_none h'] at this; cases this
theorem BitsF.call {w w' : World} {b : Nat} {f : Nat → Bool} (h : BitsF w b f) (hb : Below w.heap.size w w') : BitsF w' b f := fun j hj => carry hb (h j hj)
theorem BitsF.below {w w' : World} {b B : Nat} {f : Nat → Bool} (h : BitsF w b f) (hb : Below B w w') (hl : b < B) : BitsF w' b f := fun j hj => by
  rw [hb.cell (p := ⟨b, j, none⟩) hl]; exact h j hj
theorem FreeF.below {w w' : World} {b B : Nat} (h : FreeF w b) (hb : Below B w w') (hl : b < B) : FreeF w' b := fun j hj => by
  rw [hb.frozen (p := ⟨b, j, none⟩) hl]; exact h j hj
theorem BitsF.alloc {w : World} {b : Nat} {f : Nat → Bool} (h : BitsF w b f) (c : Array Value) (t : TypeId) : BitsF (w.alloc (.cells c t)) b f := fun j hj => by
  have := h.lt
  simp [go_sem, this, h j hj]
theorem FreeF.alloc {w : World} {b : Nat} (h : FreeF w b) (hl : b < w.heap.size) (c : Array Value) (t : TypeId) : FreeF (w.alloc (.cells c t)) b := fun j hj => by
  simp [go_sem, hl, h j hj]
theorem BitsF.other {w : World} {b g o : Nat} {f : Nat → Bool} {v : Value} (h : BitsF w b f) (hne : ¬ g = b) : BitsF (w.setCell ⟨g, o, none⟩ v) b f := fun j hj => by
  have hne' : ¬ b = g := fun e => hne e.symm
  simp [go_sem, hne, hne', h j hj]
theorem FreeF.set {w : World} {b : Nat} {a : Addr} {v : Value} (h : FreeF w b) : FreeF (w.setCell a v) b := fun j hj => by
  simp [go_sem, h j hj]
theorem BitsF.set {w : World} {b i : Nat} {f g : Nat → Bool} {v : Bool} (h : BitsF w b f) (hi : i < 256) (e : ∀ j, j < 256 → g j = if j = i then v else f j) : BitsF (w.setCell ⟨b, i, none⟩ (.bool v)) b g := fun j hj => by
  rw [e j hj]
  by_cases hji : j = i
  · subst hji; simp [go_sem, h j hj]
  · have hij : ¬ i = j := fun e => hji e.symm
    simp [go_sem, hji, hij, h j hj]
theorem below_setCells {B : Nat} {w0 : World} (b : Nat) (hb : B ≤ b) : ∀ (vs : List Value) (o : Nat) (w : World), Below B w0 w → Below B w0 (w.setCells b o vs) := by
  intro vs
  induction vs with
  | nil => intro o w h; exact h
  | cons v vs ih => intro o w h; exact ih _ _ (h.setCell hb v)
/-- what the result's block reads behind the last store -/
theorem load_back {w : World} {R : Nat} {f : Nat → Bool} (ht : w.there R 0 256) : (loadVar 51 ⟨R, 0, none⟩).run Try.prog (w.setCells R 0 (bitsC f).toList) = .ok (.agg (bitsC f)) (w.setCells R 0 (bitsC f).toList) := by
  have e : (bitsC f).toList = bitsL f := by simp [bitsC]
  have hr : (w.setCells R 0 (bitsC f).toList).rangeAt R 0 (bitsL f) := by
    rw [e]; exact World.rangeAt_setCells_same w R 0 (bitsL f) (by rw [bitsL_length]; exact ht)
  exact run_loadVar_mid _ R 0 _ (bitsL f) _ hr undB rfl (by rw [bitsL_length]; exact zeroB.2)
theorem results_cell {fn : Func} {p : Tmp} {ty : TypeId} (h : fn.results = #[.cell p ty]) (tmps : Array Value) (P : Program) (w : World) :
    (results fn tmps).run P w = ((asAddr (tmps.getD p undef)).run P w).andThen fun a w₁ => (loadVar ty a).run P w₁ := by
  simp only [results, h]
  simp [Sem.run_bind, Result.andThen]
end Go.Proofs.Ytdddafhalcbhaaa
