/- Plain lemmas on the bits of sums and differences. No dump is imported. Arrays of 256 bools in memory: what stands there, what a store leaves, how one is loaded and stored whole. Contract of the document's plus (numbers bit by bit). Contract of the document's minus (numbers bit by bit). Contract of the document's cmp (numbers bit by bit). -/
import Derived.Test.YtcnfojbncmkdeaaMHw
import Derived.Deep.WholeRow
import Derived.Deep.MidRow
import Derived.Deep.QuietTactic
import Derived.BigQuiet
namespace Go.Proofs.Ytcnfojbncmkdeaa
set_option maxRecDepth 100000
set_option linter.unusedVariables false
set_option linter.unusedSimpArgs false
/-- the bits of S below i -/
def low (S i : Nat) (j : Nat) : Bool := (S % 2 ^ i).testBit j
theorem low_zero (S j : Nat) : low S 0 j = false := by simp [low, Nat.mod_one]
theorem low_eq (S i j : Nat) : low S i j = (decide (j < i) && S.testBit j) := by unfold low; rw [Nat.testBit_mod_two_pow]
theorem low_succ (S i j : Nat) : low S (i + 1) j = if j = i then S.testBit i else low S i j := by
  rw [low_eq, low_eq]
  by_cases h : j = i
  · subst h; simp
  · rw [if_neg h]
    have : (j < i + 1) ↔ (j < i) := by omega
    simp [this]
def carryB (N M i : Nat) : Bool := decide (2 ^ i ≤ N % 2 ^ i + M % 2 ^ i)
theorem carry_zero (N M : Nat) : carryB N M 0 = false := by simp [carryB, Nat.mod_one]
theorem bit_div (N i : Nat) : (N.testBit i).toNat = N / 2 ^ i % 2 := by
  rw [Nat.testBit_eq_decide_div_mod_eq]
  have : N / 2 ^ i % 2 < 2 := Nat.mod_lt _ (by decide)
  by_cases h : N / 2 ^ i % 2 = 1
  · simp [h]
  · simp [h]; omega
theorem add_bit (N M i : Nat) : (N + M).testBit i = (((N.testBit i).toNat + (M.testBit i).toNat + (carryB N M i).toNat) % 2 == 1) := by
  rw [bit_div, bit_div, Nat.testBit_eq_decide_div_mod_eq]
  have hp : 0 < 2 ^ i := Nat.pow_pos (by decide)
  have e := Nat.add_div (a := N) (b := M) hp
  rw [e]
  unfold carryB
  generalize N / 2 ^ i = a
  generalize M / 2 ^ i = b
  by_cases h : 2 ^ i ≤ N % 2 ^ i + M % 2 ^ i
  · simp only [h, if_true, decide_true, Bool.toNat_true]
    rw [Bool.eq_iff_iff]; simp only [decide_eq_true_eq, beq_iff_eq]; omega
  · simp only [h, if_false, decide_false, Bool.toNat_false]
    rw [Bool.eq_iff_iff]; simp only [decide_eq_true_eq, beq_iff_eq]; omega
theorem carry_succ (N M i : Nat) : carryB N M (i + 1) = decide (2 ≤ (N.testBit i).toNat + (M.testBit i).toNat + (carryB N M i).toNat) := by
  rw [bit_div, bit_div]
  unfold carryB
  rw [Nat.mod_pow_succ, Nat.mod_pow_succ, Nat.pow_succ]
  have h1 : N % 2 ^ i < 2 ^ i := Nat.mod_lt _ (Nat.pow_pos (by decide))
  have h2 : M % 2 ^ i < 2 ^ i := Nat.mod_lt _ (Nat.pow_pos (by decide))
  have h3 : N / 2 ^ i % 2 < 2 := Nat.mod_lt _ (by decide)
  have h4 : M / 2 ^ i % 2 < 2 := Nat.mod_lt _ (by decide)
  generalize N / 2 ^ i % 2 = a at *
  generalize M / 2 ^ i % 2 = b at *
  generalize N % 2 ^ i = x at *
  generalize M % 2 ^ i = y at *
  generalize 2 ^ i = p at *
  have ha : a = 0 ∨ a = 1 := by omega
  have hb : b = 0 ∨ b = 1 := by omega
  by_cases h : p ≤ x + y
  · rcases ha with rfl | rfl <;> rcases hb with rfl | rfl <;> simp [h] <;> omega
  · rcases ha with rfl | rfl <;> rcases hb with rfl | rfl <;> simp [h] <;> omega
/-- a borrow: the lower bits of M are more than N's -/
def borrowB (N M i : Nat) : Bool := decide (N % 2 ^ i < M % 2 ^ i)
theorem borrow_zero (N M : Nat) : borrowB N M 0 = false := by simp [borrowB, Nat.mod_one]
theorem sub_parts {N M i : Nat} (h : M ≤ N) : ∃ a b x y p : Nat, N = p * a + x ∧ M = p * b + y ∧ x < p ∧ y < p ∧ 0 < p ∧ a = N / 2 ^ i ∧ b = M / 2 ^ i ∧ x = N % 2 ^ i ∧ y = M % 2 ^ i ∧ p = 2 ^ i :=
  ⟨_, _, _, _, _, (Nat.div_add_mod N (2 ^ i)).symm, (Nat.div_add_mod M (2 ^ i)).symm, Nat.mod_lt _ (Nat.pow_pos (by decide)), Nat.mod_lt _ (Nat.pow_pos (by decide)), Nat.pow_pos (by decide), rfl, rfl, rfl, rfl, rfl⟩
theorem sub_div {N M i : Nat} (h : M ≤ N) : (N - M) / 2 ^ i = N / 2 ^ i - M / 2 ^ i - (borrowB N M i).toNat := by
  have hp : 0 < 2 ^ i := Nat.pow_pos (by decide)
  unfold borrowB
  have hx := Nat.mod_lt N hp
  have hy := Nat.mod_lt M hp
  have hN := Nat.div_add_mod N (2 ^ i)
  have hM := Nat.div_add_mod M (2 ^ i)
  have hle : M / 2 ^ i ≤ N / 2 ^ i := Nat.div_le_div_right h
  generalize N / 2 ^ i = a at *
  generalize M / 2 ^ i = b at *
  generalize N % 2 ^ i = x at *
  generalize M % 2 ^ i = y at *
  generalize 2 ^ i = p at *
  obtain ⟨d, rfl⟩ : ∃ d, a = b + d := ⟨a - b, by omega⟩
  rw [Nat.mul_add] at hN
  by_cases hb : x < y
  · simp [hb]
    have hd : 1 ≤ d := by
      rcases Nat.eq_zero_or_pos d with rfl | h0
      · simp at hN; omega
      · exact h0
    obtain ⟨d, rfl⟩ : ∃ e, d = e + 1 := ⟨d - 1, by omega⟩
    have e1 : N - M = x + p - y + p * d := by rw [Nat.mul_add] at hN; omega
    have e2 : d + 1 - 1 = d := by omega
    rw [e1, e2, Nat.add_mul_div_left _ _ hp, Nat.div_eq_of_lt (by omega)]; omega
  · simp [hb]
    have e1 : N - M = x - y + p * d := by omega
    rw [e1, Nat.add_mul_div_left _ _ hp, Nat.div_eq_of_lt (by omega)]; omega
theorem sub_bit {N M i : Nat} (h : M ≤ N) : (N - M).testBit i = (((N.testBit i).toNat + (M.testBit i).toNat + (borrowB N M i).toNat) % 2 == 1) := by
  rw [bit_div, bit_div, Nat.testBit_eq_decide_div_mod_eq, sub_div h]
  have hle : M / 2 ^ i + (borrowB N M i).toNat ≤ N / 2 ^ i := by
    have hp : 0 < 2 ^ i := Nat.pow_pos (by decide)
    have hle : M / 2 ^ i ≤ N / 2 ^ i := Nat.div_le_div_right h
    by_cases hb : borrowB N M i = true
    · rw [hb]
      unfold borrowB at hb
      simp at hb
      rcases Nat.lt_or_ge (M / 2 ^ i) (N / 2 ^ i) with h' | h'
      · simp only [Bool.toNat_true]; omega
      · exfalso
        have hN := Nat.div_add_mod N (2 ^ i)
        have hM := Nat.div_add_mod M (2 ^ i)
        have e : N / 2 ^ i = M / 2 ^ i := by omega
        rw [e] at hN
        omega
    · simp [hb, hle]
  generalize N / 2 ^ i = a at *
  generalize M / 2 ^ i = b at *
  generalize (borrowB N M i).toNat = c at *
  rw [Bool.eq_iff_iff]; simp; omega
theorem borrow_succ (N M i : Nat) : borrowB N M (i + 1) = decide ((N.testBit i).toNat < (M.testBit i).toNat + (borrowB N M i).toNat) := by
  rw [bit_div, bit_div]
  unfold borrowB
  rw [Nat.mod_pow_succ, Nat.mod_pow_succ]
  have h1 : N % 2 ^ i < 2 ^ i := Nat.mod_lt _ (Nat.pow_pos (by decide))
  have h2 : M % 2 ^ i < 2 ^ i := Nat.mod_lt _ (Nat.pow_pos (by decide))
  have h3 : N / 2 ^ i % 2 < 2 := Nat.mod_lt _ (by decide)
  have h4 : M / 2 ^ i % 2 < 2 := Nat.mod_lt _ (by decide)
  generalize N / 2 ^ i % 2 = a at *
  generalize M / 2 ^ i % 2 = b at *
  generalize N % 2 ^ i = x at *
  generalize M % 2 ^ i = y at *
  generalize 2 ^ i = p at *
  have ha : a = 0 ∨ a = 1 := by omega
  have hb : b = 0 ∨ b = 1 := by omega
  by_cases h : x < y
  · rcases ha with rfl | rfl <;> rcases hb with rfl | rfl <;> simp [h] <;> omega
  · rcases ha with rfl | rfl <;> rcases hb with rfl | rfl <;> simp [h] <;> omega
end Go.Proofs.Ytcnfojbncmkdeaa
namespace Go.Proofs.Ytcnfojbncmkdeaa
open Go.ChangeShapes Go.WideShapes Go.ChangeAt Go.RowKit Go.Joins
set_option maxRecDepth 100000
set_option linter.unusedVariables false
set_option linter.unusedSimpArgs false
def bitsL (f : Nat → Bool) : List Value := (List.range 256).map fun i => Value.bool (f i)
def bitsC (f : Nat → Bool) : Array Value := (bitsL f).toArray
/-- the array's bits stand in block b -/
def BitsF (w : World) (b : Nat) (f : Nat → Bool) : Prop := ∀ j, j < 256 → w.cell? ⟨b, j, none⟩ = some (.bool (f j))
def FreeF (w : World) (b : Nat) : Prop := ∀ j, j < 256 → w.frozen? ⟨b, j, none⟩ = false
theorem zeroB : (∀ w, (zeroValue 59).run Try.prog w = .ok (.agg (Array.replicate 256 (.bool false))) w) ∧ (Try.prog.info? 59).map (·.size) = some 256 := zero_of_info (by kernel_rfl)
theorem undB : Try.prog.underlying 59 = some (.array 256 4) := by kernel_rfl
theorem bitsL_length (f : Nat → Bool) : (bitsL f).length = 256 := by simp [bitsL]
theorem bitsL_get {f : Nat → Bool} {j : Nat} (h : j < 256) : (bitsL f)[j]? = some (.bool (f j)) := by simp [bitsL, h]
theorem bitsC_get {f : Nat → Bool} {j : Nat} (h : j < 256) : (bitsC f)[j]? = some (.bool (f j)) := by simp [bitsC, bitsL, h]
theorem bitsC_size (f : Nat → Bool) : (bitsC f).size = 256 := by simp [bitsC, bitsL]
theorem bitsC_one (f : Nat → Bool) : (bitsC f).all (·.oneCell') = true := by
  apply all_oneCell_toArray
  intro v hv
  simp only [bitsL, List.mem_map] at hv
  obtain ⟨i, -, rfl⟩ := hv
  rfl
theorem bitsC_congr {f g : Nat → Bool} (h : ∀ j, j < 256 → f j = g j) : bitsC f = bitsC g := by
  unfold bitsC bitsL
  congr 1
  apply List.map_congr_left
  intro i hi
  rw [h i (by simpa using hi)]
theorem BitsF.congr {w : World} {b : Nat} {f g : Nat → Bool} (h : BitsF w b f) (e : ∀ j, j < 256 → f j = g j) : BitsF w b g := fun j hj => by rw [h j hj, e j hj]
theorem BitsF.range {w : World} {b : Nat} {f : Nat → Bool} (h : BitsF w b f) : w.rangeAt b 0 (bitsL f) := fun j v hv => by
  have hj : j < 256 := by have := (List.getElem?_eq_some_iff.1 hv).1; rwa [bitsL_length] at this
  rw [bitsL_get hj] at hv
  rw [Nat.zero_add, h j hj, hv]
theorem BitsF.there {w : World} {b : Nat} {f : Nat → Bool} (h : BitsF w b f) (k : FreeF w b) : w.there b 0 256 := fun j hj => by
  rw [Nat.zero_add]; exact ⟨by rw [h j hj]; rfl, k j hj⟩
theorem BitsF.new (w : World) (f : Nat → Bool) (t : TypeId) : BitsF (w.alloc (.cells (bitsC f) t)) w.heap.size f := fun j hj => by
  simp [go_sem, bitsC_get hj]
theorem BitsF.zero (w : World) (t : TypeId) : BitsF (w.alloc (.cells (Array.replicate 256 (.bool false)) t)) w.heap.size (fun _ => false) := fun j hj => by
  simp [go_sem, hj]
theorem FreeF.new (w : World) (c : Array Value) (t : TypeId) : FreeF (w.alloc (.cells c t)) w.heap.size := fun j hj => by
  simp [go_sem]
theorem BitsF.lt {w : World} {b : Nat} {f : Nat → Bool} (h : BitsF w b f) : b < w.heap.size := by
  have := h 0 (by decide)
  rcases Nat.lt_or_ge b w.heap.size with h' | h'
  · exact h'
  · exfalso; unfold World.cell? at this; rw [Array.getElem?_eq_none h'] at this; cases this
theorem BitsF.call {w w' : World} {b : Nat} {f : Nat → Bool} (h : BitsF w b f) (hb : Below w.heap.size w w') : BitsF w' b f := fun j hj => carry hb (h j hj)
theorem BitsF.below {w w' : World} {b B : Nat} {f : Nat → Bool} (h : BitsF w b f) (hb : Below B w w') (hl : b < B) : BitsF w' b f := fun j hj => by
  rw [hb.cell (p := ⟨b, j, none⟩) hl]; exact h j hj
theorem FreeF.below {w w' : World} {b B : Nat} (h : FreeF w b) (hb : Below B w w') (hl : b < B) : FreeF w' b := fun j hj => by
  rw [hb.frozen (p := ⟨b, j, none⟩) hl]; exact h j hj
theorem BitsF.alloc {w : World} {b : Nat} {f : Nat → Bool} (h : BitsF w b f) (c : Array Value) (t : TypeId) : BitsF (w.alloc (.cells c t)) b f := fun j hj => by
  have := h.lt
  simp [go_sem, this, h j hj]
theorem FreeF.alloc {w : World} {b : Nat} (h : FreeF w b) (hl : b < w.heap.size) (c : Array Value) (t : TypeId) : FreeF (w.alloc (.cells c t)) b := fun j hj => by
  simp [go_sem, hl, h j hj]
theorem BitsF.other {w : World} {b g o : Nat} {f : Nat → Bool} {v : Value} (h : BitsF w b f) (hne : ¬ g = b) : BitsF (w.setCell ⟨g, o, none⟩ v) b f := fun j hj => by
  have hne' : ¬ b = g := fun e => hne e.symm
  simp [go_sem, hne, hne', h j hj]
theorem FreeF.set {w : World} {b : Nat} {a : Addr} {v : Value} (h : FreeF w b) : FreeF (w.setCell a v) b := fun j hj => by
  simp [go_sem, h j hj]
theorem BitsF.set {w : World} {b i : Nat} {f g : Nat → Bool} {v : Bool} (h : BitsF w b f) (hi : i < 256) (e : ∀ j, j < 256 → g j = if j = i then v else f j) : BitsF (w.setCell ⟨b, i, none⟩ (.bool v)) b g := fun j hj => by
  rw [e j hj]
  by_cases hji : j = i
  · subst hji; simp [go_sem, h j hj]
  · have hij : ¬ i = j := fun e => hji e.symm
    simp [go_sem, hji, hij, h j hj]
theorem below_setCells {B : Nat} {w0 : World} (b : Nat) (hb : B ≤ b) : ∀ (vs : List Value) (o : Nat) (w : World), Below B w0 w → Below B w0 (w.setCells b o vs) := by
  intro vs
  induction vs with
  | nil => intro o w h; exact h
  | cons v vs ih => intro o w h; exact ih _ _ (h.setCell hb v)
/-- what the result's block reads behind the last store -/
theorem load_back {w : World} {R : Nat} {f : Nat → Bool} (ht : w.there R 0 256) : (loadVar 59 ⟨R, 0, none⟩).run Try.prog (w.setCells R 0 (bitsC f).toList) = .ok (.agg (bitsC f)) (w.setCells R 0 (bitsC f).toList) := by
  have e : (bitsC f).toList = bitsL f := by simp [bitsC]
  have hr : (w.setCells R 0 (bitsC f).toList).rangeAt R 0 (bitsL f) := by
    rw [e]; exact World.rangeAt_setCells_same w R 0 (bitsL f) (by rw [bitsL_length]; exact ht)
  exact run_loadVar_mid _ R 0 _ (bitsL f) _ hr undB rfl (by rw [bitsL_length]; exact zeroB.2)
theorem results_cell {fn : Func} {p : Tmp} {ty : TypeId} (h : fn.results = #[.cell p ty]) (tmps : Array Value) (P : Program) (w : World) :
    (results fn tmps).run P w = ((asAddr (tmps.getD p undef)).run P w).andThen fun a w₁ => (loadVar ty a).run P w₁ := by
  simp only [results, h]
  simp [Sem.run_bind, Result.andThen]
end Go.Proofs.Ytcnfojbncmkdeaa
namespace Go.Proofs.Ytcnfojbncmkdeaa
open Go.ChangeShapes Go.WideShapes Go.ChangeAt Go.RowKit Go.Joins
set_option maxRecDepth 100000
set_option linter.unusedVariables false
set_option linter.unusedSimpArgs false
/-- two arrays that are read, the result's, and the one that is built -/
def Two (w : World) (f h o : Nat → Bool) (wx : World) : Prop :=
  BitsF wx w.heap.size f ∧ BitsF wx (w.heap.size + 1) h ∧ BitsF wx (w.heap.size + 1 + 1) (fun _ => false) ∧ FreeF wx (w.heap.size + 1 + 1) ∧ BitsF wx (w.heap.size + 1 + 1 + 1) o ∧ FreeF wx (w.heap.size + 1 + 1 + 1) ∧ Below w.heap.size w wx
theorem two_start (w : World) (f h : Nat → Bool) (t : TypeId) : Two w f h (fun _ => false)
    ((((w.alloc (.cells (bitsC f) t)).alloc (.cells (bitsC h) t)).alloc (.cells (Array.replicate 256 (.bool false)) t)).alloc (.cells (Array.replicate 256 (.bool false)) t)) := by
  have z1 : (w.alloc (.cells (bitsC f) t)).heap.size = w.heap.size + 1 := by simp
  have z2 : ((w.alloc (.cells (bitsC f) t)).alloc (.cells (bitsC h) t)).heap.size = w.heap.size + 1 + 1 := by simp
  have z3 : (((w.alloc (.cells (bitsC f) t)).alloc (.cells (bitsC h) t)).alloc (.cells (Array.replicate 256 (.bool false)) t)).heap.size = w.heap.size + 1 + 1 + 1 := by simp
  refine ⟨((((BitsF.new w f t).alloc _ _).alloc _ _).alloc _ _), ?_, ?_, ?_, ?_, ?_, ?_⟩
  · have := (((BitsF.new (w.alloc (.cells (bitsC f) t)) h t).alloc (Array.replicate 256 (.bool false)) t).alloc (Array.replicate 256 (.bool false)) t); rw [z1] at this; exact this
  · have := ((BitsF.zero ((w.alloc (.cells (bitsC f) t)).alloc (.cells (bitsC h) t)) t).alloc (Array.replicate 256 (.bool false)) t); rw [z2] at this; exact this
  · have := (FreeF.new ((w.alloc (.cells (bitsC f) t)).alloc (.cells (bitsC h) t)) (Array.replicate 256 (.bool false)) t).alloc (by simp) (Array.replicate 256 (.bool false)) t; rw [z2] at this; exact this
  · have := (BitsF.zero (((w.alloc (.cells (bitsC f) t)).alloc (.cells (bitsC h) t)).alloc (.cells (Array.replicate 256 (.bool false)) t)) t); rw [z3] at this; exact this
  · have := (FreeF.new (((w.alloc (.cells (bitsC f) t)).alloc (.cells (bitsC h) t)).alloc (.cells (Array.replicate 256 (.bool false)) t)) (Array.replicate 256 (.bool false)) t); rw [z3] at this; exact this
  · exact (below_alloc3 w _ _ _).alloc (by simp; omega) _
theorem two_set {w wx : World} {f h o o' : Nat → Bool} {i : Nat} {v : Bool} (k : Two w f h o wx) (hi : i < 256) (e : ∀ j, j < 256 → o' j = if j = i then v else o j) : Two w f h o' (wx.setCell ⟨w.heap.size + 1 + 1 + 1, i, none⟩ (.bool v)) := by
  obtain ⟨a, b, c, d, g, l, m⟩ := k
  exact ⟨a.other (by omega), b.other (by omega), c.other (by omega), d.set, g.set hi e, l.set, m.setCell (by simp; omega) _⟩
def PlusRel (w : World) (N M : Nat) (g : Nat) (s6 s7 : Value) (wx : World) : Prop :=
  ∃ i : Nat, i + g = 256 ∧ s7 = .int .i64 i ∧ s6 = .bool (carryB N M i) ∧ Two w N.testBit M.testBit (low (N + M) i) wx
set_option maxRecDepth 100000 in
set_option maxHeartbeats 2000000 in
theorem plus_ref (N M : Nat) (w : World) :
    Calls Try.prog 42 #[.agg (bitsC N.testBit), .agg (bitsC M.testBit)] w fun e w' => e = .returned (.agg (bitsC (low (N + M) 256))) ∧ Below w.heap.size w w' := by
  have hv := zeroB.1
  go_enter Try.func42, Try.ntmps42
  go_wp2
  clear hv
  go_loopg [6, 7] 256 (PlusRel w N M)
  case atStart =>
    refine ⟨0, by omega, rfl, by rw [carry_zero], ?_⟩
    have := two_start w N.testBit M.testBit 59
    have e : low (N + M) 0 = fun _ => false := by funext j; exact low_zero _ _
    rw [e]; exact this
  case round =>
    obtain ⟨i, hig, rfl, rfl, hm⟩ := hrel
    cases gk with
    | zero =>
      obtain rfl : i = 256 := by omega
      have hr := hm.2.2.2.2.1.range
      have ht := BitsF.there hm.2.2.1 hm.2.2.2.1
      have HB := Lib.hid hm.2.2.2.2.2.2
      have HR := Lib.hid hr
      have HT := Lib.hid ht
      clear hm hr ht
      go_wp2_with (first
        | (refine wpList_load_mid rfl 59 (.tmp 5) rfl (w.heap.size + 1 + 1 + 1) 0 rfl (bitsL (low (N + M) 256)) (.array 256 4) HR.out undB rfl (by rw [bitsL_length]; exact zeroB.2) ?_)
        | (refine wpList_store_mid rfl 59 (.tmp 4) (.tmp 33) rfl (w.heap.size + 1 + 1) 0 (bitsC (low (N + M) 256)) rfl rfl (by rw [bitsC_size]; exact HT.out) (by rw [bitsC_size]; exact zeroB.2) (bitsC_one _) ?_))
      refine bodyPost_ret (v := .agg (bitsC (low (N + M) 256))) ?_ rfl ⟨rfl, below_setCells _ (by omega) _ _ _ HB.out⟩
      rw [results_cell rfl]
      simp only [asAddr, Result.andThen]
      exact load_back HT.out
    | succ g =>
      have hi : i < 256 := by omega
      have hiz : (i : Int) < 256 := by omega
      have hc1 := hm.1 i hi
      have hc2 := hm.2.1 i hi
      have hc3 := hm.2.2.2.2.1 i hi
      have hf3 := hm.2.2.2.2.2.1 i hi
      have HM := Lib.hid hm
      have HA := Lib.hid (add_bit N M i)
      have HC := Lib.hid (carry_succ N M i)
      clear hm
      generalize hx : N.testBit i = x at *
      generalize hy : M.testBit i = y at *
      generalize hz : carryB N M i = z at *
      clear hx hy hz
      cases x <;> cases y <;> cases z
      all_goals
        go_wp2
        go_roundg g
        case measure => omega
        case rel =>
          refine ⟨i + 1, by omega, by go_num, by rw [HC.out]; rfl, two_set HM.out hi (fun j hj => ?_)⟩
          rw [low_succ, HA.out]; rfl
end Go.Proofs.Ytcnfojbncmkdeaa
namespace Go.Proofs.Ytcnfojbncmkdeaa
open Go.ChangeShapes Go.WideShapes Go.ChangeAt Go.RowKit Go.Joins
set_option maxRecDepth 100000
set_option linter.unusedVariables false
set_option linter.unusedSimpArgs false
def bI : Bool → Int
  | true => 1
  | false => 0
def MinusRel (w : World) (N M : Nat) (g : Nat) (s6 s7 : Value) (wx : World) : Prop :=
  ∃ i : Nat, i + g = 256 ∧ s7 = .int .i64 i ∧ s6 = .int .i64 (bI (borrowB N M i)) ∧ Two w N.testBit M.testBit (low (N - M) i) wx
end Go.Proofs.Ytcnfojbncmkdeaa
namespace Go.Proofs.Ytcnfojbncmkdeaa
open Go.ChangeShapes Go.WideShapes Go.ChangeAt Go.RowKit Go.Joins
set_option maxRecDepth 100000
set_option linter.unusedVariables false
set_option linter.unusedSimpArgs false
theorem above_bit (N i : Nat) : N / 2 ^ i = 2 * (N / 2 ^ (i + 1)) + (N.testBit i).toNat := by
  rw [bit_div, Nat.pow_succ, ← Nat.div_div_eq_div_mul]
  generalize N / 2 ^ i = a
  omega
theorem lt_of_div {N M i : Nat} (h : N / 2 ^ i < M / 2 ^ i) : N < M := by
  rcases Nat.lt_or_ge N M with h' | h'
  · exact h'
  · exact absurd (Nat.div_le_div_right (c := 2 ^ i) h') (by omega)
def CmpRel (w : World) (N M : Nat) (g : Nat) (s5 : Value) (wx : World) : Prop :=
  g ≤ 256 ∧ s5 = .int .i64 ((g : Int) - 1) ∧ N / 2 ^ g = M / 2 ^ g ∧ BitsF wx w.heap.size N.testBit ∧ BitsF wx (w.heap.size + 1) M.testBit ∧ Below w.heap.size w wx
set_option maxRecDepth 100000 in
set_option maxHeartbeats 2000000 in
theorem cmp_ref (N M : Nat) (w : World) (hN : N < 2 ^ 256) (hM : M < 2 ^ 256) :
    Calls Try.prog 35 #[.agg (bitsC N.testBit), .agg (bitsC M.testBit)] w fun e w' => e = .returned (.int .i64 (cmpI N M)) ∧ Below w.heap.size w w' := by
  have HN := Lib.hid hN
  have HM := Lib.hid hM
  clear hN hM
  go_enter Try.func35, Try.ntmps35
  go_wp2
  go_loopg [5] 256 (CmpRel w N M)
  case atStart =>
    refine ⟨by omega, rfl, ?_, ?_, ?_, below_alloc2 _ _ _⟩
    · rw [Nat.div_eq_of_lt HN.out, Nat.div_eq_of_lt HM.out]
    · exact (BitsF.new w _ _).alloc _ _
    · have := BitsF.new (w.alloc (.cells (bitsC N.testBit) 59)) M.testBit 59
      have z1 : (w.alloc (.cells (bitsC N.testBit) 59)).heap.size = w.heap.size + 1 := by simp
      rw [z1] at this; exact this
  case round =>
    obtain ⟨hg, rfl, he, h1, h2, hB⟩ := hrel
    have HB := Lib.hid hB
    cases gk with
    | zero =>
      have e : cmpI (N : Int) M = 0 := cmpI_eq (by simp at he; omega)
      have E := Lib.hid e
      clear h1 h2 he hB e
      have hz : ¬ (0 : Int) ≤ ((0 : Nat) : Int) - 1 := by omega
      go_wp2
      go_ret
      exact ⟨(show Ending.returned (.int .i64 0) = .returned (.int .i64 (cmpI N M)) from by rw [E.out]), HB.out⟩
    | succ i =>
      have hc1 := h1 i (by omega)
      have hc2 := h2 i (by omega)
      have HE := Lib.hid he
      have H1 := Lib.hid h1
      have H2 := Lib.hid h2
      have A1 := Lib.hid (above_bit N i)
      have A2 := Lib.hid (above_bit M i)
      clear h1 h2 he hB
      have ei : (((i + 1 : Nat) : Int) - 1) = (i : Int) := by omega
      rw [ei]
      have hi256 : (i : Int) < 256 := by omega
      have hi0 : (0 : Int) ≤ (i : Int) := by omega
      generalize hx : N.testBit i = x at *
      generalize hy : M.testBit i = y at *
      have HX := Lib.hid hx
      have HY := Lib.hid hy
      clear hx hy ei
      cases x <;> cases y
      · go_wp2
        go_quiet (fail)
        go_wp2
        go_roundg i
        case measure => omega
        case rel => exact ⟨by omega, by go_num, by rw [A1.out, A2.out, HE.out], H1.out, H2.out, HB.out.trans (below_draws _ _ _)⟩
      · have e : cmpI (N : Int) M = -1 := cmpI_lt (by have h1 := A1.out; have h2 := A2.out; rw [HE.out] at h1; simp at h1 h2; have := lt_of_div (N := N) (M := M) (i := i) (by omega); omega)
        have E := Lib.hid e
        clear e
        go_wp2
        go_quiet (fail)
        go_wp2
        go_ret
        exact ⟨(show Ending.returned (.int .i64 (-1)) = .returned (.int .i64 (cmpI N M)) from by rw [E.out]), HB.out.trans (below_draws _ _ _)⟩
      · have e : cmpI (N : Int) M = 1 := cmpI_gt (by have h1 := A1.out; have h2 := A2.out; rw [HE.out] at h1; simp at h1 h2; have := lt_of_div (N := M) (M := N) (i := i) (by omega); omega)
        have E := Lib.hid e
        clear e
        go_wp2
        go_quiet (fail)
        go_wp2
        go_ret
        exact ⟨(show Ending.returned (.int .i64 1) = .returned (.int .i64 (cmpI N M)) from by rw [E.out]), HB.out.trans (below_draws _ _ _)⟩
      · go_wp2
        go_quiet (fail)
        go_wp2
        go_roundg i
        case measure => omega
        case rel => exact ⟨by omega, by go_num, by rw [A1.out, A2.out, HE.out], H1.out, H2.out, HB.out.trans (below_draws _ _ _)⟩
end Go.Proofs.Ytcnfojbncmkdeaa
