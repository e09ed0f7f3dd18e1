/- A disk with two slots: what is told, and what a Write, a fault and a crash make of it. -/
import Derived.Test.YtgfpnjidpdjpaaaSlO
namespace Go.Proofs.Ytgfpnjidpdjpaaa.Sl
open Dk (DS)
set_option maxRecDepth 100000
set_option linter.unusedVariables false
set_option linter.unusedSimpArgs false
/-- the two rows from a on; nx may be written -/
structure InvD (s : DS) (a k nx N : Nat) (told : Option (Nat × List UInt8)) : Prop where
  x1 : nx ≤ 1
  x0 : told = none → nx = 0
  inv : InvT k N (rowOf s (a + nx * k) k) (rowOf s (a + (1 - nx) * k) k) told
theorem InvD.told {s : DS} {t : SS} {nx N : Nat} {told : Option (Nat × List UInt8)} (h : InvD s t.at_ t.k nx N told) (hk : 1 ≤ t.k) : toldR t s = (told.getD (0, []), nx) := by
  unfold toldR
  have hi := h.inv
  rcases (show nx = 0 ∨ nx = 1 by have := h.x1; omega) with rfl | rfl
  · rw [show t.at_ + 0 * t.k = t.at_ by omega, show t.at_ + (1 - 0) * t.k = t.at_ + t.k by omega] at hi
    exact hi.read0 hk
  · cases told with
    | none => exact absurd (h.x0 rfl) (by omega)
    | some c =>
      rw [show t.at_ + 1 * t.k = t.at_ + t.k by omega, show t.at_ + (1 - 1) * t.k = t.at_ by omega] at hi
      exact hi.read1 hk
theorem InvD.newest {s : DS} {t : SS} {nx N : Nat} {told : Option (Nat × List UInt8)} (h : InvD s t.at_ t.k nx N told) : InvD s t.at_ t.k nx (newR t s) told ∧ newR t s ≤ N := by
  have hi := h.inv.tight
  have e : newR t s = max (newestL (rowOf s (t.at_ + nx * t.k) t.k)) (newestL (rowOf s (t.at_ + (1 - nx) * t.k) t.k)) := by
    unfold newR
    show max (newestL (rowOf s t.at_ t.k)) (newestL (rowOf s (t.at_ + t.k) t.k)) = _
    rcases (show nx = 0 ∨ nx = 1 by have := h.x1; omega) with rfl | rfl
    · rw [show t.at_ + 0 * t.k = t.at_ by omega, show t.at_ + (1 - 0) * t.k = t.at_ + t.k by omega]
    · rw [show t.at_ + 1 * t.k = t.at_ + t.k by omega, show t.at_ + (1 - 1) * t.k = t.at_ by omega, Nat.max_comm]
  rw [e]
  exact ⟨⟨h.x1, h.x0, hi.1⟩, hi.2⟩
theorem InvD.newest_is {s : DS} {t : SS} {nx E : Nat} {d : List UInt8} (h : InvD s t.at_ t.k nx E (some (E, d))) (hk : 1 ≤ t.k) : newR t s = E := by
  have e := h.inv.newest hk
  unfold newR
  show max (newestL (rowOf s t.at_ t.k)) (newestL (rowOf s (t.at_ + t.k) t.k)) = _
  rcases (show nx = 0 ∨ nx = 1 by have := h.x1; omega) with rfl | rfl
  · rw [show t.at_ + 0 * t.k = t.at_ by omega, show t.at_ + (1 - 0) * t.k = t.at_ + t.k by omega] at e
    exact e
  · rw [show t.at_ + 1 * t.k = t.at_ + t.k by omega, show t.at_ + (1 - 1) * t.k = t.at_ by omega, Nat.max_comm] at e
    exact e
theorem InvD.same {s s' : DS} {a k nx N : Nat} {told : Option (Nat × List UInt8)} (h : InvD s a k nx N told) (h1 : s'.sec = s.sec) (h2 : s'.opn = s.opn) : InvD s' a k nx N told := by
  have e : ∀ c, rowOf s' c k = rowOf s c k := fun c => by
    unfold rowOf Dk.newestOf; rw [h1, h2]
  exact ⟨h.x1, h.x0, by rw [e, e]; exact h.inv⟩
theorem InvD.mono {s : DS} {a k nx N N' : Nat} {told : Option (Nat × List UInt8)} (h : InvD s a k nx N told) (hN : N ≤ N') : InvD s a k nx N' told :=
  ⟨h.x1, h.x0, h.inv.lx, h.inv.ly, fun x hx => ⟨(h.inv.sx x hx).1, Nat.le_trans (h.inv.sx x hx).2.1 hN, (h.inv.sx x hx).2.2⟩, fun x hx => ⟨(h.inv.sy x hx).1, Nat.le_trans (h.inv.sy x hx).2.1 hN, (h.inv.sy x hx).2.2⟩, h.inv.tn, h.inv.ts⟩
theorem apart {a k nx m : Nat} (hx : nx ≤ 1) (hm : m ≤ k) : a + (1 - nx) * k + k ≤ a + nx * k ∨ a + nx * k + m ≤ a + (1 - nx) * k := by
  rcases (show nx = 0 ∨ nx = 1 by omega) with rfl | rfl
  · right; omega
  · left; omega
theorem rooms {a k nx n : Nat} (hx : nx ≤ 1) (ha : a + 2 * k ≤ n) : a + nx * k + k ≤ n ∧ a + (1 - nx) * k + k ≤ n := by
  rcases (show nx = 0 ∨ nx = 1 by omega) with rfl | rfl <;> constructor <;> omega
theorem flip {nx : Nat} (hx : nx ≤ 1) : 1 - (1 - nx) = nx := by omega
/-- a Write that is told as done -/
theorem InvD.done {s : DS} {a k nx N E f' : Nat} {told : Option (Nat × List UInt8)} {data : List UInt8} (h : InvD s a k nx N told) (ok : s.Ok) (hk : 1 ≤ k) (hk2 : k ≤ 64) (ha : a + 2 * k ≤ s.sec.length) (hE : N < E) (hE2 : E < 256) (hd : data.length ≤ 43 * k) :
    InvD ⟨Dk.flushedS ⟨s.sec, s.opn ++ wrs (a + nx * k) data E k, 0, s.reads⟩, [], f', s.reads⟩ a k (1 - nx) E (some (E, data)) := by
  obtain ⟨r1, r2⟩ := rooms h.x1 ha
  have ok' := wrs_ok ok (a := a + nx * k) (data := data) (e := E) (n := k) (f := 0) (r := s.reads) (by omega)
  refine ⟨by have := h.x1; omega, fun e => (by cases e), ?_⟩
  rw [flip h.x1, row_flush ok' r2, row_flush ok' r1, row_put (Nat.le_refl _) ok r1, row_other (apart h.x1 (Nat.le_refl _))]
  refine h.inv.fresh hk hk2 hE hE2 hd (fun i hi => ?_)
  rw [if_pos hi]
  refine mix_all (sec_length (payAt_len _ _) _ _) ?_ (Nat.le_refl _)
  rw [rowOf_get]
  exact Dk.newestOf_length ok (by omega)
/-- one that fails -/
theorem InvD.torn {s s' : DS} {a k nx N E : Nat} {told : Option (Nat × List UInt8)} {data : List UInt8} {g : Nat → Nat} (h : InvD s a k nx N told) (hk : 1 ≤ k) (hk2 : k ≤ 64) (hE : N < E) (hE2 : E < 256) (hd : data.length ≤ 43 * k)
    (hx : rowOf s' (a + nx * k) k = mixRow k data E g (rowOf s (a + nx * k) k)) (hy : rowOf s' (a + (1 - nx) * k) k = rowOf s (a + (1 - nx) * k) k) :
    InvD s' a k (1 - nx) E (some (E, data)) ∨ InvD s' a k nx E told := by
  rcases h.inv.step g hk hk2 hE hE2 hd with hi | hi
  · left
    refine ⟨by have := h.x1; omega, fun e => (by cases e), ?_⟩
    rw [flip h.x1, hx, hy]; exact hi
  · right
    refine ⟨h.x1, h.x0, ?_⟩
    rw [hx, hy]; exact hi
theorem InvD.fault {s : DS} {a k nx N E m : Nat} {told : Option (Nat × List UInt8)} {data : List UInt8} (h : InvD s a k nx N told) (ok : s.Ok) (hk : 1 ≤ k) (hk2 : k ≤ 64) (ha : a + 2 * k ≤ s.sec.length) (hE : N < E) (hE2 : E < 256) (hd : data.length ≤ 43 * k) (hm : m ≤ k) (f r : Nat) :
    InvD ⟨s.sec, s.opn ++ wrs (a + nx * k) data E m, f, r⟩ a k (1 - nx) E (some (E, data)) ∨ InvD ⟨s.sec, s.opn ++ wrs (a + nx * k) data E m, f, r⟩ a k nx E told := by
  obtain ⟨r1, r2⟩ := rooms h.x1 ha
  exact h.torn hk hk2 hE hE2 hd (row_put hm ok r1) (row_other (apart h.x1 hm))
theorem InvD.crash {s : DS} {a k nx N E m : Nat} {told : Option (Nat × List UInt8)} {data : List UInt8} (h : InvD s a k nx N told) (hs : s.opn = []) (hk : 1 ≤ k) (hk2 : k ≤ 64) (ha : a + 2 * k ≤ s.sec.length) (hE : N < E) (hE2 : E < 256) (hd : data.length ≤ 43 * k) (hm : m ≤ k) (f r : Nat) (fs : List (Int × Int)) :
    InvD (Dk.crashR ⟨s.sec, s.opn ++ wrs (a + nx * k) data E m, f, r⟩ fs).1 a k (1 - nx) E (some (E, data)) ∨ InvD (Dk.crashR ⟨s.sec, s.opn ++ wrs (a + nx * k) data E m, f, r⟩ fs).1 a k nx E told := by
  obtain ⟨r1, r2⟩ := rooms h.x1 ha
  exact h.torn hk hk2 hE hE2 hd (row_crash hs hm r1) (row_crash_other hs (by omega) r2 (apart h.x1 hm))
/-- a new disk -/
theorem invD_new (n a k : Nat) (hk : 1 ≤ k) (ha : a + 2 * k ≤ n) : InvD (Dk.newR n) a k 0 0 none := by
  have hz : epochOf (List.replicate 64 0) = 0 ∧ numberOf (List.replicate 64 0) = 0 := by decide
  have row : ∀ c, c + k ≤ n → ∀ x ∈ rowOf (Dk.newR n) c k, x = List.replicate 64 0 := fun c hc x hx => by
    unfold rowOf at hx
    simp only [List.mem_map, List.mem_range] at hx
    obtain ⟨i, hi, rfl⟩ := hx
    unfold Dk.newestOf Dk.newR
    simp [Dk.lastOf, show c + i < n by omega]
  have nf : ∀ c, c + k ≤ n → ∀ e, 1 ≤ e → ¬ full (rowOf (Dk.newR n) c k) e := fun c hc e he hf => by
    have h0 : 0 < (rowOf (Dk.newR n) c k).length := by rw [rowOf_length]; omega
    have h1 := (hf 0 h0).1
    rw [row c hc _ (List.getElem_mem h0), hz.1] at h1
    omega
  refine ⟨by omega, fun _ => rfl, rowOf_length _ _ _, rowOf_length _ _ _, fun x hx => ?_, fun x hx => ?_, fun _ e he => ⟨nf _ (by omega) e he, nf _ (by omega) e he⟩, fun e d h => (by cases h)⟩
  · rw [row _ (by omega) x hx, hz.1, hz.2]; simp
  · rw [row _ (by omega) x hx, hz.1, hz.2]; simp
end Go.Proofs.Ytgfpnjidpdjpaaa.Sl
