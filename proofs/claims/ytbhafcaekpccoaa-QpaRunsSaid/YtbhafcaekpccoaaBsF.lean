/- The law of 'for x := range steps(l)': the body alone ends it, behind at most M rounds; it knows which steps have come. -/
import Derived.Test.YtbhafcaekpccoaaBsE
import Derived.RangeFuncWrites
namespace Go.Proofs.Ytbhafcaekpccoaa.Bs
open Go.ChangeShapes Go.WideShapes Go.ChangeAt Go.RowKit Go.Joins Go.Shelf
open Pm (Tk chk chk_iff rowB rowB_all rowB_len TkAt Ts TRow)
set_option maxRecDepth 100000
set_option maxRecDepth 100000
set_option linter.unusedVariables false
set_option linter.unusedSimpArgs false
theorem enter_steps (args : Array Value) (w : World) : (callFunc 53 args).run Try.prog w = .ok (.enter 53 args) w := enters_of Try.func53 (by kernel_rfl) rfl args w
/-- the loop's record, of whatever state -/
def recOf (fn : FuncId) (a : Act) (ps : Array Tmp) (assign body : Code) (D : Nat) (st : LoopState) (pe : Option Code) : Obj :=
  .loop { state := st, pending := pe, fn := fn, tmps := a.tmps, params := ps, assign := assign, body := body, defers := D }
theorem range_steps {g : Operand} {ps : Array Tmp} {assign body : Code} {Q : Exit → Act → World → Prop} {a : Act} {w : World} (n : Nat) (hn : 2 ≤ n)
    (l : List Tk) (ao : Option Addr) (cap X0 b M : Nat) (hl : l.length ≤ 9223372036854775807) (hbo : 0 < l.length → ∀ k off, ao = some ⟨k, off, none⟩ → k = b)
    (hg : a.eval g = .func (.func 53) #[] #[.pointer (some ⟨X0, 0, none⟩)]) (hps : ps.size = 1)
    (hX : w.cell? ⟨X0, 0, none⟩ = some (.slice ao l.length cap)) (hT : Ts ao l w) (hb : b < w.heap.size)
    (I : List Int → World → Prop) (Ix : Code → List Int → World → Prop)
    (hI : ∀ pre A B, I pre A → Off w.heap.size (w.heap.size + 4) A B → I pre B) (hIx : ∀ c pre A B, Ix c pre A → Off w.heap.size (w.heap.size + 4) A B → Ix c pre B)
    (hM : ∀ pre A, I pre A → pre.length ≤ M) (h0 : I [] w) (a₁ : Int → Act)
    (hassign : ∀ (L : Nat) (x : Int) (W : World) (K : Act → World → Prop), K (a₁ x) W →
      assign.wpIn (Fence.wide.inRound L) (n - 1 - 1) Try.prog (Exit.then K (fun _ _ _ => False)) { tmps := (ps.zip (encS x)).foldl (fun t (p, v) => t.setIfInBounds p v) a.tmps, defers := [] } W)
    (hbody : ∀ (L : Nat) (pre : List Int) (x : Int) (W : World), w.heap.size + 4 ≤ W.heap.size → I pre W → chainW l 1 (pre ++ [x]) →
      body.wpIn (Fence.wide.inRound L) (n - 1 - 1) Try.prog (ownPostG w.heap.size (Kq b (w.heap.size + 2)) I Ix (pre ++ [x]) W) (a₁ x) W)
    (hstop : ∀ (c : Code) (pre : List Int) (W : World), chainW l 1 pre → Ix c pre W → W.heap[w.heap.size]? = some (.deferred (some [])) →
      c.wpIn Fence.wide n Try.prog Q { a with defers := { target := .collected w.heap.size, args := #[] } :: a.defers } W) :
    (Code.rangeFunc g ps assign body).wpIn Fence.wide n Try.prog Q a w := by
  refine wpIn_rangeFunc fun fn hfn => ?_
  have b1 : Below w.heap.size w ((w.alloc (.deferred (some []))).alloc (recOf fn a ps assign body w.heap.size .ready none)) := ((Below.refl _ _).alloc (Nat.le_refl _) _).alloc (by simp) _
  have lay : ((w.alloc (.deferred (some []))).alloc (recOf fn a ps assign body w.heap.size .ready none)).heap[w.heap.size]? = some (.deferred (some [])) ∧ ((w.alloc (.deferred (some []))).alloc (recOf fn a ps assign body w.heap.size .ready none)).heap[w.heap.size + 1]? = some (recOf fn a ps assign body w.heap.size .ready none) ∧ ((w.alloc (.deferred (some []))).alloc (recOf fn a ps assign body w.heap.size .ready none)).heap.size = w.heap.size + 2 := by
    refine ⟨?_, ?_, by simp⟩
    all_goals simp only [World.alloc, Array.getElem?_push, Array.size_push]
    · rw [if_neg (by omega), if_pos trivial]
    · rw [if_pos trivial]
  have ent : (Instr.enterLoop fn a.tmps ps assign body none).run Try.prog w = .ok (w.heap.size + 1, [{ target := .collected w.heap.size, args := #[] }]) ((w.alloc (.deferred (some []))).alloc (recOf fn a ps assign body w.heap.size .ready none)) := run_enterLoop_outer _ _ _ _ _
  generalize (w.alloc (.deferred (some []))).alloc (recOf fn a ps assign body w.heap.size .ready none) = W1 at *
  refine ⟨w.heap.size + 1, [{ target := .collected w.heap.size, args := #[] }], W1, { target := .fn (.func 53) #[.pointer (some ⟨X0, 0, none⟩)], args := #[.func (.yield (w.heap.size + 1)) #[] #[]] }, W1, 53, #[.func (.yield (w.heap.size + 1)) #[] #[], .pointer (some ⟨X0, 0, none⟩)], W1, ent, ?_, fun f' hf' => trivial, ?_, fun h => by omega, ?_⟩
  · simp only [resolve, hg]
    simp [go_sem]
  · simp [invoke, go_sem, enter_steps]
  obtain ⟨d1, r1, z1⟩ := lay
  have far : ∀ {lo hi : Nat} {A B : World}, Off lo hi A B → w.heap.size ≤ lo → hi ≤ w.heap.size + 4 → Off w.heap.size (w.heap.size + 4) A B := fun h h1 h2 => h.mono h1 h2
  have kept : ∀ {A B : World} {k : Nat} {o : Obj}, Off W1.heap.size (W1.heap.size + 2) A B → k < w.heap.size + 2 → A.heap[k]? = some o → B.heap[k]? = some o := fun h h1 h2 => (h.block _ (Array.getElem?_eq_some_iff.1 h2).1 (by omega)).trans h2
  refine (steps1_in (n - 1) (by omega) (w.heap.size + 1) X0 b M l ao cap hl hbo
    (fun pre A => I pre A ∧ A.heap[w.heap.size]? = some (.deferred (some [])) ∧ A.heap[w.heap.size + 1]? = some (recOf fn a ps assign body w.heap.size .ready none))
    (fun pre A => ∃ c, Ix c pre A ∧ A.heap[w.heap.size]? = some (.deferred (some [])) ∧ A.heap[w.heap.size + 1]? = some (recOf fn a ps assign body w.heap.size .done (some c)))
    W1 (fun pre A B h o => ⟨hI _ _ _ h.1 (far o (by omega) (by omega)), kept o (by omega) h.2.1, kept o (by omega) h.2.2⟩) (fun pre A h => hM _ _ h.1) ?_
    (carry b1 hX) (hT.call b1) (by omega) ⟨hI _ _ _ h0 (Off.of_below b1), d1, r1⟩).mono ?_
  · rintro pre x A hA ⟨hi, hd, hr⟩ hc
    refine ⟨fn, _, assign, body, run_yield hr (by show (encS x).size = ps.size; rw [hps]; rfl), roundIn_of_wpIn hfn (hassign _ x A _ ⟨_, run_beginRound hr rfl, ?_⟩)⟩
    have hlt := (Array.getElem?_eq_some_iff.1 hr).1
    have o2 := Off.put (lo := w.heap.size) (hi := w.heap.size + 4) (k := w.heap.size + 1) A (recOf fn a ps assign body w.heap.size .busy none) (by omega) (by omega)
    have k2 := Kq.put (b := b) (N := w.heap.size + 2) (k := w.heap.size + 1) A (recOf fn a ps assign body w.heap.size .busy none) (by omega) (by omega)
    have r2 : (A.putObj (w.heap.size + 1) (recOf fn a ps assign body w.heap.size .busy none)).heap[w.heap.size + 1]? = some (recOf fn a ps assign body w.heap.size .busy none) := World.putObj_heap_same hlt
    have d2 : (A.putObj (w.heap.size + 1) (recOf fn a ps assign body w.heap.size .busy none)).heap[w.heap.size]? = some (.deferred (some [])) := (World.putObj_heap_other (by omega)).trans hd
    refine wpIn_mono (hbody _ pre x (A.putObj (w.heap.size + 1) (recOf fn a ps assign body w.heap.size .busy none)) (by have := o2.size; omega) (hI _ _ _ hi o2) hc) ?_
    have behind : ∀ (jump : Option Code) (W3 : World), KeepsFrom w.heap.size (A.putObj (w.heap.size + 1) (recOf fn a ps assign body w.heap.size .busy none)) W3 → ∀ o : Obj, o = recOf fn a ps assign body w.heap.size (if jump.isNone then .ready else .done) jump →
        (Instr.endRound (w.heap.size + 1) jump).run Try.prog W3 = .ok (.bool jump.isNone) (W3.putObj (w.heap.size + 1) o) ∧ (W3.putObj (w.heap.size + 1) o).heap[w.heap.size]? = some (.deferred (some [])) ∧ (W3.putObj (w.heap.size + 1) o).heap[w.heap.size + 1]? = some o := by
      rintro jump W3 k o rfl
      have r3 := k.same _ _ (by omega) r2 rfl
      exact ⟨run_endRound jump r3, (World.putObj_heap_other (by omega)).trans (k.same _ _ (Nat.le_refl _) d2 rfl), World.putObj_heap_same (Array.getElem?_eq_some_iff.1 r3).1⟩
    have off3 : ∀ (W3 : World) (o : Obj), Off w.heap.size (w.heap.size + 4) W3 (W3.putObj (w.heap.size + 1) o) := fun W3 o => Off.put W3 o (by omega) (by omega)
    rintro e a3 W3 hp
    cases e with
    | normal =>
      obtain ⟨k3, q3, i3⟩ := hp
      obtain ⟨e1, e2, e3⟩ := behind none W3 k3 _ rfl
      exact ⟨_, _, e1, .inl ⟨rfl, ⟨hI _ _ _ i3 (off3 _ _), e2, e3⟩, by rw [z1]; exact (k2.trans q3).trans (Kq.put W3 _ (by omega) (by omega))⟩⟩
    | ret =>
      obtain ⟨k3, i3⟩ := hp
      obtain ⟨e1, e2, e3⟩ := behind (some .ret) W3 k3 _ rfl
      exact ⟨_, _, e1, .inr ⟨rfl, _, hIx _ _ _ _ i3 (off3 _ _), e2, e3⟩⟩
    | exit id =>
      obtain ⟨k3, i3⟩ := hp
      obtain ⟨e1, e2, e3⟩ := behind (some (.exit id)) W3 k3 _ rfl
      exact ⟨_, _, e1, .inr ⟨rfl, _, hIx _ _ _ _ i3 (off3 _ _), e2, e3⟩⟩
    | goto t =>
      obtain ⟨k3, i3⟩ := hp
      obtain ⟨e1, e2, e3⟩ := behind (some (.goto t)) W3 k3 _ rfl
      exact ⟨_, _, e1, .inr ⟨rfl, _, hIx _ _ _ _ i3 (off3 _ _), e2, e3⟩⟩
    | panic ch => exact hp.elim
    | outgrown => exact hp.elim
  · rintro e W2 ⟨⟨v, rfl⟩, pre, hc, c, hi, hd, hr⟩
    exact ⟨some c, _, run_endLoop hr (by simp), hstop c pre _ hc (hIx _ _ _ _ hi (Off.put W2 _ (by omega) (by omega))) ((World.putObj_heap_other (by omega)).trans hd)⟩
end Go.Proofs.Ytbhafcaekpccoaa.Bs
