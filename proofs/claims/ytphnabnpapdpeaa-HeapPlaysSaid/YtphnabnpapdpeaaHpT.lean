/- Two heaps of package heap that share nothing; a heap and the document's; a heap and a row. -/
import Derived.Test.YtphnabnpapdpeaaHpK
namespace Go.Proofs.Ytphnabnpapdpeaa.Hp
open Go.ChangeShapes Go.WideShapes Go.ChangeAt Go.RowKit Go.Joins
set_option maxRecDepth 100000
set_option maxRecDepth 100000
set_option linter.unusedVariables false
set_option linter.unusedSimpArgs false
theorem head_row {w : World} {b : Nat} {r : Option Nat} {cs : Array Value} {T : TypeId} (hT : T ≠ 3) (hb : w.heap[b]? = some (.cells cs T (0, 0))) (hr : ∀ k, r = some k → ∃ cs, w.heap[k]? = some (.cells cs 3 (0, 0))) : r ≠ some b := fun e => by
  obtain ⟨c, hc⟩ := hr b e
  rw [hb] at hc; cases hc; exact hT rfl
structure Tw (B : Nat) (w : World) (b c : Nat) (r q : Option Nat) (s t : List Int) : Prop where
  fst : Hq B w b r s
  snd : Hq B w c q t
  ne : b ≠ c
  off : ∀ k, r = some k → q ≠ some k
  base : B ≤ w.heap.size
section
variable {B b c : Nat} {w w' : World} {r q r' : Option Nat} {s t s' : List Int}
theorem Tw.symm (h : Tw B w b c r q s t) : Tw B w c b q r t s := ⟨h.snd, h.fst, h.ne.symm, fun k h1 h2 => h.off k h2 h1, h.base⟩
theorem Tw.left (h : Tw B w b c r q s t) (hq : Hq B w' b r' s') (m : Mv b r w w') (n : Nw w r r') : Tw B w' b c r' q s' t := by
  obtain ⟨cb, hcb⟩ := h.fst.head
  obtain ⟨cc, hcc⟩ := h.snd.head
  refine ⟨hq, h.snd.of_blocks (m.block c h.snd.lt h.ne.symm (head_row (by decide) hcc h.fst.row)) (fun k hk => m.block k (h.snd.rlt k hk).2 (fun e => head_row (by decide) hcb h.snd.row (e ▸ hk)) (fun e => h.off k e hk)), h.ne, fun k hk hq' => ?_, Nat.le_trans h.base m.size⟩
  rcases n k hk with e | e
  · exact h.off k e hq'
  · have := (h.snd.rlt k hq').2; omega
theorem Tw.right (h : Tw B w b c r q s t) {q' : Option Nat} {t' : List Int} (hq : Hq B w' c q' t') (m : Mv c q w w') (n : Nw w q q') : Tw B w' b c r q' s t' := (h.symm.left hq m n).symm
theorem Tw.call (h : Tw B w b c r q s t) (hb : Below w.heap.size w w') : Tw B w' b c r q s t := ⟨h.fst.call hb, h.snd.call hb, h.ne, h.off, Nat.le_trans h.base hb.size⟩
theorem tw_new (w : World) : Tw w.heap.size ((w.alloc (.cells #[.func (.func 10) #[] #[], .slice none 0 0] 40)).alloc (.cells #[.func (.func 10) #[] #[], .slice none 0 0] 40)) w.heap.size (w.heap.size + 1) none none [] [] := by
  have b2 : Below (w.alloc (.cells #[.func (.func 10) #[] #[], .slice none 0 0] 40)).heap.size (w.alloc (.cells #[.func (.func 10) #[] #[], .slice none 0 0] 40)) ((w.alloc (.cells #[.func (.func 10) #[] #[], .slice none 0 0] 40)).alloc (.cells #[.func (.func 10) #[] #[], .slice none 0 0] 40)) := (Below.refl _ _).alloc (Nat.le_refl _) _
  have h2 := hq_new (w.alloc (.cells #[.func (.func 10) #[] #[], .slice none 0 0] 40))
  rw [World.size_alloc] at h2
  obtain ⟨v, l, ht, h3⟩ := h2
  exact ⟨(hq_new w).call b2, ⟨v, l, ⟨ht.head, ht.row.mono (by omega), by omega⟩, h3⟩, by omega, (fun k e => (by cases e)), by simp; omega⟩
/-- two heaps, and a row beside them -/
structure TwR (B : Nat) (w : World) (b c : Nat) (r q : Option Nat) (s t : List Int) (v : Value) (o : List Int) : Prop where
  tw : Tw B w b c r q s t
  row : NRow B w v o
  off : ∀ k, v.ownBlock = some k → r ≠ some k ∧ q ≠ some k
theorem TwR.left {v : Value} {o : List Int} (h : TwR B w b c r q s t v o) (hq : Hq B w' b r s') (m : Mv b r w w') : TwR B w' b c r q s' t v o := by
  obtain ⟨cb, hcb⟩ := h.tw.fst.head
  exact ⟨h.tw.left hq m (Nw.refl _ _), h.row.of_blocks (fun k hk => m.block k (h.row.lt k hk).2 (fun e => h.row.apart hcb (by decide) (e ▸ hk)) (h.off k hk).1), h.off⟩
theorem TwR.right {v : Value} {o t' : List Int} (h : TwR B w b c r q s t v o) (hq : Hq B w' c q t') (m : Mv c q w w') : TwR B w' b c r q s t' v o := by
  obtain ⟨cc, hcc⟩ := h.tw.snd.head
  exact ⟨h.tw.right hq m (Nw.refl _ _), h.row.of_blocks (fun k hk => m.block k (h.row.lt k hk).2 (fun e => h.row.apart hcc (by decide) (e ▸ hk)) (h.off k hk).2), h.off⟩
theorem TwR.call {v : Value} {o : List Int} (h : TwR B w b c r q s t v o) (hb : Below w.heap.size w w') : TwR B w' b c r q s t v o := ⟨h.tw.call hb, h.row.call hb, h.off⟩
/-- one number more in the row -/
theorem TwR.app {v : Value} {o : List Int} (h : TwR B w b c r q s t v o) (x : Int) (hn : o.length ≤ 900000) :
    ∃ g cap w', (Builtin.append_ #[22, 22] 22 #[v, .slice (some ⟨w.heap.size, 0, none⟩) 1 1]).run Try.prog (w.alloc (.cells #[.int .i64 x] 3)) = .ok (.slice (some ⟨g, 0, none⟩) (o.length + 1) cap) w' ∧ TwR B w' b c r q s t (.slice (some ⟨g, 0, none⟩) (o.length + 1) cap) (o ++ [x]) ∧ Below B w w' := by
  obtain ⟨g, cap, w', hap, hr, hb, hk, hs, hnew⟩ := nrow_append B w v o x h.row h.tw.base hn
  obtain ⟨cb, hcb⟩ := h.tw.fst.head
  obtain ⟨cc, hcc⟩ := h.tw.snd.head
  have e1 := hk b h.tw.fst.lt (h.row.apart hcb (by decide))
  have e2 := hk c h.tw.snd.lt (h.row.apart hcc (by decide))
  have e3 : ∀ k, r = some k → w'.heap[k]? = w.heap[k]? := fun k hk' => hk k (h.tw.fst.rlt k hk').2 (fun e => (h.off k e).1 hk')
  have e4 : ∀ k, q = some k → w'.heap[k]? = w.heap[k]? := fun k hk' => hk k (h.tw.snd.rlt k hk').2 (fun e => (h.off k e).2 hk')
  refine ⟨g, cap, w', hap, ⟨⟨h.tw.fst.of_blocks e1 e3, h.tw.snd.of_blocks e2 e4, h.tw.ne, h.tw.off, by have := h.tw.base; omega⟩, hr, fun k hk' => ?_⟩, hb⟩
  cases hk'
  rcases hnew with e | e
  · exact h.off g e
  · exact ⟨fun e2 => by have := (h.tw.fst.rlt g e2).2; have e : w.heap.size ≤ g := e; omega, fun e2 => by have := (h.tw.snd.rlt g e2).2; have e : w.heap.size ≤ g := e; omega⟩
/-- a heap, and the document's -/
structure Pd (B : Nat) (w : World) (b c : Nat) (r q : Option Nat) (s t : List Int) : Prop where
  fst : Hq B w b r s
  snd : Rp B w c q t
  ne : b ≠ c
  off : ∀ k, r = some k → q ≠ some k
  qb : q ≠ some b
  base : B ≤ w.heap.size
theorem Pd.left (h : Pd B w b c r q s t) (hq : Hq B w' b r' s') (m : Mv b r w w') (n : Nw w r r') : Pd B w' b c r' q s' t := by
  obtain ⟨cc, hcc⟩ := h.snd.head
  refine ⟨hq, h.snd.of_blocks m.size (m.block c h.snd.lt h.ne.symm (head_row (by decide) hcc h.fst.row)) (fun k hk => m.block k (h.snd.qlt k hk).2 (fun e => h.qb (e ▸ hk)) (fun e => h.off k e hk)), h.ne, fun k hk hq' => ?_, h.qb, Nat.le_trans h.base m.size⟩
  rcases n k hk with e | e
  · exact h.off k e hq'
  · have := (h.snd.qlt k hq').2; omega
theorem Pd.right (h : Pd B w b c r q s t) {q' : Option Nat} {t' : List Int} (hr : Rp B w' c q' t') (m : Mv c none w w') (n : ∀ k, q' = some k → q = some k ∨ w.heap.size ≤ k) : Pd B w' b c r q' s t' := by
  obtain ⟨cc, hcc⟩ := h.snd.head
  refine ⟨h.fst.of_blocks (m.block b h.fst.lt h.ne (by simp)) (fun k hk => m.block k (h.fst.rlt k hk).2 (fun e => head_row (by decide) hcc h.fst.row (e ▸ hk)) (by simp)), hr, h.ne, fun k hk hq' => ?_, fun e => ?_, Nat.le_trans h.base m.size⟩
  · rcases n k hq' with e | e
    · exact h.off k hk e
    · have := (h.fst.rlt k hk).2; omega
  · rcases n b e with e2 | e2
    · exact h.qb e2
    · have := h.fst.lt; omega
theorem Pd.call (h : Pd B w b c r q s t) (hb : Below w.heap.size w w') : Pd B w' b c r q s t := ⟨h.fst.call hb, h.snd.call hb, h.ne, h.off, h.qb, Nat.le_trans h.base hb.size⟩
end
theorem pd_new (w : World) : Pd w.heap.size ((w.alloc (.cells #[.func (.func 10) #[] #[], .slice none 0 0] 40)).alloc (.cells #[.slice none 0 0] 29)) w.heap.size (w.heap.size + 1) none none [] [] := by
  have b2 : Below (w.alloc (.cells #[.func (.func 10) #[] #[], .slice none 0 0] 40)).heap.size (w.alloc (.cells #[.func (.func 10) #[] #[], .slice none 0 0] 40)) ((w.alloc (.cells #[.func (.func 10) #[] #[], .slice none 0 0] 40)).alloc (.cells #[.slice none 0 0] 29)) := (Below.refl _ _).alloc (Nat.le_refl _) _
  have h2 := rp_new (w.alloc (.cells #[.func (.func 10) #[] #[], .slice none 0 0] 40))
  rw [World.size_alloc] at h2
  obtain ⟨ao, cap, h3, h4, h5, h6, h7, h8⟩ := h2
  exact ⟨(hq_new w).call b2, ⟨ao, cap, h3, h4, h5, h6, (fun k e => (by cases e)), by omega⟩, by omega, (fun k e => (by cases e)), (by simp), by simp; omega⟩
/-- what a reader sees of the document's heap -/
theorem Rp.cell {B c : Nat} {w : World} {q : Option Nat} {s : List Int} (h : Rp B w c q s) : ∃ ao cap, w.cell? ⟨c, 0, none⟩ = some (.slice ao s.length cap) ∧ Ns ao s w := by
  obtain ⟨ao, cap, h1, h2, -⟩ := h
  exact ⟨ao, cap, by rw [Lib.cell_of_heap h1]; rfl, h2⟩
end Go.Proofs.Ytphnabnpapdpeaa.Hp
