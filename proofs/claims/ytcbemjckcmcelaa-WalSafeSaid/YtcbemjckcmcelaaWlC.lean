/- Package wal's reader: what is called again and again for the next record. -/
import Derived.Test.YtcbemjckcmcelaaWlB
import Derived.StillTailTactics
import Derived.Deep.DeepCutAuto
import Derived.Deep.RegionHeld3
namespace Go.Proofs.Ytcbemjckcmcelaa.Wl
open Go.ChangeShapes Go.WideShapes Go.ChangeAt Go.RowKit Go.Joins
open Dk (Dk DS Own Moved ptr)
open Sl (Mv below_drewN rowOf)
set_option maxRecDepth 100000
set_option linter.unusedVariables false
set_option linter.unusedSimpArgs false
/-- what is called for the next record, number i: three blocks from p on -/
structure Nx (B b q p : Nat) (t : WS) (e i : Nat) (d : DS) (w0 W : World) : Prop where
  dk : Dk B b d W
  wl : Wl q b t W
  bq : W.heap[p]? = some (.cells #[ptr q] 26 (0, 0))
  be : W.heap[p + 1]? = some (.cells #[.int .u64 (e : Int)] 32 (0, 0))
  bi : W.heap[p + 2]? = some (.cells #[.int .i64 (i : Int)] 3 (0, 0))
  mv : Moved b w0 W
  pl : w0.heap.size ≤ p
  bl : b < w0.heap.size
section
variable {B b q p e i : Nat} {t : WS} {d d' : DS} {w0 W W' : World}
theorem Nx.call (h : Nx B b q p t e i d w0 W) (hb : Below W.heap.size W W') : Nx B b q p t e i d w0 W' :=
  ⟨h.dk.call hb, h.wl.call hb, (hb.block _ (Dk.lt_of_heap h.bq)).trans h.bq, (hb.block _ (Dk.lt_of_heap h.be)).trans h.be, (hb.block _ (Dk.lt_of_heap h.bi)).trans h.bi, h.mv.trans (.of_below hb h.dk.lt), h.pl, h.bl⟩
theorem Nx.drew (h : Nx B b q p t e i d w0 W) : Nx B b q p t e i d w0 W.drew := h.call (Below.refl _ _).drew
theorem Nx.disk (h : Nx B b q p t e i d w0 W) (k : Dk B b d' W') (m : Moved b W W') : Nx B b q p t e i d' w0 W' :=
  ⟨k, h.wl.disk h.dk m, h.dk.keep m h.bq (by decide) (by decide) (by decide), h.dk.keep m h.be (by decide) (by decide) (by decide), h.dk.keep m h.bi (by decide) (by decide) (by decide), h.mv.trans m, h.pl, h.bl⟩
theorem Nx.cq (h : Nx B b q p t e i d w0 W) : W.cell? ⟨p, 0, none⟩ = some (ptr q) := by rw [Lib.cell_of_heap h.bq]; rfl
theorem Nx.ce (h : Nx B b q p t e i d w0 W) : W.cell? ⟨p + 1, 0, none⟩ = some (.int .u64 (e : Int)) := by rw [Lib.cell_of_heap h.be]; rfl
theorem Nx.ci (h : Nx B b q p t e i d w0 W) : W.cell? ⟨p + 2, 0, none⟩ = some (.int .i64 (i : Int)) := by rw [Lib.cell_of_heap h.bi]; rfl
theorem Nx.fi (h : Nx B b q p t e i d w0 W) : W.frozen? ⟨p + 2, 0, none⟩ = false := Lib.frozen_of_heap h.bi 0
theorem Nx.next (h : Nx B b q p t e i d w0 W) {x : Int} (hx : x = ((i + 1 : Nat) : Int)) : Nx B b q p t e (i + 1) d w0 (W.setCell ⟨p + 2, 0, none⟩ (.int .i64 x)) := by
  subst hx
  have k2 : ∀ k, k ≠ p + 2 → (W.setCell ⟨p + 2, 0, none⟩ (.int .i64 ((i + 1 : Nat) : Int))).heap[k]? = W.heap[k]? := fun k hk => Below.heap_setCell W ⟨p + 2, 0, none⟩ _ k hk
  have nD : ¬ Own W b (p + 2) := by
    obtain ⟨g, v, dk⟩ := h.dk
    exact dk.keepT h.bi (by decide) (by decide) (by decide)
  have qn : q ≠ p + 2 := fun hh => by have h1 := h.wl; unfold Wl at h1; rw [hh, h.bi] at h1; cases h1
  have pl := h.pl
  have bl := h.bl
  refine ⟨Sl.Dk_setOther h.dk nD, h.wl.of_block (k2 q qn), (k2 p (by omega)).trans h.bq, (k2 (p + 1) (by omega)).trans h.be, ?_, ?_, h.pl, h.bl⟩
  · simp [World.setCell, Array.getElem?_modify, h.bi]
  · refine ⟨h.mv.os, h.mv.tape, h.mv.output, by simpa [World.setCell] using h.mv.size, fun k hk hn => ?_, fun k hk => h.mv.own k (hk.of_block (k2 b (by omega)))⟩
    rw [k2 k (by omega)]
    exact h.mv.block k hk hn
end
/-- all rows of texts stay -/
def Tx (w w' : World) : Prop := ∀ (k : Nat) (cs : Array Value) (fz : Nat × Nat), w.heap[k]? = some (Obj.cells cs 9 fz) → w'.heap[k]? = w.heap[k]?
theorem Tx.trans {u v w : World} (h : Tx u v) (k : Tx v w) : Tx u w := fun i cs fz hi => (k i cs fz ((h i cs fz hi).trans hi)).trans (h i cs fz hi)
theorem Tx.of_below {w w' : World} (hb : Below w.heap.size w w') : Tx w w' := fun k cs fz hk => hb.block k (Dk.lt_of_heap hk)
theorem Tx.of_moved {B b : Nat} {d : DS} {w w' : World} (dk : Dk B b d w) (m : Moved b w w') : Tx w w' := fun k cs fz hk => (dk.keep m hk (by decide) (by decide) (by decide)).trans hk.symm
theorem Tx.set {w : World} {q o : Nat} {x : Value} {cs : Array Value} {T : TypeId} {fz : Nat × Nat} (h : w.heap[q]? = some (Obj.cells cs T fz)) (hT : T ≠ 9) : Tx w (w.setCell ⟨q, o, none⟩ x) := fun k cs' fz' hk => Below.heap_setCell w ⟨q, o, none⟩ x k (fun e => by
  have e' : k = q := e
  rw [e', h] at hk; cases hk; exact hT rfl)
theorem reader_any {B b q : Nat} {t : WS} {s : DS} (e : Nat) (w : World) (h : Wl q b t w) (d : Dk B b s w) :
    Calls Try.prog 34 #[ptr q, .int .u64 (e : Int)] w fun r w' => r = .returned (.func (.func 45) #[] #[ptr (w.heap.size + 2), ptr w.heap.size, ptr (w.heap.size + 1)]) ∧ Nx B b q w.heap.size t e 0 s w w' := by
  have hmf : ∀ (fn : Fn) (first cap : Array Value) (w : World), (Instr.makeFunc fn first cap).run Try.prog w = .ok (.func fn first cap) w := fun _ _ _ _ => rfl
  obtain ⟨W, hW⟩ : ∃ W, W = ((w.alloc (.cells #[ptr q] 26)).alloc (.cells #[.int .u64 (e : Int)] 32)).alloc (.cells #[.int .i64 0] 3) := ⟨_, rfl⟩
  have FIN : Hid (Nx B b q w.heap.size t e 0 s w W) := Lib.hid (by
    have b1 : Below w.heap.size w (w.alloc (.cells #[ptr q] 26)) := (Below.refl _ _).alloc (Nat.le_refl _) _
    have b2 : Below (w.alloc (.cells #[ptr q] 26)).heap.size (w.alloc (.cells #[ptr q] 26)) W := by rw [hW]; exact ((Below.refl _ _).alloc (Nat.le_refl _) _).alloc (by simp) _
    have b3 : Below ((w.alloc (.cells #[ptr q] 26)).alloc (.cells #[.int .u64 (e : Int)] 32)).heap.size ((w.alloc (.cells #[ptr q] 26)).alloc (.cells #[.int .u64 (e : Int)] 32)) W := by rw [hW]; exact (Below.refl _ _).alloc (Nat.le_refl _) _
    have bb : Below w.heap.size w W := b1.trans (b2.mono (by simp))
    refine ⟨d.call bb, h.call bb, ?_, ?_, ?_, .of_below bb d.lt, Nat.le_refl _, d.lt⟩
    · rw [b2.block _ (by simp)]; exact heap_alloc_new _ _
    · rw [b3.block _ (by simp)]
      have := heap_alloc_new (w.alloc (.cells #[ptr q] 26)) (.cells #[.int .u64 (e : Int)] 32)
      rw [World.size_alloc] at this; exact this
    · have := heap_alloc_new ((w.alloc (.cells #[ptr q] 26)).alloc (.cells #[.int .u64 (e : Int)] 32)) (.cells #[.int .i64 0] 3)
      rw [World.size_alloc, World.size_alloc] at this
      rw [hW]; exact this)
  clear h d
  go_enter Try.func34, Try.ntmps34
  go_wp2
  go_ret
  rw [hW] at FIN
  exact ⟨rfl, FIN.out⟩
theorem next_end {B b q p e : Nat} {t : WS} {d : DS} {w0 : World} (w : World) (h : Nx B b q p t e t.n d w0 w) :
    Calls Try.prog 45 #[ptr (p + 2), ptr p, ptr (p + 1)] w fun r w' => r = .returned (.tuple #[.string ⟨#[]⟩, .bool false, .int .i64 0]) ∧ Nx B b q p t e t.n d w0 w' ∧ Tx w w' := by
  have cq := h.cq
  have ci := h.ci
  have c2 := h.wl.c2
  have FIN := Lib.hid (fun k => And.intro (h.call (below_drewN w k)) (Tx.of_below (below_drewN w k)))
  clear h
  obtain ⟨p2, hp2⟩ : ∃ p2, p2 = p + 2 := ⟨_, rfl⟩
  rw [← hp2] at ci ⊢
  clear hp2
  generalize (t.n : Int) = K at *
  go_enter Try.func45, Try.ntmps45
  go_wp2_with fail
  go_quiet (fail)
  go_wp2
  go_ret3
  exact ⟨rfl, FIN.out _⟩
set_option maxHeartbeats 1000000 in
theorem next_io {B b q p e i : Nat} {t : WS} {d : DS} {w0 : World} (w : World) (h : Nx B b q p t e i d w0 w) (hi : i < t.n) (ht : t.at_ + t.n ≤ 1024) (hl : t.at_ + t.n ≤ d.sec.length) (hr : d.reads ≤ 1000000000) (ho : d.opn.length ≤ 1000000) (hf : d.fail = 1) :
    Calls Try.prog 45 #[ptr (p + 2), ptr p, ptr (p + 1)] w fun r w' => r = .returned (.tuple #[.string ⟨#[]⟩, .bool false, .int .i64 18]) ∧ Nx B b q p t e i (Dk.readR d ((t.at_ + i : Nat) : Int)).1 w0 w' ∧ Tx w w' := by
  have cq := h.cq
  have ci := h.ci
  have c0 := h.wl.c0
  have c1 := h.wl.c1
  have c2 := h.wl.c2
  have NX := Lib.hid h
  have HS : ((t.at_ + i : Nat) : Int) = (t.at_ : Int) + (i : Int) := by push_cast; rfl
  have k1 : ((i : Int) == (t.n : Int)) = false := by simp; omega
  have w1 : IntKind.i64.wrap ((t.at_ : Int) + (i : Int)) = (t.at_ : Int) + (i : Int) := IntWalk.i64_in _ (by omega)
  have s1 : (t.at_ : Int) + (i : Int) ≤ 1024 := by omega
  have s0 : 0 ≤ (t.at_ : Int) + (i : Int) := by omega
  have u1 : IntKind.u64.wrap (i : Int) = (i : Int) := IntWalk.u64_in _ (by omega)
  have u2 : (i : Int) % 18446744073709551616 = (i : Int) := by omega
  have EI : Hid (((i : Int) + 1) = ((i + 1 : Nat) : Int)) := Lib.hid (by omega)
  have i1 : (i : Int) ≤ 1024 := by omega
  have i0 : 0 ≤ (i : Int) := by omega
  have RDE := Lib.hid (fun j => Dk.read_any B b d ((t.at_ + i : Nat) : Int) (w.drewN j).drew ((h.call (below_drewN w j)).drew.dk) hr ho (by omega))
  have E := Dk.io_read d (a := ((t.at_ + i : Nat) : Int)) (by omega) (by omega) hf
  rw [E] at RDE ⊢
  rw [HS] at RDE
  generalize hD1 : DS.mk d.sec d.opn 0 (d.reads + 1) = D1 at *
  have NXJ := Lib.hid (fun j => NX.out.call (below_drewN w j))
  clear h HS E hD1 cq ci c0 c1 c2
  have cq := NX.out.cq
  have ci := NX.out.ci
  have c2 := NX.out.wl.c2
  obtain ⟨p2, hp2⟩ : ∃ p2, p2 = p + 2 := ⟨_, rfl⟩
  have HP2 := Lib.hid hp2
  rw [← hp2] at ci ⊢
  clear hp2
  go_enter Try.func45, Try.ntmps45
  go_wp2_with fail
  go_quiet (fail)
  have NX2 := Lib.hid (NXJ.out nq)
  have RD := Lib.hid (RDE.out nq)
  go_wp2_with fail
  clear RDE NXJ NX cq ci c2
  have T0 := Lib.hid (Tx.of_below (below_drewN w nq))
  generalize w.drewN nq = w at *
  have cq := NX2.out.cq
  have ci := NX2.out.ci
  have c0 := NX2.out.wl.c0
  have c1 := NX2.out.wl.c1
  have KD : Hid (∀ w3, Dk B b D1 w3 → Moved b w.drew w3 → w3.cell? ⟨p + 2, 0, none⟩ = some (.int .i64 (i : Int)) ∧ w3.cell? ⟨p, 0, none⟩ = some (ptr q) ∧ w3.cell? ⟨q, 0, none⟩ = some (ptr b) ∧ w3.cell? ⟨q, 1, none⟩ = some (.int .i64 (t.at_ : Int))) := Lib.hid (fun w3 k3 m3 => by
    have n3 := NX2.out.drew.disk k3 m3
    exact ⟨n3.ci, n3.cq, n3.wl.c0, n3.wl.c1⟩)
  have KS : Hid (w.drew.cell? ⟨p + 2, 0, none⟩ = some (.int .i64 (i : Int)) ∧ w.drew.cell? ⟨p, 0, none⟩ = some (ptr q) ∧ w.drew.cell? ⟨q, 0, none⟩ = some (ptr b) ∧ w.drew.cell? ⟨q, 1, none⟩ = some (.int .i64 (t.at_ : Int))) := Lib.hid ⟨ci, cq, c0, c1⟩
  rw [← HP2.out] at KD KS ci
  generalize (t.n : Int) = K at *
  generalize (t.at_ : Int) = A at *
  generalize (i : Int) = I at *
  have ne : (((18 : Nat) : Int) != 0) = true := by decide
  go_region_held3 (fun w' => w'.cell? ⟨p2, 0, none⟩ = some (.int .i64 I) ∧ w'.cell? ⟨p, 0, none⟩ = some (ptr q) ∧ w'.cell? ⟨q, 0, none⟩ = some (ptr b) ∧ w'.cell? ⟨q, 1, none⟩ = some (.int .i64 A)) (first | exact KS.out | assumption | fail) (first | (go_at_call 46; (with_reducible refine RD.out.mono ?_); rintro e1 w3 ⟨rfl, k3, m3⟩; (have kn := KD.out w3 k3 m3)) | fail)
  have FIN := Lib.hid (And.intro (NX2.out.drew.disk k3 m3) (T0.out.trans ((Tx.of_below (Below.refl w.heap.size w).drew).trans (Tx.of_moved NX2.out.drew.dk m3))))
  clear KD KS RD NX2 kn
  go_wp2
  go_ret3
  exact ⟨rfl, FIN.out⟩
end Go.Proofs.Ytcbemjckcmcelaa.Wl
