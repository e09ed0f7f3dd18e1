/- A journal in memory: a disk, a log, two slots and what the journal knows; contracts of package journal's small functions. -/
import Derived.Test.YtmccoejliaakoaaMWa
import Derived.Test.YtmccoejliaakoaaSlA
import Derived.Test.YtmccoejliaakoaaGnT
import Derived.BigQuiet
namespace Go.Proofs.Ytmccoejliaakoaa.Jn
open Go.ChangeShapes Go.WideShapes Go.ChangeAt Go.RowKit Go.Joins
open Dk (Dk DS Own Moved ptr)
open Sl (Mv SS below_drewN)
open Wl (WS)
set_option maxRecDepth 100000
set_option linter.unusedVariables false
set_option linter.unusedSimpArgs false
/-- a journal's own block -/
def JAt (w : World) (j l q e : Nat) (g : Bool) : Prop := w.heap[j]? = some (.cells #[ptr l, ptr q, .int .u64 (e : Int), .bool g] 62 (0, 0))
section
variable {w w' : World} {j l q e : Nat} {g : Bool}
theorem JAt.lt (h : JAt w j l q e g) : j < w.heap.size := Dk.lt_of_heap h
theorem JAt.of_block (h : JAt w j l q e g) (k : w'.heap[j]? = w.heap[j]?) : JAt w' j l q e g := by unfold JAt at *; rw [k]; exact h
theorem JAt.c0 (h : JAt w j l q e g) : w.cell? ⟨j, 0, none⟩ = some (ptr l) := by rw [Lib.cell_of_heap h]; rfl
theorem JAt.c1 (h : JAt w j l q e g) : w.cell? ⟨j, 1, none⟩ = some (ptr q) := by rw [Lib.cell_of_heap h]; rfl
theorem JAt.c2 (h : JAt w j l q e g) : w.cell? ⟨j, 2, none⟩ = some (.int .u64 (e : Int)) := by rw [Lib.cell_of_heap h]; rfl
theorem JAt.c3 (h : JAt w j l q e g) : w.cell? ⟨j, 3, none⟩ = some (.bool g) := by rw [Lib.cell_of_heap h]; rfl
theorem JAt.fz (h : JAt w j l q e g) (o : Nat) : w.frozen? ⟨j, o, none⟩ = false := Lib.frozen_of_heap h o
theorem JAt.setE (h : JAt w j l q e g) {x : Int} {m : Nat} (k : x = (m : Int)) : JAt (w.setCell ⟨j, 2, none⟩ (.int .u64 x)) j l q m g := by
  subst k; unfold JAt at *; simp [World.setCell, Array.getElem?_modify, h]
theorem JAt.setG (h : JAt w j l q e g) (x : Bool) : JAt (w.setCell ⟨j, 3, none⟩ (.bool x)) j l q e x := by
  unfold JAt at *; simp [World.setCell, Array.getElem?_modify, h]
end
/-- types of which no block is a journal's -/
def Jt (T : TypeId) : Prop := T ≠ 52 ∧ T ≠ 67 ∧ T ≠ 69 ∧ T ≠ 101 ∧ T ≠ 79 ∧ T ≠ 62
instance (T : TypeId) : Decidable (Jt T) := by unfold Jt; infer_instance
/-- all blocks of other types stay -/
def Kp (w w' : World) : Prop := ∀ (k : Nat) (cs : Array Value) (T : TypeId) (fz : Nat × Nat), w.heap[k]? = some (.cells cs T fz) → Jt T → w'.heap[k]? = some (.cells cs T fz)
section
variable {u v w w' : World} {B b j l q : Nat} {s : DS}
theorem Kp.refl (w : World) : Kp w w := fun _ _ _ _ h _ => h
theorem Kp.trans (h : Kp u v) (k : Kp v w) : Kp u w := fun i cs T fz hi hT => k i cs T fz (h i cs T fz hi hT) hT
theorem Kp.below (hb : Below w.heap.size w w') : Kp w w' := fun k cs T fz h _ => (hb.block k (Dk.lt_of_heap h)).trans h
theorem Kp.call (h : Kp u w) (hb : Below w.heap.size w w') : Kp u w' := h.trans (.below hb)
theorem Kp.mvL {t : WS} (d : Dk B b s w) (hl : Wl.Wl l b t w) (m : Mv b l w w') : Kp w w' := fun k cs T fz h hT => m.keep d h (fun e => by
  unfold Wl.Wl at hl; rw [e, hl] at h; cases h; exact hT.2.2.2.1 rfl) hT.1 hT.2.1 hT.2.2.1
theorem Kp.mvS {t : SS} (d : Dk B b s w) (hq : Sl.Sl q b t w) (m : Mv b q w w') : Kp w w' := fun k cs T fz h hT => m.keep d h (fun e => by
  unfold Sl.Sl at hq; rw [e, hq] at h; cases h; exact hT.2.2.2.2.1 rfl) hT.1 hT.2.1 hT.2.2.1
theorem Kp.moved (d : Dk B b s w) (m : Moved b w w') : Kp w w' := fun k cs T fz h hT => by
  obtain ⟨g, v, d⟩ := d
  rw [m.block k (Dk.lt_of_heap h) (d.keepT h hT.1 hT.2.1 hT.2.2.1)]; exact h
theorem Kp.setJ {e : Nat} {g : Bool} (h : JAt w j l q e g) (o : Nat) (x : Value) : Kp w (w.setCell ⟨j, o, none⟩ x) := fun k cs T fz hk hT => by
  rw [Below.heap_setCell w ⟨j, o, none⟩ x k (fun e => by unfold JAt at h; have e' : k = j := e; rw [e', h] at hk; cases hk; exact hT.2.2.2.2.2 rfl)]; exact hk
theorem Kp.alloc (o : Obj) : Kp w (w.alloc o) := .below ((Below.refl _ _).alloc (Nat.le_refl _) o)
theorem Kp.drew : Kp w w.drew := .below (Below.refl _ _).drew
/-- a block that stays: its cells -/
theorem Kp.cell {k : Nat} {cs : Array Value} {T : TypeId} {fz : Nat × Nat} (h : Kp w w') (hk : w.heap[k]? = some (.cells cs T fz)) (hT : Jt T) (o : Nat) : w'.cell? ⟨k, o, none⟩ = w.cell? ⟨k, o, none⟩ :=
  World.cell?_of_block (a := ⟨k, o, none⟩) ((h k cs T fz hk hT).trans hk.symm)
/-- rows of texts stay -/
theorem Kp.strs (h : Kp w w') {A : Nat} {v : Value} {ds : List (List UInt8)} (st : Strs A w v ds) : Strs A w' v ds :=
  Sl.strs_of st fun g hg => by
    obtain ⟨cur, hc⟩ := Sl.strs_block st hg
    rw [hc]
    exact h g _ _ _ hc (by decide)
end
/-- a journal at block j, of the disk at block b, with its log at l and its slots at q, since world w0 -/
structure Jn (B b j l q : Nat) (tl : WS) (ts : SS) (e : Nat) (g : Bool) (s : DS) (w0 w : World) : Prop where
  dk : Dk B b s w
  wl : Wl.Wl l b tl w
  sl : Sl.Sl q b ts w
  jn : JAt w j l q e g
  bel : Below B w0 w
  hj : B ≤ j
  hl : B ≤ l
  hq : B ≤ q
section
variable {B b j l q e : Nat} {tl tl' : WS} {ts ts' : SS} {g : Bool} {s s' : DS} {w0 w w' : World}
theorem Jn.lq (h : Jn B b j l q tl ts e g s w0 w) : l ≠ q := fun k => by
  have h1 := h.wl; have h2 := h.sl
  unfold Wl.Wl at h1; unfold Sl.Sl at h2
  rw [k, h2] at h1
  simp only [Option.some.injEq, Obj.cells.injEq] at h1
  exact absurd h1.2.1 (by decide)
theorem Jn.lj (h : Jn B b j l q tl ts e g s w0 w) : l ≠ j := fun k => by
  have h1 := h.wl; have h2 := h.jn
  unfold Wl.Wl at h1; unfold JAt at h2
  rw [k, h2] at h1
  simp only [Option.some.injEq, Obj.cells.injEq] at h1
  exact absurd h1.2.1 (by decide)
theorem Jn.qj (h : Jn B b j l q tl ts e g s w0 w) : q ≠ j := fun k => by
  have h1 := h.sl; have h2 := h.jn
  unfold Sl.Sl at h1; unfold JAt at h2
  rw [k, h2] at h1
  simp only [Option.some.injEq, Obj.cells.injEq] at h1
  exact absurd h1.2.1 (by decide)
theorem Jn.notOwn (h : Jn B b j l q tl ts e g s w0 w) : ¬ Own w b j := by
  obtain ⟨g', v, d⟩ := h.dk
  exact d.keepT h.jn (by decide) (by decide) (by decide)
theorem Jn.call (h : Jn B b j l q tl ts e g s w0 w) (hb : Below w.heap.size w w') : Jn B b j l q tl ts e g s w0 w' :=
  ⟨h.dk.call hb, h.wl.call hb, h.sl.call hb, h.jn.of_block (hb.block j h.jn.lt), h.bel.trans (hb.mono h.dk.le), h.hj, h.hl, h.hq⟩
/-- the log is turned -/
theorem Jn.goL (h : Jn B b j l q tl ts e g s w0 w) (k : Dk B b s' w') (k2 : Wl.Wl l b tl' w') (m : Mv b l w w') : Jn B b j l q tl' ts e g s' w0 w' :=
  ⟨k, k2, h.sl.of_block (m.block q h.sl.lt (h.sl.notOwn h.dk) (Ne.symm h.lq)), h.jn.of_block (m.block j h.jn.lt h.notOwn (Ne.symm h.lj)), h.bel.trans (m.belowD h.dk h.hl), h.hj, h.hl, h.hq⟩
/-- the slots are turned -/
theorem Jn.goS (h : Jn B b j l q tl ts e g s w0 w) (k : Dk B b s' w') (k2 : Sl.Sl q b ts' w') (m : Mv b q w w') : Jn B b j l q tl ts' e g s' w0 w' :=
  ⟨k, h.wl.of_block (m.block l h.wl.lt (h.wl.notOwn h.dk) h.lq), k2, h.jn.of_block (m.block j h.jn.lt h.notOwn (Ne.symm h.qj)), h.bel.trans (m.belowD h.dk h.hq), h.hj, h.hl, h.hq⟩
/-- the disk is turned -/
theorem Jn.goD (h : Jn B b j l q tl ts e g s w0 w) (k : Dk B b s' w') (m : Moved b w w') : Jn B b j l q tl ts e g s' w0 w' :=
  h.goL k (h.wl.disk h.dk m) (.of_moved m)
theorem Jn.setO (h : Jn B b j l q tl ts e g s w0 w) (o : Nat) (x : Value) {e' : Nat} {g' : Bool} (k : JAt (w.setCell ⟨j, o, none⟩ x) j l q e' g') : Jn B b j l q tl ts e' g' s w0 (w.setCell ⟨j, o, none⟩ x) := by
  refine ⟨Sl.Dk_setOther h.dk h.notOwn, h.wl.of_block (Below.heap_setCell w ⟨j, o, none⟩ x l h.lj), h.sl.of_block (Below.heap_setCell w ⟨j, o, none⟩ x q h.qj), k, ?_, h.hj, h.hl, h.hq⟩
  refine h.bel.trans ⟨rfl, rfl, rfl, by simp [World.setCell], fun i hi => Below.heap_setCell w ⟨j, o, none⟩ x i (fun ei => ?_)⟩
  have e' : i = j := ei
  have := h.hj
  omega
theorem Jn.setE (h : Jn B b j l q tl ts e g s w0 w) {x : Int} {m : Nat} (k : x = (m : Int)) : Jn B b j l q tl ts m g s w0 (w.setCell ⟨j, 2, none⟩ (.int .u64 x)) := h.setO 2 _ (h.jn.setE k)
theorem Jn.setG (h : Jn B b j l q tl ts e g s w0 w) (x : Bool) : Jn B b j l q tl ts e x s w0 (w.setCell ⟨j, 3, none⟩ (.bool x)) := h.setO 3 _ (h.jn.setG x)
end
theorem none_nil (w : World) :
    Calls Try.prog 25 #[.pointer none] w fun e w' => e = .returned (.bool true) ∧ w' = w := by
  go_enter Try.func25, Try.ntmps25
  go_wp2
  go_ret
  exact ⟨rfl, rfl⟩
theorem none_any {j l q e : Nat} {g : Bool} (w : World) (h : JAt w j l q e g) :
    Calls Try.prog 25 #[ptr j] w fun r w' => r = .returned (.bool false) ∧ w' = w := by
  have c1 := h.c1
  clear h
  go_enter Try.func25, Try.ntmps25
  go_wp2
  go_ret
  exact ⟨rfl, rfl⟩
theorem epoch_nil (w : World) :
    Calls Try.prog 18 #[.pointer none] w fun e w' => e = .returned (.int .u64 0) ∧ w' = w := by
  have NO := Lib.hid (none_nil w)
  go_enter Try.func18, Try.ntmps18
  go_wp2_with fail
  (with_reducible refine NO.out.mono ?_)
  rintro e w1 ⟨rfl, rfl⟩
  clear NO
  go_wp2
  go_ret
  exact ⟨rfl, rfl⟩
theorem epoch_any {j l q e : Nat} {g : Bool} (w : World) (h : JAt w j l q e g) :
    Calls Try.prog 18 #[ptr j] w fun r w' => r = .returned (.int .u64 (e : Int)) ∧ w' = w := by
  have NO := Lib.hid (none_any w h)
  have c2 := h.c2
  clear h
  go_enter Try.func18, Try.ntmps18
  go_wp2_with fail
  (with_reducible refine NO.out.mono ?_)
  rintro e w1 ⟨rfl, rfl⟩
  clear NO
  go_wp2
  go_ret
  exact ⟨rfl, rfl⟩
theorem good_nil (w : World) :
    Calls Try.prog 19 #[.pointer none] w fun e w' => e = .returned (.bool false) ∧ w' = w := by
  have NO := Lib.hid (none_nil w)
  go_enter Try.func19, Try.ntmps19
  go_wp2_with fail
  (with_reducible refine NO.out.mono ?_)
  rintro e w1 ⟨rfl, rfl⟩
  clear NO
  go_wp2
  go_ret
  exact ⟨rfl, rfl⟩
theorem good_any {j l q e : Nat} {g : Bool} (w : World) (h : JAt w j l q e g) :
    Calls Try.prog 19 #[ptr j] w fun r w' => r = .returned (.bool g) ∧ w' = w := by
  have NO := Lib.hid (none_any w h)
  have c3 := h.c3
  clear h
  go_enter Try.func19, Try.ntmps19
  go_wp2_with fail
  (with_reducible refine NO.out.mono ?_)
  rintro e w1 ⟨rfl, rfl⟩
  clear NO
  go_wp2
  go_ret
  exact ⟨rfl, rfl⟩
theorem left_nil (w : World) :
    Calls Try.prog 20 #[.pointer none] w fun e w' => e = .returned (.int .i64 0) ∧ w' = w := by
  have GO := Lib.hid (good_nil w)
  go_enter Try.func20, Try.ntmps20
  go_wp2_with fail
  (with_reducible refine GO.out.mono ?_)
  rintro e w1 ⟨rfl, rfl⟩
  clear GO
  go_wp2
  go_ret
  exact ⟨rfl, rfl⟩
theorem left_good {j l q e b : Nat} {t : WS} (w : World) (h : JAt w j l q e true) (hl : Wl.Wl l b t w) (hn : 1 ≤ t.n) (hn2 : t.n ≤ 1024) (hc : Wl.lenOf t.st ≤ t.n) :
    Calls Try.prog 20 #[ptr j] w fun r w' => r = .returned (.int .i64 (Wl.leftOf t.n t.st : Int)) ∧ Below w.heap.size w w' := by
  have GO := Lib.hid (good_any w h)
  have LF := Lib.hid (Wl.left_any w hl hn hn2 hc)
  have c0 := h.c0
  clear h hl
  go_enter Try.func20, Try.ntmps20
  go_wp2_with fail
  (with_reducible refine GO.out.mono ?_)
  rintro e w1 ⟨rfl, rfl⟩
  clear GO
  go_wp2_with fail
  (with_reducible refine LF.out.mono ?_)
  rintro e w2 ⟨rfl, b2⟩
  clear LF
  go_wp2
  go_ret
  exact ⟨rfl, b2⟩
/-- a journal of which nothing is known yet -/
theorem on_yes (B b : Nat) (s : DS) (k n : Nat) (w0 w : World) (h : Dk B b s w) (hb : Below B w0 w) (h1 : 1 ≤ k) (h2 : k ≤ 64) (h3 : 1 ≤ n) (h4 : s.sec.length = 2 * k + n) :
    Calls Try.prog 22 #[ptr b, .int .i64 (k : Int)] w fun e w' => ∃ j l q, e = .returned (ptr j) ∧ Jn B b j l q ⟨2 * k, n, none⟩ ⟨0, k, false, 0, 0⟩ 0 false s w0 w' ∧ Below w.heap.size w w' := by
  have hl := h.ok.len
  have NS : Hid (Calls Try.prog 36 #[ptr b, .int .i64 0, .int .i64 (k : Int)] w fun e w' => e = .returned (ptr w.heap.size) ∧ Sl.Sl w.heap.size b ⟨0, k, false, 0, 0⟩ w' ∧ Below w.heap.size w w') := Lib.hid (Sl.new_yes B b s 0 k w h h1 h2 (by omega))
  have NW := Lib.hid (fun w (h : Dk B b s w) => Wl.new_yes B b s (2 * k) n w h h3 (by omega))
  have LN := Lib.hid (fun w (h : Dk B b s w) => Dk.len_any B b s w h)
  have E1 : ((2 * k : Nat) : Int) = 2 * (k : Int) := by push_cast; rfl
  have E2 : (s.sec.length : Int) - 2 * (k : Int) = (n : Int) := by omega
  have D0 := Lib.hid (And.intro h (And.intro hb h.le))
  clear h hb
  rw [E1] at NW
  generalize (s.sec.length : Int) = L at *
  have l1 : L ≤ 1024 := by omega
  have l0 : 0 ≤ L := by omega
  have k1 : 1 ≤ (k : Int) := by omega
  have k2 : (k : Int) ≤ 64 := by omega
  go_enter Try.func22, Try.ntmps22
  go_wp2_with fail
  (with_reducible refine NS.out.mono ?_)
  rintro e w1 ⟨rfl, s1, b1⟩
  clear NS
  have D1 := Lib.hid (And.intro (D0.out.1.call b1) s1)
  have B1 := Lib.hid b1
  clear s1 b1
  have LN1 := Lib.hid (LN.out w1 D1.out.1)
  have NW1 := Lib.hid (NW.out w1 D1.out.1)
  clear LN NW
  go_wp2_with fail
  (with_reducible refine LN1.out.mono ?_)
  rintro e w1 ⟨rfl, rfl⟩
  clear LN1
  go_wp2_with fail
  (with_reducible refine NW1.out.mono ?_)
  rintro e w2 ⟨rfl, l2, b2⟩
  clear NW1
  have FIN : Hid (Jn B b w2.heap.size w1.heap.size w.heap.size ⟨2 * k, n, none⟩ ⟨0, k, false, 0, 0⟩ 0 false s w0 (w2.alloc (.cells #[ptr w1.heap.size, ptr w.heap.size, .int .u64 0, .bool false] 62)) ∧ Below w.heap.size w (w2.alloc (.cells #[ptr w1.heap.size, ptr w.heap.size, .int .u64 0, .bool false] 62))) := Lib.hid (by
    have b3 := (Below.refl w2.heap.size w2).alloc (Nat.le_refl _) (.cells #[ptr w1.heap.size, ptr w.heap.size, .int .u64 0, .bool false] 62)
    have b13 := b2.trans (b3.mono b2.size)
    have b03 := B1.out.trans (b13.mono B1.out.size)
    have z := D0.out.2.2
    have z1 := B1.out.size
    have z2 := b2.size
    exact ⟨⟨D1.out.1.call b13, l2.call b3, D1.out.2.call b13, heap_alloc_new _ _, D0.out.2.1.trans (b03.mono z), by omega, by omega, z⟩, b03⟩)
  clear D0 D1 B1 l2 b2
  go_wp2
  go_ret
  exact ⟨_, _, _, rfl, FIN.out⟩
theorem on_nil (w : World) :
    Calls Try.prog 22 #[.pointer none, .int .i64 1] w fun e w' => e = .returned (.pointer none) ∧ w' = w := by
  have NS := Lib.hid (Sl.new_nil w)
  go_enter Try.func22, Try.ntmps22
  go_wp2_with fail
  (with_reducible refine NS.out.mono ?_)
  rintro e w1 ⟨rfl, rfl⟩
  clear NS
  go_wp2
  go_ret
  exact ⟨rfl, rfl⟩
/-- a disk that may not be -/
theorem on_no (B b : Nat) (s : DS) (k : Int) (w : World) (h : Dk B b s w) (hk : ¬ (1 ≤ k ∧ k ≤ 64 ∧ 2 * k < s.sec.length)) :
    Calls Try.prog 22 #[ptr b, .int .i64 k] w fun e w' => e = .returned (.pointer none) ∧ Below w.heap.size w w' := by
  by_cases hm : Sl.May s.sec.length 0 k
  · have hm2 := hm
    unfold Sl.May at hm2
    have hke : 2 * k = s.sec.length := by omega
    obtain ⟨kn, rfl⟩ : ∃ kn : Nat, k = (kn : Int) := ⟨k.toNat, by omega⟩
    have NS : Hid (Calls Try.prog 36 #[ptr b, .int .i64 0, .int .i64 (kn : Int)] w fun e w' => e = .returned (ptr w.heap.size) ∧ Sl.Sl w.heap.size b ⟨0, kn, false, 0, 0⟩ w' ∧ Below w.heap.size w w') := Lib.hid (Sl.new_yes B b s 0 kn w h (by omega) (by omega) (by omega))
    have NW := Lib.hid (fun w (h : Dk B b s w) => Wl.new_no B b s (2 * (kn : Int)) 0 w h (by omega) (by omega) (by unfold Wl.May; omega))
    have LN := Lib.hid (fun w (h : Dk B b s w) => Dk.len_any B b s w h)
    rw [← hke] at LN
    have D0 := Lib.hid h
    have k1 : 1 ≤ (kn : Int) := by omega
    have k2 : (kn : Int) ≤ 64 := by omega
    clear h hm hm2 hke hk
    go_enter Try.func22, Try.ntmps22
    go_wp2_with fail
    (with_reducible refine NS.out.mono ?_)
    rintro e w1 ⟨rfl, s1, b1⟩
    clear NS
    have LN1 := Lib.hid (LN.out w1 (D0.out.call b1))
    have NW1 := Lib.hid (NW.out w1 (D0.out.call b1))
    have B1 := Lib.hid b1
    clear LN NW s1 b1
    go_wp2_with fail
    (with_reducible refine LN1.out.mono ?_)
    rintro e w2 ⟨rfl, rfl⟩
    clear LN1
    have z : 2 * (kn : Int) - 2 * (kn : Int) = 0 := by omega
    go_wp2_with fail
    (try rw [z])
    (with_reducible refine NW1.out.mono ?_)
    rintro e w3 ⟨rfl, rfl⟩
    clear NW1
    go_wp2
    go_ret
    exact ⟨rfl, B1.out⟩
  · have NS := Lib.hid (Sl.new_no B b s 0 k w h hm)
    clear h hk hm
    go_enter Try.func22, Try.ntmps22
    go_wp2_with fail
    (with_reducible refine NS.out.mono ?_)
    rintro e w1 ⟨rfl, rfl⟩
    clear NS
    go_wp2
    go_ret
    exact ⟨rfl, Below.refl _ _⟩
end Go.Proofs.Ytmccoejliaakoaa.Jn
