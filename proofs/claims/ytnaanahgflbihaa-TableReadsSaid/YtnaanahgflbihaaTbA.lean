/- Boxes that a call has made, whatever they hold; rows of the set in memory; package table's isMode, mayBe. -/
import Derived.Test.YtnaanahgflbihaaTbMath
import Derived.Test.YtnaanahgflbihaaGnE
import Derived.Test.YtnaanahgflbihaaOpE
namespace Go.Proofs.Ytnaanahgflbihaa.Tb
open Go.ChangeShapes Go.WideShapes Go.ChangeAt Go.RowKit Go.Joins
open Pm (Tk chk chk_iff below_drewN)
open Ge (El Seen Row)
set_option maxRecDepth 100000
set_option maxRecDepth 100000
set_option linter.unusedVariables false
set_option linter.unusedSimpArgs false
/-- boxes of a call's own -/
structure Bos (l : List (Nat × Array Value × Nat)) (w W : World) : Prop where
  at_ : ∀ x ∈ l, W.heap[x.1]? = some (.cells x.2.1 x.2.2 (0, 0)) ∧ w.heap.size ≤ x.1
  nd : (l.map (·.1)).Nodup
  bl : Below w.heap.size w W
theorem Bos.call {l : List (Nat × Array Value × Nat)} {w W W' : World} (h : Bos l w W) (hb : Below W.heap.size W W') : Bos l w W' :=
  ⟨fun x hx => ⟨(hb.block x.1 (Array.getElem?_eq_some_iff.1 (h.at_ x hx).1).1).trans (h.at_ x hx).1, (h.at_ x hx).2⟩, h.nd, h.bl.trans (hb.mono h.bl.size)⟩
theorem Bos.drew {l : List (Nat × Array Value × Nat)} {w W : World} (h : Bos l w W) : Bos l w W.drew := h.call (Below.refl _ _).drew
theorem bos_nil (w : World) : Bos [] w w := ⟨by simp, by simp, Below.refl _ _⟩
theorem Bos.new {l : List (Nat × Array Value × Nat)} {w W : World} (h : Bos l w W) (cs : Array Value) (T : Nat) : Bos ((W.heap.size, cs, T) :: l) w (W.alloc (.cells cs T)) := by
  have h' := h.call ((Below.refl W.heap.size W).alloc (Nat.le_refl _) (.cells cs T))
  refine ⟨fun x hx => ?_, ?_, h'.bl⟩
  · rcases List.mem_cons.1 hx with rfl | hx
    · exact ⟨heap_alloc_new _ _, h.bl.size⟩
    · exact h'.at_ x hx
  · rw [List.map_cons, List.nodup_cons]
    refine ⟨fun hm => ?_, h.nd⟩
    obtain ⟨x, hx, hxe⟩ := List.mem_map.1 hm
    have := (Array.getElem?_eq_some_iff.1 (h.at_ x hx).1).1
    simp only at hxe; omega
theorem Bos.cell {l : List (Nat × Array Value × Nat)} {w W : World} (h : Bos l w W) {p : Nat} {cs : Array Value} {T : Nat} (i : Nat) (hi : l[i]? = some (p, cs, T)) (o : Nat) : W.cell? ⟨p, o, none⟩ = cs[o]? := by
  rw [Lib.cell_of_heap (h.at_ _ (List.mem_of_getElem? hi)).1]
theorem Bos.fz {l : List (Nat × Array Value × Nat)} {w W : World} (h : Bos l w W) {p : Nat} {cs : Array Value} {T : Nat} (i : Nat) (hi : l[i]? = some (p, cs, T)) (o : Nat) : W.frozen? ⟨p, o, none⟩ = false := Lib.frozen_of_heap (h.at_ _ (List.mem_of_getElem? hi)).1 o
theorem Bos.lt {l : List (Nat × Array Value × Nat)} {w W : World} (h : Bos l w W) {p : Nat} {cs : Array Value} {T : Nat} (i : Nat) (hi : l[i]? = some (p, cs, T)) : p < W.heap.size ∧ w.heap.size ≤ p := ⟨(Array.getElem?_eq_some_iff.1 (h.at_ _ (List.mem_of_getElem? hi)).1).1, (h.at_ _ (List.mem_of_getElem? hi)).2⟩
theorem Bos.ne {l : List (Nat × Array Value × Nat)} {w W : World} (h : Bos l w W) {i j : Nat} {x y : Nat × Array Value × Nat} (hi : l[i]? = some x) (hj : l[j]? = some y) (hij : i ≠ j) : x.1 ≠ y.1 := fun e => by
  have hn := h.nd
  rw [List.nodup_iff_pairwise_ne, List.pairwise_iff_getElem] at hn
  obtain ⟨i1, rfl⟩ := List.getElem?_eq_some_iff.1 hi
  obtain ⟨j1, rfl⟩ := List.getElem?_eq_some_iff.1 hj
  rcases Nat.lt_or_gt_of_ne hij with g | g
  · have := hn i j (by simpa) (by simpa) g; simp at this; exact this e
  · have := hn j i (by simpa) (by simpa) g; simp at this; exact this e.symm
theorem Bos.set {l : List (Nat × Array Value × Nat)} {w W : World} (h : Bos l w W) {p : Nat} {cs : Array Value} {T : Nat} (i : Nat) (hi : l[i]? = some (p, cs, T)) (o : Nat) (v : Value) : Bos (l.set i (p, cs.setIfInBounds o v, T)) w (W.setCell ⟨p, o, none⟩ v) := by
  obtain ⟨hil, hie⟩ := List.getElem?_eq_some_iff.1 hi
  have hp := h.at_ _ (List.mem_of_getElem? hi)
  simp only at hp
  refine ⟨fun x hx => ?_, ?_, h.bl.setCell hp.2 _⟩
  · obtain ⟨j, hj, rfl⟩ := List.getElem_of_mem hx
    rw [List.length_set] at hj
    rw [List.getElem_set]
    split
    · subst i
      refine ⟨?_, hp.2⟩
      simp [World.setCell, Array.getElem?_modify, hp.1]
    · rename_i hne
      have hj2 := h.at_ _ (List.getElem_mem hj)
      refine ⟨?_, hj2.2⟩
      have hd := h.ne hi (List.getElem?_eq_getElem hj) hne
      simp only at hd
      rw [Below.heap_setCell _ _ _ _ (Ne.symm hd)]
      exact hj2.1
  · rw [List.map_set]
    have e : (l.map (·.1)).set i p = l.map (·.1) := by
      apply List.ext_getElem?
      intro j
      rw [List.getElem?_set]
      split
      · subst i
        rw [List.length_map, if_pos hil, List.getElem?_map, hi]; rfl
      · rfl
    rw [e]; exact h.nd
/-- with fewer of them -/
theorem Bos.sub {l m : List (Nat × Array Value × Nat)} {w W : World} (h : Bos l w W) (hs : m.Sublist l) : Bos m w W :=
  ⟨fun x hx => h.at_ x (hs.subset hx), h.nd.sublist (hs.map _), h.bl⟩
/-- a row's cells -/
def Rw.cs (r : Rw) : List Value := [.int .i64 r.t.id, .int .i64 r.t.c, .int .i64 r.t.d, .int .i64 r.t.t, .int .i64 r.t.m, .bool r.s]
def Rw.v (r : Rw) : Value := .agg #[.int .i64 r.t.id, .int .i64 r.t.c, .int .i64 r.t.d, .int .i64 r.t.t, .int .i64 r.t.m, .bool r.s]
theorem cs_len (r : Rw) : r.cs.length = 6 := rfl
theorem el : El Try.prog 57 22 6 48 (.agg #[.int .i64 0, .int .i64 0, .int .i64 0, .int .i64 0, .int .i64 0, .bool false]) Rw.cs where
  sl := Try.underlying22
  info := by kernel_rfl
  zs := rfl
  pos := by omega
  by_ := by omega
  len := cs_len
  one := fun x u hu => by simp [Rw.cs] at hu; rcases hu with rfl | rfl | rfl | rfl | rfl | rfl <;> rfl
/-- one row's cells, as the walk asks for them -/
theorem row_cells {b off : Nat} {l : List Rw} {W : World} (h : ∀ i x, l[i]? = some x → ∀ j u, (Rw.cs x)[j]? = some u → W.cell? ⟨b, off + i * 6 + j, none⟩ = some u) {i : Nat} {x : Rw} (hx : l[i]? = some x) :
    W.cell? ⟨b, off + i * 6, none⟩ = some (.int .i64 x.t.id) ∧ W.cell? ⟨b, off + i * 6 + 1, none⟩ = some (.int .i64 x.t.c) ∧ W.cell? ⟨b, off + i * 6 + 2, none⟩ = some (.int .i64 x.t.d) ∧ W.cell? ⟨b, off + i * 6 + 3, none⟩ = some (.int .i64 x.t.t) ∧ W.cell? ⟨b, off + i * 6 + 4, none⟩ = some (.int .i64 x.t.m) ∧ W.cell? ⟨b, off + i * 6 + 5, none⟩ = some (.bool x.s) :=
  ⟨h i x hx 0 _ rfl, h i x hx 1 _ rfl, h i x hx 2 _ rfl, h i x hx 3 _ rfl, h i x hx 4 _ rfl, h i x hx 5 _ rfl⟩
theorem cell2 {W : World} {p : Nat} {a b : Value} (h : ∀ o, W.cell? ⟨p, o, none⟩ = (#[a, b] : Array Value)[o]?) : W.cell? ⟨p, 0, none⟩ = some a ∧ W.cell? ⟨p, 1, none⟩ = some b := ⟨h 0, h 1⟩
theorem cell6 {W : World} {p : Nat} {a b c d e f : Value} (h : ∀ o, W.cell? ⟨p, o, none⟩ = (#[a, b, c, d, e, f] : Array Value)[o]?) : W.cell? ⟨p, 0, none⟩ = some a ∧ W.cell? ⟨p, 1, none⟩ = some b ∧ W.cell? ⟨p, 2, none⟩ = some c ∧ W.cell? ⟨p, 3, none⟩ = some d ∧ W.cell? ⟨p, 4, none⟩ = some e ∧ W.cell? ⟨p, 5, none⟩ = some f := ⟨h 0, h 1, h 2, h 3, h 4, h 5⟩
theorem cell10 {W : World} {p : Nat} {a b c d e f g x y z : Value} (h : ∀ o, W.cell? ⟨p, o, none⟩ = (#[a, b, c, d, e, f, g, x, y, z] : Array Value)[o]?) : W.cell? ⟨p, 0, none⟩ = some a ∧ W.cell? ⟨p, 1, none⟩ = some b ∧ W.cell? ⟨p, 2, none⟩ = some c ∧ W.cell? ⟨p, 3, none⟩ = some d ∧ W.cell? ⟨p, 4, none⟩ = some e ∧ W.cell? ⟨p, 5, none⟩ = some f ∧ W.cell? ⟨p, 6, none⟩ = some g ∧ W.cell? ⟨p, 7, none⟩ = some x ∧ W.cell? ⟨p, 8, none⟩ = some y ∧ W.cell? ⟨p, 9, none⟩ = some z := ⟨h 0, h 1, h 2, h 3, h 4, h 5, h 6, h 7, h 8, h 9⟩
/-- two rows compared -/
theorem eqrow_run (a b : Rw) (w : World) (r : Bool → Value) : (if a.t.id = b.t.id then if a.t.c = b.t.c then if a.t.d = b.t.d then if a.t.t = b.t.t then if a.t.m = b.t.m then if a.s = b.s then Result.ok (r true) w else Result.ok (r false) w else Result.ok (r false) w else Result.ok (r false) w else Result.ok (r false) w else Result.ok (r false) w else Result.ok (r false) w) = Result.ok (r (decide (a = b))) w := by
  by_cases h : a = b
  · subst h; simp
  · rw [decide_eq_false h]
    repeat' split
    all_goals first | rfl | (exfalso; apply h; obtain ⟨⟨_, _, _, _, _⟩, _⟩ := a; obtain ⟨⟨_, _, _, _, _⟩, _⟩ := b; simp_all)
theorem eql_row (a b : Rw) (w : World) : (binOp .eql 57 a.v b.v).run Try.prog w = .ok (.bool (decide (a = b))) w := by
  unfold Rw.v
  rw [run_eql_struct]
  simp [go_sem]
  exact eqrow_run a b w .bool
theorem neq_row (a b : Rw) (w : World) : (binOp .neq 57 a.v b.v).run Try.prog w = .ok (.bool (!decide (a = b))) w := by
  unfold Rw.v
  rw [run_neq_struct]
  simp [go_sem]
  exact eqrow_run a b w (fun x => .bool (!x))
theorem mode_any (m : Int) (w : World) :
    Calls Try.prog 64 #[.int .i64 m] w fun e w' => e = .returned (.bool (decide (0 ≤ m ∧ m ≤ 3))) ∧ w' = w := by
  by_cases h0 : 0 ≤ m
  · have e : decide (0 ≤ m ∧ m ≤ 3) = decide (m < 4) := by simp [h0]; omega
    rw [e]
    clear e
    go_enter Try.func64, Try.ntmps64
    go_wp2
    go_ret
    exact ⟨rfl, rfl⟩
  · have e : decide (0 ≤ m ∧ m ≤ 3) = false := by simp [h0]
    rw [e]
    have h1 : m < 0 := by omega
    clear e h0
    go_enter Try.func64, Try.ntmps64
    go_wp2
    go_ret
    exact ⟨rfl, rfl⟩
set_option maxHeartbeats 1000000 in
theorem may_any (r : Rw) (w : World) :
    Calls Try.prog 65 #[r.v] w fun e w' => e = .returned (.bool (okW r)) ∧ Below w.heap.size w w' := by
  have CK := Lib.hid (Pm.chk_any r.t)
  have E : okW r = (chk r.t && (!r.s || r.t.d == r.t.t)) := rfl
  rw [E]
  obtain ⟨⟨i, c, d, t, m⟩, s⟩ := r
  unfold Pm.Tk.v at CK
  simp only [Rw.v] at *
  have H0 := Lib.hid ((bos_nil w).new #[.int .i64 i, .int .i64 c, .int .i64 d, .int .i64 t, .int .i64 m, .bool s] 57)
  generalize chk ⟨i, c, d, t, m⟩ = q at *
  clear E
  cases q <;> cases s <;> cases hdt : (d == t) <;>
  · go_enter Try.func65, Try.ntmps65
    go_wp2_with fail
    (with_reducible refine (CK.out _).mono ?_)
    rintro e w1 ⟨rfl, b1⟩
    have H1 := Lib.hid (H0.out.call b1)
    obtain ⟨c0, c1, c2, c3, c4, c5⟩ := cell6 (H1.out.cell 0 rfl)
    have Z := Lib.hid H1.out.bl
    clear b1 H0
    go_wp2
    go_ret
    exact ⟨rfl, Z.out⟩
end Go.Proofs.Ytnaanahgflbihaa.Tb
