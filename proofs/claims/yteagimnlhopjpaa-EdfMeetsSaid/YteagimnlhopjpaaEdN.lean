/- EdfMeets: tasks that fit, six numbers in a row, an executive beside them. -/
import Derived.Test.YteagimnlhopjpaaEdK
import Derived.Test.YteagimnlhopjpaaEdMeet
import Derived.Test.YteagimnlhopjpaaQpE
import Derived.Test.YteagimnlhopjpaaMPb
namespace Go.Proofs.Yteagimnlhopjpaa.Hj
open Go.ChangeShapes Go.WideShapes Go.ChangeAt Go.RowKit Go.Joins
open Ed (Jo)
open Pm (Tk TkAt Ts TRow Tri Tris)
open Ge (Seen)
set_option maxRecDepth 100000
set_option maxRecDepth 100000
set_option linter.unusedVariables false
set_option linter.unusedSimpArgs false
/-- tasks that fit, whose IDs are below n -/
structure Fits (n : Nat) (ts : List Tk) : Prop where
  chk : ∀ t ∈ ts, Pm.chk t = true
  id : ∀ t ∈ ts, 0 ≤ t.id ∧ t.id < (n : Int)
  nd : (ts.map (·.id)).Nodup
  len : ts.length ≤ n
  fit : ∀ s, 1 ≤ s → Dm.sum ts s ≤ s
theorem fits_nil : Fits 0 [] := ⟨(fun t h => by cases h), (fun t h => by cases h), List.nodup_nil, Nat.le_refl _, fun s h => by show (0 : Int) ≤ s; omega⟩
theorem Fits.up {n m : Nat} {ts : List Tk} (h : Fits n ts) (hm : n ≤ m) : Fits m ts := ⟨h.chk, fun t ht => by have := h.id t ht; omega, h.nd, Nat.le_trans h.len hm, h.fit⟩
theorem Fits.more {n : Nat} {ts : List Tk} {k : Tk} (h : Fits n ts) (hk : k.id = (n : Int)) (hT : Qp.testR (ts ++ [k]) = 0) : Fits (n + 1) (ts ++ [k]) := by
  obtain ⟨h1, h2, h3⟩ := Qp.testR_zero.1 hT
  have hr := (Qp.load_row h1).1
  refine ⟨fun t ht => Pm.rowB_all hr t ht, fun t ht => ?_, ?_, by have := h.len; simp; omega, h3⟩
  · rcases List.mem_append.1 ht with ht | ht
    · have := h.id t ht; omega
    · rw [List.mem_singleton.1 ht]; omega
  · rw [List.map_append]
    refine List.nodup_append.2 ⟨h.nd, by simp, fun a ha b hb => ?_⟩
    obtain ⟨t, ht, rfl⟩ := List.mem_map.1 ha
    simp at hb
    subst hb
    have := h.id t ht
    omega
/-- the rest of a number, made positive -/
theorem rest6 {x m : Int} (hm : 0 < m) : (x.tmod m + m) % m = x % m ∧ -m < x.tmod m ∧ x.tmod m < m := by
  have hb : (x.tmod m).natAbs < m.natAbs := Pm.tmod_lt (by omega)
  refine ⟨?_, by omega, by omega⟩
  rw [Int.add_emod_right]
  have h := Int.mul_tdiv_add_tmod x m
  have : x.tmod m = x - m * x.tdiv m := by omega
  rw [this, Int.sub_mul_emod_self_left]
def updN (f : Nat → Int) (i : Nat) (v : Int) (j : Nat) : Int := if j = i then v else f j
theorem updN_same (f : Nat → Int) (i : Nat) (v : Int) : updN f i v i = v := by unfold updN; simp
theorem updN_ne {f : Nat → Int} {i j : Nat} {v : Int} (h : j ≠ i) : updN f i v j = f j := by unfold updN; simp [h]
/-- six numbers in block b -/
structure Ar6 (b : Nat) (f : Nat → Int) (w : World) : Prop where
  c : ∀ j : Nat, j < 6 → w.cell? ⟨b, j, none⟩ = some (.int .i64 (f j))
  z : ∀ j : Nat, j < 6 → w.frozen? ⟨b, j, none⟩ = false
section
variable {b : Nat} {f : Nat → Int} {w w' : World}
theorem Ar6.lt (h : Ar6 b f w) : b < w.heap.size := World.block_lt_of_cell? _ _ (h.c 0 (by omega))
theorem Ar6.of_block (h : Ar6 b f w) (hb : w'.heap[b]? = w.heap[b]?) : Ar6 b f w' :=
  ⟨fun j hj => (World.cell?_of_block (by exact hb)).trans (h.c j hj), fun j hj => (World.frozen?_of_block (by exact hb)).trans (h.z j hj)⟩
theorem Ar6.call (h : Ar6 b f w) (hb : Below w.heap.size w w') : Ar6 b f w' := h.of_block (hb.block b h.lt)
theorem Ar6.set (h : Ar6 b f w) (i : Nat) (v : Int) : Ar6 b (updN f i v) (w.setCell ⟨b, i, none⟩ (.int .i64 v)) :=
  ⟨fun j hj => by
    by_cases hji : j = i
    · subst hji; rw [updN_same]; simp [go_sem, h.c j hj]
    · have hij : ¬ i = j := fun e => hji e.symm
      rw [updN_ne hji]
      simp [go_sem, hji, hij, h.c j hj], fun j hj => by simp [go_sem, h.z j hj]⟩
end
def z6 : Obj := .cells #[.int .i64 0, .int .i64 0, .int .i64 0, .int .i64 0, .int .i64 0, .int .i64 0] 56
theorem ar6_new (w : World) : Ar6 w.heap.size (fun _ => 0) (w.alloc z6) := by
  have key : ∀ j, j < 6 → j = 0 ∨ j = 1 ∨ j = 2 ∨ j = 3 ∨ j = 4 ∨ j = 5 := fun j h => by omega
  unfold z6
  refine ⟨fun j hj => ?_, fun j hj => ?_⟩ <;> rcases key j hj with rfl | rfl | rfl | rfl | rfl | rfl <;> simp [go_sem]
section
variable {LB x c : Nat} {K K' : List Nat} {s : List Jo} {nx : Nat → Int} {w w' : World}
theorem Ar6.left (h : Ar6 c nx w) (hc : c ∉ K) (m : MvK K w w') (n : NwK w K K') : Ar6 c nx w' ∧ c ∉ K' :=
  ⟨h.of_block (m.block c h.lt hc), fun hm => by
    rcases n c hm with e | e
    · exact hc e
    · have := h.lt; omega⟩
theorem Xq.put6 (h : Xq LB w x K s) {o : Nat} (v : Value) (ho : c ∉ K) : Xq LB (w.setCell ⟨c, o, none⟩ v) x K s :=
  h.of_blocks fun k hk => Below.heap_setCell _ _ _ _ (by rintro rfl; exact ho hk)
end
/-- the periods -/
def per8 : Obj := .cells #[.int .i64 2, .int .i64 3, .int .i64 4, .int .i64 5, .int .i64 6, .int .i64 8, .int .i64 10, .int .i64 12] 51
theorem per8_new (w : World) : ∀ k : Nat, k < 8 → ∃ p : Int, (w.alloc per8).cell? ⟨w.heap.size, k, none⟩ = some (.int .i64 p) ∧ 2 ≤ p ∧ p ≤ 12 := by
  have key : ∀ j, j < 8 → j = 0 ∨ j = 1 ∨ j = 2 ∨ j = 3 ∨ j = 4 ∨ j = 5 ∨ j = 6 ∨ j = 7 := fun j h => by omega
  unfold per8
  intro k hk
  rcases key k hk with rfl | rfl | rfl | rfl | rfl | rfl | rfl | rfl
  · exact ⟨2, by simp [go_sem], by omega, by omega⟩
  · exact ⟨3, by simp [go_sem], by omega, by omega⟩
  · exact ⟨4, by simp [go_sem], by omega, by omega⟩
  · exact ⟨5, by simp [go_sem], by omega, by omega⟩
  · exact ⟨6, by simp [go_sem], by omega, by omega⟩
  · exact ⟨8, by simp [go_sem], by omega, by omega⟩
  · exact ⟨10, by simp [go_sem], by omega, by omega⟩
  · exact ⟨12, by simp [go_sem], by omega, by omega⟩
/-- numbers that came in -/
def nc (n : Int) : List Value := [.int .i64 n]
theorem open_ints {H : Type} {enc : TypeId × Value → H} {W : World} {r : Reach} {b0 base : Nat} {spare : Nat → Bool} {held : Bool} {v : Value} {d : DataW H} {p : List MemPlace}
    (hok : Value.okWide Try.prog W r b0 49 v) (h : DataW.Trod enc Try.prog W base spare held 49 v d p) :
    ∃ (ao : Option Addr) (l : List Int) (cap : Nat), v = .slice ao l.length cap ∧ l.length ≤ 9223372036854775807 ∧ Seen nc 1 ao l W := by
  obtain ⟨ao, len, cap, rfl⟩ := okWide_slice Try.underlying49 hok
  obtain ⟨fuel, hf⟩ := h
  obtain ⟨ao', l, cap', e, h1, h2, -, h3⟩ := open_els (f := nc) (n := 1) Try.underlying49 (by kernel_rfl) (by omega) (fun _ => rfl) (fun m cs z hl ht => by
    obtain ⟨u, rfl⟩ := List.length_eq_one_iff.1 hl
    obtain ⟨n, e, -, -⟩ := DataW.trod_int Try.underlying3 ht
    exact ⟨n, by rw [e]; rfl⟩) (by simpa [Value.cells] using hf)
  exact ⟨ao', l, cap', e, h1, h3⟩
theorem seen_num {ao : Option Addr} {l : List Int} {w : World} (h : Seen nc 1 ao l w) {i : Nat} (hi : i < l.length) : ∃ b off, ao = some ⟨b, off, none⟩ ∧ w.cell? ⟨b, off + i, none⟩ = some (.int .i64 l[i]) := by
  obtain ⟨b, off, e, -, hc⟩ := h (by omega)
  exact ⟨b, off, e, by simpa using hc i l[i] (List.getElem?_eq_getElem hi) 0 _ rfl⟩
/-- i numbers were tried -/
def MtRel (n : Nat) (w1 : World) (m : Nat) (s8 s10 : Value) (wr : World) : Prop :=
  ∃ (i : Nat) (ts : List Tk) (v : Value), i + m = n ∧ s10 = .int .i64 (i : Int) ∧ v = s8 ∧ Fits i ts ∧ TRow w1.heap.size wr v ts ∧ Below w1.heap.size w1 wr
def MtEnd (w1 : World) (s8 : Value) (wr : World) : Prop := ∃ (ts : List Tk) (v : Value), v = s8 ∧ Fits 6 ts ∧ TRow w1.heap.size wr v ts ∧ Below w1.heap.size w1 wr
/-- it is now -/
def SlRel (ts : List Tk) (x c : Nat) (WL : World) (m : Nat) (s16 s17 : Value) (wr : World) : Prop :=
  ∃ (now n : Nat) (K : List Nat) (s : List Jo) (nx : Nat → Int), now + m = 100 ∧ s16 = .int .i64 (n : Int) ∧ s17 = .int .i64 (now : Int) ∧ Xq WL.heap.size wr x K s ∧ Ar6 c nx wr ∧ c ∉ K ∧ Ed.Met ts nx s (now : Int) ∧ s.length ≤ n ∧ n ≤ 6 * now ∧ Below WL.heap.size WL wr
/-- i tasks were looked at -/
def TkRel (ts : List Tk) (x c : Nat) (WL : World) (now n0 : Nat) (m : Nat) (s16 s18 : Value) (wr : World) : Prop :=
  ∃ (i n : Nat) (K : List Nat) (s : List Jo) (nx : Nat → Int), i + m = ts.length ∧ s16 = .int .i64 (n : Int) ∧ s18 = .int .i64 (i : Int) ∧ Xq WL.heap.size wr x K s ∧ Ar6 c nx wr ∧ c ∉ K ∧ Ed.Met ts nx s (now : Int) ∧ (∀ j ∈ s, (now : Int) < j.dl) ∧ s.length ≤ n ∧ n ≤ n0 + i ∧ Below WL.heap.size WL wr
theorem run_len6 (s : List Jo) : (Ed.runR s).1.length ≤ s.length := by
  cases s with
  | nil => simp [Ed.runR]
  | cons a t => rw [Ed.run_cons]; split <;> simp
theorem add_len6 (s : List Jo) (j : Jo) : (Ed.addR s j).1.length ≤ s.length + 1 := by
  unfold Ed.addR
  split
  · simp
  · split
    · simp
    · rw [Hp.ins_len]; exact Nat.le_refl _
end Go.Proofs.Yteagimnlhopjpaa.Hj
