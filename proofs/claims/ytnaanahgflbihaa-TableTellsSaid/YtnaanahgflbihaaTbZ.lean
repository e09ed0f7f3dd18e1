/- Rows of texts that hold texts alone, beside rows of the set; two numbers that came in. -/
import Derived.Test.YtnaanahgflbihaaTbU
import Derived.Test.YtnaanahgflbihaaOpW
namespace Go.Proofs.Ytnaanahgflbihaa.Tb
open Go.ChangeShapes Go.WideShapes Go.ChangeAt Go.RowKit Go.Joins
open Pm (I64)
open Ge (El Seen Row)
open Oc (mkB)
open Ox (one_of i64_wf)
set_option maxRecDepth 100000
set_option maxRecDepth 100000
set_option linter.unusedVariables false
set_option linter.unusedSimpArgs false
theorem open_two {H : Type} {enc : TypeId × Value → H} {W : World} {r : Reach} {b0 base : Nat} {spare : Nat → Bool} {held : Bool} {v : Value} {d : DataW H} {p : List MemPlace}
    (hok : Value.okWide Try.prog W r b0 36 v) (h : DataW.Trod enc Try.prog W base spare held 36 v d p) :
    ∃ a b : Int, v = .agg #[.int .i64 a, .int .i64 b] ∧ I64 a ∧ I64 b := by
  have ht : Try.prog.underlying 36 = some (.array 2 3) := Try.underlying36
  obtain ⟨cv, rfl, hsz, _⟩ : ∃ cs, v = .agg cs ∧ cs.size = Try.prog.cellsOf 36 ∧ Row.okWide Try.prog W r b0 36 cs := by
    simpa [Value.okWide, ht] using hok
  have hC : Try.prog.cellsOf 36 = 2 := by kernel_rfl
  rw [hC] at hsz
  obtain ⟨fuel, hf⟩ := h
  have ecs : (Value.agg cv).cells.toList = cv.toList := by simp [Value.cells]
  rw [ecs] at hf
  obtain ⟨cs, hcs⟩ : ∃ cs, cs = cv.toList := ⟨_, rfl⟩
  rw [← hcs] at hf
  have hl3 : cs.length = 2 := by rw [hcs]; simpa using hsz
  have hcv : cv = cs.toArray := by rw [hcs]
  obtain ⟨xs, m, rfl, -, -, hl, hx⟩ := DataW.trod_array ht hf
  have h1 : Try.prog.cellsOf 3 = 1 := by kernel_rfl
  have key : ∀ i (hi : i < cs.length), ∃ z, cs[i] = .int .i64 z ∧ I64 z := by
    intro i hi
    have := hx i (by omega)
    rw [h1, Nat.mul_one, one_of hi, List.getElem?_eq_getElem (by omega)] at this
    obtain ⟨z, e0, -, wz⟩ := DataW.trod_int Try.underlying3 this
    exact ⟨z, by simpa using e0, i64_wf wz⟩
  obtain ⟨a, ea, wa⟩ := key 0 (by omega)
  obtain ⟨b, eb, wb⟩ := key 1 (by omega)
  refine ⟨a, b, ?_, wa, wb⟩
  clear key hx hf hcs
  subst hcv
  match cs, hl3, ea, eb with
  | [u, v], _, ea, eb =>
    simp at ea eb
    subst ea eb
    rfl
/-- the row's block holds texts alone -/
def Only (v : Value) (w : World) : Prop := ∀ g, v.ownBlock = some g → ∃ cur T fz, w.heap[g]? = some (.cells cur T fz) ∧ ∀ u ∈ cur.toList, ∃ s, u = .string s
theorem only_nil (w : World) : Only (.slice none 0 0) w := fun g e => by cases e
theorem Only.call {v : Value} {w w' : World} (h : Only v w) (hb : Below w.heap.size w w') : Only v w' := fun g e => by
  obtain ⟨cur, T, fz, h1, h2⟩ := h g e
  exact ⟨cur, T, fz, (hb.block g (Array.getElem?_eq_some_iff.1 h1).1).trans h1, h2⟩
/-- rows of the set lie elsewhere -/
theorem Only.ne {v : Value} {w : World} {b off : Nat} {l : List Rw} (h : Only v w) (h0 : 0 < l.length) (hat : ∀ i x, l[i]? = some x → ∀ j u, (Rw.cs x)[j]? = some u → w.cell? ⟨b, off + i * 6 + j, none⟩ = some u) : v.ownBlock ≠ some b := fun e => by
  obtain ⟨cur, T, fz, h1, h2⟩ := h b e
  have := hat 0 l[0] (List.getElem?_eq_getElem h0) 0 _ rfl
  simp only [World.cell?, h1] at this
  obtain ⟨s, hs⟩ := h2 _ (Array.mem_toList_iff.2 (Array.mem_of_getElem? this))
  cases hs
theorem Sl.grown {u v : Value} {l : List Rw} {w w' : World} {ao : Option Addr} {cap : Nat} (h : Sl u l w ao cap) (ho : Only v w) (hg : w.grownBy w' v.ownBlock) : Sl u l w' ao cap :=
  ⟨h.eq, h.le, h.nil, fun h0 => by
    obtain ⟨b, off, rfl, hb, hat⟩ := h.seen h0
    have hne := ho.ne h0 hat
    have e : w'.heap[b]? = w.heap[b]? := hg.block b hb (fun e => hne e.symm)
    exact ⟨b, off, rfl, Nat.lt_of_lt_of_le hb hg.size, fun i x hi j u hj => (World.cell?_of_block (w := w) (a := ⟨b, off + i * 6 + j, none⟩) e).trans (hat i x hi j u hj)⟩⟩
theorem zero_texts {n : Nat} : ∀ u ∈ (Builtin.zeroCells (Value.string ⟨#[]⟩).cells n).toList, ∃ s, u = .string s := fun u hu => by
  simp [Builtin.zeroCells, Value.cells] at hu
  obtain ⟨a, -, h⟩ := hu
  rw [Nat.mod_one] at h
  exact ⟨⟨#[]⟩, h.symm⟩
/-- a text behind them, beside boxes and rows of the set -/
theorem app_text {L : List (Nat × Array Value × Nat)} {w W : World} {v : Value} {xs : List (List UInt8)} (x : List UInt8) (h : Bos L w W) (hn : ∀ y ∈ L, y.2.2 ≠ 9) (hr : Row xcs 1 9 w.heap.size W v xs) (ho : Only v W) (hl : xs.length ≤ 90000) :
    ∃ v' W', (Builtin.append_ #[50, 50] 50 #[v, .slice (some ⟨W.heap.size, 0, none⟩) 1 1]).run Try.prog (W.alloc (.cells #[.string (mkB x)] 9)) = .ok v' W' ∧ Row xcs 1 9 w.heap.size W' v' (xs ++ [x]) ∧ Bos L w W' ∧ Only v' W' ∧ (∀ (u : Value) (l : List Rw) ao cap, Sl u l W ao cap → Sl u l W' ao cap) := by
  have ba : Below W.heap.size W (W.alloc (.cells #[.string (mkB x)] 9)) := (Below.refl _ _).alloc (Nat.le_refl _) _
  have h' := h.call ba
  have hr' := hr.call ba
  have ho' := ho.call ba
  have hx : ∀ j u, (xcs x)[j]? = some u → (W.alloc (.cells #[.string (mkB x)] 9)).cell? ⟨W.heap.size, 0 + j, none⟩ = some u := fun j u hj => by
    rw [Nat.zero_add, Lib.cell_of_heap (heap_alloc_new _ _)]
    simpa [xcs] using hj
  obtain ⟨v', W', h1, h2, h3, h4⟩ := Ge.row_one elX (x := x) (b := W.heap.size) (o := 0) (c := 1) (ty := 50) hr' hx h'.bl.size (by omega)
  refine ⟨v', W', h1, h2, h'.grow (fun y hy => row_neT hr' (h'.at_ y hy).1 (hn y hy)) (fun g e => (hr'.lt g e).1) h4, ?_, fun u l ao cap hs => (hs.call ba).grown ho' h4⟩
  obtain ⟨i, hi, hz⟩ := Option.map_eq_some_iff.1 elX.info
  simp only [Prod.mk.injEq] at hz
  obtain ⟨hz, hsz, hby⟩ := hz
  have hnews : ∀ j u, [Value.string (mkB x)][j]? = some u → (W.alloc (.cells #[.string (mkB x)] 9)).cell? ((⟨W.heap.size, 0, none⟩ : Addr).add j) = some u := fun j u hj => by
    rw [Ge.addr_add]; exact hx j u hj
  have hB2 := h'.bl.size
  clear hx h2 h4 h h' hr ho ba
  generalize W.alloc (.cells #[.string (mkB x)] 9) = W1 at *
  have fin : ∀ (W2 : World) (g : Nat) (cs : Array Value) (T : TypeId) (fz : Nat × Nat) (k c : Nat), Result.ok v' W' = Result.ok (.slice (some ⟨g, 0, none⟩) k c) W2 → W2.heap[g]? = some (.cells cs T fz) → (∀ u ∈ cs.toList, ∃ s, u = .string s) → Only v' W' := by
    intro W2 g cs T fz k c e hg hall
    simp only [Result.ok.injEq] at e
    obtain ⟨rfl, rfl⟩ := e
    intro g' e
    have : g = g' := by simpa [Value.ownBlock] using e
    subst this
    exact ⟨cs, T, fz, hg, hall⟩
  have hl63 : xs.length + 1 ≤ 90001 := by omega
  rcases hr'.2 with ⟨rfl, h0⟩ | ⟨g, c, cur, rfl, hB, hg, hcap, hm, hcs, ht⟩
  · have hr1 := run_append_nil (P := Try.prog) (w := W1) 50 50 9 i (.string ⟨#[]⟩) elX.sl hi hz ⟨W.heap.size, 0, none⟩ 1 1 [.string (mkB x)] (by simp [hsz]) hnews (by omega) (by omega) (by rw [hby]; omega)
    refine fin _ W1.heap.size _ _ _ _ _ (h1.symm.trans hr1) (heap_alloc_new W1.drew _) (fun u hu => ?_)
    rw [Array.toList_append] at hu
    rcases List.mem_append.1 hu with hu | hu
    · exact ⟨mkB x, by simpa using hu⟩
    · exact zero_texts u hu
  · obtain ⟨cur2, T2, fz2, hg2, hall⟩ := ho' g rfl
    rw [hg] at hg2
    simp only [Option.some.injEq, Obj.cells.injEq] at hg2
    obtain ⟨rfl, rfl, rfl⟩ := hg2
    by_cases hroom : xs.length + 1 ≤ c
    · have hr1 := run_append_room (P := Try.prog) (w := W1) 50 50 9 i elX.sl hi g xs.length c cur hg ⟨W.heap.size, 0, none⟩ 1 1 [.string (mkB x)] (by simp [hsz]) hnews (by simp [Value.oneCell']) hroom (by rw [hsz, hcs]; simp; omega)
      refine fin _ g _ _ _ _ _ (h1.symm.trans hr1) (setRow_heap W1 g cur _ _ _ hg) (fun u hu => ?_)
      simp only [List.mem_append, or_assoc] at hu
      rcases hu with hu | hu | hu
      · exact hall u (List.mem_of_mem_take hu)
      · exact ⟨mkB x, by simpa using hu⟩
      · exact hall u (List.mem_of_mem_drop hu)
    · have holds := World.ownsRow.cells hr' (g := g) rfl
      have hr1 := run_append_grow (P := Try.prog) W1 50 50 9 i (.string ⟨#[]⟩) elX.sl hi hz ⟨g, 0, none⟩ xs.length c _ (by rw [hsz]; exact hr'.1) holds ⟨W.heap.size, 0, none⟩ 1 1 [.string (mkB x)] (by simp [hsz]) hnews (by omega) (by omega) (growslice_fits (by omega) (by rw [hby]; omega))
      refine fin _ W1.heap.size _ _ _ _ _ (h1.symm.trans hr1) (heap_alloc_new W1.drew _) (fun u hu => ?_)
      rw [Array.toList_append, Array.toList_append] at hu
      simp only [List.mem_append, or_assoc] at hu
      rcases hu with hu | hu | hu
      · simp only [Ge.flat, List.mem_flatMap] at hu
        obtain ⟨y, -, hu⟩ := hu
        exact ⟨mkB y, by simpa [xcs] using hu⟩
      · exact ⟨mkB x, by simpa using hu⟩
      · exact zero_texts u hu
end Go.Proofs.Ytnaanahgflbihaa.Tb
