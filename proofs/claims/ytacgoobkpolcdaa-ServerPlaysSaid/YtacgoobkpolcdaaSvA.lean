/- Package server in memory: a pool whose two maps read as lists; New, Backlog, Taken, Ask, Take, Drop. -/
import Derived.Test.YtacgoobkpolcdaaSvN
import Derived.Maps.OwnSet
import Derived.Maps.OwnOps
namespace Go.Proofs.Ytacgoobkpolcdaa.Sv
open Go.ChangeShapes Go.WideShapes Go.ChangeAt Go.RowKit Go.Joins
set_option maxRecDepth 100000
set_option maxRecDepth 100000
set_option linter.unusedVariables false
set_option linter.unusedSimpArgs false
theorem law : Go.Maps.Keyed Try.prog 3 := Go.Maps.int_keyed Try.underlying3
theorem zeroI (w : World) : (zeroValue 2).run Try.prog w = .ok (.int .i64 0) w := by kernel_rfl
/-- a number of 64 bits -/
def I64 (i : Int) : Prop := -9223372036854775808 ≤ i ∧ i ≤ 9223372036854775807
theorem I64.wf {i : Int} (h : I64 i) : (Lit.int .i64 i).wf = true := WalkArith.wf_i64 h
/-- all blocks but these are as they were -/
structure MvK (K : List Nat) (w w' : World) : Prop where
  os : w'.os = w.os
  tape : w'.tape = w.tape
  output : w'.output = w.output
  size : w.heap.size ≤ w'.heap.size
  block : ∀ k, k < w.heap.size → k ∉ K → w'.heap[k]? = w.heap[k]?
/-- its blocks: those that were its own, or new ones -/
def NwK (w : World) (K K' : List Nat) : Prop := ∀ k ∈ K', k ∈ K ∨ w.heap.size ≤ k
theorem MvK.refl (K : List Nat) (w : World) : MvK K w w := ⟨rfl, rfl, rfl, Nat.le_refl _, fun _ _ _ => rfl⟩
theorem MvK.of_below {K : List Nat} {w w' : World} (hb : Below w.heap.size w w') : MvK K w w' := ⟨hb.os, hb.tape, hb.output, hb.size, fun k hk _ => hb.block k hk⟩
theorem MvK.trans {K K' : List Nat} {u v w : World} (h : MvK K u v) (g : MvK K' v w) (n : NwK u K K') : MvK K u w :=
  ⟨g.os.trans h.os, g.tape.trans h.tape, g.output.trans h.output, Nat.le_trans h.size g.size, fun k hk hn =>
    (g.block k (by have := h.size; omega) (fun hm => by rcases n k hm with e | e; exact hn e; omega)).trans (h.block k hk hn)⟩
theorem MvK.of_grown {K : List Nat} {m : Nat} {w w' : World} (h : w.grownBy w' (some m)) (hm : m ∈ K) : MvK K w w' :=
  ⟨h.os, h.tape, h.output, h.size, fun k hk hn => h.block k hk (fun e => hn (by cases e; exact hm))⟩
theorem MvK.set {K : List Nat} {g o : Nat} {u w : World} (h : MvK K u w) (x : Value) (hg : g ∈ K ∨ u.heap.size ≤ g) : MvK K u (w.setCell ⟨g, o, none⟩ x) :=
  ⟨h.os, h.tape, h.output, by simp [World.setCell]; exact h.size, fun k hk hn => by
    rw [Below.heap_setCell _ _ _ _ (show k ≠ g by rintro rfl; rcases hg with e | e; exact hn e; omega)]; exact h.block k hk hn⟩
theorem NwK.refl (w : World) (K : List Nat) : NwK w K K := fun k hk => .inl hk
theorem MvK.alloc {K : List Nat} {u w : World} (h : MvK K u w) (o : Obj) : MvK K u (w.alloc o) :=
  h.trans (MvK.of_below (K := K) ((Below.refl _ _).alloc (Nat.le_refl _) _)) (NwK.refl _ _)
/-- block m is a map that reads as the list -/
def Km (w : World) (m : Nat) (L : List Kn) : Prop := w.ownsMap Try.prog 3 rel m L.length (toD L)
theorem Km.of {w : World} {m n : Nat} {L : List Kn} (h : w.ownsMap Try.prog 3 rel m n (toD L)) : Km w m L := by
  obtain ⟨es, clock, hb, F, hs, hD⟩ := h
  refine ⟨es, clock, hb, F, ?_, hD⟩
  have := congrArg Maps.size hD
  rw [size_toD] at this
  simp only [Maps.size, length_sorted, List.length_map, Array.length_toList] at this
  omega
theorem Km.of_block {w w' : World} {m : Nat} {L : List Kn} (h : Km w m L) (hb : w'.heap[m]? = w.heap[m]?) : Km w' m L := by
  obtain ⟨es, clock, h1, rest⟩ := h
  exact ⟨es, clock, by rw [hb]; exact h1, rest⟩
theorem Km.lt {w : World} {m : Nat} {L : List Kn} (h : Km w m L) : m < w.heap.size := World.ownsMap.lt h
theorem Km.mapped {w : World} {m : Nat} {L : List Kn} (h : Km w m L) : ∃ es clock, w.heap[m]? = some (.map es clock) := by
  obtain ⟨es, clock, hb, -⟩ := h
  exact ⟨es, clock, hb⟩
/-- a pool in block g, whose maps are a (what waits) and b (what was taken) -/
structure Pm (B : Nat) (w : World) (g : Nat) (a b : Option Nat) (L T : List Kn) : Prop where
  lb : B ≤ g
  blk : w.heap[g]? = some (.cells #[.map a, .map b] 44 (0, 0))
  fst : ∀ m, a = some m → B ≤ m ∧ Km w m L
  snd : ∀ m, b = some m → B ≤ m ∧ Km w m T
  nil : a = none → L = []
  nil2 : b = none → T = []
  both : a = none ↔ b = none
  ne : ∀ m, a = some m → b ≠ some m
  ok : Ok L
  okt : OkT T
def ks (g : Nat) (a b : Option Nat) : List Nat := g :: (a.toList ++ b.toList)
section
variable {B g : Nat} {a b : Option Nat} {L T L' T' : List Kn} {u w w' : World}
theorem Pm.lt (h : Pm B w g a b L T) : g < w.heap.size := lt_of_heap h.blk
theorem Pm.ks (h : Pm B w g a b L T) : ∀ k ∈ ks g a b, B ≤ k ∧ k < w.heap.size := by
  intro k hk
  simp only [Sv.ks, List.mem_cons, List.mem_append, Option.mem_toList] at hk
  rcases hk with rfl | hk | hk
  · exact ⟨h.lb, h.lt⟩
  · exact ⟨(h.fst k hk).1, (h.fst k hk).2.lt⟩
  · exact ⟨(h.snd k hk).1, (h.snd k hk).2.lt⟩
theorem Pm.ga (h : Pm B w g a b L T) : a ≠ some g ∧ b ≠ some g := by
  constructor
  · intro e
    obtain ⟨es, clock, hb⟩ := (h.fst g e).2.mapped
    rw [h.blk] at hb; cases hb
  · intro e
    obtain ⟨es, clock, hb⟩ := (h.snd g e).2.mapped
    rw [h.blk] at hb; cases hb
theorem Pm.mono {C : Nat} (h : Pm B w g a b L T) (hC : C ≤ B) : Pm C w g a b L T :=
  ⟨by have := h.lb; omega, h.blk, fun m e => ⟨by have := (h.fst m e).1; omega, (h.fst m e).2⟩, fun m e => ⟨by have := (h.snd m e).1; omega, (h.snd m e).2⟩, h.nil, h.nil2, h.both, h.ne, h.ok, h.okt⟩
theorem Pm.of_blocks (h : Pm B w g a b L T) (hb : ∀ k ∈ Sv.ks g a b, w'.heap[k]? = w.heap[k]?) : Pm B w' g a b L T :=
  ⟨h.lb, (hb g (by simp [Sv.ks])).trans h.blk, fun m e => ⟨(h.fst m e).1, (h.fst m e).2.of_block (hb m (by simp [Sv.ks, e]))⟩, fun m e => ⟨(h.snd m e).1, (h.snd m e).2.of_block (hb m (by simp [Sv.ks, e]))⟩, h.nil, h.nil2, h.both, h.ne, h.ok, h.okt⟩
theorem Pm.call (h : Pm B w g a b L T) (hb : Below w.heap.size w w') : Pm B w' g a b L T := h.of_blocks fun k hk => hb.block k (h.ks k hk).2
theorem Pm.c0 (h : Pm B w g a b L T) : w.cell? ⟨g, 0, none⟩ = some (.map a) := (Lib.cell_of_heap h.blk 0).trans rfl
theorem Pm.c1 (h : Pm B w g a b L T) : w.cell? ⟨g, 1, none⟩ = some (.map b) := (Lib.cell_of_heap h.blk 1).trans rfl
theorem Pm.f0 (h : Pm B w g a b L T) (o : Nat) : w.frozen? ⟨g, o, none⟩ = false := Lib.frozen_of_heap h.blk o
theorem MvK.below (m : MvK (ks g a b) w w') (h : Pm B w g a b L T) (hb : Below B u w) : Below B u w' :=
  hb.trans ⟨m.os, m.tape, m.output, m.size, fun k hk => m.block k (by have := h.lb; have := h.lt; omega) (fun hm => by have := (h.ks k hm).1; omega)⟩
/-- what waits has turned -/
theorem Pm.turn {m : Nat} (h : Pm B w g (some m) b L T) (hg : w.grownBy w' (some m)) (hk : Km w' m L') (ho : Ok L') : Pm B w' g (some m) b L' T :=
  ⟨h.lb, (hg.block g h.lt (fun e => h.ga.1 e.symm)).trans h.blk, (fun k e => by cases e; exact ⟨(h.fst m rfl).1, hk⟩), fun k e => ⟨(h.snd k e).1, (h.snd k e).2.of_block (hg.block k (h.snd k e).2.lt (fun e2 => h.ne k e2.symm e))⟩, (fun e => by cases e), h.nil2, h.both, h.ne, ho, h.okt⟩
/-- what was taken has turned -/
theorem Pm.turn2 {m : Nat} (h : Pm B w g a (some m) L T) (hg : w.grownBy w' (some m)) (hk : Km w' m T') (ho : OkT T') : Pm B w' g a (some m) L T' :=
  ⟨h.lb, (hg.block g h.lt (fun e => h.ga.2 e.symm)).trans h.blk, fun k e => ⟨(h.fst k e).1, (h.fst k e).2.of_block (hg.block k (h.fst k e).2.lt (fun e2 => h.ne k e e2.symm))⟩, (fun k e => by cases e; exact ⟨(h.snd m rfl).1, hk⟩), h.nil, (fun e => by cases e), h.both, h.ne, h.ok, ho⟩
/-- a number that is looked up -/
theorem look_run {m : Nat} (h : Km w m L) (i : Int) (hi : I64 i) :
    (Instr.lookup 42 (.map (some m)) (.int .i64 i) false).run Try.prog w = .ok (.int .i64 (vof L i)) w := by
  obtain ⟨v, ps, hr, hv⟩ := World.ownsMap.lookup h law Try.underlying42 (zeroI w) (rel_mk 0) (Go.Maps.keyOf_int_mk Try.underlying3 hi.wf)
  rw [hr]
  rw [atKey_toD] at hv
  obtain ⟨c, rfl, hz⟩ := rel_inv hv
  unfold vof
  cases hl : lookK L i with
  | none => rw [hl] at hz; simp at hz; obtain rfl := hz.1; rfl
  | some k => rw [hl] at hz; simp [kd] at hz; obtain rfl := hz.1; rfl
theorem look_none0 (i : Int) (hi : I64 i) :
    (Instr.lookup 42 (.map none) (.int .i64 i) false).run Try.prog w = .ok (.int .i64 0) w := by
  have := Maps.look_nil (w := w) false law Try.underlying42 (zeroI _) (Go.Maps.keyOf_int_mk Try.underlying3 hi.wf)
  simpa using this
theorem Pm.look (h : Pm B w g a b L T) (i : Int) (hi : I64 i) : (Instr.lookup 42 (.map a) (.int .i64 i) false).run Try.prog w = .ok (.int .i64 (vof L i)) w := by
  cases a with
  | none => rw [h.nil rfl]; exact look_none0 i hi
  | some m => exact look_run (h.fst m rfl).2 i hi
theorem Pm.look2 (h : Pm B w g a b L T) (i : Int) (hi : I64 i) : (Instr.lookup 42 (.map b) (.int .i64 i) false).run Try.prog w = .ok (.int .i64 (vof T i)) w := by
  cases b with
  | none => rw [h.nil2 rfl]; exact look_none0 i hi
  | some m => exact look_run (h.snd m rfl).2 i hi
theorem Pm.made (h : Pm B w g a b L T) {i : Int} (hi : 0 < vof L i) : ∃ m t, a = Option.some m ∧ b = Option.some t := by
  cases a with
  | none => rw [h.nil rfl] at hi; simp [vof, lookK] at hi
  | some m =>
    cases b with
    | none => exact absurd (h.both.2 rfl) (by simp)
    | some t => exact ⟨m, t, rfl, rfl⟩
/-- a number is put among those that wait -/
theorem Pm.put {m : Nat} (h : Pm B w g (Option.some m) b L T) (i v : Int) (hi : 0 ≤ i ∧ i ≤ 1023) (hv : 1 ≤ v ∧ v ≤ 1099511627776) :
    ∃ w', (Instr.mapUpdate 42 (.map (Option.some m)) (.int .i64 i) (.int .i64 v)).run Try.prog w = .ok () w' ∧ Pm B w' g (Option.some m) b (Sv.put L ⟨i, v⟩) T ∧ MvK (Sv.ks g (Option.some m) b) w w' := by
  have hI : I64 i := by unfold I64; omega
  obtain ⟨w', hr, ho, hg⟩ := World.ownsMap.update (h.fst m rfl).2 law Try.underlying42 (by have := h.ok.len; unfold maxLen; omega) (Go.Maps.keyOf_int_mk Try.underlying3 hI.wf) (rel_mk v)
  rw [put_toD L ⟨i, v⟩] at ho
  exact ⟨w', hr, h.turn hg (Km.of ho) (h.ok.put hi hv), MvK.of_grown hg (by simp [Sv.ks])⟩
theorem Pm.put2 {m : Nat} (h : Pm B w g a (Option.some m) L T) (i v : Int) (hi : 0 ≤ i ∧ i ≤ 1023) (hv : -9223372036854775808 ≤ v ∧ v ≤ 9223372036854775807) :
    ∃ w', (Instr.mapUpdate 42 (.map (Option.some m)) (.int .i64 i) (.int .i64 v)).run Try.prog w = .ok () w' ∧ Pm B w' g a (Option.some m) L (Sv.put T ⟨i, v⟩) ∧ MvK (Sv.ks g a (Option.some m)) w w' := by
  have hI : I64 i := by unfold I64; omega
  obtain ⟨w', hr, ho, hg⟩ := World.ownsMap.update (h.snd m rfl).2 law Try.underlying42 (by have := h.okt.len; unfold maxLen; omega) (Go.Maps.keyOf_int_mk Try.underlying3 hI.wf) (rel_mk v)
  rw [put_toD T ⟨i, v⟩] at ho
  exact ⟨w', hr, h.turn2 hg (Km.of ho) (h.okt.put hi hv), MvK.of_grown hg (by simp [Sv.ks])⟩
/-- a number is struck -/
theorem Pm.del (h : Pm B w g a b L T) (i : Int) (hi : I64 i) (ty : TypeId) :
    ∃ w', (Builtin.delete_ #[42, 3] ty #[.map a, .int .i64 i]).run Try.prog w = .ok (.tuple #[]) w' ∧ Pm B w' g a b (cut L i) T ∧ MvK (Sv.ks g a b) w w' := by
  cases a with
  | none =>
    refine ⟨w, Maps.drop_nil law Try.underlying42 (Go.Maps.keyOf_int_mk Try.underlying3 hi.wf) ty, ?_, MvK.refl _ _⟩
    obtain rfl := h.nil rfl
    exact h
  | some m =>
    obtain ⟨w', hr, ho, ht⟩ := World.ownsMap.drop (h.fst m rfl).2 law Try.underlying42 (Go.Maps.keyOf_int_mk Try.underlying3 hi.wf) ty
    rw [del_toD] at ho
    exact ⟨w', hr, h.turn ht.grown (Km.of ho) (h.ok.cut i), MvK.of_grown ht.grown (by simp [Sv.ks])⟩
theorem Pm.del2 (h : Pm B w g a b L T) (i : Int) (hi : I64 i) (ty : TypeId) :
    ∃ w', (Builtin.delete_ #[42, 3] ty #[.map b, .int .i64 i]).run Try.prog w = .ok (.tuple #[]) w' ∧ Pm B w' g a b L (cut T i) ∧ MvK (Sv.ks g a b) w w' := by
  cases b with
  | none =>
    refine ⟨w, Maps.drop_nil law Try.underlying42 (Go.Maps.keyOf_int_mk Try.underlying3 hi.wf) ty, ?_, MvK.refl _ _⟩
    obtain rfl := h.nil2 rfl
    exact h
  | some m =>
    obtain ⟨w', hr, ho, ht⟩ := World.ownsMap.drop (h.snd m rfl).2 law Try.underlying42 (Go.Maps.keyOf_int_mk Try.underlying3 hi.wf) ty
    rw [del_toD] at ho
    exact ⟨w', hr, h.turn2 ht.grown (Km.of ho) (h.okt.cut i), MvK.of_grown ht.grown (by simp [Sv.ks])⟩
end
theorem eqlSome (m : Nat) (w : World) : (binOp .eql 42 (.map (some m)) (.map none)).run Try.prog w = .ok (.bool false) w := by kernel_rfl
theorem eqlNil (w : World) : (binOp .eql 42 (.map none) (.map none)).run Try.prog w = .ok (.bool true) w := by kernel_rfl
/-- its maps are made -/
theorem pm_made {B g : Nat} {w : World} (h : Pm B w g none none [] []) : Pm B ((((w.setCell ⟨g, 0, none⟩ (.map (some w.heap.size))).setCell ⟨g, 1, none⟩ (.map (some (w.heap.size + 1)))).alloc (.map #[] 0)).alloc (.map #[] 0)) g (some w.heap.size) (some (w.heap.size + 1)) [] [] := by
  have hl := h.lt
  have hlb := h.lb
  obtain ⟨V, hV⟩ : ∃ V, V = (w.setCell ⟨g, 0, none⟩ (.map (some w.heap.size))).setCell ⟨g, 1, none⟩ (.map (some (w.heap.size + 1))) := ⟨_, rfl⟩
  have e : V.heap.size = w.heap.size := by rw [hV]; simp [World.setCell]
  have hb : V.heap[g]? = some (.cells #[.map (some w.heap.size), .map (some (w.heap.size + 1))] 44 (0, 0)) := by rw [hV]; simp [World.setCell, Array.getElem?_modify, h.blk]
  rw [← hV]
  have k1 := World.ownsMap_made (H := Unit) V Try.prog 3 rel
  have k2 := World.ownsMap_made (H := Unit) (V.alloc (.map #[] 0)) Try.prog 3 rel
  have e2 : (V.alloc (.map #[] 0)).heap.size = w.heap.size + 1 := by simp [e]
  rw [e] at k1
  rw [e2] at k2
  have q1 : Km ((V.alloc (.map #[] 0)).alloc (.map #[] 0)) w.heap.size [] := Km.of_block (w := V.alloc (.map #[] 0)) k1 (((Below.refl _ _).alloc (Nat.le_refl _) _).block _ (by omega))
  refine ⟨hlb, ?_, (fun m e1 => ?_), (fun m e1 => ?_), (fun e1 => by cases e1), (fun e1 => by cases e1), ⟨(fun e1 => by cases e1), (fun e1 => by cases e1)⟩, (fun m e1 e2 => ?_), Ok.nil, OkT.nil⟩
  · rw [((Below.refl _ _).alloc (Nat.le_refl _) _).block g (by omega), ((Below.refl _ _).alloc (Nat.le_refl _) _).block g (by omega)]
    exact hb
  · cases e1; exact ⟨by omega, q1⟩
  · cases e1; exact ⟨by omega, k2⟩
  · simp at e1 e2; omega
theorem pm_new (w : World) : Pm w.heap.size (w.alloc (.cells #[.map none, .map none] 44)) w.heap.size none none [] [] :=
  ⟨Nat.le_refl _, heap_alloc_new w _, (fun m e => by cases e), (fun m e => by cases e), fun _ => rfl, fun _ => rfl, Iff.rfl, (fun m e => by cases e), Ok.nil, OkT.nil⟩
theorem new_any (w : World) : Calls Try.prog 7 #[] w fun e w' => e = .returned (.pointer (some ⟨w.heap.size, 0, none⟩)) ∧ w' = w.alloc (.cells #[.map none, .map none] 44) := by
  go_enter Try.func7, Try.ntmps7
  go_wp2
  go_ret
  exact ⟨rfl, rfl⟩
section
variable (B g : Nat) (a b : Option Nat) (L T : List Kn)
theorem backlog_any (i : Int) (hi : I64 i) (w : World) (h : Pm B w g a b L T) :
    Calls Try.prog 17 #[.pointer (some ⟨g, 0, none⟩), .int .i64 i] w fun e w' => e = .returned (.int .i64 (vof L i)) ∧ w' = w := by
  have hc := h.c0
  have hrun := h.look i hi
  have H := Lib.hid h
  clear h
  go_enter Try.func17, Try.ntmps17
  go_wp2
  go_ret
  exact ⟨rfl, rfl⟩
theorem taken_any (i : Int) (hi : I64 i) (w : World) (h : Pm B w g a b L T) :
    Calls Try.prog 19 #[.pointer (some ⟨g, 0, none⟩), .int .i64 i] w fun e w' => e = .returned (.int .i64 (vof T i)) ∧ w' = w := by
  have hc := h.c1
  have hrun := h.look2 i hi
  have H := Lib.hid h
  clear h
  go_enter Try.func19, Try.ntmps19
  go_wp2
  go_ret
  exact ⟨rfl, rfl⟩
theorem drop_any (i : Int) (hi : I64 i) (w : World) (h : Pm B w g a b L T) :
    Calls Try.prog 10 #[.pointer (some ⟨g, 0, none⟩), .int .i64 i] w fun e w' => e = .returned (.int .i64 (vof L i)) ∧ Pm B w' g a b (cut L i) (cut T i) ∧ MvK (ks g a b) w w' := by
  have BA := Lib.hid (backlog_any B g a b L T i hi w h)
  have hc := h.c0
  obtain ⟨w1, hr1, h1, m1⟩ := h.del i hi 0
  have hc1 := h1.c1
  obtain ⟨w2, hr2, h2, m2⟩ := h1.del2 i hi 0
  have H2 := Lib.hid h2
  have M2 := Lib.hid (m1.trans m2 (NwK.refl _ _))
  clear h h1 h2 m1 m2
  go_enter Try.func10, Try.ntmps10
  go_wp2_with fail
  (with_reducible refine BA.out.mono ?_)
  rintro e w5 ⟨rfl, rfl⟩
  go_wp2
  go_ret
  exact ⟨rfl, H2.out, M2.out⟩
theorem ask_bad (i n : Int) (hm : mayA i n = false) (w : World) :
    Calls Try.prog 12 #[.pointer (some ⟨g, 0, none⟩), .int .i64 i, .int .i64 n] w fun e w' => e = .returned (.int .i64 1) ∧ w' = w := by
  have hb : n < 1 ∨ 2147483648 < n ∨ i < 0 ∨ 1023 < i := by
    have := of_decide_eq_false hm
    omega
  clear hm
  go_enter Try.func12, Try.ntmps12
  by_cases h1 : n < 1
  · go_wp2
    go_ret
    exact ⟨rfl, rfl⟩
  by_cases h2 : 2147483648 < n
  · go_wp2
    go_ret
    exact ⟨rfl, rfl⟩
  by_cases h3 : i < 0
  · go_wp2
    go_ret
    exact ⟨rfl, rfl⟩
  · have h4 : 1023 < i := by omega
    clear hb
    go_wp2
    go_ret
    exact ⟨rfl, rfl⟩
theorem ask_any (i n : Int) (w : World) (h : Pm B w g a b L T) (hB : B ≤ w.heap.size) :
    Calls Try.prog 12 #[.pointer (some ⟨g, 0, none⟩), .int .i64 i, .int .i64 n] w fun e w' => e = .returned (.int .i64 (askA L i n)) ∧ ∃ a' b', Pm B w' g a' b' (askL L i n) T ∧ MvK (ks g a b) w w' ∧ NwK w (ks g a b) (ks g a' b') := by
  cases hm : mayA i n with
  | false =>
    refine (ask_bad g i n hm w).mono ?_
    rintro e w1 ⟨rfl, rfl⟩
    unfold askA askL
    rw [hm]
    exact ⟨rfl, a, b, h, MvK.refl _ _, NwK.refl _ _⟩
  | true =>
    obtain ⟨h1, h2, h3, h4⟩ := of_decide_eq_true hm
    have eA : askA L i n = if 1099511627776 < vof L i + n then 15 else 0 := by unfold askA; rw [hm]; rfl
    have eL : askL L i n = if 1099511627776 < vof L i + n then L else put L ⟨i, vof L i + n⟩ := by unfold askL; rw [hm]; rfl
    rw [eA, eL]
    have hI : I64 i := by unfold I64; omega
    have hc := h.c0
    have hl := h.look i hI
    have k1 : ¬ n < 1 := by omega
    have k2 : ¬ 2147483648 < n := by omega
    have k3 : ¬ i < 0 := by omega
    have k4 : ¬ 1023 < i := by omega
    have hbv := h.ok.bnd i
    have ew : IntKind.i64.wrap (vof L i + n) = vof L i + n := IntWalk.i64_in _ (by omega)
    have es := eqlSome
    have en := eqlNil
    have H := Lib.hid h
    by_cases hf : 1099511627776 < vof L i + n
    · rw [if_pos hf, if_pos hf]
      clear h hm eA eL hbv
      go_enter Try.func12, Try.ntmps12
      go_wp2
      go_ret
      exact ⟨rfl, a, b, H.out, MvK.refl _ _, NwK.refl _ _⟩
    · rw [if_neg hf, if_neg hf]
      cases a with
      | some m =>
        obtain ⟨w2, hr2, hp2, m2⟩ := h.put i (vof L i + n) (by omega) (by omega)
        have H2 := Lib.hid hp2
        have M2 := Lib.hid m2
        clear h hm eA eL hbv hp2 m2
        go_enter Try.func12, Try.ntmps12
        go_wp2
        go_ret
        exact ⟨rfl, some m, b, H2.out, M2.out, NwK.refl _ _⟩
      | none =>
        obtain rfl := h.both.1 rfl
        obtain rfl := h.nil rfl
        obtain rfl := h.nil2 rfl
        have hmm := @run_makeMap Try.prog
        have hgl := h.lt
        have hc9 := h.c1
        have hf0 := h.f0 0
        have hf1 := h.f0 1
        have hP := pm_made h
        have hM : MvK (ks g none none) w ((((w.setCell ⟨g, 0, none⟩ (.map (some w.heap.size))).setCell ⟨g, 1, none⟩ (.map (some (w.heap.size + 1)))).alloc (.map #[] 0)).alloc (.map #[] 0)) := ((((MvK.refl _ w).set _ (.inl (by simp [ks]))).set _ (.inl (by simp [ks]))).alloc _).alloc _
        have hc2 := hP.c0
        have hl2 := hP.look i hI
        obtain ⟨w2, hr2, hp2, m2⟩ := hP.put i (vof [] i + n) (by omega) (by omega)
        have hN : NwK w (ks g none none) (ks g (some w.heap.size) (some (w.heap.size + 1))) := fun k hk => by simp [ks] at hk; simp [ks]; omega
        have H2 := Lib.hid hp2
        have M2 := Lib.hid (hM.trans m2 hN)
        have N2 := Lib.hid hN
        clear h hm eA eL hbv hp2 m2 hP hM hN
        go_enter Try.func12, Try.ntmps12
        go_wp2
        go_ret
        exact ⟨rfl, _, _, H2.out, M2.out, N2.out⟩
theorem take_any (i m : Int) (hi : I64 i) (w : World) (h : Pm B w g a b L T) :
    Calls Try.prog 8 #[.pointer (some ⟨g, 0, none⟩), .int .i64 i, .int .i64 m] w fun e w' => e = .returned (.int .i64 (took L i m)) ∧ Pm B w' g a b (takL L i m) (takT L T i m) ∧ MvK (ks g a b) w w' := by
  have BA := Lib.hid (backlog_any B g a b L T i hi w h)
  have hbv := h.ok.bnd i
  obtain ⟨v, hv⟩ : ∃ v, v = vof L i := ⟨_, rfl⟩
  obtain ⟨k, hk⟩ : ∃ k, k = min v m := ⟨_, rfl⟩
  have eA : took L i m = if k < 1 then 0 else k := by rw [hk, hv]; rfl
  have eL : takL L i m = if k < 1 then L else if k = v then cut L i else put L ⟨i, v - k⟩ := by rw [hk, hv]; rfl
  have eT : takT L T i m = if k < 1 then T else put T ⟨i, IntKind.i64.wrap (vof T i + k)⟩ := by rw [hk, hv]; rfl
  rw [eA, eL, eT]
  rw [← hv] at BA hbv
  have run : ∀ (hk0 : k < 1), Calls Try.prog 8 #[.pointer (some ⟨g, 0, none⟩), .int .i64 i, .int .i64 m] w fun e w' => e = .returned (.int .i64 0) ∧ Pm B w' g a b L T ∧ MvK (ks g a b) w w' := by
    intro hk0
    have H := Lib.hid h
    clear h eA eL eT hv hbv
    by_cases hmv : m < v
    · obtain rfl : k = m := by omega
      clear hk
      go_enter Try.func8, Try.ntmps8
      go_wp2_with fail
      (with_reducible refine BA.out.mono ?_)
      rintro e w5 ⟨rfl, rfl⟩
      go_wp2
      go_ret
      exact ⟨rfl, H.out, MvK.refl _ _⟩
    · obtain rfl : k = v := by omega
      clear hk
      go_enter Try.func8, Try.ntmps8
      go_wp2_with fail
      (with_reducible refine BA.out.mono ?_)
      rintro e w5 ⟨rfl, rfl⟩
      go_wp2
      go_ret
      exact ⟨rfl, H.out, MvK.refl _ _⟩
  by_cases hk1 : k < 1
  · rw [if_pos hk1, if_pos hk1, if_pos hk1]
    exact run hk1
  · rw [if_neg hk1, if_neg hk1, if_neg hk1]
    clear run eA eL eT
    obtain ⟨ma, mb, rfl, rfl⟩ := h.made (i := i) (by omega)
    have hi2 := h.ok.of_pos (i := i) (by omega)
    have hc := h.c0
    obtain ⟨y, hy⟩ : ∃ y, IntKind.i64.wrap (vof T i + k) = y := ⟨_, rfl⟩
    have hew : I64 y := by rw [← hy]; unfold I64; rw [IntKind.wrap_i64]; omega
    rw [hy]
    by_cases hmv : m < v
    · obtain rfl : k = m := by omega
      have he : ¬ k = v := by omega
      rw [if_neg he]
      have ew : IntKind.i64.wrap (v - k) = v - k := IntWalk.i64_in _ (by omega)
      obtain ⟨w1, hr1, h1, m1⟩ := h.put i (v - k) hi2 (by omega)
      have hc1 := h1.c1
      have hl1 := h1.look2 i hi
      obtain ⟨w2, hr2, h2, m2⟩ := h1.put2 i _ hi2 hew
      have H2 := Lib.hid h2
      have M2 := Lib.hid (m1.trans m2 (NwK.refl _ _))
      clear h h1 h2 m1 m2 hv hbv hk hi2 hew
      go_enter Try.func8, Try.ntmps8
      go_wp2_with fail
      (with_reducible refine BA.out.mono ?_)
      rintro e w5 ⟨rfl, rfl⟩
      go_wp2
      go_ret
      exact ⟨rfl, H2.out, M2.out⟩
    · obtain rfl : k = v := by omega
      rw [if_pos rfl]
      obtain ⟨w1, hr1, h1, m1⟩ := h.del i hi 0
      have hc1 := h1.c1
      have hl1 := h1.look2 i hi
      obtain ⟨w2, hr2, h2, m2⟩ := h1.put2 i _ hi2 hew
      have H2 := Lib.hid h2
      have M2 := Lib.hid (m1.trans m2 (NwK.refl _ _))
      clear h h1 h2 m1 m2 hv hbv hk hi2 hew
      go_enter Try.func8, Try.ntmps8
      go_wp2_with fail
      (with_reducible refine BA.out.mono ?_)
      rintro e w5 ⟨rfl, rfl⟩
      go_wp2
      go_ret
      exact ⟨rfl, H2.out, M2.out⟩
end
end Go.Proofs.Ytacgoobkpolcdaa.Sv
