/- Package guard in memory: a guard whose map reads as the list; New, find, Next, Last, Len, Forget, Release. -/
import Derived.Test.YtcmgdllofkgaoaaGdN
import Derived.Maps.OwnSet
import Derived.Maps.OwnOps
namespace Go.Proofs.Ytcmgdllofkgaoaa.Gd
open Go.ChangeShapes Go.WideShapes Go.ChangeAt Go.RowKit Go.Joins
set_option maxRecDepth 100000
set_option maxRecDepth 100000
set_option linter.unusedVariables false
set_option linter.unusedSimpArgs false
theorem law : Go.Maps.Keyed Try.prog 3 := Go.Maps.int_keyed Try.underlying3
theorem zeroR (w : World) : (zeroValue 49).run Try.prog w = .ok (.agg #[.int .i64 0, .int .i64 0]) w := by kernel_rfl
/-- block m is a map that reads as the list -/
def Km (w : World) (m : Nat) (L : List Kn) : Prop := w.ownsMap Try.prog 3 rel m L.length (toD L)
theorem Km.of {w : World} {m n : Nat} {L : List Kn} (h : w.ownsMap Try.prog 3 rel m n (toD L)) : Km w m L := by
  obtain ⟨es, clock, hb, F, hs, hD⟩ := h
  refine ⟨es, clock, hb, F, ?_, hD⟩
  have := congrArg Maps.size hD
  rw [size_toD] at this
  simp only [Maps.size, length_sorted, List.length_map, Array.length_toList] at this
  omega
/-- a guard in block g, whose map is mo -/
structure Gm (B : Nat) (w : World) (g : Nat) (mo : Option Nat) (L : List Kn) : Prop where
  lb : B ≤ g
  blk : w.heap[g]? = some (.cells #[.map mo] 47 (0, 0))
  map : ∀ m, mo = some m → B ≤ m ∧ Km w m L
  nil : mo = none → L = []
  rise : Rise L
section
variable {B g : Nat} {mo : Option Nat} {L : List Kn} {w w' : World}
theorem Gm.mono {C : Nat} (h : Gm B w g mo L) (hC : C ≤ B) : Gm C w g mo L := ⟨by have := h.lb; omega, h.blk, fun m e => ⟨by have := (h.map m e).1; omega, (h.map m e).2⟩, h.nil, h.rise⟩
theorem Gm.lt (h : Gm B w g mo L) : g < w.heap.size := lt_of_heap h.blk
theorem Gm.cell (h : Gm B w g mo L) : w.cell? ⟨g, 0, none⟩ = some (.map mo) := by simp [World.cell?, h.blk]
theorem Gm.free (h : Gm B w g mo L) : w.frozen? ⟨g, 0, none⟩ = false := by simp [World.frozen?, h.blk]
theorem Gm.mlt (h : Gm B w g mo L) : ∀ m, mo = some m → B ≤ m ∧ m < w.heap.size := fun m e => ⟨(h.map m e).1, World.ownsMap.lt (h.map m e).2⟩
theorem Gm.of_blocks (h : Gm B w g mo L) (hg : w'.heap[g]? = w.heap[g]?) (hm : ∀ m, mo = some m → w'.heap[m]? = w.heap[m]?) : Gm B w' g mo L :=
  ⟨h.lb, by rw [hg]; exact h.blk, fun m e => by
    obtain ⟨h1, es, clock, hb, rest⟩ := h.map m e
    exact ⟨h1, es, clock, by rw [hm m e]; exact hb, rest⟩, h.nil, h.rise⟩
theorem Gm.call (h : Gm B w g mo L) (hb : Below w.heap.size w w') : Gm B w' g mo L := h.of_blocks (hb.block g h.lt) fun m e => hb.block m (h.mlt m e).2
/-- what a call on another guard leaves -/
theorem Gm.mv (h : Gm B w g mo L) {b : Nat} {r : Option Nat} (m : Mv b r w w') (hg : g ≠ b) (hr : r ≠ some g) (hm : ∀ k, mo = some k → k ≠ b ∧ r ≠ some k) : Gm B w' g mo L :=
  h.of_blocks (m.block g h.lt hg hr) fun k e => m.block k (h.mlt k e).2 (hm k e).1 (hm k e).2
end
theorem eqlSome (m : Nat) (w : World) : (binOp .eql 45 (.map (some m)) (.map none)).run Try.prog w = .ok (.bool false) w := by kernel_rfl
theorem eqlNil (w : World) : (binOp .eql 45 (.map none) (.map none)).run Try.prog w = .ok (.bool true) w := by kernel_rfl
theorem Mv.of_grown {w w' : World} {b : Nat} {r : Option Nat} (h : w.grownBy w' r) : Mv b r w w' := ⟨h.os, h.tape, h.output, h.size, fun k hk _ hn => h.block k hk (fun e => hn e.symm)⟩
/-- its map has turned -/
theorem Gm.turn {B g m : Nat} {L L' : List Kn} {w w' : World} (h : Gm B w g (some m) L) (hg : w.grownBy w' (some m)) (hk : Km w' m L') (hr : Rise L') : Gm B w' g (some m) L' := by
  have hne : g ≠ m := by
    rintro rfl
    obtain ⟨-, es, clock, hb, -⟩ := h.map _ rfl
    rw [h.blk] at hb
    cases hb
  exact ⟨h.lb, by rw [hg.block g h.lt (by simpa using hne)]; exact h.blk, (fun k e => by cases e; exact ⟨(h.map m rfl).1, hk⟩), (fun e => by cases e), hr⟩
/-- of what was before the call's first block nothing has changed -/
theorem Mv.gm {LB g : Nat} {mo : Option Nat} {L : List Kn} {u w w' : World} (m : Mv g mo w w') (h : Gm LB w g mo L) (hb : Below LB u w) : Below LB u w' :=
  hb.trans (m.below (by have := h.lb; have := h.lt; omega) h.lb (fun k hk => (h.map k hk).1))
/-- its map is made -/
theorem gm_made {B g : Nat} {w : World} (h : Gm B w g none []) : Gm B ((w.setCell ⟨g, 0, none⟩ (.map (some w.heap.size))).alloc (.map #[] 0)) g (some w.heap.size) [] := by
  have hl := h.lt
  have e : (w.setCell ⟨g, 0, none⟩ (.map (some w.heap.size))).heap.size = w.heap.size := by simp [World.setCell]
  refine ⟨h.lb, ?_, (fun m e1 => ?_), (fun e1 => by cases e1), rise_nil⟩
  · rw [((Below.refl _ _).alloc (Nat.le_refl _) _).block g (by rw [e]; exact hl)]
    simp [World.setCell, Array.getElem?_modify, h.blk]
  · obtain rfl : w.heap.size = m := by simpa using e1
    have hk := World.ownsMap_made (H := Unit) (w.setCell ⟨g, 0, none⟩ (.map (some w.heap.size))) Try.prog 3 rel
    rw [e] at hk
    have := h.lb
    exact ⟨by omega, hk⟩
theorem Mv.alloc {b : Nat} {r : Option Nat} {u w : World} (h : Mv b r u w) (o : Obj) : Mv b r u (w.alloc o) :=
  h.trans (Mv.of_below ((Below.refl _ _).alloc (Nat.le_refl _) _)) (fun j e => .inl e)
theorem gm_new (w : World) : Gm w.heap.size (w.alloc (.cells #[.map none] 47)) w.heap.size none [] :=
  ⟨Nat.le_refl _, heap_alloc_new w _, (fun m e => by cases e), fun _ => rfl, rise_nil⟩
theorem new_any (w : World) : Calls Try.prog 8 #[] w fun e w' => e = .returned (.pointer (some ⟨w.heap.size, 0, none⟩)) ∧ w' = w.alloc (.cells #[.map none] 47) := by
  go_enter Try.func8, Try.ntmps8
  go_wp2
  go_ret
  exact ⟨rfl, rfl⟩
theorem wf64 {i : Int} (h : -9223372036854775808 ≤ i ∧ i ≤ 9223372036854775807) : (Lit.int .i64 i).wf = true := WalkArith.wf_i64 h
/-- a lookK-up with ok -/
theorem look_run {m : Nat} {L : List Kn} {w : World} (h : Km w m L) (i : Int) (hi : -9223372036854775808 ≤ i ∧ i ≤ 9223372036854775807) :
    (Instr.lookup 45 (.map (some m)) (.int .i64 i) true).run Try.prog w = .ok (.tuple #[.agg #[.int .i64 (lastOf L i), .int .i64 (nextOf L i)], .bool (isIn L i)]) w := by
  obtain ⟨v, ps, hr, hv⟩ := World.ownsMap.look_ok h law Try.underlying45 (zeroR w) (rel_mk 0 0) (Go.Maps.keyOf_int_mk Try.underlying3 (wf64 hi))
  rw [hr, has_toD]
  rw [atKey_toD] at hv
  obtain ⟨a, b, rfl, hz⟩ := rel_inv hv
  unfold lastOf nextOf
  cases hl : lookK L i with
  | none => rw [hl] at hz; simp at hz; obtain ⟨⟨rfl, rfl⟩, -⟩ := hz; rfl
  | some k => rw [hl] at hz; simp [kd] at hz; obtain ⟨⟨e1, e2⟩, -⟩ := hz; subst e1; subst e2; rfl
theorem look_run0 {w : World} (i : Int) (hi : -9223372036854775808 ≤ i ∧ i ≤ 9223372036854775807) :
    (Instr.lookup 45 (.map none) (.int .i64 i) true).run Try.prog w = .ok (.tuple #[.agg #[.int .i64 0, .int .i64 0], .bool false]) w := by
  have := Maps.look_nil (w := w) true law Try.underlying45 (zeroR _) (Go.Maps.keyOf_int_mk Try.underlying3 (wf64 hi))
  simpa using this
theorem look_all {B g : Nat} {mo : Option Nat} {L : List Kn} {w w1 : World} (h : Gm B w g mo L) (i : Int) (hi : -9223372036854775808 ≤ i ∧ i ≤ 9223372036854775807) (hb : Below w.heap.size w w1) :
    (Instr.lookup 45 (.map mo) (.int .i64 i) true).run Try.prog w1 = .ok (.tuple #[.agg #[.int .i64 (lastOf L i), .int .i64 (nextOf L i)], .bool (isIn L i)]) w1 := by
  cases mo with
  | none => obtain rfl := h.nil rfl; exact look_run0 i hi
  | some m => exact look_run (((h.call hb).map m rfl).2) i hi
theorem find_any (B g : Nat) (mo : Option Nat) (L : List Kn) (i : Int) (hi : -9223372036854775808 ≤ i ∧ i ≤ 9223372036854775807) (w : World) (h : Gm B w g mo L) :
    Calls Try.prog 21 #[.pointer (some ⟨g, 0, none⟩), .int .i64 i] w fun e w' => e = .returned (.tuple #[.agg #[.int .i64 (lastOf L i), .int .i64 (nextOf L i)], .bool (isIn L i)]) ∧ Below w.heap.size w w' := by
  have hc := h.cell
  have hl := h.lt
  have b1 : Below w.heap.size w (w.alloc (.cells #[.int .i64 0, .int .i64 0] 49)) := (Below.refl _ w).alloc (Nat.le_refl _) _
  have hrun := look_all h i hi b1
  have H := Lib.hid h
  clear h b1
  go_enter Try.func21, Try.ntmps21
  go_wp2
  refine bodyPost_ret (v := .tuple #[.agg #[.int .i64 (lastOf L i), .int .i64 (nextOf L i)], .bool (isIn L i)]) (by simp [results, Try.results21, go_sem]) rfl ⟨rfl, ((Below.refl _ w).alloc (Nat.le_refl _) _).alloc (by simp) _⟩
section
variable (B g : Nat) (mo : Option Nat) (L : List Kn)
theorem next_any (i : Int) (hi : -9223372036854775808 ≤ i ∧ i ≤ 9223372036854775807) (w : World) (h : Gm B w g mo L) :
    Calls Try.prog 18 #[.pointer (some ⟨g, 0, none⟩), .int .i64 i] w fun e w' => e = .returned (.int .i64 (nextOf L i)) ∧ Below w.heap.size w w' := by
  have FI := Lib.hid (find_any B g mo L i hi w h)
  clear h
  go_enter Try.func18, Try.ntmps18
  go_wp2_with fail
  (with_reducible refine FI.out.mono ?_)
  rintro e w1 ⟨rfl, hb⟩
  have HB := Lib.hid hb
  clear hb
  go_wp2
  go_ret
  exact ⟨rfl, HB.out.alloc HB.out.size _⟩
theorem last_any (i : Int) (hi : -9223372036854775808 ≤ i ∧ i ≤ 9223372036854775807) (w : World) (h : Gm B w g mo L) :
    Calls Try.prog 13 #[.pointer (some ⟨g, 0, none⟩), .int .i64 i] w fun e w' => e = .returned (.tuple #[.int .i64 (lastOf L i), .bool (isIn L i)]) ∧ Below w.heap.size w w' := by
  have FI := Lib.hid (find_any B g mo L i hi w h)
  clear h
  go_enter Try.func13, Try.ntmps13
  go_wp2_with fail
  (with_reducible refine FI.out.mono ?_)
  rintro e w1 ⟨rfl, hb⟩
  have HB := Lib.hid hb
  clear hb
  go_wp2
  go_ret2
  exact ⟨rfl, HB.out.alloc HB.out.size _⟩
theorem len_run {w : World} (h : Gm B w g mo L) (ty : TypeId) : (Builtin.len_ #[45] ty #[.map mo]).run Try.prog w = .ok (.int .i64 (L.length : Int)) w := by
  cases mo with
  | none => obtain rfl := h.nil rfl; exact Maps.len_nil Try.underlying45 ty
  | some m =>
    have := World.ownsMap.len ((h.map m rfl).2) Try.underlying45 ty
    rw [size_toD] at this
    exact this
theorem len_any (w : World) (h : Gm B w g mo L) :
    Calls Try.prog 20 #[.pointer (some ⟨g, 0, none⟩)] w fun e w' => e = .returned (.int .i64 (L.length : Int)) ∧ w' = w := by
  have hc := h.cell
  have hrun := len_run B g mo L h
  have H := Lib.hid h
  clear h
  go_enter Try.func20, Try.ntmps20
  go_wp2
  go_ret
  exact ⟨rfl, rfl⟩
theorem forget_any (i : Int) (hi : -9223372036854775808 ≤ i ∧ i ≤ 9223372036854775807) (w : World) (h : Gm B w g mo L) :
    Calls Try.prog 9 #[.pointer (some ⟨g, 0, none⟩), .int .i64 i] w fun e w' => e = .returned (.bool (isIn L i)) ∧ Gm B w' g mo (cut L i) ∧ Mv g mo w w' := by
  have FI := Lib.hid (find_any B g mo L i hi w h)
  have H := Lib.hid h
  clear h
  go_enter Try.func9, Try.ntmps9
  go_wp2_with fail
  (with_reducible refine FI.out.mono ?_)
  rintro e w1 ⟨rfl, hb⟩
  have b2 : Below w.heap.size w (w1.alloc (.cells #[.int .i64 (lastOf L i), .int .i64 (nextOf L i)] 49)) := hb.alloc hb.size _
  have HB := Lib.hid b2
  have H2 := Lib.hid (H.out.call b2)
  have hc := H2.out.cell
  clear hb b2 FI
  cases hin : isIn L i with
  | false =>
    go_wp2
    go_ret
    exact ⟨by rw [hin]; rfl, by rw [cut_of_not hin]; exact H2.out, Mv.of_below HB.out⟩
  | true =>
    cases mo with
    | none => have := H.out.nil rfl; subst this; cases hin
    | some m =>
      obtain ⟨hBm, hkm⟩ := H2.out.map m rfl
      have HM := Lib.hid hkm
      clear hkm
      go_wp2_with (first
        | (at_delete; refine wpList_delete_own _ rfl _ _ 45 3 rfl 49 law Try.underlying45 rel m L.length (toD L) rfl HM.out _ _ rfl (Go.Maps.keyOf_int_mk Try.underlying3 (wf64 hi)) ?_; intro w3 hown3 hturn3)
        | go_in)
      go_wp2
      go_ret
      refine ⟨by rw [hin]; rfl, ?_, ?_⟩
      · rw [del_toD] at hown3
        exact H2.out.turn hturn3.grown (Km.of hown3) (H2.out.rise.cut i)
      · exact (Mv.of_below HB.out).trans (Mv.of_grown hturn3.grown) (fun j e => .inl e)
theorem release_bad (i p n : Int) (hm : may p n = false) (w : World) :
    Calls Try.prog 11 #[.pointer (some ⟨g, 0, none⟩), .int .i64 i, .int .i64 p, .int .i64 n] w fun e w' => e = .returned (.int .i64 1) ∧ w' = w := by
  have hb : p < 1 ∨ 2147483648 < p ∨ n < 0 ∨ 1099511627776 < n := by
    have := of_decide_eq_false hm
    omega
  clear hm
  go_enter Try.func11, Try.ntmps11
  by_cases h1 : p < 1
  · go_wp2
    go_ret
    exact ⟨rfl, rfl⟩
  by_cases h2 : 2147483648 < p
  · go_wp2
    go_ret
    exact ⟨rfl, rfl⟩
  by_cases h3 : n < 0
  · go_wp2
    go_ret
    exact ⟨rfl, rfl⟩
  · have h4 : 1099511627776 < n := by omega
    clear hb
    go_wp2
    go_ret
    exact ⟨rfl, rfl⟩
theorem release_any (i p n : Int) (hi : -9223372036854775808 ≤ i ∧ i ≤ 9223372036854775807) (hL : L.length ≤ 1000000) (w : World) (h : Gm B w g mo L) (hB : B ≤ w.heap.size) :
    Calls Try.prog 11 #[.pointer (some ⟨g, 0, none⟩), .int .i64 i, .int .i64 p, .int .i64 n] w fun e w' => e = .returned (.int .i64 (relA L i p n)) ∧ ∃ mo', Gm B w' g mo' (relL L i p n) ∧ Mv g mo w w' ∧ (mo' = mo ∨ mo = none ∧ ∃ m, mo' = some m ∧ w.heap.size ≤ m) := by
  cases hm : may p n with
  | false =>
    refine (release_bad g i p n hm w).mono ?_
    rintro e w1 ⟨rfl, rfl⟩
    unfold relA relL
    rw [hm]
    exact ⟨rfl, mo, h, Mv.refl _ _ _, .inl rfl⟩
  | true =>
    obtain ⟨h1, h2, h3, h4⟩ := of_decide_eq_true hm
    have eA : relA L i p n = if n < nextOf L i then 19 else 0 := by unfold relA; rw [hm]; rfl
    have eL : relL L i p n = if n < nextOf L i then L else put L ⟨i, n, n + p⟩ := by unfold relL; rw [hm]; rfl
    rw [eA, eL]
    have NE := Lib.hid (next_any B g mo L i hi w h)
    have H := Lib.hid h
    have k1 : ¬ p < 1 := by omega
    have k2 : ¬ 2147483648 < p := by omega
    have k3 : ¬ n < 0 := by omega
    have k4 : ¬ 1099511627776 < n := by omega
    have ew : IntKind.i64.wrap (n + p) = n + p := IntWalk.i64_in _ (by omega)
    have es := eqlSome
    have en := eqlNil
    clear h hm eA eL
    go_enter Try.func11, Try.ntmps11
    go_wp2_with fail
    (with_reducible refine NE.out.mono ?_)
    rintro e w1 ⟨rfl, hb⟩
    have HB := Lib.hid hb
    have H2 := Lib.hid (H.out.call hb)
    have hc := H2.out.cell
    have hf := H2.out.free
    clear hb NE
    by_cases hlt : n < nextOf L i
    · go_wp2
      go_ret
      exact ⟨rfl, mo, H2.out, Mv.of_below HB.out, .inl rfl⟩
    · cases mo with
      | some m =>
        obtain ⟨hBm, hkm⟩ := H2.out.map m rfl
        have HM := Lib.hid hkm
        clear hkm
        go_wp2_with (first
          | (at_mapUpdate; refine wpList_mapUpdate_own _ rfl _ _ _ 45 rfl 3 49 law Try.underlying45 rel m L.length (toD L) rfl HM.out (by unfold maxLen; omega) _ _ _ rfl rfl (Go.Maps.keyOf_int_mk Try.underlying3 (wf64 hi)) _ [] (rel_mk n (n + p)) ?_; intro w3 hown3 hgrow3)
          | go_in)
        go_ret
        rw [put_toD L ⟨i, n, n + p⟩] at hown3
        exact ⟨rfl, H2.out.turn hgrow3 (Km.of hown3) (H2.out.rise.put _), (Mv.of_below HB.out).trans (Mv.of_grown hgrow3) (fun j e => .inl e)⟩
      | none =>
        obtain rfl := H2.out.nil rfl
        have hmm := @run_makeMap Try.prog
        have hgl := H2.out.lt
        have G2 := Lib.hid (gm_made H2.out)
        obtain ⟨-, hkm⟩ := G2.out.map _ rfl
        have HM := Lib.hid hkm
        clear hkm
        go_wp2_with (first
          | (at_mapUpdate; refine wpList_mapUpdate_own _ rfl _ _ _ 45 rfl 3 49 law Try.underlying45 rel w1.heap.size 0 (toD []) rfl HM.out (by unfold maxLen; omega) _ _ _ rfl rfl (Go.Maps.keyOf_int_mk Try.underlying3 (wf64 hi)) _ [] (rel_mk n (n + p)) ?_; intro w3 hown3 hgrow3)
          | go_in)
        go_ret
        rw [put_toD [] ⟨i, n, n + p⟩] at hown3
        have G3 := G2.out.turn hgrow3 (Km.of hown3) (H2.out.rise.put _)
        have m1 : Mv g none w1 ((w1.setCell ⟨g, 0, none⟩ (.map (some w1.heap.size))).alloc (.map #[] 0)) := ((Mv.refl g none w1).set _ (.inl rfl)).alloc _
        have m2 := (Mv.of_below (b := g) (r := none) HB.out).trans m1 (fun j e => .inl e)
        have m3 := m2.trans (Mv.of_grown hgrow3) (fun j e => .inr (Option.some.inj e ▸ HB.out.size))
        exact ⟨rfl, some w1.heap.size, G3, m3, .inr ⟨w1.heap.size, rfl, HB.out.size⟩⟩
end
end Go.Proofs.Ytcmgdllofkgaoaa.Gd
