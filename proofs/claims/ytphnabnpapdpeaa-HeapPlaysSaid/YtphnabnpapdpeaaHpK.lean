/- The statements' function awake of layer 16; how their arguments are opened; what comes of a nil heap. -/
import Derived.Test.YtphnabnpapdpeaaHpI
import Derived.ChangeOld
import Derived.ShutString
import Derived.ChangeMaps5
import Derived.ChangeSlices
import Derived.Deep.Slices
namespace Go.Proofs.Ytphnabnpapdpeaa.Hp
open Go.ChangeShapes Go.WideShapes Go.ChangeAt Go.RowKit Go.Joins
set_option maxRecDepth 100000
set_option maxRecDepth 100000
set_option linter.unusedVariables false
set_option linter.unusedSimpArgs false
theorem own : ownKnob Try.prog.godebug = none := by kernel_rfl
theorem laidOut : laidOutB Try.prog = true := by kernel_rfl
theorem open_nums {H : Type} {enc : TypeId × Value → H} {W : World} {r : Reach} {b0 base : Nat} {spare : Nat → Bool} {held : Bool} {v : Value} {d : DataW H} {p : List MemPlace}
    (hok : Value.okWide Try.prog W r b0 22 v) (h : DataW.Trod enc Try.prog W base spare held 22 v d p) :
    ∃ (ao : Option Addr) (l : List Int) (cap : Nat), v = .slice ao l.length cap ∧ l.length ≤ 9223372036854775807 ∧ Ns ao l W := by
  obtain ⟨ao, len, cap, rfl⟩ := okWide_slice Try.underlying22 hok
  obtain ⟨fuel, hf⟩ := h
  rcases Go.ChangeShapes.open_ints Try.underlying22 Try.underlying3 (by kernel_rfl) hf with ⟨hcs, hx⟩ | ⟨a, len', cap', zs, hcs, _, hl, hm, hz, hx, hcell, hwz⟩
  · simp [Value.cells] at hcs
    obtain ⟨rfl, rfl, rfl⟩ := hcs
    exact ⟨none, [], 0, rfl, by simp, ns_nil _ _⟩
  · simp [Value.cells] at hcs
    obtain ⟨rfl, rfl, rfl⟩ := hcs
    have hzl : len ≤ zs.length := by rw [hz]; split <;> omega
    have e : (zs.take len).length = len := by rw [List.length_take]; omega
    refine ⟨some a, zs.take len, cap, by rw [e], by rw [e]; unfold maxLen at hm; omega, fun h0 => ?_⟩
    rw [e] at h0
    obtain ⟨b, off, spot⟩ := a
    have hspot : spot = none := by simpa [Addr.add] using World.cell?_spot (hcell 0 (by omega))
    subst hspot
    refine ⟨b, off, rfl, World.block_lt_of_cell? _ _ (hcell 0 (by omega)), fun i x hi => ?_⟩
    have hil := (List.getElem?_eq_some_iff.1 hi).1
    rw [e] at hil
    rw [List.getElem?_take_of_lt hil] at hi
    rw [← addr_add, hcell i (by omega)]
    have hi2 := hi
    simp [hi2]
section
variable {LB b : Nat} {r q : Option Nat} {s t : List Int} {w w' : World}
theorem Mv.hq (m : Mv b r w w') (h : Hq LB w b r s) (hB : LB ≤ w.heap.size) : Below LB w w' := m.below hB h.lb (fun k hk => (h.rlt k hk).1)
theorem PutQ.bel (p : PutQ LB b r t w w') (h : Hq LB w b r s) (hB : LB ≤ w.heap.size) : Below LB w w' := by obtain ⟨r', -, m, -⟩ := p; exact m.hq h hB
theorem TakeQ.bel (p : TakeQ LB b r t w w') (h : Hq LB w b r s) (hB : LB ≤ w.heap.size) : Below LB w w' := p.2.hq h hB
theorem ChangeQ.bel (p : ChangeQ LB b r t w w') (h : Hq LB w b r s) (hB : LB ≤ w.heap.size) : Below LB w w' := p.2.hq h hB
theorem Mv.rp (m : Mv b none w w') (h : Rp LB w b q s) (hB : LB ≤ w.heap.size) : Below LB w w' := m.below hB h.lb (fun k hk => by cases hk)
end
set_option maxHeartbeats 4000000 in
theorem awake_any (w : World) : Calls Try.prog 8 #[] w fun e w' => e = .returned (.bool true) ∧ Below w.heap.size w w' := by
  have NW := Lib.hid new_any
  have H0 := Lib.hid (hq_new w)
  have B0 := Lib.hid ((Below.refl w.heap.size w).alloc (Nat.le_refl _) (.cells #[.func (.func 10) #[] #[], .slice none 0 0] 40))
  have PU := Lib.hid (fun r s x W h hl => put_any w.heap.size w.heap.size r s x W h hl)
  have TK := Lib.hid (fun r s W h hl => take_any w.heap.size w.heap.size r s W h hl)
  have LE := Lib.hid (fun r s W h => len_any w.heap.size w.heap.size r s W h)
  go_enter Try.func8, Try.ntmps8
  go_wp2_with fail
  (with_reducible refine (NW.out _).mono ?_)
  rintro e w1 ⟨rfl, rfl⟩
  generalize w.alloc (.cells #[.func (.func 10) #[] #[], .slice none 0 0] 40) = W1 at *
  clear NW
  go_wp2_with fail
  (with_reducible refine (PU.out _ [] 5 _ H0.out (by simp)).mono ?_)
  rintro e w2 ⟨rfl, q2⟩
  have B2 := Lib.hid (B0.out.trans (q2.bel H0.out B0.out.size))
  obtain ⟨r2, h2, -⟩ := q2
  have H2 := Lib.hid (show Hq _ _ _ _ [5] from h2)
  clear h2 H0 B0
  go_wp2_with fail
  (with_reducible refine (PU.out _ [5] 3 _ H2.out (by simp)).mono ?_)
  rintro e w3 ⟨rfl, q3⟩
  have B3 := Lib.hid (B2.out.trans (q3.bel H2.out B2.out.size))
  obtain ⟨r3, h3, -⟩ := q3
  have H3 := Lib.hid (show Hq _ _ _ _ [3, 5] from h3)
  clear h3 H2 B2
  go_wp2_with fail
  (with_reducible refine (PU.out _ [3, 5] 5 _ H3.out (by simp)).mono ?_)
  rintro e w4 ⟨rfl, q4⟩
  have B4 := Lib.hid (B3.out.trans (q4.bel H3.out B3.out.size))
  obtain ⟨r4, h4, -⟩ := q4
  have H4 := Lib.hid (show Hq _ _ _ _ [3, 5, 5] from h4)
  clear h4 H3 B3
  go_wp2_with fail
  (with_reducible refine (PU.out _ [3, 5, 5] 4 _ H4.out (by simp)).mono ?_)
  rintro e w5 ⟨rfl, q5⟩
  have B5 := Lib.hid (B4.out.trans (q5.bel H4.out B4.out.size))
  obtain ⟨r5, h5, -⟩ := q5
  have H5 := Lib.hid (show Hq _ _ _ _ [3, 4, 5, 5] from h5)
  clear h5 H4 B4
  go_wp2_with fail
  (with_reducible refine (TK.out _ [3, 4, 5, 5] _ H5.out (by simp)).mono ?_)
  rintro e w6 ⟨rfl, q6⟩
  have B6 := Lib.hid (B5.out.trans (q6.bel H5.out B5.out.size))
  have H6 := Lib.hid (show Hq _ _ _ _ [4, 5, 5] from q6.1)
  clear q6 H5 B5
  go_wp2_with fail
  (with_reducible refine (TK.out _ [4, 5, 5] _ H6.out (by simp)).mono ?_)
  rintro e w7 ⟨rfl, q7⟩
  have B7 := Lib.hid (B6.out.trans (q7.bel H6.out B6.out.size))
  have H7 := Lib.hid (show Hq _ _ _ _ [5, 5] from q7.1)
  clear q7 H6 B6
  go_wp2_with fail
  (with_reducible refine (TK.out _ [5, 5] _ H7.out (by simp)).mono ?_)
  rintro e w8 ⟨rfl, q8⟩
  have B8 := Lib.hid (B7.out.trans (q8.bel H7.out B7.out.size))
  have H8 := Lib.hid (show Hq _ _ _ _ [5] from q8.1)
  clear q8 H7 B7
  unfold minR
  simp only
  go_wp2_with fail
  (with_reducible refine (LE.out _ [5] _ H8.out).mono ?_)
  rintro e w9 ⟨rfl, rfl⟩
  go_wp2
  go_ret
  exact ⟨rfl, B8.out⟩
/-- a heap that is none, or that has no order -/
def NilH (p : Option Addr) (w : World) : Prop := p = none ∨ ∃ b, p = some ⟨b, 0, none⟩ ∧ w.cell? ⟨b, 0, none⟩ = some .nilFunc ∧ w.cell? ⟨b, 1, none⟩ = some (.slice none 0 0)
theorem NilH.call {p : Option Addr} {w w' : World} (h : NilH p w) (hb : Below w.heap.size w w') : NilH p w' := by
  rcases h with h | ⟨b, h1, h2, h3⟩
  · exact .inl h
  · exact .inr ⟨b, h1, carry hb h2, carry hb h3⟩
theorem nlen_any (p : Option Addr) (w : World) (h : NilH p w) : Calls Try.prog 22 #[.pointer p] w fun e w' => e = .returned (.int .i64 0) ∧ w' = w := by
  rcases h with rfl | ⟨b, rfl, c0, c1⟩
  · go_enter Try.func22, Try.ntmps22
    go_wp2
    go_ret
    exact ⟨rfl, rfl⟩
  · go_enter Try.func22, Try.ntmps22
    go_wp2
    go_ret
    exact ⟨rfl, rfl⟩
theorem nmin_any (p : Option Addr) (w : World) (h : NilH p w) : Calls Try.prog 13 #[.pointer p] w fun e w' => e = .returned (.tuple #[.int .i64 0, .bool false]) ∧ w' = w := by
  have LE := Lib.hid (nlen_any p w h)
  clear h
  go_enter Try.func13, Try.ntmps13
  go_wp2_with fail
  (with_reducible refine LE.out.mono ?_)
  rintro e w1 ⟨rfl, rfl⟩
  go_wp2
  exact bodyPost_ret (v := .tuple #[.int .i64 0, .bool false]) (by simp [results, Try.results13, go_sem]) rfl ⟨rfl, rfl⟩
theorem ntake_any (p : Option Addr) (w : World) (h : NilH p w) : Calls Try.prog 11 #[.pointer p] w fun e w' => e = .returned (.tuple #[.int .i64 0, .bool false]) ∧ w' = w := by
  have MI := Lib.hid (nmin_any p w h)
  clear h
  go_enter Try.func11, Try.ntmps11
  go_wp2_with fail
  (with_reducible refine MI.out.mono ?_)
  rintro e w1 ⟨rfl, rfl⟩
  go_wp2
  exact bodyPost_ret (v := .tuple #[.int .i64 0, .bool false]) (by simp [results, Try.results11, go_sem]) rfl ⟨rfl, rfl⟩
theorem nput_any (p : Option Addr) (x : Int) (w : World) (h : NilH p w) : Calls Try.prog 19 #[.pointer p, .int .i64 x] w fun e w' => e = .returned (.bool false) ∧ Below w.heap.size w w' := by
  have hB := ((Below.refl w.heap.size w).alloc (Nat.le_refl _) (.cells #[.pointer p] 24)).alloc (by simp) (.cells #[.int .i64 x] 3)
  have HB := Lib.hid hB
  have nf := neq_nil
  rcases h with rfl | ⟨b, rfl, c0, c1⟩
  · clear hB
    go_enter Try.func19, Try.ntmps19
    go_wp2
    go_ret
    exact ⟨rfl, HB.out⟩
  · have c0' := carry hB c0
    clear hB c0 c1
    go_enter Try.func19, Try.ntmps19
    go_wp2
    go_ret
    exact ⟨rfl, HB.out⟩
theorem nchange_any (p : Option Addr) (x : Int) (w : World) (h : NilH p w) : Calls Try.prog 14 #[.pointer p, .int .i64 x] w fun e w' => e = .returned (.bool false) ∧ Below w.heap.size w w' := by
  have hB := ((Below.refl w.heap.size w).alloc (Nat.le_refl _) (.cells #[.pointer p] 24)).alloc (by simp) (.cells #[.int .i64 x] 3)
  have HB := Lib.hid hB
  have LE := Lib.hid (nlen_any p _ (h.call hB))
  clear hB h
  go_enter Try.func14, Try.ntmps14
  go_wp2_with fail
  (with_reducible refine LE.out.mono ?_)
  rintro e w1 ⟨rfl, rfl⟩
  go_wp2
  go_ret
  exact ⟨rfl, HB.out⟩
theorem ndrop_any (p : Option Addr) (F : Nat) (w : World) (h : NilH p w) : Calls Try.prog 16 #[.pointer p, .func (.func F) #[] #[]] w fun e w' => e = .returned (.int .i64 0) ∧ Below w.heap.size w w' := by
  have hB := ((Below.refl w.heap.size w).alloc (Nat.le_refl _) (.cells #[.pointer p] 24)).alloc (by simp) (.cells #[.func (.func F) #[] #[]] 32)
  have HB := Lib.hid hB
  have LE := Lib.hid (nlen_any p _ (h.call hB))
  clear hB h
  go_enter Try.func16, Try.ntmps16
  go_wp2_with fail
  (with_reducible refine LE.out.mono ?_)
  rintro e w1 ⟨rfl, rfl⟩
  go_wp2
  go_ret
  exact ⟨rfl, HB.out⟩
theorem nlist_any (p : Option Addr) (w : World) (h : NilH p w) : Calls Try.prog 21 #[.pointer p] w fun e w' => e = .returned (.slice none 0 0) ∧ Below w.heap.size w w' := by
  have hB := (Below.refl w.heap.size w).alloc (Nat.le_refl _) (.cells #[.pointer p] 24)
  have HB := Lib.hid hB
  have LE := Lib.hid (nlen_any p _ (h.call hB))
  clear hB h
  go_enter Try.func21, Try.ntmps21
  go_wp2_with fail
  (with_reducible refine LE.out.mono ?_)
  rintro e w1 ⟨rfl, rfl⟩
  go_wp2
  go_ret
  exact ⟨rfl, HB.out⟩
theorem nnew_any (w : World) :
    Calls Try.prog 9 #[.nilFunc] w fun e w' => e = .returned (.pointer (some ⟨w.heap.size, 0, none⟩)) ∧ w' = w.alloc (.cells #[.nilFunc, .slice none 0 0] 40) := by
  go_enter Try.func9, Try.ntmps9
  go_wp2
  go_ret
  exact ⟨rfl, rfl⟩
theorem nil_made (w : World) : NilH (some ⟨w.heap.size, 0, none⟩) (w.alloc (.cells #[.nilFunc, .slice none 0 0] 40)) := .inr ⟨w.heap.size, rfl, by simp [go_sem], by simp [go_sem]⟩
/-- Drop of a nil test -/
theorem drop_nil (LB b : Nat) (r : Option Nat) (s : List Int) (w : World) (h : Hq LB w b r s) : Calls Try.prog 16 #[.pointer (some ⟨b, 0, none⟩), .nilFunc] w fun e w' => e = .returned (.int .i64 0) ∧ Below w.heap.size w w' := by
  have hB := ((Below.refl w.heap.size w).alloc (Nat.le_refl _) (.cells #[.pointer (some ⟨b, 0, none⟩)] 24)).alloc (by simp) (.cells #[.nilFunc] 32)
  have HB := Lib.hid hB
  have LE := Lib.hid (len_any LB b r s _ (h.call hB))
  have ef := eql_nil
  clear hB h
  by_cases h0 : s.length = 0
  · rw [h0] at LE
    clear h0
    go_enter Try.func16, Try.ntmps16
    go_wp2_with fail
    (with_reducible refine LE.out.mono ?_)
    rintro e w1 ⟨rfl, rfl⟩
    go_wp2
    go_ret
    exact ⟨rfl, HB.out⟩
  · have hz : ((s.length : Int) == 0) = false := by rw [beq_eq_false_iff_ne]; omega
    have hn0 : ¬ (s.length : Int) = 0 := by omega
    generalize s.length = n at *
    clear h0
    go_enter Try.func16, Try.ntmps16
    go_wp2_with fail
    (with_reducible refine LE.out.mono ?_)
    rintro e w1 ⟨rfl, rfl⟩
    go_wp2
    go_ret
    exact ⟨rfl, HB.out⟩
end Go.Proofs.Ytphnabnpapdpeaa.Hp
