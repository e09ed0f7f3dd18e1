/- Contracts of package heap's Drop and List. -/
import Derived.Test.YteagimnlhopjpaaHjF
namespace Go.Proofs.Yteagimnlhopjpaa.Hj
open Go.ChangeShapes Go.WideShapes Go.ChangeAt Go.RowKit Go.Joins
open Hp (Wk An Srt le ins sort sort_len sort_min sort_srt sort_ins sort_eq hp_nil hp_min hp_head)
open Ed (Jo wk own_an)
set_option maxRecDepth 100000
set_option maxRecDepth 100000
set_option linter.unusedVariables false
set_option linter.unusedSimpArgs false
/-- a row that was made, and laid into the box P3 -/
def Laid (P3 : Nat) (k : List Jo) (w w' : World) : Prop := ∃ u w1, NRow w.heap.size w1 u k ∧ Below w.heap.size w w1 ∧ w' = w1.setCell ⟨P3, 0, none⟩ u
theorem without_hq (LB b : Nat) (r : Option Nat) (s : List Jo) (w : World) (h : Hq LB w b r s) (hl : s.length ≤ 80000) (F : Nat) (p : Jo → Bool) (eg : ∀ args w, (callFunc F args).run Try.prog w = .ok (.enter F args) w)
    (hF : ∀ x W, Calls Try.prog F #[.agg #[.int .i64 x.id, .int .i64 x.rel, .int .i64 x.dl, .int .i64 x.le]] W fun e W' => e = .returned (.bool (p x)) ∧ Below W.heap.size W W') :
    Calls Try.prog 46 #[.pointer (some ⟨b, 0, none⟩), .func (.func F) #[] #[]] w fun e w' => ∃ u, e = .returned u ∧ NRow w.heap.size w' u (s.filter (fun x => !p x)) ∧ Below w.heap.size w w' := by
  obtain ⟨v, l, ht, hp, ho, rfl, -⟩ := h
  rw [sort_len] at hl
  exact without_any LB b v l w ht hp ho (by omega) F p eg hF
theorem list1_any (LB b : Nat) (r : Option Nat) (s : List Jo) (P1 P3 : Nat) (w : World) (h : Hq LB w b r s) (hl : s.length ≤ 80000) (h1 : w.cell? ⟨P1, 0, none⟩ = some (.pointer (some ⟨b, 0, none⟩))) (h3 : w.heap[P3]? = some (.cells #[.slice none 0 0] 27 (0, 0))) :
    Calls Try.prog 45 #[.pointer (some ⟨P1, 0, none⟩), .pointer (some ⟨P3, 0, none⟩)] w fun e w' => e = .returned (.tuple #[]) ∧ Laid P3 s w w' := by
  have WO := Lib.hid (without_hq LB b r s w h hl 47 (fun _ => false) (enters_of Try.func47 (by kernel_rfl) rfl) none_any)
  have e : s.filter (fun x => !(fun (_ : Jo) => false) x) = s := List.filter_eq_self.2 (fun _ _ => rfl)
  rw [e] at WO
  have H3 := Lib.hid h3
  clear h h3 e
  go_enter Try.func45, Try.ntmps45
  go_wp2_with fail
  (with_reducible refine WO.out.mono ?_)
  rintro e w1 ⟨u, rfl, hr, hb⟩
  have h4 := (hb.block _ (lt_of_heap H3.out)).trans H3.out
  have c3 : w1.cell? ⟨P3, 0, none⟩ = some (.slice none 0 0) := by rw [Lib.cell_of_heap h4]; rfl
  have f3 := Lib.frozen_of_heap h4 0
  have FN : Hid (Laid P3 s w (w1.setCell ⟨P3, 0, none⟩ u)) := Lib.hid ⟨u, w1, hr, hb, rfl⟩
  obtain ⟨pa, pc, rfl, -, -⟩ := hr.form
  generalize s.length = n at *
  clear hr hb WO h4
  go_wp2
  go_end0
  exact ⟨rfl, FN.out⟩
theorem list_any (LB b : Nat) (r : Option Nat) (s : List Jo) (w : World) (h : Hq LB w b r s) (hl : s.length ≤ 80000) :
    Calls Try.prog 33 #[.pointer (some ⟨b, 0, none⟩)] w fun e w' => ∃ u, e = .returned u ∧ NRow w.heap.size w' u s ∧ Below w.heap.size w w' := by
  have hmf : ∀ (fn : Fn) (first cap : Array Value) (w : World), (Instr.makeFunc fn first cap).run Try.prog w = .ok (.func fn first cap) w := fun _ _ _ _ => rfl
  have hA : Below w.heap.size w (w.alloc (.cells #[.pointer (some ⟨b, 0, none⟩)] 59)) := (Below.refl _ w).alloc (Nat.le_refl _) _
  have hB : Below w.heap.size w ((w.alloc (.cells #[.pointer (some ⟨b, 0, none⟩)] 59)).alloc (.cells #[.slice none 0 0] 27)) := hA.alloc (by simp) _
  have LE := Lib.hid (len_any LB b r s _ (h.call hA))
  have EN := Lib.hid (ends_any 45 #[] #[.pointer (some ⟨w.heap.size, 0, none⟩), .pointer (some ⟨w.heap.size + 1, 0, none⟩)] _ _ (enters_of Try.func45 (by kernel_rfl) rfl) (list1_any LB b r s w.heap.size (w.heap.size + 1) _ (h.call hB) hl (by simp [go_sem]) (by
    have := World.alloc_heap_new (w.alloc (.cells #[.pointer (some ⟨b, 0, none⟩)] 59)) (.cells #[.slice none 0 0] 27)
    rw [World.size_alloc] at this
    exact this)))
  have HB := Lib.hid hB
  have HA := Lib.hid hA
  clear h hB hA
  by_cases h0 : s.length = 0
  · obtain rfl : s = [] := List.eq_nil_of_length_eq_zero h0
    simp only [List.length_nil] at LE
    clear EN h0
    go_enter Try.func33, Try.ntmps33
    go_wp2_with fail
    (with_reducible refine LE.out.mono ?_)
    rintro e w1 ⟨rfl, rfl⟩
    go_wp2
    go_ret
    exact ⟨_, rfl, nrow_nil _ _, HA.out⟩
  · have hz : ((s.length : Int) == 0) = false := by rw [beq_eq_false_iff_ne]; omega
    have hn0 : ¬ (s.length : Int) = 0 := by omega
    generalize s.length = n at *
    clear h0
    go_enter Try.func33, Try.ntmps33
    go_wp2_with fail
    (with_reducible refine LE.out.mono ?_)
    rintro e w1 ⟨rfl, rfl⟩
    clear LE
    go_wp2_with fail
    (with_reducible refine EN.out.mono ?_)
    rintro e w2 ⟨rfl, u, w3, hr, hb, rfl⟩
    have hsz := hb.size
    simp only [World.size_alloc] at hsz hr
    have h4 : w3.heap[w.heap.size + 1]? = some (.cells #[.slice none 0 0] 27 (0, 0)) := (hb.block _ (by simp)).trans (by
      have := World.alloc_heap_new (w.alloc (.cells #[.pointer (some ⟨b, 0, none⟩)] 59)) (.cells #[.slice none 0 0] 27)
      rw [World.size_alloc] at this
      exact this)
    have c3 := World.cell?_setCell_same w3 ⟨w.heap.size + 1, 0, none⟩ u ((Lib.cell_of_heap h4 0).trans rfl)
    have F : Hid (NRow w.heap.size (w3.setCell ⟨w.heap.size + 1, 0, none⟩ u) u s ∧ Below w.heap.size w (w3.setCell ⟨w.heap.size + 1, 0, none⟩ u)) := Lib.hid
      ⟨(hr.of_blocks fun k hk => Below.heap_setCell _ _ _ _ (show k ≠ w.heap.size + 1 by have := (hr.lt k hk).1; omega)).mono (by omega), (HB.out.trans (hb.mono (by simp; omega))).setCell (by simp) _⟩
    clear hr hb hsz h4 EN HB HA
    go_wp2
    go_ret
    exact ⟨_, rfl, F.out⟩
/-- the three boxes of Drop -/
abbrev DrW (w : World) (b F : Nat) : World := ((w.alloc (.cells #[.pointer (some ⟨b, 0, none⟩)] 59)).alloc (.cells #[.func (.func F) #[] #[]] 65)).alloc (.cells #[.slice none 0 0] 27)
/-- change, as it is called -/
def ChangeQ (LB b : Nat) (r : Option Nat) (s : List Jo) (w w' : World) : Prop := Hq LB w' b r s ∧ Mv b r w w'
theorem change1_any (LB b : Nat) (r : Option Nat) (s : List Jo) (x : Jo) (P1 P2 : Nat) (w : World) (h : Hq LB w b r s) (hO : Ed.Own (x :: s.tail)) (hl : s.length ≤ 80000) (h0 : 0 < s.length) (h1 : w.cell? ⟨P1, 0, none⟩ = some (.pointer (some ⟨b, 0, none⟩))) (h2 : At4 w P2 0 x) :
    Calls Try.prog 38 #[.pointer (some ⟨P1, 0, none⟩), .pointer (some ⟨P2, 0, none⟩)] w fun e w' => e = .returned (.tuple #[]) ∧ ChangeQ LB b r (ins Ed.ahead x s.tail) w w' := by
  obtain ⟨v, l, ht, hp, ho, rfl, rfl⟩ := h
  obtain ⟨x0, x1, x2, x3⟩ := h2
  rw [sort_len] at hl h0
  have PI := Lib.hid (change_in LB b v l x w ht hp (by omega) h0)
  have HP := Lib.hid hp
  clear ht hp
  go_enter Try.func38, Try.ntmps38
  go_wp2_with fail
  (with_reducible refine PI.out.mono ?_)
  rintro e w1 ⟨rfl, m, ht', hp', hpm, hmv⟩
  have hOm : Ed.Own (l.set 0 x) := by
    cases l with
    | nil => simp at h0
    | cons a t =>
      rw [hp_head wk (own_an ho) HP.out, List.tail_cons] at hO
      rw [List.set_cons_zero]
      exact hO.perm ((Hp.sort_perm t).cons x)
  have F : Hid (ChangeQ LB b v.ownBlock (ins Ed.ahead x (sort Ed.ahead l).tail) w w1) := Lib.hid ⟨⟨v, m, ht', hp', hOm.perm hpm.symm, by
    cases l with
    | nil => simp at h0
    | cons a t =>
      rw [hp_head wk (own_an ho) HP.out, List.tail_cons]
      rw [List.set_cons_zero] at hpm
      exact sort_eq wk (own_an (hOm.perm hpm.symm)) hpm, rfl⟩, hmv⟩
  clear PI ht' hp' hpm hmv HP h1 x0 x1 x2 x3 hOm hO ho
  go_wp2
  go_end0
  exact ⟨rfl, F.out⟩
theorem change_any (LB b : Nat) (r : Option Nat) (s : List Jo) (x : Jo) (w : World) (h : Hq LB w b r s) (hO : Ed.Own (x :: s.tail)) (hl : s.length ≤ 80000) :
    Calls Try.prog 27 #[.pointer (some ⟨b, 0, none⟩), .agg #[.int .i64 x.id, .int .i64 x.rel, .int .i64 x.dl, .int .i64 x.le]] w fun e w' => e = .returned (.bool (minR s).2) ∧ ChangeQ LB b r (if (minR s).2 = true then ins Ed.ahead x s.tail else s) w w' := by
  have hmf : ∀ (fn : Fn) (first cap : Array Value) (w : World), (Instr.makeFunc fn first cap).run Try.prog w = .ok (.func fn first cap) w := fun _ _ _ _ => rfl
  have hB : Below w.heap.size w ((w.alloc (.cells #[.pointer (some ⟨b, 0, none⟩)] 59)).alloc (.cells #[.int .i64 x.id, .int .i64 x.rel, .int .i64 x.dl, .int .i64 x.le] 31)) := ((Below.refl _ w).alloc (Nat.le_refl _) _).alloc (by simp) _
  have h2 := h.call hB
  have hbx : Bx ((w.alloc (.cells #[.pointer (some ⟨b, 0, none⟩)] 59)).alloc (.cells #[.int .i64 x.id, .int .i64 x.rel, .int .i64 x.dl, .int .i64 x.le] 31)) (w.heap.size + 1) x := by
    have := bx_new (w.alloc (.cells #[.pointer (some ⟨b, 0, none⟩)] 59)) x
    rw [World.size_alloc] at this; exact this
  have LE := Lib.hid (len_any LB b r s _ h2)
  have EN := Lib.hid (fun h0 => ends_any 38 #[] #[.pointer (some ⟨w.heap.size, 0, none⟩), .pointer (some ⟨w.heap.size + 1, 0, none⟩)] _ _ (enters_of Try.func38 (by kernel_rfl) rfl) (change1_any LB b r s x w.heap.size (w.heap.size + 1) _ h2 hO hl h0 (by simp [go_sem]) hbx.at))
  have HB := Lib.hid hB
  have HQ := Lib.hid h2
  clear h h2 hB hbx
  cases s with
  | nil =>
    unfold minR
    simp only [List.length_nil, Bool.false_eq_true, if_false] at *
    clear EN
    go_enter Try.func27, Try.ntmps27
    go_wp2_with fail
    (with_reducible refine LE.out.mono ?_)
    rintro e w1 ⟨rfl, rfl⟩
    go_wp2
    go_ret
    exact ⟨rfl, HQ.out, .of_below HB.out⟩
  | cons a t =>
    have E2 := Lib.hid (EN.out (by simp))
    unfold minR
    simp only [if_true, List.tail_cons] at *
    have hn : (0 : Int) < (((a :: t).length : Nat) : Int) := by rw [List.length_cons]; omega
    generalize (a :: t).length = n at *
    generalize ins Ed.ahead x t = s at *
    clear EN HQ hO
    go_enter Try.func27, Try.ntmps27
    go_wp2_with fail
    (with_reducible refine LE.out.mono ?_)
    rintro e w1 ⟨rfl, rfl⟩
    clear LE
    go_wp2_with fail
    (with_reducible refine E2.out.mono ?_)
    rintro e w1 ⟨rfl, hq⟩
    have F : Hid (ChangeQ LB b r s w w1) := Lib.hid ⟨hq.1, (Mv.of_below HB.out).trans hq.2 (fun j e => .inl e)⟩
    clear hq E2 HB
    go_wp2
    go_ret
    exact ⟨rfl, F.out⟩
end Go.Proofs.Yteagimnlhopjpaa.Hj
