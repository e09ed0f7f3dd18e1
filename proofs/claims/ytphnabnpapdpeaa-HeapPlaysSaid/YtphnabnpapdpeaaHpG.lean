/- Contracts of package heap's Drop and List. -/
import Derived.Test.YtphnabnpapdpeaaHpF
namespace Go.Proofs.Ytphnabnpapdpeaa.Hp
open Go.ChangeShapes Go.WideShapes Go.ChangeAt Go.RowKit Go.Joins
set_option maxRecDepth 100000
set_option maxRecDepth 100000
set_option linter.unusedVariables false
set_option linter.unusedSimpArgs false
/-- a row that was made, and laid into the box P3 -/
def Laid (P3 : Nat) (k : List Int) (w w' : World) : Prop := ∃ u w1, NRow w.heap.size w1 u k ∧ Below w.heap.size w w1 ∧ w' = w1.setCell ⟨P3, 0, none⟩ u
theorem without_hq (LB b : Nat) (r : Option Nat) (s : List Int) (w : World) (h : Hq LB w b r s) (hl : s.length ≤ 800000) (F : Nat) (p : Int → Bool) (eg : ∀ args w, (callFunc F args).run Try.prog w = .ok (.enter F args) w)
    (hF : ∀ x W, Calls Try.prog F #[.int .i64 x] W fun e W' => e = .returned (.bool (p x)) ∧ W' = W) :
    Calls Try.prog 28 #[.pointer (some ⟨b, 0, none⟩), .func (.func F) #[] #[]] w fun e w' => ∃ u, e = .returned u ∧ NRow w.heap.size w' u (s.filter (fun x => !p x)) ∧ Below w.heap.size w w' := by
  obtain ⟨v, l, ht, hp, rfl, -⟩ := h
  rw [sort_len] at hl
  exact without_any LB b v l w ht hp (by omega) F p eg hF
theorem drop1_any (LB b : Nat) (r : Option Nat) (s : List Int) (P1 P2 P3 : Nat) (w : World) (h : Hq LB w b r s) (hl : s.length ≤ 800000) (F : Nat) (p : Int → Bool) (eg : ∀ args w, (callFunc F args).run Try.prog w = .ok (.enter F args) w)
    (hF : ∀ x W, Calls Try.prog F #[.int .i64 x] W fun e W' => e = .returned (.bool (p x)) ∧ W' = W) (h1 : w.cell? ⟨P1, 0, none⟩ = some (.pointer (some ⟨b, 0, none⟩))) (h2 : w.cell? ⟨P2, 0, none⟩ = some (.func (.func F) #[] #[])) (h3 : w.heap[P3]? = some (.cells #[.slice none 0 0] 22 (0, 0))) :
    Calls Try.prog 27 #[.pointer (some ⟨P1, 0, none⟩), .pointer (some ⟨P2, 0, none⟩), .pointer (some ⟨P3, 0, none⟩)] w fun e w' => e = .returned (.tuple #[]) ∧ Laid P3 (s.filter (fun x => !p x)) w w' := by
  have WO := Lib.hid (without_hq LB b r s w h hl F p eg hF)
  have H3 := Lib.hid h3
  clear h hF h3
  go_enter Try.func27, Try.ntmps27
  go_wp2_with fail
  (with_reducible refine WO.out.mono ?_)
  rintro e w1 ⟨u, rfl, hr, hb⟩
  have h4 := (hb.block _ (lt_of_heap H3.out)).trans H3.out
  have c3 : w1.cell? ⟨P3, 0, none⟩ = some (.slice none 0 0) := by rw [Lib.cell_of_heap h4]; rfl
  have f3 := Lib.frozen_of_heap h4 0
  have FN : Hid (Laid P3 (s.filter (fun x => !p x)) w (w1.setCell ⟨P3, 0, none⟩ u)) := Lib.hid ⟨u, w1, hr, hb, rfl⟩
  obtain ⟨pa, pc, rfl, -, -⟩ := hr.form
  generalize (s.filter (fun x => !p x)).length = n at *
  clear hr hb WO h4
  go_wp2
  go_end0
  exact ⟨rfl, FN.out⟩
theorem list1_any (LB b : Nat) (r : Option Nat) (s : List Int) (P1 P3 : Nat) (w : World) (h : Hq LB w b r s) (hl : s.length ≤ 800000) (h1 : w.cell? ⟨P1, 0, none⟩ = some (.pointer (some ⟨b, 0, none⟩))) (h3 : w.heap[P3]? = some (.cells #[.slice none 0 0] 22 (0, 0))) :
    Calls Try.prog 31 #[.pointer (some ⟨P1, 0, none⟩), .pointer (some ⟨P3, 0, none⟩)] w fun e w' => e = .returned (.tuple #[]) ∧ Laid P3 s w w' := by
  have WO := Lib.hid (without_hq LB b r s w h hl 32 (fun _ => false) (enters_of Try.func32 (by kernel_rfl) rfl) none_any)
  have e : s.filter (fun x => !(fun (_ : Int) => false) x) = s := List.filter_eq_self.2 (fun _ _ => rfl)
  rw [e] at WO
  have H3 := Lib.hid h3
  clear h h3 e
  go_enter Try.func31, Try.ntmps31
  go_wp2_with fail
  (with_reducible refine WO.out.mono ?_)
  rintro e w1 ⟨u, rfl, hr, hb⟩
  have h4 := (hb.block _ (lt_of_heap H3.out)).trans H3.out
  have c3 : w1.cell? ⟨P3, 0, none⟩ = some (.slice none 0 0) := by rw [Lib.cell_of_heap h4]; rfl
  have f3 := Lib.frozen_of_heap h4 0
  have FN : Hid (Laid P3 s w (w1.setCell ⟨P3, 0, none⟩ u)) := Lib.hid ⟨u, w1, hr, hb, rfl⟩
  obtain ⟨pa, pc, rfl, -, -⟩ := hr.form
  generalize s.length = n at *
  clear hr hb WO h4
  go_wp2
  go_end0
  exact ⟨rfl, FN.out⟩
theorem list_any (LB b : Nat) (r : Option Nat) (s : List Int) (w : World) (h : Hq LB w b r s) (hl : s.length ≤ 800000) :
    Calls Try.prog 21 #[.pointer (some ⟨b, 0, none⟩)] w fun e w' => ∃ u, e = .returned u ∧ NRow w.heap.size w' u s ∧ Below w.heap.size w w' := by
  have hmf : ∀ (fn : Fn) (first cap : Array Value) (w : World), (Instr.makeFunc fn first cap).run Try.prog w = .ok (.func fn first cap) w := fun _ _ _ _ => rfl
  have hA : Below w.heap.size w (w.alloc (.cells #[.pointer (some ⟨b, 0, none⟩)] 24)) := (Below.refl _ w).alloc (Nat.le_refl _) _
  have hB : Below w.heap.size w ((w.alloc (.cells #[.pointer (some ⟨b, 0, none⟩)] 24)).alloc (.cells #[.slice none 0 0] 22)) := hA.alloc (by simp) _
  have LE := Lib.hid (len_any LB b r s _ (h.call hA))
  have EN := Lib.hid (ends_any 31 #[] #[.pointer (some ⟨w.heap.size, 0, none⟩), .pointer (some ⟨w.heap.size + 1, 0, none⟩)] _ _ (enters_of Try.func31 (by kernel_rfl) rfl) (list1_any LB b r s w.heap.size (w.heap.size + 1) _ (h.call hB) hl (by simp [go_sem]) (by
    have := World.alloc_heap_new (w.alloc (.cells #[.pointer (some ⟨b, 0, none⟩)] 24)) (.cells #[.slice none 0 0] 22)
    rw [World.size_alloc] at this
    exact this)))
  have HB := Lib.hid hB
  have HA := Lib.hid hA
  clear h hB hA
  by_cases h0 : s.length = 0
  · obtain rfl : s = [] := List.eq_nil_of_length_eq_zero h0
    simp only [List.length_nil] at LE
    clear EN h0
    go_enter Try.func21, Try.ntmps21
    go_wp2_with fail
    (with_reducible refine LE.out.mono ?_)
    rintro e w1 ⟨rfl, rfl⟩
    go_wp2
    go_ret
    exact ⟨_, rfl, nrow_nil _ _, HA.out⟩
  · have hz : ((s.length : Int) == 0) = false := by rw [beq_eq_false_iff_ne]; omega
    have hn0 : ¬ (s.length : Int) = 0 := by omega
    generalize s.length = n at *
    clear h0
    go_enter Try.func21, Try.ntmps21
    go_wp2_with fail
    (with_reducible refine LE.out.mono ?_)
    rintro e w1 ⟨rfl, rfl⟩
    clear LE
    go_wp2_with fail
    (with_reducible refine EN.out.mono ?_)
    rintro e w2 ⟨rfl, u, w3, hr, hb, rfl⟩
    have hsz := hb.size
    simp only [World.size_alloc] at hsz hr
    have h4 : w3.heap[w.heap.size + 1]? = some (.cells #[.slice none 0 0] 22 (0, 0)) := (hb.block _ (by simp)).trans (by
      have := World.alloc_heap_new (w.alloc (.cells #[.pointer (some ⟨b, 0, none⟩)] 24)) (.cells #[.slice none 0 0] 22)
      rw [World.size_alloc] at this
      exact this)
    have c3 := World.cell?_setCell_same w3 ⟨w.heap.size + 1, 0, none⟩ u ((Lib.cell_of_heap h4 0).trans rfl)
    have F : Hid (NRow w.heap.size (w3.setCell ⟨w.heap.size + 1, 0, none⟩ u) u s ∧ Below w.heap.size w (w3.setCell ⟨w.heap.size + 1, 0, none⟩ u)) := Lib.hid
      ⟨(hr.of_blocks fun k hk => Below.heap_setCell _ _ _ _ (show k ≠ w.heap.size + 1 by have := (hr.lt k hk).1; omega)).mono (by omega), (HB.out.trans (hb.mono (by simp; omega))).setCell (by simp) _⟩
    clear hr hb hsz h4 EN HB HA
    go_wp2
    go_ret
    exact ⟨_, rfl, F.out⟩
/-- the three boxes of Drop -/
abbrev DrW (w : World) (b F : Nat) : World := ((w.alloc (.cells #[.pointer (some ⟨b, 0, none⟩)] 24)).alloc (.cells #[.func (.func F) #[] #[]] 32)).alloc (.cells #[.slice none 0 0] 22)
theorem drop_any (LB b : Nat) (r : Option Nat) (s : List Int) (w : World) (h : Hq LB w b r s) (hl : s.length ≤ 800000) (F : Nat) (p : Int → Bool) (eg : ∀ args w, (callFunc F args).run Try.prog w = .ok (.enter F args) w)
    (hF : ∀ x W, Calls Try.prog F #[.int .i64 x] W fun e W' => e = .returned (.bool (p x)) ∧ W' = W) :
    Calls Try.prog 16 #[.pointer (some ⟨b, 0, none⟩), .func (.func F) #[] #[]] w fun e w' => e = .returned (.int .i64 ((s.length : Int) - ((s.filter (fun x => !p x)).length : Int))) ∧ PutQ LB b r (s.filter (fun x => !p x)) w w' := by
  have hmf : ∀ (fn : Fn) (first cap : Array Value) (w : World), (Instr.makeFunc fn first cap).run Try.prog w = .ok (.func fn first cap) w := fun _ _ _ _ => rfl
  have hA : Below w.heap.size w ((w.alloc (.cells #[.pointer (some ⟨b, 0, none⟩)] 24)).alloc (.cells #[.func (.func F) #[] #[]] 32)) := ((Below.refl _ w).alloc (Nat.le_refl _) _).alloc (by simp) _
  have hB : Below w.heap.size w (DrW w b F) := hA.alloc (by simp; omega) _
  have h3 : (DrW w b F).heap[w.heap.size + 1 + 1]? = some (.cells #[.slice none 0 0] 22 (0, 0)) := by
    have := World.alloc_heap_new ((w.alloc (.cells #[.pointer (some ⟨b, 0, none⟩)] 24)).alloc (.cells #[.func (.func F) #[] #[]] 32)) (.cells #[.slice none 0 0] 22)
    rw [World.size_alloc, World.size_alloc] at this
    exact this
  have hfl := List.length_filter_le (fun x => !p x) s
  have LE := Lib.hid (len_any LB b r s _ (h.call hA))
  have EN := Lib.hid (ends_any 27 #[] #[.pointer (some ⟨w.heap.size, 0, none⟩), .pointer (some ⟨w.heap.size + 1, 0, none⟩), .pointer (some ⟨w.heap.size + 1 + 1, 0, none⟩)] _ _ (enters_of Try.func27 (by kernel_rfl) rfl) (drop1_any LB b r s w.heap.size (w.heap.size + 1) (w.heap.size + 1 + 1) _ (h.call hB) hl F p eg hF (by simp [go_sem]) (by simp [go_sem]) h3))
  have HB := Lib.hid hB
  have HA := Lib.hid hA
  have HQ := Lib.hid h
  have H3 := Lib.hid h3
  have ef := eql_func F
  clear hB hA hF h3 eg
  by_cases h0 : s.length = 0
  · obtain rfl : s = [] := List.eq_nil_of_length_eq_zero h0
    simp only [List.length_nil, List.filter_nil] at LE ⊢
    have FN : Hid (PutQ LB b r [] w ((w.alloc (.cells #[.pointer (some ⟨b, 0, none⟩)] 24)).alloc (.cells #[.func (.func F) #[] #[]] 32))) := Lib.hid ⟨r, HQ.out.call HA.out, .of_below HA.out, Nw.refl _ _⟩
    clear EN h0 h hfl HQ H3 HB HA
    go_enter Try.func16, Try.ntmps16
    go_wp2_with fail
    (with_reducible refine LE.out.mono ?_)
    rintro e w1 ⟨rfl, rfl⟩
    go_wp2
    go_ret
    exact ⟨rfl, FN.out⟩
  · have hz : ((s.length : Int) == 0) = false := by rw [beq_eq_false_iff_ne]; omega
    have hn0 : ¬ (s.length : Int) = 0 := by omega
    obtain ⟨k, hk⟩ : ∃ k, k = s.filter (fun x => !p x) := ⟨_, rfl⟩
    have KE : Hid (k.length = s.length → k = s) := Lib.hid (fun e => by rw [hk] at e ⊢; exact List.filter_eq_self.2 (List.length_filter_eq_length_iff.1 e))
    have KS : Hid (Srt ltI k) := Lib.hid (by rw [hk]; exact h.srt.filter _)
    rw [← hk] at hfl EN ⊢
    have hb0 := h.lt
    have HR := Lib.hid h.rlt
    have HD := Lib.hid (show ∃ v, w.heap[b]? = some (.cells #[.func (.func 10) #[] #[], v] 40 (0, 0)) by obtain ⟨v, l, ht, -⟩ := h; exact ⟨v, ht.head⟩)
    have hlb := h.lb
    clear h0 h hk
    have hss : IntKind.i64.wrap ((s.length : Int) - (k.length : Int)) = (s.length : Int) - (k.length : Int) := IntWalk.i64_in _ (by omega)
    obtain ⟨n, hn⟩ : ∃ n, n = s.length := ⟨_, rfl⟩
    obtain ⟨m, hm⟩ : ∃ m, m = k.length := ⟨_, rfl⟩
    have HN := Lib.hid hn
    have HM := Lib.hid hm
    rw [← hn] at LE hz hn0 hss hfl ⊢
    rw [← hm] at hss hfl ⊢
    clear hn hm hl
    go_enter Try.func16, Try.ntmps16
    go_wp2_with fail
    (with_reducible refine LE.out.mono ?_)
    rintro e w1 ⟨rfl, rfl⟩
    clear LE
    go_wp2_with fail
    (with_reducible refine EN.out.mono ?_)
    rintro e w2 ⟨rfl, u, w3, hr, hb, rfl⟩
    have hsz := hb.size
    simp only [World.size_alloc] at hsz hr
    have h4 : w3.heap[w.heap.size + 1 + 1]? = some (.cells #[.slice none 0 0] 22 (0, 0)) := (hb.block _ (by simp)).trans H3.out
    have c3 := World.cell?_setCell_same w3 ⟨w.heap.size + 1 + 1, 0, none⟩ u ((Lib.cell_of_heap h4 0).trans rfl)
    have r4 : NRow w.heap.size (w3.setCell ⟨w.heap.size + 1 + 1, 0, none⟩ u) u k := (hr.of_blocks fun j hj => Below.heap_setCell _ _ _ _ (show j ≠ w.heap.size + 1 + 1 by have := (hr.lt j hj).1; omega)).mono (by omega)
    have b4 : Below w.heap.size w (w3.setCell ⟨w.heap.size + 1 + 1, 0, none⟩ u) := (HB.out.trans (hb.mono (by simp; omega))).setCell (by simp; omega) _
    have cP : (w3.setCell ⟨w.heap.size + 1 + 1, 0, none⟩ u).cell? ⟨w.heap.size, 0, none⟩ = some (.pointer (some ⟨b, 0, none⟩)) := by
      rw [World.cell?_setCell_other _ _ _ _ (by simp)]
      exact (hb.cell (p := ⟨w.heap.size, 0, none⟩) (by simp; omega)).trans (by simp [go_sem])
    generalize w3.setCell ⟨w.heap.size + 1 + 1, 0, none⟩ u = W4 at *
    clear hr hb hsz h4 EN HB HA H3
    obtain ⟨pa, pc, rfl, -, -⟩ := r4.form
    rw [← HM.out] at c3 r4
    by_cases e : m = n
    · have he : ((m : Int) == (n : Int)) = true := by rw [e]; simp
      have FN : Hid (PutQ LB b r k w W4) := Lib.hid (by
        rw [KE.out (by rw [← HM.out, ← HN.out]; exact e)]
        exact ⟨r, HQ.out.call b4, .of_below b4, Nw.refl _ _⟩)
      have E0 : Hid ((n : Int) - (m : Int) = 0) := Lib.hid (by omega)
      have hei : (m : Int) = (n : Int) := by omega
      clear KE KS HQ HR HD r4 b4 e
      go_wp2
      go_ret
      exact ⟨by rw [E0.out]; rfl, FN.out⟩
    · have he : ((m : Int) == (n : Int)) = false := by rw [beq_eq_false_iff_ne]; omega
      have hei : ¬ (m : Int) = (n : Int) := by omega
      obtain ⟨v0, hd⟩ := HD.out
      have hd4 := (b4.block b hb0).trans hd
      have c1 := (Lib.cell_of_heap hd4 1).trans rfl
      have f1 := Lib.frozen_of_heap hd4 1
      have hba : b ≠ w.heap.size + 1 + 1 := by omega
      have FN : Hid (PutQ LB b r k w (W4.setCell ⟨b, 1, none⟩ (.slice pa m pc))) := Lib.hid
        ⟨_, ⟨_, k, Ht.laid hd4 (r4.mono (by omega)) hlb, hp_srt KS.out, sort_self ordI.wk (ordI.an _) KS.out, rfl⟩, (Mv.of_below b4).set _ (.inl rfl), fun j hj => .inr (r4.lt j hj).1⟩
      have c3' : (W4.setCell ⟨b, 1, none⟩ (.slice pa m pc)).cell? ⟨w.heap.size + 1 + 1, 0, none⟩ = some (.slice pa m pc) := by
        rw [World.cell?_setCell_other _ _ _ _ (by simp)]; exact c3
      clear KE KS HQ HR HD r4 b4 e hd hd4
      go_wp2
      go_ret
      exact ⟨rfl, FN.out⟩
end Go.Proofs.Ytphnabnpapdpeaa.Hp
