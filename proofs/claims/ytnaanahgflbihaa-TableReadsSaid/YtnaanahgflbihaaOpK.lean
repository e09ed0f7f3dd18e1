/- The document's Read of an op. -/
import Derived.Test.YtnaanahgflbihaaOpJ
import Derived.Test.YtnaanahgflbihaaOpH
namespace Go.Proofs.Ytnaanahgflbihaa.Ox
open Go.ChangeShapes Go.WideShapes Go.ChangeAt Go.RowKit Go.Joins
open Oc
open Pm (Tk chk chk_iff)
set_option maxRecDepth 100000
set_option maxRecDepth 100000
set_option linter.unusedVariables false
set_option linter.unusedSimpArgs false
theorem dint_t {b p PT q T : Nat} {ps : Array Value} {o : St} {w : World} (most : Int) (hm : (Lit.int .i64 most).wf = true) :
    ∀ cs W, Tr RD b p PT q T ps cs o w W → Calls Try.prog 48 #[self b, .int .i64 most] W fun e w' => e = .returned (.int .i64 ((int o most).1 : Int)) ∧ Tr RD b p PT q T ps cs (int o most).2 w w' := fun cs W h =>
  (int_dc b o most W h.rd hm h.le).mono fun e w' ⟨he, hr, ha⟩ => ⟨he, h.step hr (int_left' _ _) ha⟩
theorem dnum_t {b p PT q T : Nat} {ps : Array Value} {o : St} {w : World} :
    ∀ cs W, Tr RD b p PT q T ps cs o w W → Calls Try.prog 49 #[self b, .int .u64 2147483648] W fun e w' => e = .returned (.int .u64 ((num o 2147483648).1 : Int)) ∧ Tr RD b p PT q T ps cs (num o 2147483648).2 w w' := fun cs W h =>
  (num_dc b o 2147483648 W h.rd (by omega) h.le).mono fun e w' ⟨he, hr, ha⟩ => ⟨he, h.step hr (num_left _ _) ha⟩
theorem dflag_t {b p PT q T : Nat} {ps : Array Value} {o : St} {w : World} :
    ∀ cs W, Tr RD b p PT q T ps cs o w W → Calls Try.prog 50 #[self b] W fun e w' => e = .returned (.bool (flag o).1) ∧ Tr RD b p PT q T ps cs (flag o).2 w w' := fun cs W h =>
  (flag_dc b o W h.rd h.le).mono fun e w' ⟨he, hr, ha⟩ => ⟨he, h.step hr (flag_left _) ha⟩
theorem dr_new {o' : St} {s : ByteArray} {w w1 : World} (hl : left o' ≤ 1000000) (k1 : Rd RD (w.heap.size + 1) o' w1) (a1 : Apart (w.heap.size + 1) ((w.alloc (.cells #[.int .i64 0, .int .i64 0, .int .i64 0, .int .i64 0, .int .i64 0, .int .i64 0, .bool false, .int .i64 0, .int .i64 0, .int .i64 0] 29)).alloc (.cells #[.string s, .bool false] RD)) w1) (cs : Array Value) :
    Tr RD (w.heap.size + 1) w.heap.size 29 w1.heap.size 29 #[.int .i64 0, .int .i64 0, .int .i64 0, .int .i64 0, .int .i64 0, .int .i64 0, .bool false, .int .i64 0, .int .i64 0, .int .i64 0] cs o' w (w1.alloc (.cells cs 29)) := by
  have hp : ((w.alloc (.cells #[.int .i64 0, .int .i64 0, .int .i64 0, .int .i64 0, .int .i64 0, .int .i64 0, .bool false, .int .i64 0, .int .i64 0, .int .i64 0] 29)).alloc (.cells #[.string s, .bool false] RD)).heap[w.heap.size]? = some (.cells #[.int .i64 0, .int .i64 0, .int .i64 0, .int .i64 0, .int .i64 0, .int .i64 0, .bool false, .int .i64 0, .int .i64 0, .int .i64 0] 29 (0, 0)) := (((Below.refl _ _).alloc (Nat.le_refl _) _).block w.heap.size (by simp)).trans (heap_alloc_new _ _)
  have hp1 := (a1.block w.heap.size (by simp; omega) (by omega)).trans hp
  have s1 := a1.size
  simp only [World.size_alloc] at s1
  have b3 : Below w1.heap.size w1 (w1.alloc (.cells cs 29)) := (Below.refl _ _).alloc (Nat.le_refl _) _
  exact ⟨k1.call b3, hl, (b3.block w.heap.size (lt_of_heap hp1)).trans hp1, heap_alloc_new _ _, by omega, by omega, by omega, (((((Apart.refl (w.heap.size + 1) w).alloc _).alloc _).trans a1).alloc _), by omega⟩
/-- what the document makes of what its reader has taken -/
theorem read_out (l : List UInt8) : (ended (takeR (some l)).2 = false ∧ readO l = (od0, 10)) ∨ (ended (takeR (some l)).2 = true ∧ bytesR (opR (takeR (some l)).1) = (⟨#[]⟩, 1) ∧ readO l = (od0, 10)) ∨ (ended (takeR (some l)).2 = true ∧ bytesR (opR (takeR (some l)).1) = (mkB l, 0) ∧ readO l = (opR (takeR (some l)).1, 0)) := by
  cases he : ended (takeR (some l)).2 with
  | false => exact .inl ⟨rfl, readO_no (by rw [he]; simp)⟩
  | true =>
    cases hc : chkR (opR (takeR (some l)).1) with
    | false => exact .inr (.inl ⟨rfl, by unfold bytesR; rw [hc]; rfl, readO_no (by rw [hc]; simp)⟩)
    | true =>
      refine .inr (.inr ⟨rfl, ?_, readO_yes he hc⟩)
      have e := take_read (some l)
      have h1 : (readM (some l)).1 = opR (takeR (some l)).1 := by rw [← e]
      have h2 : (readM (some l)).2 = some [] := by rw [← e]; simpa [ended] using he
      have := readM_took h2 (by rw [h1]; exact hc)
      rw [List.append_nil, h1] at this
      unfold bytesR
      rw [hc, ← this]
      rfl
set_option maxHeartbeats 4000000 in
theorem rread_remove (l : List UInt8) (w : World) (hl : l.length ≤ 1000000) (o : St) (ho : o = some l) (hk : (int o 4).1 = 2) :
    Calls Try.prog 55 #[.string (mkB l)] w fun e w' => e = .returned (.tuple #[(readO l).1.v, .int .i64 (readO l).2]) ∧ Below w.heap.size w w' := by
  have K1 : Rd RD (w.heap.size + 1) o ((w.alloc (.cells #[.int .i64 0, .int .i64 0, .int .i64 0, .int .i64 0, .int .i64 0, .int .i64 0, .bool false, .int .i64 0, .int .i64 0, .int .i64 0] 29)).alloc (.cells #[.string (mkB l), .bool false] RD)) := by
    have := heap_alloc_new (w.alloc (.cells #[.int .i64 0, .int .i64 0, .int .i64 0, .int .i64 0, .int .i64 0, .int .i64 0, .bool false, .int .i64 0, .int .i64 0, .int .i64 0] 29)) (.cells #[.string (mkB l), .bool false] RD)
    rw [World.size_alloc] at this
    rw [ho]
    exact this
  have hlo : left o ≤ 1000000 := by rw [ho]; exact hl
  have C0 := Lib.hid (int_dc (w.heap.size + 1) o 4 _ K1 (by decide) hlo)
  have OUT := read_out l
  rw [← ho] at OUT
  have E : takeR o = (.remove (int (int o 4).2 1023).1, (int (int o 4).2 1023).2) := by unfold takeR; rw [if_neg (by omega), if_pos hk]
  rw [E] at OUT
  clear E K1 hl ho
  have L1 : left (int o 4).2 ≤ 1000000 := Nat.le_trans (int_left' _ _) hlo
  clear hlo
  rw [hk] at C0
  clear hk
  generalize (int o 4).2 = o1 at *
  have HZ := Lib.hid (fun w1 k1 a1 => dr_new (s := mkB l) (w := w) (w1 := w1) (o' := o1) L1 k1 a1 #[.int .i64 2, .int .i64 0, .int .i64 0, .int .i64 0, .int .i64 0, .int .i64 0, .bool false, .int .i64 0, .int .i64 0, .int .i64 0])
  clear L1
  have C1 := Lib.hid (fun q => dint_t (b := (w.heap.size + 1)) (p := w.heap.size) (PT := 29) (q := q) (T := 29) (ps := #[.int .i64 0, .int .i64 0, .int .i64 0, .int .i64 0, .int .i64 0, .int .i64 0, .bool false, .int .i64 0, .int .i64 0, .int .i64 0]) (o := o1) (w := w) 1023 (by decide))
  generalize int o1 1023 = x1 at *
  obtain ⟨n1, o2⟩ := x1
  simp only at *
  simp only [opR] at OUT
  have BY := Lib.hid (rbytes_any ⟨2, tk0, false, (n1 : Int), 0, 0⟩)
  have EN : Hid (∀ W, Rd RD (w.heap.size + 1) o2 W → Calls Try.prog 51 #[self (w.heap.size + 1)] W fun e w' => e = .returned (.bool (ended o2)) ∧ w' = W) := Lib.hid (fun W k => end_dc _ _ W k)
  simp only [Od.v, Od.cs, tk0] at BY
  obtain ⟨bs, hbs⟩ : ∃ bs, bs = bytesR ⟨2, tk0, false, (n1 : Int), 0, 0⟩ := ⟨_, rfl⟩
  try unfold tk0 at hbs
  try simp only [tk0] at OUT
  rw [← hbs] at BY OUT
  clear hbs
  obtain ⟨bb, be⟩ := bs
  obtain ⟨en, hen⟩ : ∃ en, en = ended o2 := ⟨_, rfl⟩
  rw [← hen] at EN OUT
  clear hen
  generalize hro : readO l = ro at *
  clear hro
  obtain ⟨rv, re⟩ := ro
  simp only [Prod.mk.injEq] at BY OUT ⊢
  have OUTH := Lib.hid OUT
  clear OUT
  generalize mkB l = sl at *
  go_enter Try.func55, Try.ntmps55
  go_wp2_with fail
  (with_reducible refine C0.out.mono ?_)
  rintro e w1 ⟨rfl, k1, a1⟩
  have H0 := Lib.hid (HZ.out w1 k1 a1)
  have pq : w.heap.size ≠ w1.heap.size := H0.out.pq
  have pq' : w1.heap.size ≠ w.heap.size := H0.out.pq.symm
  clear C0 HZ k1 a1
  go_wp2_with fail
  (with_reducible refine ((C1.out _) _ _ H0.out).mono ?_)
  rintro e v1 ⟨rfl, h1⟩
  have H1 : Hid (Tr RD (w.heap.size + 1) w.heap.size 29 w1.heap.size 29 #[.int .i64 0, .int .i64 0, .int .i64 0, .int .i64 0, .int .i64 0, .int .i64 0, .bool false, .int .i64 0, .int .i64 0, .int .i64 0] #[.int .i64 2, .int .i64 0, .int .i64 0, .int .i64 0, .int .i64 0, .int .i64 0, .bool false, .int .i64 0, .int .i64 0, .int .i64 0] o2 w v1) := Lib.hid h1
  clear h1 H0
  have y0 := H1.out.cq 0
  have y1 := H1.out.cq 1
  have y2 := H1.out.cq 2
  have y3 := H1.out.cq 3
  have y4 := H1.out.cq 4
  have y5 := H1.out.cq 5
  have y6 := H1.out.cq 6
  have y7 := H1.out.cq 7
  have y8 := H1.out.cq 8
  have y9 := H1.out.cq 9
  have fq := H1.out.fq
  have HL := Lib.hid (H1.out.set 7 (.int .i64 (n1 : Int)))
  go_wp2_with fail
  (with_reducible refine (BY.out _).mono ?_)
  rintro e w7 ⟨rfl, b7⟩
  have H7 : Hid (Tr RD (w.heap.size + 1) w.heap.size 29 w1.heap.size 29 #[.int .i64 0, .int .i64 0, .int .i64 0, .int .i64 0, .int .i64 0, .int .i64 0, .bool false, .int .i64 0, .int .i64 0, .int .i64 0] #[.int .i64 2, .int .i64 0, .int .i64 0, .int .i64 0, .int .i64 0, .int .i64 0, .bool false, .int .i64 (n1 : Int), .int .i64 0, .int .i64 0] o2 w w7) := Lib.hid (HL.out.call b7)
  clear b7 HL BY fq H1 y0 y1 y2 y3 y4 y5 y6 y7 y8 y9
  go_wp2_with fail
  (with_reducible refine (EN.out _ H7.out.rd).mono ?_)
  rintro e w8 ⟨rfl, rfl⟩
  have FIN := Lib.hid (H7.out.ap.below (B := w.heap.size) (by omega) (Nat.le_refl _))
  have y0 := H7.out.cq 0
  have z0 := H7.out.cp 0
  have y1 := H7.out.cq 1
  have z1 := H7.out.cp 1
  have y2 := H7.out.cq 2
  have z2 := H7.out.cp 2
  have y3 := H7.out.cq 3
  have z3 := H7.out.cp 3
  have y4 := H7.out.cq 4
  have z4 := H7.out.cp 4
  have y5 := H7.out.cq 5
  have z5 := H7.out.cp 5
  have y6 := H7.out.cq 6
  have z6 := H7.out.cp 6
  have y7 := H7.out.cq 7
  have z7 := H7.out.cp 7
  have y8 := H7.out.cq 8
  have z8 := H7.out.cp 8
  have y9 := H7.out.cq 9
  have z9 := H7.out.cp 9
  have fq := H7.out.fp
  clear H7 EN
  rcases OUTH.out with ⟨rfl, rfl, rfl⟩ | ⟨rfl, ⟨rfl, rfl⟩, rfl, rfl⟩ | ⟨rfl, ⟨rfl, rfl⟩, rfl, rfl⟩
  · clear OUTH
    go_wp2
    refine bodyPost_ret (v := .tuple #[Od.v od0, .int .i64 10]) (by simp [results, Try.results55, go_sem, Od.v, Od.cs, od0, tk0, z0, z1, z2, z3, z4, z5, z6, z7, z8, z9]) rfl ⟨rfl, ?_⟩
    exact setOp_below FIN.out (Nat.le_refl _) od0
  · clear OUTH
    go_wp2
    refine bodyPost_ret (v := .tuple #[Od.v od0, .int .i64 10]) (by simp [results, Try.results55, go_sem, Od.v, Od.cs, od0, tk0, z0, z1, z2, z3, z4, z5, z6, z7, z8, z9]) rfl ⟨rfl, ?_⟩
    exact setOp_below FIN.out (Nat.le_refl _) od0
  · clear OUTH
    go_wp2
    refine bodyPost_ret (v := .tuple #[Od.v ⟨2, tk0, false, (n1 : Int), 0, 0⟩, .int .i64 0]) (by simp [results, Try.results55, go_sem, Od.v, Od.cs, tk0, z0, z1, z2, z3, z4, z5, z6, z7, z8, z9]) rfl ⟨rfl, ?_⟩
    exact setOp_below FIN.out (Nat.le_refl _) ⟨2, tk0, false, (n1 : Int), 0, 0⟩
set_option maxHeartbeats 4000000 in
theorem rread_unknown (l : List UInt8) (w : World) (hl : l.length ≤ 1000000) (o : St) (ho : o = some l) (hk : ¬ (int o 4).1 = 1 ∧ ¬ (int o 4).1 = 2 ∧ ¬ (int o 4).1 = 3 ∧ ¬ (int o 4).1 = 4) :
    Calls Try.prog 55 #[.string (mkB l)] w fun e w' => e = .returned (.tuple #[(readO l).1.v, .int .i64 (readO l).2]) ∧ Below w.heap.size w w' := by
  have K1 : Rd RD (w.heap.size + 1) o ((w.alloc (.cells #[.int .i64 0, .int .i64 0, .int .i64 0, .int .i64 0, .int .i64 0, .int .i64 0, .bool false, .int .i64 0, .int .i64 0, .int .i64 0] 29)).alloc (.cells #[.string (mkB l), .bool false] RD)) := by
    have := heap_alloc_new (w.alloc (.cells #[.int .i64 0, .int .i64 0, .int .i64 0, .int .i64 0, .int .i64 0, .int .i64 0, .bool false, .int .i64 0, .int .i64 0, .int .i64 0] 29)) (.cells #[.string (mkB l), .bool false] RD)
    rw [World.size_alloc] at this
    rw [ho]
    exact this
  have hlo : left o ≤ 1000000 := by rw [ho]; exact hl
  have C0 := Lib.hid (int_dc (w.heap.size + 1) o 4 _ K1 (by decide) hlo)
  have OUT := read_out l
  rw [← ho] at OUT
  have E : takeR o = (.unknown (int o 4).1, (int o 4).2) := by unfold takeR; rw [if_neg hk.1, if_neg hk.2.1, if_neg hk.2.2.1, if_neg hk.2.2.2]
  rw [E] at OUT
  clear E K1 hl ho
  have L1 : left (int o 4).2 ≤ 1000000 := Nat.le_trans (int_left' _ _) hlo
  clear hlo
  have k1 : (((int o 4).1 : Int) == 1) = false := by simp; omega
  have k2 : (((int o 4).1 : Int) == 2) = false := by simp; omega
  have k3 : (((int o 4).1 : Int) == 3) = false := by simp; omega
  have k4 : (((int o 4).1 : Int) == 4) = false := by simp; omega
  clear hk
  generalize int o 4 = x0 at *
  obtain ⟨n0, o1⟩ := x0
  simp only at *
  have HZ := Lib.hid (fun w1 k1 a1 => dr_new (s := mkB l) (w := w) (w1 := w1) (o' := o1) L1 k1 a1 #[.int .i64 (n0 : Int), .int .i64 0, .int .i64 0, .int .i64 0, .int .i64 0, .int .i64 0, .bool false, .int .i64 0, .int .i64 0, .int .i64 0])
  clear L1
  simp only [opR] at OUT
  have BY := Lib.hid (rbytes_any ⟨(n0 : Int), tk0, false, 0, 0, 0⟩)
  have EN : Hid (∀ W, Rd RD (w.heap.size + 1) o1 W → Calls Try.prog 51 #[self (w.heap.size + 1)] W fun e w' => e = .returned (.bool (ended o1)) ∧ w' = W) := Lib.hid (fun W k => end_dc _ _ W k)
  simp only [Od.v, Od.cs, tk0] at BY
  obtain ⟨bs, hbs⟩ : ∃ bs, bs = bytesR ⟨(n0 : Int), tk0, false, 0, 0, 0⟩ := ⟨_, rfl⟩
  try unfold tk0 at hbs
  try simp only [tk0] at OUT
  rw [← hbs] at BY OUT
  clear hbs
  obtain ⟨bb, be⟩ := bs
  obtain ⟨en, hen⟩ : ∃ en, en = ended o1 := ⟨_, rfl⟩
  rw [← hen] at EN OUT
  clear hen
  generalize hro : readO l = ro at *
  clear hro
  obtain ⟨rv, re⟩ := ro
  simp only [Prod.mk.injEq] at BY OUT ⊢
  have OUTH := Lib.hid OUT
  clear OUT
  generalize mkB l = sl at *
  go_enter Try.func55, Try.ntmps55
  go_wp2_with fail
  (with_reducible refine C0.out.mono ?_)
  rintro e w1 ⟨rfl, k1, a1⟩
  have H0 := Lib.hid (HZ.out w1 k1 a1)
  have pq : w.heap.size ≠ w1.heap.size := H0.out.pq
  have pq' : w1.heap.size ≠ w.heap.size := H0.out.pq.symm
  clear C0 HZ k1 a1
  have y0 := H0.out.cq 0
  have y1 := H0.out.cq 1
  have y2 := H0.out.cq 2
  have y3 := H0.out.cq 3
  have y4 := H0.out.cq 4
  have y5 := H0.out.cq 5
  have y6 := H0.out.cq 6
  have y7 := H0.out.cq 7
  have y8 := H0.out.cq 8
  have y9 := H0.out.cq 9
  have fq := H0.out.fq
  have HL := Lib.hid H0.out
  go_wp2_with fail
  (with_reducible refine (BY.out _).mono ?_)
  rintro e w7 ⟨rfl, b7⟩
  have H7 : Hid (Tr RD (w.heap.size + 1) w.heap.size 29 w1.heap.size 29 #[.int .i64 0, .int .i64 0, .int .i64 0, .int .i64 0, .int .i64 0, .int .i64 0, .bool false, .int .i64 0, .int .i64 0, .int .i64 0] #[.int .i64 (n0 : Int), .int .i64 0, .int .i64 0, .int .i64 0, .int .i64 0, .int .i64 0, .bool false, .int .i64 0, .int .i64 0, .int .i64 0] o1 w w7) := Lib.hid (HL.out.call b7)
  clear b7 HL BY fq H0 y0 y1 y2 y3 y4 y5 y6 y7 y8 y9
  go_wp2_with fail
  (with_reducible refine (EN.out _ H7.out.rd).mono ?_)
  rintro e w8 ⟨rfl, rfl⟩
  have FIN := Lib.hid (H7.out.ap.below (B := w.heap.size) (by omega) (Nat.le_refl _))
  have y0 := H7.out.cq 0
  have z0 := H7.out.cp 0
  have y1 := H7.out.cq 1
  have z1 := H7.out.cp 1
  have y2 := H7.out.cq 2
  have z2 := H7.out.cp 2
  have y3 := H7.out.cq 3
  have z3 := H7.out.cp 3
  have y4 := H7.out.cq 4
  have z4 := H7.out.cp 4
  have y5 := H7.out.cq 5
  have z5 := H7.out.cp 5
  have y6 := H7.out.cq 6
  have z6 := H7.out.cp 6
  have y7 := H7.out.cq 7
  have z7 := H7.out.cp 7
  have y8 := H7.out.cq 8
  have z8 := H7.out.cp 8
  have y9 := H7.out.cq 9
  have z9 := H7.out.cp 9
  have fq := H7.out.fp
  clear H7 EN
  rcases OUTH.out with ⟨rfl, rfl, rfl⟩ | ⟨rfl, ⟨rfl, rfl⟩, rfl, rfl⟩ | ⟨rfl, ⟨rfl, rfl⟩, rfl, rfl⟩
  · clear OUTH
    go_wp2
    refine bodyPost_ret (v := .tuple #[Od.v od0, .int .i64 10]) (by simp [results, Try.results55, go_sem, Od.v, Od.cs, od0, tk0, z0, z1, z2, z3, z4, z5, z6, z7, z8, z9]) rfl ⟨rfl, ?_⟩
    exact setOp_below FIN.out (Nat.le_refl _) od0
  · clear OUTH
    go_wp2
    refine bodyPost_ret (v := .tuple #[Od.v od0, .int .i64 10]) (by simp [results, Try.results55, go_sem, Od.v, Od.cs, od0, tk0, z0, z1, z2, z3, z4, z5, z6, z7, z8, z9]) rfl ⟨rfl, ?_⟩
    exact setOp_below FIN.out (Nat.le_refl _) od0
  · clear OUTH
    go_wp2
    refine bodyPost_ret (v := .tuple #[Od.v ⟨(n0 : Int), tk0, false, 0, 0, 0⟩, .int .i64 0]) (by simp [results, Try.results55, go_sem, Od.v, Od.cs, tk0, z0, z1, z2, z3, z4, z5, z6, z7, z8, z9]) rfl ⟨rfl, ?_⟩
    exact setOp_below FIN.out (Nat.le_refl _) ⟨(n0 : Int), tk0, false, 0, 0, 0⟩
set_option maxHeartbeats 4000000 in
theorem rread_mode (l : List UInt8) (w : World) (hl : l.length ≤ 1000000) (o : St) (ho : o = some l) (hk : (int o 4).1 = 4) :
    Calls Try.prog 55 #[.string (mkB l)] w fun e w' => e = .returned (.tuple #[(readO l).1.v, .int .i64 (readO l).2]) ∧ Below w.heap.size w w' := by
  have K1 : Rd RD (w.heap.size + 1) o ((w.alloc (.cells #[.int .i64 0, .int .i64 0, .int .i64 0, .int .i64 0, .int .i64 0, .int .i64 0, .bool false, .int .i64 0, .int .i64 0, .int .i64 0] 29)).alloc (.cells #[.string (mkB l), .bool false] RD)) := by
    have := heap_alloc_new (w.alloc (.cells #[.int .i64 0, .int .i64 0, .int .i64 0, .int .i64 0, .int .i64 0, .int .i64 0, .bool false, .int .i64 0, .int .i64 0, .int .i64 0] 29)) (.cells #[.string (mkB l), .bool false] RD)
    rw [World.size_alloc] at this
    rw [ho]
    exact this
  have hlo : left o ≤ 1000000 := by rw [ho]; exact hl
  have C0 := Lib.hid (int_dc (w.heap.size + 1) o 4 _ K1 (by decide) hlo)
  have OUT := read_out l
  rw [← ho] at OUT
  have E : takeR o = (.mode (int (int o 4).2 3).1, (int (int o 4).2 3).2) := by unfold takeR; rw [if_neg (by omega), if_neg (by omega), if_neg (by omega), if_pos hk]
  rw [E] at OUT
  clear E K1 hl ho
  have L1 : left (int o 4).2 ≤ 1000000 := Nat.le_trans (int_left' _ _) hlo
  clear hlo
  rw [hk] at C0
  clear hk
  generalize (int o 4).2 = o1 at *
  have HZ := Lib.hid (fun w1 k1 a1 => dr_new (s := mkB l) (w := w) (w1 := w1) (o' := o1) L1 k1 a1 #[.int .i64 4, .int .i64 0, .int .i64 0, .int .i64 0, .int .i64 0, .int .i64 0, .bool false, .int .i64 0, .int .i64 0, .int .i64 0])
  clear L1
  have C1 := Lib.hid (fun q => dint_t (b := (w.heap.size + 1)) (p := w.heap.size) (PT := 29) (q := q) (T := 29) (ps := #[.int .i64 0, .int .i64 0, .int .i64 0, .int .i64 0, .int .i64 0, .int .i64 0, .bool false, .int .i64 0, .int .i64 0, .int .i64 0]) (o := o1) (w := w) 3 (by decide))
  generalize int o1 3 = x1 at *
  obtain ⟨n1, o2⟩ := x1
  simp only at *
  simp only [opR] at OUT
  have BY := Lib.hid (rbytes_any ⟨4, tk0, false, 0, 0, (n1 : Int)⟩)
  have EN : Hid (∀ W, Rd RD (w.heap.size + 1) o2 W → Calls Try.prog 51 #[self (w.heap.size + 1)] W fun e w' => e = .returned (.bool (ended o2)) ∧ w' = W) := Lib.hid (fun W k => end_dc _ _ W k)
  simp only [Od.v, Od.cs, tk0] at BY
  obtain ⟨bs, hbs⟩ : ∃ bs, bs = bytesR ⟨4, tk0, false, 0, 0, (n1 : Int)⟩ := ⟨_, rfl⟩
  try unfold tk0 at hbs
  try simp only [tk0] at OUT
  rw [← hbs] at BY OUT
  clear hbs
  obtain ⟨bb, be⟩ := bs
  obtain ⟨en, hen⟩ : ∃ en, en = ended o2 := ⟨_, rfl⟩
  rw [← hen] at EN OUT
  clear hen
  generalize hro : readO l = ro at *
  clear hro
  obtain ⟨rv, re⟩ := ro
  simp only [Prod.mk.injEq] at BY OUT ⊢
  have OUTH := Lib.hid OUT
  clear OUT
  generalize mkB l = sl at *
  go_enter Try.func55, Try.ntmps55
  go_wp2_with fail
  (with_reducible refine C0.out.mono ?_)
  rintro e w1 ⟨rfl, k1, a1⟩
  have H0 := Lib.hid (HZ.out w1 k1 a1)
  have pq : w.heap.size ≠ w1.heap.size := H0.out.pq
  have pq' : w1.heap.size ≠ w.heap.size := H0.out.pq.symm
  clear C0 HZ k1 a1
  go_wp2_with fail
  (with_reducible refine ((C1.out _) _ _ H0.out).mono ?_)
  rintro e v1 ⟨rfl, h1⟩
  have H1 : Hid (Tr RD (w.heap.size + 1) w.heap.size 29 w1.heap.size 29 #[.int .i64 0, .int .i64 0, .int .i64 0, .int .i64 0, .int .i64 0, .int .i64 0, .bool false, .int .i64 0, .int .i64 0, .int .i64 0] #[.int .i64 4, .int .i64 0, .int .i64 0, .int .i64 0, .int .i64 0, .int .i64 0, .bool false, .int .i64 0, .int .i64 0, .int .i64 0] o2 w v1) := Lib.hid h1
  clear h1 H0
  have y0 := H1.out.cq 0
  have y1 := H1.out.cq 1
  have y2 := H1.out.cq 2
  have y3 := H1.out.cq 3
  have y4 := H1.out.cq 4
  have y5 := H1.out.cq 5
  have y6 := H1.out.cq 6
  have y7 := H1.out.cq 7
  have y8 := H1.out.cq 8
  have y9 := H1.out.cq 9
  have fq := H1.out.fq
  have HL := Lib.hid (H1.out.set 9 (.int .i64 (n1 : Int)))
  go_wp2_with fail
  (with_reducible refine (BY.out _).mono ?_)
  rintro e w7 ⟨rfl, b7⟩
  have H7 : Hid (Tr RD (w.heap.size + 1) w.heap.size 29 w1.heap.size 29 #[.int .i64 0, .int .i64 0, .int .i64 0, .int .i64 0, .int .i64 0, .int .i64 0, .bool false, .int .i64 0, .int .i64 0, .int .i64 0] #[.int .i64 4, .int .i64 0, .int .i64 0, .int .i64 0, .int .i64 0, .int .i64 0, .bool false, .int .i64 0, .int .i64 0, .int .i64 (n1 : Int)] o2 w w7) := Lib.hid (HL.out.call b7)
  clear b7 HL BY fq H1 y0 y1 y2 y3 y4 y5 y6 y7 y8 y9
  go_wp2_with fail
  (with_reducible refine (EN.out _ H7.out.rd).mono ?_)
  rintro e w8 ⟨rfl, rfl⟩
  have FIN := Lib.hid (H7.out.ap.below (B := w.heap.size) (by omega) (Nat.le_refl _))
  have y0 := H7.out.cq 0
  have z0 := H7.out.cp 0
  have y1 := H7.out.cq 1
  have z1 := H7.out.cp 1
  have y2 := H7.out.cq 2
  have z2 := H7.out.cp 2
  have y3 := H7.out.cq 3
  have z3 := H7.out.cp 3
  have y4 := H7.out.cq 4
  have z4 := H7.out.cp 4
  have y5 := H7.out.cq 5
  have z5 := H7.out.cp 5
  have y6 := H7.out.cq 6
  have z6 := H7.out.cp 6
  have y7 := H7.out.cq 7
  have z7 := H7.out.cp 7
  have y8 := H7.out.cq 8
  have z8 := H7.out.cp 8
  have y9 := H7.out.cq 9
  have z9 := H7.out.cp 9
  have fq := H7.out.fp
  clear H7 EN
  rcases OUTH.out with ⟨rfl, rfl, rfl⟩ | ⟨rfl, ⟨rfl, rfl⟩, rfl, rfl⟩ | ⟨rfl, ⟨rfl, rfl⟩, rfl, rfl⟩
  · clear OUTH
    go_wp2
    refine bodyPost_ret (v := .tuple #[Od.v od0, .int .i64 10]) (by simp [results, Try.results55, go_sem, Od.v, Od.cs, od0, tk0, z0, z1, z2, z3, z4, z5, z6, z7, z8, z9]) rfl ⟨rfl, ?_⟩
    exact setOp_below FIN.out (Nat.le_refl _) od0
  · clear OUTH
    go_wp2
    refine bodyPost_ret (v := .tuple #[Od.v od0, .int .i64 10]) (by simp [results, Try.results55, go_sem, Od.v, Od.cs, od0, tk0, z0, z1, z2, z3, z4, z5, z6, z7, z8, z9]) rfl ⟨rfl, ?_⟩
    exact setOp_below FIN.out (Nat.le_refl _) od0
  · clear OUTH
    go_wp2
    refine bodyPost_ret (v := .tuple #[Od.v ⟨4, tk0, false, 0, 0, (n1 : Int)⟩, .int .i64 0]) (by simp [results, Try.results55, go_sem, Od.v, Od.cs, tk0, z0, z1, z2, z3, z4, z5, z6, z7, z8, z9]) rfl ⟨rfl, ?_⟩
    exact setOp_below FIN.out (Nat.le_refl _) ⟨4, tk0, false, 0, 0, (n1 : Int)⟩
set_option maxHeartbeats 4000000 in
theorem rread_resize (l : List UInt8) (w : World) (hl : l.length ≤ 1000000) (o : St) (ho : o = some l) (hk : (int o 4).1 = 3) :
    Calls Try.prog 55 #[.string (mkB l)] w fun e w' => e = .returned (.tuple #[(readO l).1.v, .int .i64 (readO l).2]) ∧ Below w.heap.size w w' := by
  have K1 : Rd RD (w.heap.size + 1) o ((w.alloc (.cells #[.int .i64 0, .int .i64 0, .int .i64 0, .int .i64 0, .int .i64 0, .int .i64 0, .bool false, .int .i64 0, .int .i64 0, .int .i64 0] 29)).alloc (.cells #[.string (mkB l), .bool false] RD)) := by
    have := heap_alloc_new (w.alloc (.cells #[.int .i64 0, .int .i64 0, .int .i64 0, .int .i64 0, .int .i64 0, .int .i64 0, .bool false, .int .i64 0, .int .i64 0, .int .i64 0] 29)) (.cells #[.string (mkB l), .bool false] RD)
    rw [World.size_alloc] at this
    rw [ho]
    exact this
  have hlo : left o ≤ 1000000 := by rw [ho]; exact hl
  have C0 := Lib.hid (int_dc (w.heap.size + 1) o 4 _ K1 (by decide) hlo)
  have OUT := read_out l
  rw [← ho] at OUT
  have E : takeR o = (.resize (int (int o 4).2 1023).1 (num (int (int o 4).2 1023).2 2147483648).1, (num (int (int o 4).2 1023).2 2147483648).2) := by unfold takeR; rw [if_neg (by omega), if_neg (by omega), if_pos hk]
  rw [E] at OUT
  clear E K1 hl ho
  have L1 : left (int o 4).2 ≤ 1000000 := Nat.le_trans (int_left' _ _) hlo
  clear hlo
  rw [hk] at C0
  clear hk
  generalize (int o 4).2 = o1 at *
  have HZ := Lib.hid (fun w1 k1 a1 => dr_new (s := mkB l) (w := w) (w1 := w1) (o' := o1) L1 k1 a1 #[.int .i64 3, .int .i64 0, .int .i64 0, .int .i64 0, .int .i64 0, .int .i64 0, .bool false, .int .i64 0, .int .i64 0, .int .i64 0])
  clear L1
  have C1 := Lib.hid (fun q => dint_t (b := (w.heap.size + 1)) (p := w.heap.size) (PT := 29) (q := q) (T := 29) (ps := #[.int .i64 0, .int .i64 0, .int .i64 0, .int .i64 0, .int .i64 0, .int .i64 0, .bool false, .int .i64 0, .int .i64 0, .int .i64 0]) (o := o1) (w := w) 1023 (by decide))
  generalize int o1 1023 = x1 at *
  obtain ⟨n1, o2⟩ := x1
  simp only at *
  have C2 := Lib.hid (fun q => dnum_t (b := (w.heap.size + 1)) (p := w.heap.size) (PT := 29) (q := q) (T := 29) (ps := #[.int .i64 0, .int .i64 0, .int .i64 0, .int .i64 0, .int .i64 0, .int .i64 0, .bool false, .int .i64 0, .int .i64 0, .int .i64 0]) (o := o2) (w := w))
  have m2 := Oc.num_most o2 2147483648
  generalize num o2 2147483648 = x2 at *
  obtain ⟨n2, o3⟩ := x2
  simp only at *
  have u2 : IntKind.i64.wrap (n2 : Int) = (n2 : Int) := IntWalk.i64_in _ (by omega)
  have g2 : (n2 : Int) ≤ 2147483648 := by omega
  have f2 : 0 ≤ (n2 : Int) := by omega
  clear m2
  simp only [opR] at OUT
  have BY := Lib.hid (rbytes_any ⟨3, tk0, false, (n1 : Int), (n2 : Int), 0⟩)
  have EN : Hid (∀ W, Rd RD (w.heap.size + 1) o3 W → Calls Try.prog 51 #[self (w.heap.size + 1)] W fun e w' => e = .returned (.bool (ended o3)) ∧ w' = W) := Lib.hid (fun W k => end_dc _ _ W k)
  simp only [Od.v, Od.cs, tk0] at BY
  obtain ⟨bs, hbs⟩ : ∃ bs, bs = bytesR ⟨3, tk0, false, (n1 : Int), (n2 : Int), 0⟩ := ⟨_, rfl⟩
  try unfold tk0 at hbs
  try simp only [tk0] at OUT
  rw [← hbs] at BY OUT
  clear hbs
  obtain ⟨bb, be⟩ := bs
  obtain ⟨en, hen⟩ : ∃ en, en = ended o3 := ⟨_, rfl⟩
  rw [← hen] at EN OUT
  clear hen
  generalize hro : readO l = ro at *
  clear hro
  obtain ⟨rv, re⟩ := ro
  simp only [Prod.mk.injEq] at BY OUT ⊢
  have OUTH := Lib.hid OUT
  clear OUT
  generalize mkB l = sl at *
  go_enter Try.func55, Try.ntmps55
  go_wp2_with fail
  (with_reducible refine C0.out.mono ?_)
  rintro e w1 ⟨rfl, k1, a1⟩
  have H0 := Lib.hid (HZ.out w1 k1 a1)
  have pq : w.heap.size ≠ w1.heap.size := H0.out.pq
  have pq' : w1.heap.size ≠ w.heap.size := H0.out.pq.symm
  clear C0 HZ k1 a1
  go_wp2_with fail
  (with_reducible refine ((C1.out _) _ _ H0.out).mono ?_)
  rintro e v1 ⟨rfl, h1⟩
  have H1 : Hid (Tr RD (w.heap.size + 1) w.heap.size 29 w1.heap.size 29 #[.int .i64 0, .int .i64 0, .int .i64 0, .int .i64 0, .int .i64 0, .int .i64 0, .bool false, .int .i64 0, .int .i64 0, .int .i64 0] #[.int .i64 3, .int .i64 0, .int .i64 0, .int .i64 0, .int .i64 0, .int .i64 0, .bool false, .int .i64 0, .int .i64 0, .int .i64 0] o2 w v1) := Lib.hid h1
  clear h1 H0
  have y0 := H1.out.cq 0
  have y1 := H1.out.cq 1
  have y2 := H1.out.cq 2
  have y3 := H1.out.cq 3
  have y4 := H1.out.cq 4
  have y5 := H1.out.cq 5
  have y6 := H1.out.cq 6
  have y7 := H1.out.cq 7
  have y8 := H1.out.cq 8
  have y9 := H1.out.cq 9
  have fq := H1.out.fq
  go_wp2_with fail
  (with_reducible refine ((C2.out _) _ _ (H1.out.set 7 _)).mono ?_)
  rintro e v2 ⟨rfl, h2⟩
  clear fq y0 y1 y2 y3 y4 y5 y6 y7 y8 y9
  have H2 : Hid (Tr RD (w.heap.size + 1) w.heap.size 29 w1.heap.size 29 #[.int .i64 0, .int .i64 0, .int .i64 0, .int .i64 0, .int .i64 0, .int .i64 0, .bool false, .int .i64 0, .int .i64 0, .int .i64 0] #[.int .i64 3, .int .i64 0, .int .i64 0, .int .i64 0, .int .i64 0, .int .i64 0, .bool false, .int .i64 (n1 : Int), .int .i64 0, .int .i64 0] o3 w v2) := Lib.hid h2
  clear h2 H1
  have y0 := H2.out.cq 0
  have y1 := H2.out.cq 1
  have y2 := H2.out.cq 2
  have y3 := H2.out.cq 3
  have y4 := H2.out.cq 4
  have y5 := H2.out.cq 5
  have y6 := H2.out.cq 6
  have y7 := H2.out.cq 7
  have y8 := H2.out.cq 8
  have y9 := H2.out.cq 9
  have fq := H2.out.fq
  have HL := Lib.hid (H2.out.set 8 (.int .i64 (n2 : Int)))
  go_wp2_with fail
  (with_reducible refine (BY.out _).mono ?_)
  rintro e w7 ⟨rfl, b7⟩
  have H7 : Hid (Tr RD (w.heap.size + 1) w.heap.size 29 w1.heap.size 29 #[.int .i64 0, .int .i64 0, .int .i64 0, .int .i64 0, .int .i64 0, .int .i64 0, .bool false, .int .i64 0, .int .i64 0, .int .i64 0] #[.int .i64 3, .int .i64 0, .int .i64 0, .int .i64 0, .int .i64 0, .int .i64 0, .bool false, .int .i64 (n1 : Int), .int .i64 (n2 : Int), .int .i64 0] o3 w w7) := Lib.hid (HL.out.call b7)
  clear b7 HL BY fq H2 y0 y1 y2 y3 y4 y5 y6 y7 y8 y9
  go_wp2_with fail
  (with_reducible refine (EN.out _ H7.out.rd).mono ?_)
  rintro e w8 ⟨rfl, rfl⟩
  have FIN := Lib.hid (H7.out.ap.below (B := w.heap.size) (by omega) (Nat.le_refl _))
  have y0 := H7.out.cq 0
  have z0 := H7.out.cp 0
  have y1 := H7.out.cq 1
  have z1 := H7.out.cp 1
  have y2 := H7.out.cq 2
  have z2 := H7.out.cp 2
  have y3 := H7.out.cq 3
  have z3 := H7.out.cp 3
  have y4 := H7.out.cq 4
  have z4 := H7.out.cp 4
  have y5 := H7.out.cq 5
  have z5 := H7.out.cp 5
  have y6 := H7.out.cq 6
  have z6 := H7.out.cp 6
  have y7 := H7.out.cq 7
  have z7 := H7.out.cp 7
  have y8 := H7.out.cq 8
  have z8 := H7.out.cp 8
  have y9 := H7.out.cq 9
  have z9 := H7.out.cp 9
  have fq := H7.out.fp
  clear H7 EN
  rcases OUTH.out with ⟨rfl, rfl, rfl⟩ | ⟨rfl, ⟨rfl, rfl⟩, rfl, rfl⟩ | ⟨rfl, ⟨rfl, rfl⟩, rfl, rfl⟩
  · clear OUTH
    go_wp2
    refine bodyPost_ret (v := .tuple #[Od.v od0, .int .i64 10]) (by simp [results, Try.results55, go_sem, Od.v, Od.cs, od0, tk0, z0, z1, z2, z3, z4, z5, z6, z7, z8, z9]) rfl ⟨rfl, ?_⟩
    exact setOp_below FIN.out (Nat.le_refl _) od0
  · clear OUTH
    go_wp2
    refine bodyPost_ret (v := .tuple #[Od.v od0, .int .i64 10]) (by simp [results, Try.results55, go_sem, Od.v, Od.cs, od0, tk0, z0, z1, z2, z3, z4, z5, z6, z7, z8, z9]) rfl ⟨rfl, ?_⟩
    exact setOp_below FIN.out (Nat.le_refl _) od0
  · clear OUTH
    go_wp2
    refine bodyPost_ret (v := .tuple #[Od.v ⟨3, tk0, false, (n1 : Int), (n2 : Int), 0⟩, .int .i64 0]) (by simp [results, Try.results55, go_sem, Od.v, Od.cs, tk0, z0, z1, z2, z3, z4, z5, z6, z7, z8, z9]) rfl ⟨rfl, ?_⟩
    exact setOp_below FIN.out (Nat.le_refl _) ⟨3, tk0, false, (n1 : Int), (n2 : Int), 0⟩
set_option maxHeartbeats 4000000 in
theorem rread_admit (l : List UInt8) (w : World) (hl : l.length ≤ 1000000) (o : St) (ho : o = some l) (hk : (int o 4).1 = 1) :
    Calls Try.prog 55 #[.string (mkB l)] w fun e w' => e = .returned (.tuple #[(readO l).1.v, .int .i64 (readO l).2]) ∧ Below w.heap.size w w' := by
  have K1 : Rd RD (w.heap.size + 1) o ((w.alloc (.cells #[.int .i64 0, .int .i64 0, .int .i64 0, .int .i64 0, .int .i64 0, .int .i64 0, .bool false, .int .i64 0, .int .i64 0, .int .i64 0] 29)).alloc (.cells #[.string (mkB l), .bool false] RD)) := by
    have := heap_alloc_new (w.alloc (.cells #[.int .i64 0, .int .i64 0, .int .i64 0, .int .i64 0, .int .i64 0, .int .i64 0, .bool false, .int .i64 0, .int .i64 0, .int .i64 0] 29)) (.cells #[.string (mkB l), .bool false] RD)
    rw [World.size_alloc] at this
    rw [ho]
    exact this
  have hlo : left o ≤ 1000000 := by rw [ho]; exact hl
  have C0 := Lib.hid (int_dc (w.heap.size + 1) o 4 _ K1 (by decide) hlo)
  have OUT := read_out l
  rw [← ho] at OUT
  have E : takeR o = (.admit ⟨(int (int o 4).2 1023).1, (num (int (int o 4).2 1023).2 2147483648).1, (num (num (int (int o 4).2 1023).2 2147483648).2 2147483648).1, (num (num (num (int (int o 4).2 1023).2 2147483648).2 2147483648).2 2147483648).1, (int (num (num (num (int (int o 4).2 1023).2 2147483648).2 2147483648).2 2147483648).2 15).1⟩ (flag (int (num (num (num (int (int o 4).2 1023).2 2147483648).2 2147483648).2 2147483648).2 15).2).1, (flag (int (num (num (num (int (int o 4).2 1023).2 2147483648).2 2147483648).2 2147483648).2 15).2).2) := by unfold takeR; rw [if_pos hk]
  rw [E] at OUT
  clear E K1 hl ho
  have L1 : left (int o 4).2 ≤ 1000000 := Nat.le_trans (int_left' _ _) hlo
  clear hlo
  rw [hk] at C0
  clear hk
  generalize (int o 4).2 = o1 at *
  have HZ := Lib.hid (fun w1 k1 a1 => dr_new (s := mkB l) (w := w) (w1 := w1) (o' := o1) L1 k1 a1 #[.int .i64 1, .int .i64 0, .int .i64 0, .int .i64 0, .int .i64 0, .int .i64 0, .bool false, .int .i64 0, .int .i64 0, .int .i64 0])
  clear L1
  have C1 := Lib.hid (fun q => dint_t (b := (w.heap.size + 1)) (p := w.heap.size) (PT := 29) (q := q) (T := 29) (ps := #[.int .i64 0, .int .i64 0, .int .i64 0, .int .i64 0, .int .i64 0, .int .i64 0, .bool false, .int .i64 0, .int .i64 0, .int .i64 0]) (o := o1) (w := w) 1023 (by decide))
  generalize int o1 1023 = x1 at *
  obtain ⟨n1, o2⟩ := x1
  simp only at *
  have C2 := Lib.hid (fun q => dnum_t (b := (w.heap.size + 1)) (p := w.heap.size) (PT := 29) (q := q) (T := 29) (ps := #[.int .i64 0, .int .i64 0, .int .i64 0, .int .i64 0, .int .i64 0, .int .i64 0, .bool false, .int .i64 0, .int .i64 0, .int .i64 0]) (o := o2) (w := w))
  have m2 := Oc.num_most o2 2147483648
  generalize num o2 2147483648 = x2 at *
  obtain ⟨n2, o3⟩ := x2
  simp only at *
  have u2 : IntKind.i64.wrap (n2 : Int) = (n2 : Int) := IntWalk.i64_in _ (by omega)
  have g2 : (n2 : Int) ≤ 2147483648 := by omega
  have f2 : 0 ≤ (n2 : Int) := by omega
  clear m2
  have C3 := Lib.hid (fun q => dnum_t (b := (w.heap.size + 1)) (p := w.heap.size) (PT := 29) (q := q) (T := 29) (ps := #[.int .i64 0, .int .i64 0, .int .i64 0, .int .i64 0, .int .i64 0, .int .i64 0, .bool false, .int .i64 0, .int .i64 0, .int .i64 0]) (o := o3) (w := w))
  have m3 := Oc.num_most o3 2147483648
  generalize num o3 2147483648 = x3 at *
  obtain ⟨n3, o4⟩ := x3
  simp only at *
  have u3 : IntKind.i64.wrap (n3 : Int) = (n3 : Int) := IntWalk.i64_in _ (by omega)
  have g3 : (n3 : Int) ≤ 2147483648 := by omega
  have f3 : 0 ≤ (n3 : Int) := by omega
  clear m3
  have C4 := Lib.hid (fun q => dnum_t (b := (w.heap.size + 1)) (p := w.heap.size) (PT := 29) (q := q) (T := 29) (ps := #[.int .i64 0, .int .i64 0, .int .i64 0, .int .i64 0, .int .i64 0, .int .i64 0, .bool false, .int .i64 0, .int .i64 0, .int .i64 0]) (o := o4) (w := w))
  have m4 := Oc.num_most o4 2147483648
  generalize num o4 2147483648 = x4 at *
  obtain ⟨n4, o5⟩ := x4
  simp only at *
  have u4 : IntKind.i64.wrap (n4 : Int) = (n4 : Int) := IntWalk.i64_in _ (by omega)
  have g4 : (n4 : Int) ≤ 2147483648 := by omega
  have f4 : 0 ≤ (n4 : Int) := by omega
  clear m4
  have C5 := Lib.hid (fun q => dint_t (b := (w.heap.size + 1)) (p := w.heap.size) (PT := 29) (q := q) (T := 29) (ps := #[.int .i64 0, .int .i64 0, .int .i64 0, .int .i64 0, .int .i64 0, .int .i64 0, .bool false, .int .i64 0, .int .i64 0, .int .i64 0]) (o := o5) (w := w) 15 (by decide))
  generalize int o5 15 = x5 at *
  obtain ⟨n5, o6⟩ := x5
  simp only at *
  have C6 := Lib.hid (fun q => dflag_t (b := (w.heap.size + 1)) (p := w.heap.size) (PT := 29) (q := q) (T := 29) (ps := #[.int .i64 0, .int .i64 0, .int .i64 0, .int .i64 0, .int .i64 0, .int .i64 0, .bool false, .int .i64 0, .int .i64 0, .int .i64 0]) (o := o6) (w := w))
  generalize flag o6 = x6 at *
  obtain ⟨n6, o7⟩ := x6
  simp only at *
  simp only [opR] at OUT
  have BY := Lib.hid (rbytes_any ⟨1, ⟨(n1 : Int), (n2 : Int), (n3 : Int), (n4 : Int), (n5 : Int)⟩, n6, 0, 0, 0⟩)
  have EN : Hid (∀ W, Rd RD (w.heap.size + 1) o7 W → Calls Try.prog 51 #[self (w.heap.size + 1)] W fun e w' => e = .returned (.bool (ended o7)) ∧ w' = W) := Lib.hid (fun W k => end_dc _ _ W k)
  simp only [Od.v, Od.cs, tk0] at BY
  obtain ⟨bs, hbs⟩ : ∃ bs, bs = bytesR ⟨1, ⟨(n1 : Int), (n2 : Int), (n3 : Int), (n4 : Int), (n5 : Int)⟩, n6, 0, 0, 0⟩ := ⟨_, rfl⟩
  try unfold tk0 at hbs
  try simp only [tk0] at OUT
  rw [← hbs] at BY OUT
  clear hbs
  obtain ⟨bb, be⟩ := bs
  obtain ⟨en, hen⟩ : ∃ en, en = ended o7 := ⟨_, rfl⟩
  rw [← hen] at EN OUT
  clear hen
  generalize hro : readO l = ro at *
  clear hro
  obtain ⟨rv, re⟩ := ro
  simp only [Prod.mk.injEq] at BY OUT ⊢
  have OUTH := Lib.hid OUT
  clear OUT
  generalize mkB l = sl at *
  go_enter Try.func55, Try.ntmps55
  go_wp2_with fail
  (with_reducible refine C0.out.mono ?_)
  rintro e w1 ⟨rfl, k1, a1⟩
  have H0 := Lib.hid (HZ.out w1 k1 a1)
  have pq : w.heap.size ≠ w1.heap.size := H0.out.pq
  have pq' : w1.heap.size ≠ w.heap.size := H0.out.pq.symm
  clear C0 HZ k1 a1
  go_wp2_with fail
  (with_reducible refine ((C1.out _) _ _ H0.out).mono ?_)
  rintro e v1 ⟨rfl, h1⟩
  have H1 : Hid (Tr RD (w.heap.size + 1) w.heap.size 29 w1.heap.size 29 #[.int .i64 0, .int .i64 0, .int .i64 0, .int .i64 0, .int .i64 0, .int .i64 0, .bool false, .int .i64 0, .int .i64 0, .int .i64 0] #[.int .i64 1, .int .i64 0, .int .i64 0, .int .i64 0, .int .i64 0, .int .i64 0, .bool false, .int .i64 0, .int .i64 0, .int .i64 0] o2 w v1) := Lib.hid h1
  clear h1 H0
  have y0 := H1.out.cq 0
  have y1 := H1.out.cq 1
  have y2 := H1.out.cq 2
  have y3 := H1.out.cq 3
  have y4 := H1.out.cq 4
  have y5 := H1.out.cq 5
  have y6 := H1.out.cq 6
  have y7 := H1.out.cq 7
  have y8 := H1.out.cq 8
  have y9 := H1.out.cq 9
  have fq := H1.out.fq
  go_wp2_with fail
  (with_reducible refine ((C2.out _) _ _ (H1.out.set 1 _)).mono ?_)
  rintro e v2 ⟨rfl, h2⟩
  clear fq y0 y1 y2 y3 y4 y5 y6 y7 y8 y9
  have H2 : Hid (Tr RD (w.heap.size + 1) w.heap.size 29 w1.heap.size 29 #[.int .i64 0, .int .i64 0, .int .i64 0, .int .i64 0, .int .i64 0, .int .i64 0, .bool false, .int .i64 0, .int .i64 0, .int .i64 0] #[.int .i64 1, .int .i64 (n1 : Int), .int .i64 0, .int .i64 0, .int .i64 0, .int .i64 0, .bool false, .int .i64 0, .int .i64 0, .int .i64 0] o3 w v2) := Lib.hid h2
  clear h2 H1
  have y0 := H2.out.cq 0
  have y1 := H2.out.cq 1
  have y2 := H2.out.cq 2
  have y3 := H2.out.cq 3
  have y4 := H2.out.cq 4
  have y5 := H2.out.cq 5
  have y6 := H2.out.cq 6
  have y7 := H2.out.cq 7
  have y8 := H2.out.cq 8
  have y9 := H2.out.cq 9
  have fq := H2.out.fq
  go_wp2_with fail
  (with_reducible refine ((C3.out _) _ _ (H2.out.set 2 _)).mono ?_)
  rintro e v3 ⟨rfl, h3⟩
  clear fq y0 y1 y2 y3 y4 y5 y6 y7 y8 y9
  have H3 : Hid (Tr RD (w.heap.size + 1) w.heap.size 29 w1.heap.size 29 #[.int .i64 0, .int .i64 0, .int .i64 0, .int .i64 0, .int .i64 0, .int .i64 0, .bool false, .int .i64 0, .int .i64 0, .int .i64 0] #[.int .i64 1, .int .i64 (n1 : Int), .int .i64 (n2 : Int), .int .i64 0, .int .i64 0, .int .i64 0, .bool false, .int .i64 0, .int .i64 0, .int .i64 0] o4 w v3) := Lib.hid h3
  clear h3 H2
  have y0 := H3.out.cq 0
  have y1 := H3.out.cq 1
  have y2 := H3.out.cq 2
  have y3 := H3.out.cq 3
  have y4 := H3.out.cq 4
  have y5 := H3.out.cq 5
  have y6 := H3.out.cq 6
  have y7 := H3.out.cq 7
  have y8 := H3.out.cq 8
  have y9 := H3.out.cq 9
  have fq := H3.out.fq
  go_wp2_with fail
  (with_reducible refine ((C4.out _) _ _ (H3.out.set 3 _)).mono ?_)
  rintro e v4 ⟨rfl, h4⟩
  clear fq y0 y1 y2 y3 y4 y5 y6 y7 y8 y9
  have H4 : Hid (Tr RD (w.heap.size + 1) w.heap.size 29 w1.heap.size 29 #[.int .i64 0, .int .i64 0, .int .i64 0, .int .i64 0, .int .i64 0, .int .i64 0, .bool false, .int .i64 0, .int .i64 0, .int .i64 0] #[.int .i64 1, .int .i64 (n1 : Int), .int .i64 (n2 : Int), .int .i64 (n3 : Int), .int .i64 0, .int .i64 0, .bool false, .int .i64 0, .int .i64 0, .int .i64 0] o5 w v4) := Lib.hid h4
  clear h4 H3
  have y0 := H4.out.cq 0
  have y1 := H4.out.cq 1
  have y2 := H4.out.cq 2
  have y3 := H4.out.cq 3
  have y4 := H4.out.cq 4
  have y5 := H4.out.cq 5
  have y6 := H4.out.cq 6
  have y7 := H4.out.cq 7
  have y8 := H4.out.cq 8
  have y9 := H4.out.cq 9
  have fq := H4.out.fq
  go_wp2_with fail
  (with_reducible refine ((C5.out _) _ _ (H4.out.set 4 _)).mono ?_)
  rintro e v5 ⟨rfl, h5⟩
  clear fq y0 y1 y2 y3 y4 y5 y6 y7 y8 y9
  have H5 : Hid (Tr RD (w.heap.size + 1) w.heap.size 29 w1.heap.size 29 #[.int .i64 0, .int .i64 0, .int .i64 0, .int .i64 0, .int .i64 0, .int .i64 0, .bool false, .int .i64 0, .int .i64 0, .int .i64 0] #[.int .i64 1, .int .i64 (n1 : Int), .int .i64 (n2 : Int), .int .i64 (n3 : Int), .int .i64 (n4 : Int), .int .i64 0, .bool false, .int .i64 0, .int .i64 0, .int .i64 0] o6 w v5) := Lib.hid h5
  clear h5 H4
  have y0 := H5.out.cq 0
  have y1 := H5.out.cq 1
  have y2 := H5.out.cq 2
  have y3 := H5.out.cq 3
  have y4 := H5.out.cq 4
  have y5 := H5.out.cq 5
  have y6 := H5.out.cq 6
  have y7 := H5.out.cq 7
  have y8 := H5.out.cq 8
  have y9 := H5.out.cq 9
  have fq := H5.out.fq
  go_wp2_with fail
  (with_reducible refine ((C6.out _) _ _ (H5.out.set 5 _)).mono ?_)
  rintro e v6 ⟨rfl, h6⟩
  clear fq y0 y1 y2 y3 y4 y5 y6 y7 y8 y9
  have H6 : Hid (Tr RD (w.heap.size + 1) w.heap.size 29 w1.heap.size 29 #[.int .i64 0, .int .i64 0, .int .i64 0, .int .i64 0, .int .i64 0, .int .i64 0, .bool false, .int .i64 0, .int .i64 0, .int .i64 0] #[.int .i64 1, .int .i64 (n1 : Int), .int .i64 (n2 : Int), .int .i64 (n3 : Int), .int .i64 (n4 : Int), .int .i64 (n5 : Int), .bool false, .int .i64 0, .int .i64 0, .int .i64 0] o7 w v6) := Lib.hid h6
  clear h6 H5
  have y0 := H6.out.cq 0
  have y1 := H6.out.cq 1
  have y2 := H6.out.cq 2
  have y3 := H6.out.cq 3
  have y4 := H6.out.cq 4
  have y5 := H6.out.cq 5
  have y6 := H6.out.cq 6
  have y7 := H6.out.cq 7
  have y8 := H6.out.cq 8
  have y9 := H6.out.cq 9
  have fq := H6.out.fq
  have HL := Lib.hid (H6.out.set 6 (.bool n6))
  go_wp2_with fail
  (with_reducible refine (BY.out _).mono ?_)
  rintro e w7 ⟨rfl, b7⟩
  have H7 : Hid (Tr RD (w.heap.size + 1) w.heap.size 29 w1.heap.size 29 #[.int .i64 0, .int .i64 0, .int .i64 0, .int .i64 0, .int .i64 0, .int .i64 0, .bool false, .int .i64 0, .int .i64 0, .int .i64 0] #[.int .i64 1, .int .i64 (n1 : Int), .int .i64 (n2 : Int), .int .i64 (n3 : Int), .int .i64 (n4 : Int), .int .i64 (n5 : Int), .bool n6, .int .i64 0, .int .i64 0, .int .i64 0] o7 w w7) := Lib.hid (HL.out.call b7)
  clear b7 HL BY fq H6 y0 y1 y2 y3 y4 y5 y6 y7 y8 y9
  go_wp2_with fail
  (with_reducible refine (EN.out _ H7.out.rd).mono ?_)
  rintro e w8 ⟨rfl, rfl⟩
  have FIN := Lib.hid (H7.out.ap.below (B := w.heap.size) (by omega) (Nat.le_refl _))
  have y0 := H7.out.cq 0
  have z0 := H7.out.cp 0
  have y1 := H7.out.cq 1
  have z1 := H7.out.cp 1
  have y2 := H7.out.cq 2
  have z2 := H7.out.cp 2
  have y3 := H7.out.cq 3
  have z3 := H7.out.cp 3
  have y4 := H7.out.cq 4
  have z4 := H7.out.cp 4
  have y5 := H7.out.cq 5
  have z5 := H7.out.cp 5
  have y6 := H7.out.cq 6
  have z6 := H7.out.cp 6
  have y7 := H7.out.cq 7
  have z7 := H7.out.cp 7
  have y8 := H7.out.cq 8
  have z8 := H7.out.cp 8
  have y9 := H7.out.cq 9
  have z9 := H7.out.cp 9
  have fq := H7.out.fp
  clear H7 EN
  rcases OUTH.out with ⟨rfl, rfl, rfl⟩ | ⟨rfl, ⟨rfl, rfl⟩, rfl, rfl⟩ | ⟨rfl, ⟨rfl, rfl⟩, rfl, rfl⟩
  · clear OUTH
    go_wp2
    refine bodyPost_ret (v := .tuple #[Od.v od0, .int .i64 10]) (by simp [results, Try.results55, go_sem, Od.v, Od.cs, od0, tk0, z0, z1, z2, z3, z4, z5, z6, z7, z8, z9]) rfl ⟨rfl, ?_⟩
    exact setOp_below FIN.out (Nat.le_refl _) od0
  · clear OUTH
    go_wp2
    refine bodyPost_ret (v := .tuple #[Od.v od0, .int .i64 10]) (by simp [results, Try.results55, go_sem, Od.v, Od.cs, od0, tk0, z0, z1, z2, z3, z4, z5, z6, z7, z8, z9]) rfl ⟨rfl, ?_⟩
    exact setOp_below FIN.out (Nat.le_refl _) od0
  · clear OUTH
    go_wp2
    refine bodyPost_ret (v := .tuple #[Od.v ⟨1, ⟨(n1 : Int), (n2 : Int), (n3 : Int), (n4 : Int), (n5 : Int)⟩, n6, 0, 0, 0⟩, .int .i64 0]) (by simp [results, Try.results55, go_sem, Od.v, Od.cs, tk0, z0, z1, z2, z3, z4, z5, z6, z7, z8, z9]) rfl ⟨rfl, ?_⟩
    exact setOp_below FIN.out (Nat.le_refl _) ⟨1, ⟨(n1 : Int), (n2 : Int), (n3 : Int), (n4 : Int), (n5 : Int)⟩, n6, 0, 0, 0⟩
theorem rread_any (l : List UInt8) (w : World) (hl : l.length ≤ 1000000) :
    Calls Try.prog 55 #[.string (mkB l)] w fun e w' => e = .returned (.tuple #[(readO l).1.v, .int .i64 (readO l).2]) ∧ Below w.heap.size w w' := by
  by_cases h1 : (int (some l) 4).1 = 1
  · exact rread_admit l w hl _ rfl h1
  by_cases h2 : (int (some l) 4).1 = 2
  · exact rread_remove l w hl _ rfl h2
  by_cases h3 : (int (some l) 4).1 = 3
  · exact rread_resize l w hl _ rfl h3
  by_cases h4 : (int (some l) 4).1 = 4
  · exact rread_mode l w hl _ rfl h4
  exact rread_unknown l w hl _ rfl ⟨h1, h2, h3, h4⟩
end Go.Proofs.Ytnaanahgflbihaa.Ox
