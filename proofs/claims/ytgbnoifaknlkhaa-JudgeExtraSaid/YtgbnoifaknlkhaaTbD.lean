/- Where a row stands: the library's search, package table's place. -/
import Derived.Test.YtgbnoifaknlkhaaGnH
import Derived.Test.YtgbnoifaknlkhaaTbB
namespace Go.Proofs.Ytgbnoifaknlkhaa.Tb
open Go.ChangeShapes Go.WideShapes Go.ChangeAt Go.RowKit Go.Joins
open Pm (Tk chk chk_iff below_drewN)
open Ge (El Seen Row)
set_option maxRecDepth 100000
set_option maxRecDepth 100000
set_option linter.unusedVariables false
set_option linter.unusedSimpArgs false
/-- k rows have a lesser ID, the others none -/
def Pl (l : List Rw) (id : Int) (k : Nat) : Prop := k ≤ l.length ∧ (∀ j r, j < k → l[j]? = some r → r.t.id < id) ∧ ∀ j r, k ≤ j → l[j]? = some r → id ≤ r.t.id
theorem beq_eq_dec (a b : Int) : (a == b) = decide (a = b) := by by_cases h : a = b <;> simp [h]
/-- there is one of that ID, at k -/
def there (l : List Rw) (id : Int) (k : Nat) : Bool := match l[k]? with
  | some r => decide (r.t.id = id)
  | none => false
theorem pl_there {l : List Rw} {id : Int} {k : Nat} (h : Pl l id k) (ht : there l id k = true) : at_ l id = some k ∧ ∃ r, l[k]? = some r ∧ r.t.id = id := by
  unfold there at ht
  cases hk : l[k]? with
  | none => rw [hk] at ht; cases ht
  | some r =>
    rw [hk] at ht
    have hid : r.t.id = id := by simpa using ht
    refine ⟨?_, r, rfl, hid⟩
    obtain ⟨hkl, hke⟩ := List.getElem?_eq_some_iff.1 hk
    unfold at_
    rw [List.findIdx?_eq_some_iff_getElem]
    refine ⟨hkl, by rw [hke]; simpa using hid, fun j hj => ?_⟩
    have := h.2.1 j _ hj (List.getElem?_eq_getElem (by omega))
    simp; omega
theorem pl_not {l : List Rw} {id : Int} {k : Nat} {a : Int} (hr : rise a l = true) (h : Pl l id k) (ht : there l id k = false) : at_ l id = none ∧ ∀ r ∈ l, r.t.id ≠ id := by
  have key : ∀ r ∈ l, r.t.id ≠ id := fun r hrm => by
    obtain ⟨j, hj, rfl⟩ := List.getElem_of_mem hrm
    by_cases h1 : j < k
    · have := h.2.1 j _ h1 (List.getElem?_eq_getElem hj); omega
    · have hk : k < l.length := by omega
      have h2 := h.2.2 k _ (Nat.le_refl _) (List.getElem?_eq_getElem hk)
      have h3 : l[k].t.id ≠ id := by
        unfold there at ht
        rw [List.getElem?_eq_getElem hk] at ht
        simpa using ht
      by_cases h4 : j = k
      · subst h4; exact h3
      · have := List.pairwise_iff_getElem.1 (rise_pair.1 hr).2 k j hk hj (by omega)
        omega
  refine ⟨?_, key⟩
  unfold at_
  rw [List.findIdx?_eq_none_iff]
  intro r hr
  simpa using key r hr
theorem pl_ins {x : Rw} : ∀ {l : List Rw} {k : Nat}, Pl l x.t.id k → (∀ r ∈ l, r.t.id ≠ x.t.id) → ins x l = l.take k ++ x :: l.drop k := by
  intro l
  induction l with
  | nil => intro k _ _; simp [ins]
  | cons r l ih =>
    intro k h hn
    have hne := hn r (by simp)
    cases k with
    | zero =>
      have := h.2.2 0 r (Nat.le_refl _) rfl
      unfold ins
      rw [if_pos (by omega)]; rfl
    | succ k =>
      have := h.2.1 0 r (by omega) rfl
      unfold ins
      rw [if_neg (by omega), ih (k := k) ⟨by have := h.1; simp at this; omega, fun j q hj hq => h.2.1 (j + 1) q (by omega) (by simpa using hq), fun j q hj hq => h.2.2 (j + 1) q (by omega) (by simpa using hq)⟩ (fun q hq => hn q (by simp [hq]))]
      rfl
theorem rise_le {l : List Rw} {a : Int} (hr : rise a l = true) {i j : Nat} {x y : Rw} (hij : i ≤ j) (hx : l[i]? = some x) (hy : l[j]? = some y) : x.t.id ≤ y.t.id := by
  obtain ⟨i1, rfl⟩ := List.getElem?_eq_some_iff.1 hx
  obtain ⟨j1, rfl⟩ := List.getElem?_eq_some_iff.1 hy
  by_cases e : i = j
  · subst e; exact Int.le_refl _
  · have := List.pairwise_iff_getElem.1 (rise_pair.1 hr).2 i j i1 j1 (by omega)
    omega
/-- the two boxes of place -/
abbrev PB (w : World) (ao : Option Addr) (k cap : Nat) (m id : Int) : List (Nat × Array Value × Nat) := [(w.heap.size + 1, #[.int .i64 id], 3), (w.heap.size, #[.slice ao k cap, .int .i64 m], 29)]
set_option maxHeartbeats 2000000 in
theorem place1_any {l : List Rw} {ao : Option Addr} {cap : Nat} {m id : Int} {w W : World} {i : Nat} {x : Rw} (hS : Seen Rw.cs 6 ao l w) (hx : l[i]? = some x) (hl : l.length ≤ 1000) (hB : Bos (PB w ao l.length cap m id) w W) :
    Calls Try.prog 68 #[.int .i64 (i : Int), .pointer (some ⟨w.heap.size, 0, none⟩), .pointer (some ⟨w.heap.size + 1, 0, none⟩)] W fun e w' => e = .returned (.bool (decide (id ≤ x.t.id))) ∧ Bos (PB w ao l.length cap m id) w w' := by
  obtain ⟨b, off, rfl, hb, hat⟩ := hS.below hB.bl (Nat.le_refl _) (by have := (List.getElem?_eq_some_iff.1 hx).1; omega)
  have hil := (List.getElem?_eq_some_iff.1 hx).1
  have c0 := (row_cells hat hx).1
  have t0 := (cell2 (hB.cell 1 rfl)).1
  have i0 : W.cell? ⟨w.heap.size + 1, 0, none⟩ = some (.int .i64 id) := (hB.cell 0 rfl 0).trans rfl
  have HB := Lib.hid hB.drew
  have KD := Lib.hid (And.intro c0 (And.intro t0 i0))
  have hi1 : (i : Int) < (l.length : Int) := by omega
  have hi2 : IntKind.i64.wrap (i : Int) = (i : Int) := IntWalk.i64_in _ (by omega)
  obtain ⟨⟨xi, xc, xd, xt, xm⟩, xs⟩ := x
  simp only at *
  clear hat hx hS hB hil hb
  go_enter Try.func68, Try.ntmps68
  go_wp2_with fail
  refine wp_region_held_drew (S := (fun W' => W'.cell? ⟨b, off + i * 6, none⟩ = some (.int .i64 xi) ∧ W'.cell? ⟨w.heap.size, 0, none⟩ = some (.slice (some ⟨b, off, none⟩) l.length cap) ∧ W'.cell? ⟨w.heap.size + 1, 0, none⟩ = some (.int .i64 id))) (by kernel_rfl) (KD.out) (fun hHeld => ?_)
  refine Gh.tk 0 ?_
  refine Gh.tk 1 ?_
  refine Gh.tk 2 ?_
  refine Gh.tk 3 ?_
  refine Gh.tk 4 ?_
  refine Gh.tk 5 ?_
  refine Gh.tk 6 ?_
  refine Gh.tk 7 ?_
  refine Gh.tk 8 ?_
  refine Gh.tk 9 ?_
  refine wpAnyH_done (by kernel_rfl) ?_ _
  go_wp2
  go_ret
  exact ⟨rfl, HB.out⟩
/-- the search: what is between i and j is open -/
def SeRel (l : List Rw) (id : Int) (L : List (Nat × Array Value × Nat)) (w : World) (g : Nat) (s5 s6 : Value) (wx : World) : Prop :=
  ∃ i j : Nat, i + g = j ∧ j ≤ l.length ∧ s5 = .int .i64 (i : Int) ∧ s6 = .int .i64 (j : Int) ∧ (∀ k r, k < i → l[k]? = some r → r.t.id < id) ∧ (∀ k r, j ≤ k → l[k]? = some r → id ≤ r.t.id) ∧ Bos L w wx
set_option maxHeartbeats 2000000 in
theorem search_any {l : List Rw} {ao : Option Addr} {cap : Nat} {m id a : Int} {w W : World} (hS : Seen Rw.cs 6 ao l w) (hr : rise a l = true) (hl : l.length ≤ 1000) (hB : Bos (PB w ao l.length cap m id) w W) :
    Calls Try.prog 67 #[.int .i64 (l.length : Int), .func (.func 68) #[] #[.pointer (some ⟨w.heap.size, 0, none⟩), .pointer (some ⟨w.heap.size + 1, 0, none⟩)]] W fun e w' => ∃ k : Nat, e = .returned (.int .i64 (k : Int)) ∧ Pl l id k ∧ Bos (PB w ao l.length cap m id) w w' := by
  have PC : Hid (∀ (i : Nat) (x : Rw) (W : World), l[i]? = some x → Bos (PB w ao l.length cap m id) w W → Calls Try.prog 68 #[.int .i64 (i : Int), .pointer (some ⟨w.heap.size, 0, none⟩), .pointer (some ⟨w.heap.size + 1, 0, none⟩)] W fun e w' => e = .returned (.bool (decide (id ≤ x.t.id))) ∧ Bos (PB w ao l.length cap m id) w w') := Lib.hid (fun i x W hx hB => place1_any hS hx hl hB)
  have LE : Hid (∀ (i j : Nat) (x y : Rw), i ≤ j → l[i]? = some x → l[j]? = some y → x.t.id ≤ y.t.id) := Lib.hid (fun i j x y hij hx hy => rise_le hr hij hx hy)
  have HB := Lib.hid hB
  clear hS hr hB
  generalize PB w ao l.length cap m id = L at *
  go_enter Try.func67, Try.ntmps67
  go_wp2_with fail
  go_loopg [5, 6] l.length (SeRel l id L w)
  case atStart => exact ⟨0, l.length, by omega, Nat.le_refl _, rfl, rfl, fun k r h => by omega, fun k r h hk => by have := (List.getElem?_eq_some_iff.1 hk).1; omega, HB.out⟩
  case round =>
    obtain ⟨i, j, hg, hj, rfl, rfl, h1, h2, hB⟩ := hrel
    have H1 := Lib.hid h1
    have H2 := Lib.hid h2
    have HBB := Lib.hid hB
    clear h1 h2 hB HB
    by_cases hlt : i < j
    · obtain ⟨h, hh⟩ : ∃ h : Nat, h = (i + j) / 2 := ⟨_, rfl⟩
      have hhl : h < l.length := by omega
      have hx := List.getElem?_eq_getElem hhl
      have C := Lib.hid (PC.out h _ wr hx HBB.out)
      have HX := Lib.hid hx
      generalize l[h] = x at *
      clear hx
      obtain ⟨⟨xi, xc, xd, xt, xm⟩, xs⟩ := x
      simp only at *
      have hij : (i : Int) < (j : Int) := by omega
      have a1 : IntKind.i64.wrap ((i : Int) + (j : Int)) = (i : Int) + (j : Int) := IntWalk.i64_in _ (by omega)
      have a2 : IntKind.u64.wrap ((i : Int) + (j : Int)) = (i : Int) + (j : Int) := IntWalk.u64_in _ (by omega)
      have a2' : ((i : Int) + (j : Int)) % 18446744073709551616 = (i : Int) + (j : Int) := by omega
      have a3 : ((i : Int) + (j : Int)) / 2 = (h : Int) := by omega
      have a4 : IntKind.i64.wrap (h : Int) = (h : Int) := IntWalk.i64_in _ (by omega)
      have a4' : IntKind.u64.wrap (h : Int) = (h : Int) := IntWalk.u64_in _ (by omega)
      have a5 : IntKind.i64.wrap ((h : Int) + 1) = (h : Int) + 1 := IntWalk.i64_in _ (by omega)
      have HI : Hid (i ≤ h ∧ h < j ∧ i + gk = j ∧ j ≤ l.length) := Lib.hid (by omega)
      by_cases hd : id ≤ xi
      · rw [decide_eq_true hd] at C
        have N2 : Hid (∀ k r, h ≤ k → l[k]? = some r → id ≤ r.t.id) := Lib.hid (fun k r hk hr => by have := LE.out h k _ r hk HX.out hr; simp only at this; omega)
        clear hd PC LE H2 HX hg hj hlt hh hhl
        go_wp2_with fail
        (with_reducible refine C.out.mono ?_)
        rintro e w1 ⟨rfl, b1⟩
        have B1 := Lib.hid b1
        clear b1 C
        go_wp2
        go_roundg (h - i)
        case measure => have := HI.out; omega
        case rel => exact ⟨i, h, by have := HI.out; omega, by have := HI.out; omega, rfl, rfl, H1.out, N2.out, B1.out⟩
      · rw [decide_eq_false hd] at C
        have N1 : Hid (∀ k r, k < h + 1 → l[k]? = some r → r.t.id < id) := Lib.hid (fun k r hk hr => by have := LE.out k h r _ (by omega) hr HX.out; simp only at this; omega)
        clear hd PC LE H1 HX hg hj hlt hh hhl
        go_wp2_with fail
        (with_reducible refine C.out.mono ?_)
        rintro e w1 ⟨rfl, b1⟩
        have B1 := Lib.hid b1
        clear b1 C
        go_wp2
        go_roundg (j - (h + 1))
        case measure => have := HI.out; omega
        case rel => exact ⟨h + 1, j, by have := HI.out; omega, by have := HI.out; omega, by go_num, rfl, N1.out, H2.out, B1.out⟩
    · have hge : (j : Int) ≤ (i : Int) := by omega
      obtain rfl : i = j := by omega
      have P : Hid (Pl l id i) := Lib.hid ⟨hj, H1.out, H2.out⟩
      clear hlt hg hj PC LE H1 H2
      go_wp2
      go_ret
      exact ⟨i, rfl, P.out, HBB.out⟩
set_option maxHeartbeats 4000000 in
theorem place_any {l : List Rw} {ao : Option Addr} {cap : Nat} {m id a : Int} {w : World} (hS : Seen Rw.cs 6 ao l w) (hr : rise a l = true) (hl : l.length ≤ 1000) :
    Calls Try.prog 54 #[tv ao l.length cap m, .int .i64 id] w fun e w' => ∃ k : Nat, e = .returned (.tuple #[.int .i64 (k : Int), .bool (there l id k)]) ∧ Pl l id k ∧ Below w.heap.size w w' := by
  have hmf : ∀ (fn : Fn) (first cap : Array Value) (w : World), (Instr.makeFunc fn first cap).run Try.prog w = .ok (.func fn first cap) w := fun _ _ _ _ => rfl
  have SE : Hid (∀ W, Bos (PB w ao l.length cap m id) w W → Calls Try.prog 67 #[.int .i64 (l.length : Int), .func (.func 68) #[] #[.pointer (some ⟨w.heap.size, 0, none⟩), .pointer (some ⟨w.heap.size + 1, 0, none⟩)]] W fun e w' => ∃ k : Nat, e = .returned (.int .i64 (k : Int)) ∧ Pl l id k ∧ Bos (PB w ao l.length cap m id) w w') := Lib.hid (fun W hB => search_any hS hr hl hB)
  have S := Lib.hid hS
  have H0 : Hid (Bos (PB w ao l.length cap m id) w ((w.alloc (.cells #[.slice ao l.length cap, .int .i64 m] 29)).alloc (.cells #[.int .i64 id] 3))) := Lib.hid (by
    have := ((bos_nil w).new #[.slice ao l.length cap, .int .i64 m] 29).new #[.int .i64 id] 3
    rw [World.size_alloc] at this
    exact this)
  have t0 := (cell2 (H0.out.cell 1 rfl)).1
  unfold tv
  clear hS hr
  go_enter Try.func54, Try.ntmps54
  go_wp2_with fail
  (with_reducible refine (SE.out _ H0.out).mono ?_)
  rintro e w1 ⟨k, rfl, hp, b1⟩
  have H1 := Lib.hid b1
  have HP := Lib.hid hp
  clear b1 SE H0 t0
  have t0 := (cell2 (H1.out.cell 1 rfl)).1
  have i0 : w1.cell? ⟨w.heap.size + 1, 0, none⟩ = some (.int .i64 id) := (H1.out.cell 0 rfl 0).trans rfl
  by_cases hk : k < l.length
  · have hx := List.getElem?_eq_getElem hk
    obtain ⟨b, off, rfl, hb, hat⟩ := S.out.below H1.out.bl (Nat.le_refl _) (by omega)
    have c0 := (row_cells hat hx).1
    have E : there l id k = (l[k].t.id == id) := by unfold there; rw [hx]; exact (beq_eq_dec _ _).symm
    have hk' : (k : Int) < (l.length : Int) := by omega
    have hk2 : IntKind.i64.wrap (k : Int) = (k : Int) := IntWalk.i64_in _ (by omega)
    have EH := Lib.hid E
    generalize l[k] = x at *
    obtain ⟨⟨xi, xc, xd, xt, xm⟩, xs⟩ := x
    simp only at *
    have KD := Lib.hid (And.intro c0 (And.intro t0 i0))
    clear hx hat E S hp hb c0 t0 i0
    go_wp2_with fail
    refine wp_region_held_drew (S := (fun W' => W'.cell? ⟨b, off + k * 6, none⟩ = some (.int .i64 xi) ∧ W'.cell? ⟨w.heap.size, 0, none⟩ = some (.slice (some ⟨b, off, none⟩) l.length cap) ∧ W'.cell? ⟨w.heap.size + 1, 0, none⟩ = some (.int .i64 id))) (by kernel_rfl) (KD.out) (fun hHeld => ?_)
    refine Gh.tk 0 ?_
    refine Gh.tk 1 ?_
    refine Gh.tk 2 ?_
    refine Gh.tk 3 ?_
    refine Gh.tk 4 ?_
    refine Gh.tk 5 ?_
    refine Gh.tk 6 ?_
    refine Gh.tk 7 ?_
    refine Gh.tk 8 ?_
    refine Gh.tk 9 ?_
    refine Gh.tk 10 ?_
    refine Gh.tk 11 ?_
    refine Gh.tk 12 ?_
    refine Gh.tk 13 ?_
    refine Gh.tk 14 ?_
    refine Gh.tk 15 ?_
    refine Gh.tk 16 ?_
    refine Gh.tk 17 ?_
    refine Gh.tk 18 ?_
    refine wpAnyH_done (by kernel_rfl) ?_ _
    go_wp2
    go_ret2
    exact ⟨k, by rw [EH.out]; rfl, HP.out, H1.out.bl.drew⟩
  · have E : there l id k = false := by unfold there; rw [List.getElem?_eq_none (by omega)]
    have EH := Lib.hid E
    have hk' : (l.length : Int) ≤ (k : Int) := by omega
    have hd : decide (k < l.length) = false := decide_eq_false (by omega)
    have KD := Lib.hid (And.intro t0 i0)
    clear E S hp hk
    go_wp2_with fail
    refine wp_region_held_drew (S := (fun W' => W'.cell? ⟨w.heap.size, 0, none⟩ = some (.slice ao l.length cap) ∧ W'.cell? ⟨w.heap.size + 1, 0, none⟩ = some (.int .i64 id))) (by kernel_rfl) (KD.out) (fun hHeld => ?_)
    refine Gh.tk 0 ?_
    refine Gh.tk 1 ?_
    refine Gh.tk 2 ?_
    refine Gh.tk 3 ?_
    refine Gh.tk 4 ?_
    refine Gh.tk 5 ?_
    refine Gh.tk 6 ?_
    refine Gh.tn 7 ?_
    refine Gh.tn 8 ?_
    refine Gh.tn 9 ?_
    refine Gh.tn 10 ?_
    refine Gh.tn 11 ?_
    refine Gh.tn 12 ?_
    refine Gh.tn 13 ?_
    refine Gh.tn 14 ?_
    refine Gh.tn 15 ?_
    refine Gh.tk 16 ?_
    refine Gh.tk 17 ?_
    refine Gh.tk 18 ?_
    refine wpAnyH_done (by kernel_rfl) ?_ _
    go_wp2
    go_ret2
    exact ⟨k, by rw [EH.out]; rfl, HP.out, H1.out.bl.drew⟩
end Go.Proofs.Ytgbnoifaknlkhaa.Tb
