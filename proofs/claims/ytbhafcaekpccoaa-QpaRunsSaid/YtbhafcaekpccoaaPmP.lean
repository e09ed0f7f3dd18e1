/- Contract of package param's Period. -/
import Derived.Test.YtbhafcaekpccoaaPmC
namespace Go.Proofs.Ytbhafcaekpccoaa.Pm
open Go.ChangeShapes Go.WideShapes Go.ChangeAt Go.RowKit Go.Joins
set_option maxRecDepth 100000
set_option maxRecDepth 100000
set_option linter.unusedVariables false
set_option linter.unusedSimpArgs false
/-- all but block b is as it was -/
structure Apart (b : Nat) (w w' : World) : Prop where
  os : w'.os = w.os
  tape : w'.tape = w.tape
  output : w'.output = w.output
  size : w.heap.size ≤ w'.heap.size
  block : ∀ k, k < w.heap.size → k ≠ b → w'.heap[k]? = w.heap[k]?
theorem Apart.below {B b : Nat} {w w' : World} (h : Apart b w w') (hB : B ≤ b) (hs : B ≤ w.heap.size) : Below B w w' :=
  ⟨h.os, h.tape, h.output, h.size, fun k hk => h.block k (by omega) (by omega)⟩
theorem carryf {W w1 : World} {p : Addr} {v : Value} (hb : Below W.heap.size W w1) (h : W.cell? p = some v) (hf : W.frozen? p = false) : w1.frozen? p = false := by
  rw [← hf]
  apply hb.frozen
  rcases Nat.lt_or_ge p.block W.heap.size with h' | h'
  · exact h'
  · exfalso; unfold World.cell? at h; rw [Array.getElem?_eq_none h'] at h; cases h
/-- a number in a box -/
structure NumAt (b : Nat) (z : Int) (w : World) : Prop where
  c : w.cell? ⟨b, 0, none⟩ = some (.int .i64 z)
  f : w.frozen? ⟨b, 0, none⟩ = false
theorem mul_set {B : Nat} {z y : Int} {w w1 : World} (h : NumAt B z w) (hb : Below w.heap.size w w1) : NumAt B y (w1.setCell ⟨B, 0, none⟩ (.int .i64 y)) ∧ Apart B w (w1.setCell ⟨B, 0, none⟩ (.int .i64 y)) := by
  have c1 := carry hb h.c
  have f1 := carryf hb h.c h.f
  have hl := World.block_lt_of_cell? _ _ c1
  refine ⟨⟨by simp [go_sem, hl, c1], by simp [go_sem, hl, f1]⟩, ?_⟩
  have hz := hb.size
  refine ⟨hb.os, hb.tape, hb.output, by simpa [World.setCell] using hz, fun k hk hn => ?_⟩
  rw [Below.heap_setCell w1 ⟨B, 0, none⟩ _ k hn]
  exact hb.block k hk
theorem Apart.drew {B : Nat} {w w' : World} (h : Apart B w w') : Apart B w w'.drew := ⟨h.os, h.tape, h.output, h.size, h.block⟩
theorem NumAt.drew {B : Nat} {z : Int} {w : World} (h : NumAt B z w) : NumAt B z w.drew := ⟨h.c, h.f⟩
set_option maxHeartbeats 2000000 in
theorem mul_any (B p n : Nat) (w : World) (hp : 0 < p) (hp2 : p ≤ 1048576) (hn : 0 < n) (hn2 : n ≤ 2147483648) (h : NumAt B (p : Int) w) :
    Calls Try.prog 64 #[.int .i64 (n : Int), .pointer (some ⟨B, 0, none⟩)] w fun e w' => e = .returned (.tuple #[]) ∧ NumAt B (Nat.lcm p n : Int) w' ∧ Apart B w w' := by
  have G := Lib.hid (fun w => gcd_any (p : Int) (n : Int) w (by omega) (by omega))
  have e1 : Int.gcd (p : Int) (n : Int) = Nat.gcd p n := rfl
  rw [e1] at G
  have hg := Nat.gcd_pos_of_pos_left n hp
  have hL : p * (n / Nat.gcd p n) = Nat.lcm p n := lcm_eq hp
  have hL2 := lcm_le hp2 hn2
  have hD : n / Nat.gcd p n ≤ n := Nat.div_le_self _ _
  generalize Nat.lcm p n = L at *
  generalize Nat.gcd p n = g at *
  have hd : (n : Int) / (g : Int) = ((n / g : Nat) : Int) := by omega
  generalize n / g = D at *
  have hw : IntKind.i64.wrap (L : Int) = (L : Int) := by rw [IntKind.wrap_i64]; omega
  have hm : (p : Int) * (D : Int) = (L : Int) := by rw [← hL]; simp
  have MS := fun w1 b => Lib.hid (mul_set (y := (L : Int)) (w1 := w1) h b)
  have cP := h.c
  have fP := h.f
  have hg0 : ((g : Int) == 0) = false := by simp; omega
  have hl := World.block_lt_of_cell? _ _ cP
  have CA := fun w1 (b : Below w.heap.size w w1) => Lib.hid (And.intro (carry b cP) (And.intro (carryf b cP fP) b.size))
  clear hL h e1
  go_enter Try.func64, Try.ntmps64
  go_wp2_with fail
  go_region_with (go_at_call 65; refine (G.out _).mono ?_; rintro e w3 ⟨rfl, hb3⟩; obtain ⟨c3, f3, z3⟩ := (CA _ (by first | exact hb3 | exact (Below.refl _ _).drew.trans hb3 | exact (Below.refl _ _).trans hb3)).out)
  all_goals
    have FI := MS w3 (by first | exact hb3 | exact (Below.refl _ _).drew.trans hb3 | exact (Below.refl _ _).trans hb3)
    go_end0
    exact ⟨rfl, FI.out⟩
theorem num_new (w : World) (T : TypeId) : NumAt w.heap.size 1 (w.alloc (.cells #[.int .i64 1] T)) := ⟨by simp [go_sem], by simp [go_sem]⟩
theorem NumAt.below {b : Nat} {z : Int} {w w' : World} (h : NumAt b z w) (hb : Below w.heap.size w w') : NumAt b z w' := ⟨carry hb h.c, carryf hb h.c h.f⟩
/-- i periods were multiplied: p is their common one -/
def PeRel (l : List Tk) (B : Nat) (w : World) (g : Nat) (s : Value) (wx : World) : Prop :=
  ∃ i p : Nat, i + g = l.length ∧ s = .int .i64 (i : Int) ∧ pers l 1 = pers (l.drop i) p ∧ 0 < p ∧ p ≤ 1048576 ∧ NumAt B (p : Int) wx ∧ Below w.heap.size w wx
theorem pers_next {l : List Tk} {i p : Nat} (h : i < l.length) : pers (l.drop i) p = if 1048576 < Nat.lcm p l[i].t.toNat then none else pers (l.drop (i + 1)) (Nat.lcm p l[i].t.toNat) := by
  rw [List.drop_eq_getElem_cons h, pers]
set_option maxHeartbeats 4000000 in
theorem period_any (l : List Tk) (ao : Option Addr) (cap : Nat) (w : World) (hT : Ts ao l w) (hl : l.length ≤ 1000000) :
    Calls Try.prog 60 #[.slice ao l.length cap] w fun e w' => e = .returned (.tuple #[.int .i64 (periodR l).1, .int .i64 (periodR l).2]) ∧ Below w.heap.size w w' := by
  have RO := Lib.hid (fun w h => row_any l ao cap w h (by omega))
  have HP : Hid (periodR l = if rowB l then (match pers l 1 with | some p => ((p : Int), 0) | none => (0, (16 : Int))) else (0, 1)) := Lib.hid rfl
  have HC : Hid (rowB l = true → ∀ x ∈ l, chk x = true) := Lib.hid rowB_all
  generalize periodR l = pr at *
  generalize rowB l = rb at *
  have T := Lib.hid hT
  go_enter Try.func60, Try.ntmps60
  go_wp2_with fail
  go_step3
  go_wp2_with fail
  (with_reducible refine (RO.out _ hT).mono ?_)
  rintro e w1 ⟨rfl, b1⟩
  clear hT
  cases rb
  · have E := Lib.hid HP.out
    clear HP
    go_wp2
    try simp only [Exit.noGoto]
    exact bodyPost_ret (v := .tuple #[.int .i64 0, .int .i64 1]) (by simp [results, Try.results60, go_sem]) rfl ⟨by rw [E.out]; rfl, b1⟩
  have N0 := Lib.hid (num_new w1 2)
  have K0 := Lib.hid (b1.alloc (by have := b1.size; omega) (.cells #[.int .i64 1] 2))
  have hB := b1.size
  have HC1 := Lib.hid (HC.out rfl)
  have hBw := Lib.hid hB
  clear HC RO hB b1
  go_wp2_with fail
  go_step3
  go_wp2_with fail
  generalize w1.alloc (.cells #[.int .i64 1] 2) = wa at *
  generalize w1.heap.size = B at *
  go_loopg [14] l.length (PeRel l B w)
  case atStart => exact ⟨0, 1, by omega, rfl, rfl, by omega, by omega, N0.out, K0.out⟩
  case round =>
    obtain ⟨i, p, hi, rfl, hp, hp0, hp1, hN, hB⟩ := hrel
    have TQ := T.out.below hB (Nat.le_refl _)
    by_cases hlt : i < l.length
    · obtain ⟨b, off, rfl, hb, hat⟩ := TQ (by omega)
      have hx := hat i l[i] (List.getElem?_eq_getElem hlt)
      have hck := chk_iff.1 (HC1.out _ (List.getElem_mem hlt))
      rw [pers_next hlt] at hp
      obtain ⟨n, hn⟩ : ∃ n : Nat, l[i].t = (n : Int) := ⟨l[i].t.toNat, by omega⟩
      have hn1 : 0 < n := by omega
      have hn2 : n ≤ 2147483648 := by omega
      have ht : l[i].t.toNat = n := by omega
      rw [ht] at hp
      have MU := Lib.hid (fun w h => mul_any B p n w hp0 hp1 hn1 hn2 h)
      have HL1 : 0 < Nat.lcm p n := Nat.lcm_pos hp0 hn1
      generalize Nat.lcm p n = L at *
      have HPE := Lib.hid hp
      have HI := Lib.hid hi
      have KB := Lib.hid hB
      have NA := Lib.hid (fun o => hN.below ((Below.refl _ _).alloc (Nat.le_refl _) o))
      have hg0 : 0 < gk := by omega
      clear hp hi hat hck ht hN TQ hp0 hp1 hn1 hn2
      generalize l[i] = x at *
      obtain ⟨c0, c1, c2, c3, c4⟩ := hx
      obtain ⟨xi, xc, xd, xt, xm⟩ := x
      simp only at hn c0 c1 c2 c3 c4
      subst hn
      have KB2 := Lib.hid (fun o => KB.out.alloc KB.out.size o)
      clear KB
      go_wp2_with fail
      (with_reducible refine (MU.out _ (NA.out _)).mono ?_)
      rintro e w2 ⟨rfl, n2, a2⟩
      have K2 := Lib.hid ((KB2.out _).trans (a2.below hBw.out (KB2.out _).size))
      have N2 := Lib.hid n2
      clear a2 NA MU KB2
      have cB := n2.c
      clear n2
      by_cases hov : 1048576 < L
      · have E : Hid (pr = (0, 16)) := Lib.hid (by rw [HP.out, HPE.out, if_pos hov]; rfl)
        have hov' : (1048576 : Int) < (L : Int) := by omega
        clear hov
        go_wp2
        try simp only [Exit.noGoto]
        exact bodyPost_ret (v := .tuple #[.int .i64 0, .int .i64 16]) (by simp [results, Try.results60, go_sem]) rfl ⟨by rw [E.out], K2.out⟩
      · have hov' : (L : Int) ≤ 1048576 := by omega
        have E := Lib.hid (HPE.out.trans (if_neg hov))
        clear hov HPE
        go_wp2
        go_roundg (gk - 1)
        case measure => omega
        case rel => exact ⟨i + 1, L, by have := HI.out; omega, by go_num, E.out, HL1, by omega, N2.out, K2.out⟩
    · have hge : (l.length : Int) ≤ (i : Int) := by omega
      rw [List.drop_eq_nil_of_le (by omega), pers] at hp
      have E : Hid (pr = ((p : Int), 0)) := Lib.hid (by rw [HP.out, hp]; rfl)
      have K2 := Lib.hid hB
      have cB := hN.c
      have hov' : (p : Int) ≤ 1048576 := by omega
      clear hp hB TQ hi hlt hN
      go_wp2
      try simp only [Exit.noGoto]
      exact bodyPost_ret (v := .tuple #[.int .i64 (p : Int), .int .i64 0]) (by simp [results, Try.results60, go_sem]) rfl ⟨by rw [E.out], K2.out⟩
end Go.Proofs.Ytbhafcaekpccoaa.Pm
