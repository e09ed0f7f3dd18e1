/- Contracts of the document's Period, Load. -/
import Derived.Test.YtbhafcaekpccoaaPmL
namespace Go.Proofs.Ytbhafcaekpccoaa.Pm
open Go.ChangeShapes Go.WideShapes Go.ChangeAt Go.RowKit Go.Joins
set_option maxRecDepth 100000
set_option maxRecDepth 100000
set_option linter.unusedVariables false
set_option linter.unusedSimpArgs false
theorem rgcd_any (p n : Nat) (w : World) (hp : p ≤ 1048576) (hn : n ≤ 2147483648) :
    Calls Try.prog 49 #[.int .i64 (p : Int), .int .i64 (n : Int)] w fun e w' => e = .returned (.int .i64 (Nat.gcd p n : Int)) ∧ Below w.heap.size w w' :=
  rgcd_nat n (p : Int) (n : Int) w rfl (by omega) (by omega) (by omega)
/-- i periods were multiplied: p is their common one -/
def RpRel (l : List Tk) (w : World) (g : Nat) (s t : Value) (wx : World) : Prop :=
  ∃ i p : Nat, i + g = l.length ∧ s = .int .i64 (p : Int) ∧ t = .int .i64 (i : Int) ∧ pers l 1 = pers (l.drop i) p ∧ 0 < p ∧ p ≤ 1048576 ∧ Below w.heap.size w wx
set_option maxHeartbeats 4000000 in
theorem rperiod_any (l : List Tk) (ao : Option Addr) (cap : Nat) (w : World) (hT : Ts ao l w) (hl : l.length ≤ 1000000) :
    Calls Try.prog 34 #[.slice ao l.length cap] w fun e w' => e = .returned (.tuple #[.int .i64 (periodR l).1, .int .i64 (periodR l).2]) ∧ Below w.heap.size w w' := by
  have RO := Lib.hid (fun w h => rrow_any l ao cap w h hl)
  have HP : Hid (periodR l = if rowB l then (match pers l 1 with | some p => ((p : Int), 0) | none => (0, (16 : Int))) else (0, 1)) := Lib.hid rfl
  have HC : Hid (rowB l = true → ∀ x ∈ l, chk x = true) := Lib.hid rowB_all
  generalize periodR l = pr at *
  generalize rowB l = rb at *
  have T := Lib.hid hT
  go_enter Try.func34, Try.ntmps34
  go_wp2_with fail
  (with_reducible refine (RO.out _ hT).mono ?_)
  rintro e w1 ⟨rfl, b1⟩
  clear hT
  cases rb
  · have E := Lib.hid HP.out
    clear HP
    go_wp2
    exact bodyPost_ret (v := .tuple #[.int .i64 0, .int .i64 1]) (by simp [results, Try.results34, go_sem]) rfl ⟨by rw [E.out]; rfl, b1⟩
  have K0 := Lib.hid b1
  have HC1 := Lib.hid (HC.out rfl)
  clear HC RO b1
  go_wp2_with fail
  go_loopg [5, 6] l.length (RpRel l w)
  case atStart => exact ⟨0, 1, by omega, rfl, rfl, rfl, by omega, by omega, K0.out⟩
  case round =>
    obtain ⟨i, p, hi, rfl, rfl, hp, hp0, hp1, hB⟩ := hrel
    have TQ := T.out.below hB (Nat.le_refl _)
    by_cases hlt : i < l.length
    · obtain ⟨b, off, rfl, hb, hat⟩ := TQ (by omega)
      have hx := hat i l[i] (List.getElem?_eq_getElem hlt)
      have hck := chk_iff.1 (HC1.out _ (List.getElem_mem hlt))
      rw [pers_next hlt] at hp
      obtain ⟨n, hn⟩ : ∃ n : Nat, l[i].t = (n : Int) := ⟨l[i].t.toNat, by omega⟩
      have hn1 : 0 < n := by omega
      have hn2 : n ≤ 2147483648 := by omega
      have ht : l[i].t.toNat = n := by omega
      rw [ht] at hp
      have G := Lib.hid (fun w => rgcd_any p n w hp1 hn2)
      have hg := Nat.gcd_pos_of_pos_left n hp0
      have hL : p / Nat.gcd p n * n = Nat.lcm p n := lcm_eq'
      have hL2 := lcm_le hp1 hn2
      have HL1 : 0 < Nat.lcm p n := Nat.lcm_pos hp0 hn1
      have hD : p / Nat.gcd p n ≤ p := Nat.div_le_self _ _
      generalize Nat.lcm p n = L at *
      generalize Nat.gcd p n = g at *
      have hd : (p : Int) / (g : Int) = ((p / g : Nat) : Int) := by omega
      generalize p / g = D at *
      have hw : IntKind.i64.wrap (L : Int) = (L : Int) := by rw [IntKind.wrap_i64]; omega
      have hm : (D : Int) * (n : Int) = (L : Int) := by rw [← hL]; simp
      have hg0 : ((g : Int) == 0) = false := by simp; omega
      have HPE := Lib.hid hp
      have HI := Lib.hid hi
      have KB := Lib.hid hB
      have hk0 : 0 < gk := by omega
      clear hp hi hat hck ht TQ hL hn1 hn2
      generalize l[i] = x at *
      obtain ⟨c0, c1, c2, c3, c4⟩ := hx
      obtain ⟨xi, xc, xd, xt, xm⟩ := x
      simp only at hn c0 c1 c2 c3 c4
      subst hn
      have CA := fun w1 (bb : Below wr.heap.size wr w1) => Lib.hid (And.intro (carry bb c3) (And.intro (World.block_lt_of_cell? _ _ (carry bb c3)) (KB.out.trans (bb.mono KB.out.size))))
      have KD := Lib.hid ((Below.refl wr.heap.size wr).drew)
      clear c0 c1 c2 c4
      go_wp2_with fail
      go_region_with (go_at_call 49; refine (G.out _).mono ?_; rintro e w3 ⟨rfl, hb3⟩; obtain ⟨c3', f3, z3⟩ := (CA _ (by first | exact hb3 | exact KD.out.trans hb3)).out)
      all_goals
        have K2 := Lib.hid z3
        clear z3 CA KD KB G
        by_cases hov : 1048576 < L
        · have E : Hid (pr = (0, 16)) := Lib.hid (by rw [HP.out, HPE.out, if_pos hov]; rfl)
          have hov' : (1048576 : Int) < (L : Int) := by omega
          clear hov
          go_wp2
          exact bodyPost_ret (v := .tuple #[.int .i64 0, .int .i64 16]) (by simp [results, Try.results34, go_sem]) rfl ⟨by rw [E.out], K2.out⟩
        · have hov' : (L : Int) ≤ 1048576 := by omega
          have E := Lib.hid (HPE.out.trans (if_neg hov))
          clear hov HPE
          go_wp2
          go_roundg (gk - 1)
          case measure => omega
          case rel => exact ⟨i + 1, L, by have := HI.out; omega, rfl, by go_num, E.out, HL1, by omega, K2.out⟩
    · have hge : (l.length : Int) ≤ (i : Int) := by omega
      rw [List.drop_eq_nil_of_le (by omega), pers] at hp
      have E : Hid (pr = ((p : Int), 0)) := Lib.hid (by rw [HP.out, hp]; rfl)
      have K2 := Lib.hid hB
      clear hp hB TQ hi hlt
      go_wp2
      exact bodyPost_ret (v := .tuple #[.int .i64 (p : Int), .int .i64 0]) (by simp [results, Try.results34, go_sem]) rfl ⟨by rw [E.out], K2.out⟩
/-- what is told, in its own block -/
def Ld.v (x : Ld) : Value := .agg #[.int .i64 x.n, .int .i64 x.p, .int .i64 x.e]
structure Slot3 (b : Nat) (w : World) : Prop where
  c0 : ∃ u, w.cell? ⟨b, 0, none⟩ = some u
  c1 : ∃ u, w.cell? ⟨b, 1, none⟩ = some u
  c2 : ∃ u, w.cell? ⟨b, 2, none⟩ = some u
  f0 : w.frozen? ⟨b, 0, none⟩ = false
  f1 : w.frozen? ⟨b, 1, none⟩ = false
  f2 : w.frozen? ⟨b, 2, none⟩ = false
theorem Slot3.call {b : Nat} {w w' : World} (h : Slot3 b w) (hb : Below w.heap.size w w') : Slot3 b w' := by
  obtain ⟨⟨u0, c0⟩, ⟨u1, c1⟩, ⟨u2, c2⟩, f0, f1, f2⟩ := h
  exact ⟨⟨u0, carry hb c0⟩, ⟨u1, carry hb c1⟩, ⟨u2, carry hb c2⟩, carryf hb c0 f0, carryf hb c1 f1, carryf hb c2 f2⟩
theorem slot3_new (w : World) (a b c : Value) (T : TypeId) : Slot3 w.heap.size (w.alloc (.cells #[a, b, c] T)) :=
  ⟨⟨a, by simp [go_sem]⟩, ⟨b, by simp [go_sem]⟩, ⟨c, by simp [go_sem]⟩, by simp [go_sem], by simp [go_sem], by simp [go_sem]⟩
theorem LoRel.slot {l : List Tk} {p : Int} {B : Nat} {w wx : World} {g : Nat} {s t : Value} (h : LoRel l p B w g s t wx) : Below B w wx := by
  obtain ⟨i, -, -, -, h⟩ := h; exact h
set_option maxHeartbeats 4000000 in
theorem rload_any (l : List Tk) (ao : Option Addr) (cap : Nat) (w : World) (hT : Ts ao l w) (hl : l.length ≤ 1000000) :
    Calls Try.prog 17 #[.slice ao l.length cap] w fun e w' => e = .returned (loadR l).v ∧ Below w.heap.size w w' := by
  have PE := Lib.hid (fun w h => rperiod_any l ao cap w h hl)
  have A0 : Hid (∀ o, Ts ao l (w.alloc o) ∧ Below w.heap.size w (w.alloc o)) := Lib.hid (fun o => ⟨hT.call ((Below.refl _ _).alloc (Nat.le_refl _) o), (Below.refl _ _).alloc (Nat.le_refl _) o⟩)
  have S0 := Lib.hid (fun a b c => slot3_new w a b c 34)
  have T := Lib.hid hT
  have AL : Hid (∀ o, (w.alloc o).heap.size = w.heap.size + 1) := Lib.hid (fun o => by simp)
  by_cases h0 : (periodR l).2 = 0
  · obtain ⟨hr, p, -, hp1, hp0, hp2⟩ := period_ok h0
    rw [h0, hp1] at PE
    have E := Lib.hid (load_yes h0)
    rw [hp1] at E
    have ST := Lib.hid (fun i (hlt : i < l.length) => step_of hr hp2 hlt)
    generalize loadR l = ld at *
    clear h0 hp1 hT
    go_enter Try.func17, Try.ntmps17
    go_wp2_with fail
    (with_reducible refine (PE.out _ (A0.out _).1).mono ?_)
    rintro e w1 ⟨rfl, b1⟩
    have S1 := Lib.hid ((S0.out _ _ _).call b1)
    have K0 := Lib.hid ((A0.out _).2.trans (b1.mono (by rw [AL.out]; omega)))
    have Z1 : Hid (w.heap.size < w1.heap.size) := Lib.hid (by have := b1.size; rw [AL.out] at this; omega)
    clear PE b1 A0 S0 AL
    go_wp2_with fail
    go_loopg [5, 6] l.length (LoRel l p w1.heap.size w1)
    case atStart => exact ⟨0, by omega, by simp [work], rfl, Below.refl _ _⟩
    case round =>
      obtain ⟨i, hi, rfl, rfl, hB⟩ := hrel
      have TQ := (T.out.below K0.out (Nat.le_refl _)).below hB (Nat.le_refl _)
      by_cases hlt : i < l.length
      · obtain ⟨b, off, rfl, hb, hat⟩ := TQ (by omega)
        have hx := hat i l[i] (List.getElem?_eq_getElem hlt)
        obtain ⟨S, D, M, e1, e2, st⟩ := ST.out i hlt
        have HI := Lib.hid hi
        have KB := Lib.hid hB
        have WT2 := Lib.hid e2
        have hg0 : 0 < gk := by omega
        rw [e1]
        clear hi hat TQ hB e1 e2
        generalize l[i] = x at *
        obtain ⟨c0, c1, c2, c3, c4⟩ := hx
        obtain ⟨xi, xc, xd, xt, xm⟩ := x
        simp only at c0 c1 c2 c3 c4 st
        obtain ⟨sd, sd', sm, wd, wm, ws, m0, m1, hs0, hs1, hz, hzb, ht0⟩ := st
        go_wp2_with fail
        go_quiet (fail)
        go_wp2
        go_roundg (gk - 1)
        case measure => omega
        case rel => exact ⟨i + 1, by have := HI.out; omega, by rw [WT2.out], by go_num, KB.out.trans ((below_drewN _ _).mono KB.out.size)⟩
      · have hge : (l.length : Int) ≤ (i : Int) := by omega
        rw [List.take_of_length_le (by omega)]
        have K2 := Lib.hid (K0.out.trans (hB.mono K0.out.size))
        have S2 := Lib.hid (S1.out.call hB)
        obtain ⟨⟨u0, x0⟩, ⟨u1, x1⟩, ⟨u2, x2⟩, f0, f1, f2⟩ := S1.out.call hB
        have hz := World.block_lt_of_cell? _ _ x0
        clear hB TQ hi hlt ST
        go_wp2
        refine bodyPost_ret (v := .agg #[.int .i64 (work p l), .int .i64 (p : Int), .int .i64 0]) (by simp [results, Try.results17, go_sem, x0, x1, x2, hz]) rfl ⟨by rw [E.out]; rfl, ?_⟩
        exact ((K2.out.setCell (by simp) _).setCell (by simp) _).setCell (by simp) _
  · have E := Lib.hid (load_no h0)
    generalize loadR l = ld at *
    generalize (periodR l).1 = pp at *
    generalize (periodR l).2 = pe at *
    have h1 : (pe == 0) = false := by simpa using h0
    have h2 : (pe != 0) = true := by simpa using h0
    clear h0 hT
    go_enter Try.func17, Try.ntmps17
    go_wp2_with fail
    (with_reducible refine (PE.out _ (A0.out _).1).mono ?_)
    rintro e w1 ⟨rfl, b1⟩
    have S1 := Lib.hid ((S0.out _ _ _).call b1)
    have K0 := Lib.hid ((A0.out _).2.trans (b1.mono (by rw [AL.out]; omega)))
    obtain ⟨⟨u0, x0⟩, ⟨u1, x1⟩, ⟨u2, x2⟩, f0, f1, f2⟩ := S1.out
    have hz := World.block_lt_of_cell? _ _ x0
    clear PE b1 A0 S0 AL
    go_wp2
    refine bodyPost_ret (v := .agg #[.int .i64 0, .int .i64 0, .int .i64 pe]) (by simp [results, Try.results17, go_sem, x0, x1, x2, hz]) rfl ⟨by rw [E.out]; rfl, ?_⟩
    exact ((K0.out.setCell (by simp) _).setCell (by simp) _).setCell (by simp) _
end Go.Proofs.Ytbhafcaekpccoaa.Pm
