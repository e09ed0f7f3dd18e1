/- The document's Steps, Same. -/
import Derived.Test.YtfnagjfgnbnlbaaBsH
import Derived.Test.YtfnagjfgnbnlbaaBsD
import Derived.BigQuiet
namespace Go.Proofs.Ytfnagjfgnbnlbaa.Bs
open Go.ChangeShapes Go.WideShapes Go.ChangeAt Go.RowKit Go.Joins
open Pm (Tk chk chk_iff rowB rowB_all rowB_len TkAt Ts TRow loadR wrap_in below_drewN)
open Dm (isTime isTime_iff nums NRow Ns nrow_nil nrow_append)
set_option maxRecDepth 100000
set_option maxRecDepth 100000
set_option linter.unusedVariables false
set_option linter.unusedSimpArgs false
/-- a row of one number, made -/
theorem nrow_one (B : Nat) (w : World) (x : Int) (hB : B ≤ w.heap.size) : NRow B (w.alloc (.cells #[.int .i64 x] 2)) (.slice (some ⟨w.heap.size, 0, none⟩) 1 1) [x] :=
  ⟨rfl, .inr ⟨w.heap.size, 1, #[.int .i64 x], rfl, hB, by show (w.heap.push _)[w.heap.size]? = _; rw [Array.getElem?_push_size], Nat.le_refl _, by simp [maxLen], rfl, rfl⟩⟩
theorem lengthR_good {l : List Tk} (he : (lengthR l).e = 0) : ∃ m, Good l m ∧ lengthR l = ⟨m, 0⟩ := by
  by_cases h1 : (loadR l).e = 0
  · by_cases h2 : (loadR l).n ≤ (loadR l).p
    · exact good_of h1 h2
    · rw [lengthR_over h1 (by omega)] at he; cases he
  · rw [lengthR_bad h1] at he; exact absurd he h1
/-- i tasks were counted -/
def ScRel (l : List Tk) (B : Nat) (w : World) (g : Nat) (s t : Value) (wx : World) : Prop :=
  ∃ i : Nat, i + g = l.length ∧ s = .int .i64 (wk (l.take i) 1) ∧ t = .int .i64 (i : Int) ∧ Below B w wx
/-- q, and then x, were told -/
def SqRel (l : List Tk) (m : Int) (w : World) (g : Nat) (s t : Value) (wx : World) : Prop :=
  ∃ (q : List Int) (x : Int), s = .int .i64 x ∧ NRow w.heap.size wx t (q ++ [x]) ∧ chainW l 1 (q ++ [x]) ∧ (∀ z ∈ q, z < m) ∧ x ≤ m ∧ (q.length : Int) + 1 ≤ x ∧ (g : Int) = m - x ∧ Below w.heap.size w wx
set_option maxHeartbeats 4000000 in
theorem rsteps_any (l : List Tk) (ao : Option Addr) (cap : Nat) (w : World) (hT : Ts ao l w) (hl : l.length ≤ 1000000) :
    Calls Try.prog 26 #[.slice ao l.length cap] w fun e w' => ∃ v r, e = .returned v ∧ NRow w.heap.size w' v r ∧ StepsOf l r ∧ Below w.heap.size w w' := by
  have LE := Lib.hid (rlength_any l ao cap w hT hl)
  have WK := Lib.hid (fun x w h => rwork_any l ao cap x w h hl)
  have T := Lib.hid hT
  clear hT
  by_cases he : (lengthR l).e = 0
  · obtain ⟨m, hg, hE⟩ := lengthR_good he
    rw [hE] at LE
    simp only at LE
    by_cases h0 : l.length = 0
    · have E : Hid (StepsOf l []) := Lib.hid (.inl ⟨.inr (List.eq_nil_of_length_eq_zero h0), rfl⟩)
      have e0 : ((l.length : Int) == 0) = true := by rw [h0]; rfl
      clear he hg hE WK T
      generalize l.length = ll at *
      clear h0
      go_enter Try.func26, Try.ntmps26
      go_wp2_with fail
      (with_reducible refine LE.out.mono ?_)
      rintro e w1 ⟨rfl, b1⟩
      have K1 := Lib.hid b1
      clear b1 LE
      go_wp2
      go_ret
      exact ⟨_, _, rfl, nrow_nil _ _, E.out, K1.out⟩
    · have hne : l ≠ [] := fun e => h0 (by rw [e]; rfl)
      have hr : rowB l = true := by
        rcases hg.2.2 with ⟨h, -⟩ | ⟨-, h, -⟩
        · exact absurd h hne
        · exact h
      have SO : Hid (∀ r, fullW l m 1 r → StepsOf l r) := Lib.hid (fun r h => .inr ⟨he, hne, by rw [hE]; exact h⟩)
      have e0 : ((l.length : Int) == 0) = false := beq_eq_false_iff_ne.2 (by omega)
      have e1 : ¬ (l.length : Int) = 0 := by omega
      have GN := Lib.hid (fun (pre : List Int) (x : Int) hc h1 h2 => good_next hg (pre := pre) (x := x) hc h1 h2)
      have M1 := Lib.hid hg.2.1
      have CK := Lib.hid (fun i (hlt : i < l.length) => (show 1 ≤ l[i].c ∧ l[i].c ≤ 2147483648 ∧ 0 ≤ wk (l.take i) 1 ∧ wk (l.take i) 1 ≤ 68719476736 ∧ wk (l.take (i + 1)) 1 = wk (l.take i) 1 + l[i].c by
        have hc := chk_iff.1 (rowB_all hr _ (List.getElem_mem hlt))
        have h3 := wk_le (l := l.take i) (x := 1) (fun t ht => rowB_all hr t (List.mem_of_mem_take ht)) (by omega)
        have hl := rowB_len hr
        have h4 : ((l.take i).length : Int) * (1 + 2147483648) ≤ 16 * (1 + 2147483648) := Int.mul_le_mul_of_nonneg_right (by simp; omega) (by omega)
        refine ⟨by omega, by omega, h3.1, by omega, ?_⟩
        rw [wk_take hlt, rel_one (by omega), Int.mul_one]))
      have W1 : Hid (wk l 1 = workR l 1) := Lib.hid (by rw [workR_yes hr (by decide)])
      have X1 : Hid (1 ≤ workR l 1 ∧ workR l 1 ≤ m) := Lib.hid (by
        have hm : Len l m := by
          rcases hg.2.2 with ⟨h, -⟩ | ⟨-, -, h⟩
          · exact absurd h hne
          · exact h
        rw [workR_yes hr (by decide)]
        exact hm.start (load_pos hr) hne)
      clear he hE hne h0 hr hg
      go_enter Try.func26, Try.ntmps26
      go_wp2_with fail
      (with_reducible refine LE.out.mono ?_)
      rintro e w1 ⟨rfl, b1⟩
      have K1 := Lib.hid b1
      clear b1 LE
      go_wp2_with fail
      go_loopg [5, 6] l.length (ScRel l w.heap.size w)
      case atStart => exact ⟨0, by omega, by simp [wk], rfl, K1.out⟩
      case round =>
        obtain ⟨i, hi, rfl, rfl, hB⟩ := hrel
        have KB := Lib.hid hB
        have TQ := T.out.below hB (Nat.le_refl _)
        by_cases hlt : i < l.length
        · obtain ⟨b, off, rfl, hb, hat⟩ := TQ (by omega)
          have hx := hat i l[i] (List.getElem?_eq_getElem hlt)
          obtain ⟨k1, k2, k3, k4, k5⟩ := CK.out i hlt
          have HI := Lib.hid hi
          have NX := Lib.hid k5
          have hg0 : 0 < gk := by omega
          have hlt' : (i : Int) < (l.length : Int) := by omega
          clear hi hat TQ hB k5 CK
          generalize wk (l.take i) 1 = S at *
          generalize l[i] = t at *
          obtain ⟨c0, c1, c2, c3, c4⟩ := hx
          generalize t.c = tc at *
          have ws : IntKind.i64.wrap (S + tc) = S + tc := wrap_in (by omega) (by omega)
          go_wp2
          go_roundg (gk - 1)
          case measure => omega
          case rel => exact ⟨i + 1, by have := HI.out; omega, by rw [NX.out], by go_num, KB.out⟩
        · have hge : (l.length : Int) ≤ (i : Int) := by omega
          rw [List.take_of_length_le (by omega), W1.out]
          have hdec : decide (i < l.length) = false := decide_eq_false hlt
          have FX : Hid (chainW l 1 [workR l 1]) := Lib.hid ⟨rfl, trivial⟩
          obtain ⟨x1, x2⟩ := X1.out
          have KB2 := Lib.hid (fun o => hB.alloc hB.size o)
          have NR := Lib.hid (nrow_one w.heap.size wr (workR l 1) hB.size)
          clear hB TQ hi hlt CK W1 KB X1
          generalize workR l 1 = y1 at *
          have FXX : Hid (SqRel l m w (m - y1).toNat (.int .i64 y1) (.slice (some ⟨wr.heap.size, 0, none⟩) 1 1) (wr.alloc (.cells #[.int .i64 y1] 2))) := Lib.hid ⟨[], y1, rfl, NR.out, FX.out, by simp, x2, by simp; omega, by omega, KB2.out _⟩
          clear FX KB2 NR
          go_wp2_with fail
          try simp only [hdec]
          go_loopg [5, 7] (m - y1).toNat (SqRel l m w)
          case atStart => exact FXX.out
          case round =>
            obtain ⟨q, x, rfl, hn, hc, hq, hxm, hqx, hgk, hB2⟩ := hrel
            have KC := Lib.hid hB2
            have TW := Lib.hid (T.out.call hB2)
            have NW := Lib.hid hn
            have HC := Lib.hid hc
            have HQ := Lib.hid hq
            obtain ⟨pa, pc, rfl, -, -⟩ := hn.form
            have len : (q ++ [x]).length = q.length + 1 := by simp
            have m1 := M1.out
            by_cases hx : x = m
            · have E : Hid (StepsOf l (q ++ [x])) := Lib.hid (SO.out _ (fullW_snoc hc hq hx))
              have q1 : (x != m) = false := by simpa using hx
              have q2 : (x == m) = true := by simpa using hx
              clear hn hc hq hxm hqx hgk hB2 len hx
              generalize (q ++ [x]).length = n at *
              go_wp2
              go_ret
              exact ⟨_, _, rfl, NW.out, E.out, KC.out⟩
            · have q1 : (x != m) = true := by simpa using hx
              have q2 : (x == m) = false := by simpa using hx
              have LA : lastI 0 (q ++ [x]) = x := lastI_snoc _ _ _
              have LB : lastI 1 (q ++ [x]) = x := lastI_snoc _ _ _
              have hc2 : chainW l 1 ((q ++ [x]) ++ [workR l x]) := chainW_snoc.2 ⟨hc, by rw [LB]⟩
              have hs : x < workR l x ∧ workR l x ≤ m := by
                rcases GN.out _ _ hc2 (by rw [len, LA]; simp; omega) (by rw [LA]; exact hxm) with ⟨-, h⟩ | ⟨-, h⟩
                · rw [LA] at h; exact absurd h hx
                · rw [LA] at h; exact h
              have HC2 := Lib.hid hc2
              have WQ := Lib.hid (WK.out x wr TW.out)
              obtain ⟨s1, s2⟩ := hs
              have AP := Lib.hid (fun w2 (h : NRow w.heap.size w2 (.slice pa (q ++ [x]).length pc) (q ++ [x])) (hB : w.heap.size ≤ w2.heap.size) => nrow_append w.heap.size w2 _ (q ++ [x]) (workR l x) h hB (by rw [len]; omega))
              have HQ2 : Hid (∀ z ∈ q ++ [x], z < m) := Lib.hid (fun z hz => by
                rcases List.mem_append.1 hz with hz | hz
                · exact hq z hz
                · obtain rfl : z = x := by simpa using hz
                  omega)
              have HG : Hid (∀ y : Int, x < y → y ≤ m → (((m - y).toNat : Nat) : Int) = m - y ∧ (m - y).toNat < gk) := Lib.hid (fun y h1 h2 => by omega)
              have HL := Lib.hid hqx
              generalize workR l x = y at *
              clear hn hc hq hxm hqx hgk hB2 hx hc2 LA LB len m1
              generalize (q ++ [x]).length = n1 at *
              go_wp2_with fail
              (with_reducible refine WQ.out.mono ?_)
              rintro e w2 ⟨rfl, b2⟩
              have K2 := Lib.hid (KC.out.trans (b2.mono KC.out.size))
              obtain ⟨v', w3, hap, hrow, hb3, -, -⟩ := AP.out w2 (NW.out.call b2) K2.out.size
              have HRW := Lib.hid hrow
              have HBW := Lib.hid hb3
              clear hrow hb3 b2 AP WQ
              obtain ⟨pb, pd, rfl, -, -⟩ := HRW.out.form
              generalize (q ++ [x] ++ [y]).length = n3 at *
              go_wp2_with (at_builtin; refine Lib.wpList_append_run _ rfl _ _ _ _ rfl _ _ rfl rfl _ _ hap ?_)
              go_roundg (m - y).toNat
              case measure => exact (HG.out y s1 s2).2
              case rel => exact ⟨q ++ [x], y, rfl, HRW.out, HC2.out, HQ2.out, s2, by have := HL.out; simp; omega, (HG.out y s1 s2).1, K2.out.trans HBW.out⟩
  · have E : Hid (StepsOf l []) := Lib.hid (.inl ⟨.inl he, rfl⟩)
    generalize (lengthR l).e = e0 at *
    generalize (lengthR l).n = n0 at *
    have h1 : (e0 == 0) = false := by simpa using he
    have h2 : (e0 != 0) = true := by simpa using he
    clear he WK T
    go_enter Try.func26, Try.ntmps26
    go_wp2_with fail
    (with_reducible refine LE.out.mono ?_)
    rintro e w1 ⟨rfl, b1⟩
    have K1 := Lib.hid b1
    clear b1 LE
    go_wp2
    go_ret
    exact ⟨_, _, rfl, nrow_nil _ _, E.out, K1.out⟩
def SaRel (l : List Int) (W : World) (g : Nat) (t : Value) (wx : World) : Prop := ∃ i : Nat, i + g = l.length ∧ t = .int .i64 (i : Int) ∧ Below W.heap.size W wx
set_option maxHeartbeats 2000000 in
theorem same_any (l : List Int) (pa qa : Option Addr) (pc qc : Nat) (w : World) (hp : Ns pa l w) (hq : Ns qa l w) (hl : l.length ≤ 4000000) :
    Calls Try.prog 25 #[.slice pa l.length pc, .slice qa l.length qc] w fun e w' => e = .returned (.bool true) ∧ Below w.heap.size w w' := by
  have P := Lib.hid hp
  have Q := Lib.hid hq
  have e0 : ((l.length : Int) != (l.length : Int)) = false := by simp
  clear hp hq
  go_enter Try.func25, Try.ntmps25
  go_wp2_with fail
  go_loopg [5] l.length (SaRel l w)
  case atStart => exact ⟨0, by omega, rfl, Below.refl _ _⟩
  case round =>
    obtain ⟨i, hi, rfl, hB⟩ := hrel
    have KB := Lib.hid hB
    have NP := P.out.call hB
    have NQ := Q.out.call hB
    clear hB
    by_cases hlt : i < l.length
    · obtain ⟨b, off, rfl, hb, hat⟩ := NP (by omega)
      obtain ⟨b', off', rfl, hb', hat'⟩ := NQ (by omega)
      have hx := hat i l[i] (List.getElem?_eq_getElem hlt)
      have hy := hat' i l[i] (List.getElem?_eq_getElem hlt)
      have hlt' : (i : Int) < (l.length : Int) := by omega
      have HI := Lib.hid hi
      have hg0 : 0 < gk := by omega
      clear hat hat' NP NQ hi
      generalize l[i] = p at *
      have e1 : (p != p) = false := by simp
      go_wp2_with fail
      go_quiet (fail)
      have K2 := Lib.hid (KB.out.trans ((below_drewN _ nq).mono KB.out.size))
      go_wp2
      go_roundg (gk - 1)
      case measure => omega
      case rel => exact ⟨i + 1, by have := HI.out; omega, by go_num, K2.out⟩
    · have hge : (l.length : Int) ≤ (i : Int) := by omega
      have hdec : decide (i < l.length) = false := decide_eq_false hlt
      clear hi hlt NP NQ
      go_wp2
      go_ret
      exact ⟨rfl, KB.out⟩
end Go.Proofs.Ytfnagjfgnbnlbaa.Bs
