/- The document's Path. -/
import Derived.Test.YtbhafcaekpccoaaQpD
import Derived.Test.YtbhafcaekpccoaaQpE
import Derived.Test.YtbhafcaekpccoaaDmR
namespace Go.Proofs.Ytbhafcaekpccoaa.Qp
open Go.ChangeShapes Go.WideShapes Go.ChangeAt Go.RowKit Go.Joins
open Pm (Tk chk chk_iff rowB rowB_all rowB_len TkAt Ts TRow wrap_in row_any rrow_any below_drewN Ld loadR)
open Dm (isTime isTime_iff ofR rof_any rbefore_any ans beforeR NRow Ns nrow_nil nrow_append nums)
open Bs (lengthR leastR rlength_any rleast_any)
set_option maxRecDepth 100000
set_option maxRecDepth 100000
set_option linter.unusedVariables false
set_option linter.unusedSimpArgs false
def RpRel (l : List Tk) (o : Option Int) (w : World) (g : Nat) (s t u : Value) (wx : World) : Prop :=
  ∃ pre, g = measT s t ∧ toldP (afterP l o pre) s t ∧ chainP l o pre ∧ (∀ y ∈ pre, ofR l y ≤ y) ∧ NRow w.heap.size wx u pre ∧ Below w.heap.size w wx
set_option maxHeartbeats 4000000 in
theorem rpath_any (l : List Tk) (ao : Option Addr) (cap : Nat) (w : World) (hT : Ts ao l w) (hl : l.length ≤ 1000000) :
    Calls Try.prog 16 #[.slice ao l.length cap] w fun e w' => ∃ v r, e = .returned v ∧ NRow w.heap.size w' v r ∧ PathOf l (pathO l) r ∧ Below w.heap.size w w' := by
  have LE := Lib.hid (rlength_any l ao cap w hT hl)
  have LS := Lib.hid (fun w h => rleast_any l ao cap w h hl)
  have BE := Lib.hid (fun x w h => rbefore_any l ao cap x w h hl)
  have OF := Lib.hid (fun x w h => rof_any l ao cap x w h hl)
  have T := Lib.hid hT
  by_cases he : (lengthR l).e = 0
  · have hpo : pathO l = beforeR l (lengthR l).n := (length_path l).2.symm
    have hlen := (length_path l).1
    have hst : ∀ y, beforeR l (lengthR l).n = some y → 1 ≤ y ∧ y < (lengthR l).n := fun y h => by have := before_fall h; omega
    rw [he] at LE
    rw [hpo]
    clear he hpo hT
    generalize (lengthR l).n = m at *
    obtain ⟨ms, hms⟩ : ∃ ms, leastR l = ms := ⟨_, rfl⟩
    rw [hms] at LS
    have HMS := Lib.hid hms
    clear hms
    obtain ⟨y0, b0, ea, ho⟩ := ans_two (beforeR l m)
    have BE0 := Lib.hid (BE.out m)
    rw [ea] at BE0
    have FL := Lib.hid hst
    generalize beforeR l m = o at *
    have TO0 : Hid (toldP o (.int .i64 y0) (.bool b0)) := Lib.hid (by
      rcases ho with ⟨h1, rfl⟩ | ⟨h1, rfl, rfl⟩
      · exact .inl ⟨y0, h1, rfl, rfl⟩
      · exact .inr ⟨h1, rfl, rfl⟩)
    clear ho ea hst
    go_enter Try.func16, Try.ntmps16
    go_wp2_with fail
    (with_reducible refine LE.out.mono ?_)
    rintro e w1 ⟨rfl, b1⟩
    have T1 := Lib.hid (T.out.call b1)
    have K1 := Lib.hid b1
    clear b1 LE
    go_wp2_with fail
    (with_reducible refine (LS.out _ T1.out).mono ?_)
    rintro e w2 ⟨rfl, b2⟩
    have T2 := Lib.hid (T1.out.call b2)
    have K2 := Lib.hid (K1.out.trans (b2.mono K1.out.size))
    clear b2 LS T1 K1
    go_wp2_with fail
    (with_reducible refine (BE0.out _ T2.out).mono ?_)
    rintro e w3 ⟨rfl, b3⟩
    have K3 := Lib.hid (K2.out.trans (b3.mono K2.out.size))
    clear b3 T2 K2 BE0
    go_wp2_with fail
    go_loopg [6, 7, 8] (measT (.int .i64 y0) (.bool b0)) (RpRel l o w)
    case atStart => exact ⟨[], rfl, TO0.out, trivial, by simp, nrow_nil _ _, K3.out⟩
    case round =>
      obtain ⟨pre, hg, ⟨y, hn, rfl, rfl⟩ | ⟨hn, rfl, rfl⟩, hc, hle, hr, hB⟩ := hrel
      · have hcs : chainP l o (pre ++ [y]) := chainP_snoc.2 ⟨hc, hn⟩
        have hfa := chainP_fall FL.out hcs
        have hlt : pre.length ≤ 4000000 := by
          have := hfa.2.1
          simp only [List.length_append, List.length_singleton] at this
          split at this <;> omega
        have hy1 := (hfa.1 y (by simp)).1
        obtain ⟨v', w', hap, hrow, hbw, -, -⟩ := nrow_append w.heap.size wr _ pre y hr hB.size hlt
        have KB := Lib.hid (hB.trans hbw)
        have HR := Lib.hid hrow
        obtain ⟨pa, pc, rfl, -, -⟩ := hr.form
        obtain ⟨pb, pd, rfl, -, -⟩ := hrow.form
        have TW := Lib.hid (T.out.call KB.out)
        have OF0 := Lib.hid (OF.out y w' TW.out)
        have CS := Lib.hid hcs
        have HLE := Lib.hid hle
        have HG := Lib.hid hg
        have NN : Hid (∀ n, ofR l y = n → ((n ≤ ms → nextP l y = none) ∧ (ms < n → nextP l y = behR l y n))) := Lib.hid (fun n h => by
          subst h
          unfold nextP
          rw [HMS.out]
          exact ⟨fun h => by rw [if_pos h], fun h => by rw [if_neg (by omega)]⟩)
        have PS := Lib.hid (fun h => pathOf_stop hcs hle (x := y) h)
        have PE : Hid (ofR l y ≤ y → nextP l y = none → PathOf l o (pre ++ [y])) := Lib.hid (fun h h2 => pathOf_end hcs (by rw [afterP_snoc, h2]) (fun z hz => by
          rcases List.mem_append.1 hz with hz | hz
          · exact hle z hz
          · obtain rfl : z = y := by simpa using hz
            exact h))
        have LL : Hid (ofR l y ≤ y → ∀ z ∈ pre ++ [y], ofR l z ≤ z) := Lib.hid (fun h z hz => by
          rcases List.mem_append.1 hz with hz | hz
          · exact hle z hz
          · obtain rfl : z = y := by simpa using hz
            exact h)
        have NF := Lib.hid (fun z (h : nextP l y = some z) => nextP_fall h)
        have AF : Hid (∀ e, nextP l y = e → afterP l o (pre ++ [y]) = e) := Lib.hid (fun e h => by rw [afterP_snoc, h])
        clear hcs hfa hlt hr hB hbw hrow hle hn hc hg TO0 K3 HMS
        obtain ⟨n, hn⟩ : ∃ n, ofR l y = n := ⟨_, rfl⟩
        rw [hn] at OF0 PS PE LL
        obtain ⟨n1, n2⟩ := NN.out n hn
        have N1 := Lib.hid n1
        have N2 := Lib.hid n2
        clear n1 n2 NN hn OF
        generalize (pre ++ [y]).length = k2 at *
        generalize pre.length = k1 at *
        go_wp2_with (at_builtin; refine Lib.wpList_append_run _ rfl _ _ _ _ rfl _ _ rfl rfl _ _ hap ?_)
        (with_reducible refine OF0.out.mono ?_)
        rintro e w4 ⟨rfl, b4⟩
        have K4 := Lib.hid (KB.out.trans (b4.mono KB.out.size))
        have R4 := Lib.hid (HR.out.call b4)
        have T4 := Lib.hid (TW.out.call b4)
        clear b4 KB HR TW OF0 hap
        by_cases hx : y < n
        · have E := Lib.hid (PS.out hx)
          have hx' : n > y := hx
          clear PS PE LL N1 N2 NF AF HG
          go_wp2
          go_ret
          exact ⟨_, _, rfl, R4.out, E.out, K4.out⟩
        · have hx' : n ≤ y := by omega
          by_cases hm : n ≤ ms
          · have E := Lib.hid (PE.out hx' (N1.out hm))
            clear PS PE LL N1 N2 NF AF HG hx
            go_wp2
            go_ret
            exact ⟨_, _, rfl, R4.out, E.out, K4.out⟩
          · have hm' : ms < n := by omega
            have NX := Lib.hid (N2.out hm')
            have L2 := Lib.hid (LL.out hx')
            clear PS PE LL N1 N2 hm hx
            by_cases hxy : n < y
            · have NX2 : Hid (nextP l y = some n) := Lib.hid (by rw [NX.out]; unfold behR; rw [if_pos hxy])
              go_wp2_with fail
              go_roundg (measT (.int .i64 n) (.bool true))
              case measure => have := HG.out; have := NF.out n NX2.out; simp [measT, intOf] at *; omega
              case rel => exact ⟨pre ++ [y], rfl, by rw [AF.out _ NX2.out]; exact .inl ⟨n, rfl, rfl, rfl⟩, CS.out, L2.out, R4.out, K4.out⟩
            · have hxy' : y ≤ n := by omega
              have NX2 : Hid (nextP l y = beforeR l y) := Lib.hid (by rw [NX.out]; unfold behR; rw [if_neg (by omega)])
              obtain ⟨y1, b1, ea, ho⟩ := ans_two (beforeR l y)
              have B1 := Lib.hid (BE.out y w4 T4.out)
              rw [ea] at B1
              have HO := Lib.hid ho
              clear ho ea hxy
              go_wp2_with fail
              (with_reducible refine B1.out.mono ?_)
              rintro e w5 ⟨rfl, b5⟩
              have K5 := Lib.hid (K4.out.trans (b5.mono K4.out.size))
              have R5 := Lib.hid (R4.out.call b5)
              clear b5 B1 K4 R4
              go_wp2_with fail
              go_roundg (measT (.int .i64 y1) (.bool b1))
              case measure =>
                have h0 := HG.out
                rcases HO.out with ⟨h1, rfl⟩ | ⟨h1, rfl, rfl⟩
                · have := NF.out y1 (NX2.out.trans h1)
                  simp [measT, intOf] at *; omega
                · simp [measT, intOf] at *; omega
              case rel =>
                refine ⟨pre ++ [y], rfl, ?_, CS.out, L2.out, R5.out, K5.out⟩
                rw [AF.out _ NX2.out]
                rcases HO.out with ⟨h1, rfl⟩ | ⟨h1, rfl, rfl⟩
                · exact .inl ⟨y1, h1, rfl, rfl⟩
                · exact .inr ⟨h1, rfl, rfl⟩
      · have E := Lib.hid (pathOf_end hc hn hle)
        obtain ⟨pa, pc, rfl, -, -⟩ := hr.form
        have HR := Lib.hid hr
        have KB := Lib.hid hB
        clear hc hn hle hr hB hg TO0 K3
        generalize pre.length = k1 at *
        go_wp2
        go_ret
        exact ⟨_, _, rfl, HR.out, E.out, KB.out⟩
  · have E : Hid (PathOf l (pathO l) []) := Lib.hid (by unfold pathO; rw [if_neg he]; exact rfl)
    generalize (lengthR l).e = e0 at *
    generalize (lengthR l).n = n0 at *
    have q1 : (e0 == 0) = false := by simpa using he
    have q2 : (e0 != 0) = true := by simpa using he
    clear he LS BE OF T
    go_enter Try.func16, Try.ntmps16
    go_wp2_with fail
    (with_reducible refine LE.out.mono ?_)
    rintro e w1 ⟨rfl, b1⟩
    have K1 := Lib.hid b1
    clear b1 LE
    go_wp2
    go_ret
    exact ⟨_, _, rfl, nrow_nil _ _, E.out, K1.out⟩
end Go.Proofs.Ytbhafcaekpccoaa.Qp
