/- Contract of the document's Before of layer 10. -/
import Derived.Test.YtbhafcaekpccoaaDmQ
namespace Go.Proofs.Ytbhafcaekpccoaa.Dm
open Go.ChangeShapes Go.WideShapes Go.ChangeAt Go.RowKit Go.Joins
open Pm (Tk chk chk_iff rowB rowB_all rowB_len TkAt Ts TRow chk_any wrap_in below_drewN rrow_any)
set_option maxRecDepth 100000
set_option maxRecDepth 100000
set_option linter.unusedVariables false
set_option linter.unusedSimpArgs false
set_option maxHeartbeats 4000000 in
theorem rbefore_any (l : List Tk) (ao : Option Addr) (cap : Nat) (x : Int) (w : World) (hT : Ts ao l w) (hl : l.length ≤ 1000000) :
    Calls Try.prog 33 #[.slice ao l.length cap, .int .i64 x] w fun e w' => e = .returned (ans (beforeR l x)) ∧ Below w.heap.size w w' := by
  have RO := Lib.hid (fun w h => rrow_any l ao cap w h hl)
  have TM := Lib.hid (time_any x)
  have T := Lib.hid hT
  by_cases hall : rowB l = true ∧ isTime x = true
  · obtain ⟨hr, hx⟩ := hall
    have E := Lib.hid (before_befL hr hx)
    have hlen := rowB_len hr
    have hall := rowB_all hr
    have h0 := isTime_iff.1 hx
    rw [hr] at RO
    rw [hx] at TM
    have CK := Lib.hid (fun i (h : i < l.length) => hall _ (List.getElem_mem h))
    have BI := Lib.hid (fun i => befL_in (x := x) (l := l.take i) (fun t ht => hall t (List.mem_of_mem_take ht)) (m := 0) (by omega) (by omega) h0.2)
    have x0 := h0.1
    have x1 := h0.2
    generalize beforeR l x = r at *
    clear hr hx h0 hall
    go_enter Try.func33, Try.ntmps33
    go_wp2_with fail
    (with_reducible refine (RO.out _ hT).mono ?_)
    rintro e w1 ⟨rfl, b1⟩
    have K1 := Lib.hid b1
    clear b1 hT RO
    go_wp2_with fail
    (with_reducible refine (TM.out _).mono ?_)
    rintro e w2 ⟨rfl, rfl⟩
    clear TM
    go_wp2_with fail
    go_loopg [8, 9] l.length (BeRel l x w.heap.size w)
    case atStart => exact ⟨0, by omega, rfl, rfl, K1.out⟩
    case round =>
      obtain ⟨i, hi, rfl, rfl, hB⟩ := hrel
      have TQ := T.out.below hB (Nat.le_refl _)
      by_cases hlt : i < l.length
      · obtain ⟨b, off, rfl, hb, hat⟩ := TQ (by omega)
        have hx := hat i l[i] (List.getElem?_eq_getElem hlt)
        have hck := CK.out i hlt
        have NX := befL_take (x := x) (m := 0) hlt
        have m0 := (BI.out i).1
        have m1 := (BI.out i).2
        have HI := Lib.hid hi
        have KB := Lib.hid hB
        have hg0 : 0 < gk := by omega
        have hi2 : (i : Int) < (l.length : Int) := by omega
        obtain ⟨-, -, k1, k2, k3, k4, -⟩ := chk_iff.1 hck
        clear hi hat TQ hB BI CK
        by_cases hd : l[i].d < x
        · have bi := bef_is (t := l[i]) (x := x) (by omega) hd
          have b0 := bi.1
          have b1 := bi.2.1
          have be : l[i].d + l[i].t * ((x - 1 - l[i].d) / l[i].t) = bef l[i] x := rfl
          obtain ⟨z, zb, d, d', q0, q1, wq⟩ := quo_of (a := x - 1 - l[i].d) (t := l[i].t) (by omega) (by omega) (by omega)
          clear bi hck
          generalize befL x 0 (l.take i) = M at *
          generalize bef l[i] x = bb at *
          generalize (x - 1 - l[i].d) / l[i].t = q at *
          have wm : IntKind.i64.wrap (l[i].t * q) = l[i].t * q := wrap_in (by omega) (by omega)
          generalize hP : l[i].t * q = P at *
          have ws : IntKind.i64.wrap (l[i].d + P) = bb := by rw [be]; exact wrap_in (by omega) (by omega)
          generalize l[i] = t at *
          obtain ⟨c0, c1, c2, c3, c4⟩ := hx
          obtain ⟨ti, tc, td, tt, tm⟩ := t
          simp only at *
          have w1 : IntKind.i64.wrap (x - 1 - td) = x - 1 - td := wrap_in (by omega) (by omega)
          have w2 : IntKind.i64.wrap (x - 1) = x - 1 := wrap_in (by omega) (by omega)
          by_cases hm : M < bb
          · have NE := Lib.hid (NX.trans (if_pos ⟨hd, hm⟩))
            clear NX
            go_wp2_with fail
            go_quiet (fail)
            have KF := Lib.hid (KB.out.trans ((below_drewN _ nq).mono KB.out.size))
            go_wp2
            go_roundg (gk - 1)
            case measure => omega
            case rel => exact ⟨i + 1, by have := HI.out; omega, by rw [NE.out], by go_num, KF.out⟩
          · have NE := Lib.hid (NX.trans (if_neg (fun h => hm h.2)))
            have hm' : bb ≤ M := by omega
            clear NX hm
            go_wp2_with fail
            go_quiet (fail)
            have KF := Lib.hid (KB.out.trans ((below_drewN _ nq).mono KB.out.size))
            go_wp2
            go_roundg (gk - 1)
            case measure => omega
            case rel => exact ⟨i + 1, by have := HI.out; omega, by rw [NE.out], by go_num, KF.out⟩
        · have NE := Lib.hid (NX.trans (if_neg (fun h => hd h.1)))
          have hd' : x ≤ l[i].d := by omega
          clear NX hck hd
          generalize befL x 0 (l.take i) = M at *
          generalize l[i] = t at *
          obtain ⟨c0, c1, c2, c3, c4⟩ := hx
          obtain ⟨ti, tc, td, tt, tm⟩ := t
          simp only at *
          go_wp2
          go_roundg (gk - 1)
          case measure => omega
          case rel => exact ⟨i + 1, by have := HI.out; omega, by rw [NE.out], by go_num, KB.out⟩
      · have hge : (l.length : Int) ≤ (i : Int) := by omega
        rw [List.take_of_length_le (by omega)]
        have m0 := (BI.out l.length).1
        rw [List.take_of_length_le (by omega)] at m0
        have K2 := Lib.hid hB
        have hdec : decide (i < l.length) = false := decide_eq_false hlt
        generalize befL x 0 l = y at *
        clear hB TQ hi hlt BI CK
        by_cases hy : 0 < y
        · have E2 : Hid (r = some y) := Lib.hid (by rw [E.out, if_pos hy])
          have hd : decide (0 < y) = true := decide_eq_true hy
          clear E
          go_wp2
          exact bodyPost_ret (v := .tuple #[.int .i64 y, .bool true]) (by simp [results, Try.results33, go_sem]) rfl ⟨by rw [E2.out]; rfl, K2.out⟩
        · have E2 : Hid (r = none) := Lib.hid (by rw [E.out, if_neg hy])
          obtain rfl : y = 0 := by omega
          clear E hy
          go_wp2
          exact bodyPost_ret (v := .tuple #[.int .i64 0, .bool false]) (by simp [results, Try.results33, go_sem]) rfl ⟨by rw [E2.out]; rfl, K2.out⟩
  · have E : Hid (beforeR l x = none) := Lib.hid (by unfold beforeR; rw [if_neg hall])
    have HA := Lib.hid hall
    generalize beforeR l x = r at *
    generalize rowB l = rb at *
    generalize isTime x = tb at *
    clear hall
    go_enter Try.func33, Try.ntmps33
    go_wp2_with fail
    (with_reducible refine (RO.out _ hT).mono ?_)
    rintro e w1 ⟨rfl, b1⟩
    have K1 := Lib.hid b1
    clear b1 hT RO T
    go_wp2_with fail
    (with_reducible refine (TM.out _).mono ?_)
    rintro e w2 ⟨rfl, rfl⟩
    clear TM
    cases rb
    · go_wp2
      exact bodyPost_ret (v := .tuple #[.int .i64 0, .bool false]) (by simp [results, Try.results33, go_sem]) rfl ⟨by rw [E.out]; rfl, K1.out⟩
    · cases tb
      · go_wp2
        exact bodyPost_ret (v := .tuple #[.int .i64 0, .bool false]) (by simp [results, Try.results33, go_sem]) rfl ⟨by rw [E.out]; rfl, K1.out⟩
      · exact absurd ⟨rfl, rfl⟩ HA.out
end Go.Proofs.Ytbhafcaekpccoaa.Dm
