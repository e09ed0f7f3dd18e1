/- Contract of package demand's Before. -/
import Derived.Test.YtbhafcaekpccoaaDmO
namespace Go.Proofs.Ytbhafcaekpccoaa.Dm
open Go.ChangeShapes Go.WideShapes Go.ChangeAt Go.RowKit Go.Joins
open Pm (Tk chk chk_iff rowB rowB_all rowB_len TkAt Ts TRow chk_any wrap_in below_drewN row_any)
set_option maxRecDepth 100000
set_option maxRecDepth 100000
set_option linter.unusedVariables false
set_option linter.unusedSimpArgs false
/-- the greatest deadline below x, and true -/
def beforeR (l : List Tk) (x : Int) : Option Int := if rowB l = true ∧ isTime x = true then (if 0 < befs l x then some (befs l x) else none) else none
theorem beforeR_no {l : List Tk} {x : Int} (h : rowB l = false) : beforeR l x = none := by unfold beforeR; rw [if_neg (by rw [h]; simp)]
theorem beforeR_no2 {l : List Tk} {x : Int} (h : isTime x = false) : beforeR l x = none := by unfold beforeR; rw [if_neg (by rw [h]; simp)]
/-- as it is gathered -/
def befL (x m : Int) : List Tk → Int
  | [] => m
  | t :: l => befL x (if t.d < x ∧ m < bef t x then bef t x else m) l
theorem befL_take {l : List Tk} {x : Int} : ∀ {m : Int} {i : Nat} (h : i < l.length), befL x m (l.take (i + 1)) = if l[i].d < x ∧ befL x m (l.take i) < bef l[i] x then bef l[i] x else befL x m (l.take i) := by
  induction l with
  | nil => intro m i h; simp at h
  | cons y l ih =>
    intro m i h
    cases i with
    | zero => simp [befL]
    | succ i =>
      rw [List.take_succ_cons, List.take_succ_cons, befL, befL, List.getElem_cons_succ]
      exact ih (by simpa using h)
theorem befL_befs {l : List Tk} {x : Int} : ∀ {m : Int}, 0 ≤ m → befL x m l = if m < befs l x then befs l x else m := by
  induction l with
  | nil => intro m h; show m = if m < 0 then 0 else m; split <;> omega
  | cons t l ih =>
    intro m h
    rw [befL, ih (by split <;> omega), befs]
    by_cases hd : t.d < x
    · simp only [hd, true_and]
      repeat' split
      all_goals omega
    · simp only [hd, false_and, if_false]
theorem befL_zero {l : List Tk} {x : Int} (hl : ∀ t ∈ l, 0 < t.t ∧ 0 < t.d) : befL x 0 l = befs l x := by
  rw [befL_befs (by omega)]
  have := befs_is (x := x) hl
  split
  · rfl
  · omega
/-- what Before tells, as it is gathered -/
theorem before_befL {l : List Tk} {x : Int} (hr : rowB l = true) (hx : isTime x = true) : beforeR l x = if 0 < befL x 0 l then some (befL x 0 l) else none := by
  have hl := rowB_all hr
  unfold beforeR
  rw [if_pos ⟨hr, hx⟩, befL_zero (fun t h => by have := chk_iff.1 (hl t h); omega)]
theorem befL_in {l : List Tk} {x : Int} (hl : ∀ t ∈ l, chk t = true) : ∀ {m : Int}, 0 ≤ m → m ≤ 1099511627776 → x ≤ 1099511627776 → 0 ≤ befL x m l ∧ befL x m l ≤ 1099511627776 := by
  induction l with
  | nil => intro m h h1 _; exact ⟨h, h1⟩
  | cons t l ih =>
    intro m h h1 hx
    rw [befL]
    have ht := chk_iff.1 (hl t (by simp))
    by_cases hd : t.d < x ∧ m < bef t x
    · rw [if_pos hd]
      have := bef_is (t := t) (x := x) (by omega) hd.1
      exact ih (fun a ha => hl a (by simp [ha])) (by omega) (by omega) hx
    · rw [if_neg hd]
      exact ih (fun a ha => hl a (by simp [ha])) h h1 hx
/-- a round's numbers: n deadlines lie below x -/
theorem bef_step {t : Tk} {x m : Int} (hc : chk t = true) : (t.d < x → 0 < cnt t (x - 1) ∧ t.d + t.t * (cnt t (x - 1) - 1) = bef t x) ∧ (¬ t.d < x → cnt t (x - 1) = 0) := by
  have ht := chk_iff.1 hc
  refine ⟨fun h => ?_, fun h => cnt_lt (by omega)⟩
  rw [cnt_ge (by omega)]
  have := Int.ediv_nonneg (show 0 ≤ x - 1 - t.d by omega) (show 0 ≤ t.t by omega)
  refine ⟨by omega, ?_⟩
  unfold bef
  rw [show (x - 1 - t.d) / t.t + 1 - 1 = (x - 1 - t.d) / t.t by omega]
/-- i tasks were looked at -/
def BeRel (l : List Tk) (x : Int) (B : Nat) (w : World) (g : Nat) (s t : Value) (wx : World) : Prop :=
  ∃ i : Nat, i + g = l.length ∧ s = .int .i64 (befL x 0 (l.take i)) ∧ t = .int .i64 (i : Int) ∧ Below B w wx
set_option maxHeartbeats 4000000 in
theorem before_any (l : List Tk) (ao : Option Addr) (cap : Nat) (x : Int) (w : World) (hT : Ts ao l w) (hl : l.length ≤ 9223372036854775807) :
    Calls Try.prog 44 #[.slice ao l.length cap, .int .i64 x] w fun e w' => e = .returned (ans (beforeR l x)) ∧ Below w.heap.size w w' := by
  have RO := Lib.hid (fun w h => row_any l ao cap w h hl)
  have TM := Lib.hid (isTime_any x)
  have T := Lib.hid hT
  cases hr : rowB l with
  | false =>
    have E := Lib.hid (beforeR_no (x := x) hr)
    rw [hr] at RO
    generalize beforeR l x = r at *
    clear hr
    go_enter Try.func44, Try.ntmps44
    go_wp2_with fail
    (with_reducible refine (RO.out _ hT).mono ?_)
    rintro e w1 ⟨rfl, b1⟩
    have K1 := Lib.hid b1
    clear b1 hT
    go_wp2
    exact bodyPost_ret (v := .tuple #[.int .i64 0, .bool false]) (by simp [results, Try.results44, go_sem]) rfl ⟨by rw [E.out]; rfl, K1.out⟩
  | true =>
    rw [hr] at RO
    cases hx : isTime x with
    | false =>
      have E := Lib.hid (beforeR_no2 (l := l) hx)
      rw [hx] at TM
      generalize beforeR l x = r at *
      clear hr hx
      go_enter Try.func44, Try.ntmps44
      go_wp2_with fail
      (with_reducible refine (RO.out _ hT).mono ?_)
      rintro e w1 ⟨rfl, b1⟩
      have K1 := Lib.hid b1
      clear b1 hT
      go_wp2_with fail
      (with_reducible refine (TM.out _).mono ?_)
      rintro e w2 ⟨rfl, rfl⟩
      go_wp2
      exact bodyPost_ret (v := .tuple #[.int .i64 0, .bool false]) (by simp [results, Try.results44, go_sem]) rfl ⟨by rw [E.out]; rfl, K1.out⟩
    | true =>
      have E := Lib.hid (before_befL hr hx)
      have hlen := rowB_len hr
      have hall := rowB_all hr
      have h0 := isTime_iff.1 hx
      rw [hx] at TM
      have CK := Lib.hid (fun i (h : i < l.length) => hall _ (List.getElem_mem h))
      have DU := Lib.hid (fun i (h : i < l.length) w => due_any l[i] (x - 1) w (hall _ (List.getElem_mem h)) (by omega) (by omega))
      have BI := Lib.hid (fun i => befL_in (x := x) (l := l.take i) (fun t ht => hall t (List.mem_of_mem_take ht)) (m := 0) (by omega) (by omega) h0.2)
      have x0 := h0.1
      have x1 := h0.2
      generalize beforeR l x = r at *
      clear hr hx h0 hall
      go_enter Try.func44, Try.ntmps44
      go_wp2_with fail
      (with_reducible refine (RO.out _ hT).mono ?_)
      rintro e w1 ⟨rfl, b1⟩
      have K1 := Lib.hid b1
      clear b1 hT RO
      go_wp2_with fail
      (with_reducible refine (TM.out _).mono ?_)
      rintro e w2 ⟨rfl, rfl⟩
      clear TM
      go_wp2_with fail
      go_loopg [6, 20] l.length (BeRel l x w.heap.size w)
      case atStart => exact ⟨0, by omega, rfl, rfl, K1.out⟩
      case round =>
        obtain ⟨i, hi, rfl, rfl, hB⟩ := hrel
        have TQ := T.out.below hB (Nat.le_refl _)
        by_cases hlt : i < l.length
        · obtain ⟨b, off, rfl, hb, hat⟩ := TQ (by omega)
          have hx := hat i l[i] (List.getElem?_eq_getElem hlt)
          have hck := CK.out i hlt
          have DUI := Lib.hid (DU.out i hlt)
          have NX := befL_take (x := x) (m := 0) hlt
          have m0 := (BI.out i).1
          have m1 := (BI.out i).2
          have HI := Lib.hid hi
          have KB := Lib.hid hB
          have hg0 : 0 < gk := by omega
          have F0 : Hid (Bx wr.heap.size wr l[i] (wr.alloc (.cells #[.int .i64 l[i].id, .int .i64 l[i].c, .int .i64 l[i].d, .int .i64 l[i].t, .int .i64 l[i].m] 42))) := Lib.hid (bx_new _ _ _)
          obtain ⟨s1, s2⟩ := bef_step (t := l[i]) (x := x) (m := 0) hck
          obtain ⟨-, -, k1, k2, k3, k4, -⟩ := chk_iff.1 hck
          clear hi hat TQ hB DU BI CK
          by_cases hd : l[i].d < x
          · obtain ⟨n0, n1⟩ := s1 hd
            have bi := bef_is (t := l[i]) (x := x) (by omega) hd
            have DEI := Lib.hid (fun w => deadline_any l[i] (cnt l[i] (x - 1) - 1) w (by
              rw [Int.mul_comm]; exact Int.mul_nonneg (by omega) (by omega)) (by rw [Int.mul_comm]; omega) (by omega) (by omega))
            rw [n1] at DEI
            have b0 := bi.1
            have b1 := bi.2.1
            have n2 : cnt l[i] (x - 1) ≤ 1099511627777 := (cnt_le_time hck (isTime_iff.2 ⟨by omega, by omega⟩)).2
            clear s1 s2 n1 bi hck
            generalize befL x 0 (l.take i) = M at *
            generalize bef l[i] x = bb at *
            generalize cnt l[i] (x - 1) = n at *
            generalize l[i] = t at *
            obtain ⟨c0, c1, c2, c3, c4⟩ := hx
            obtain ⟨ti, tc, td, tt, tm⟩ := t
            unfold Tk.v at DUI DEI
            simp only at *
            by_cases hm : M < bb
            · have NE := Lib.hid (NX.trans (if_pos ⟨hd, hm⟩))
              have hm' : bb > M := hm
              clear NX
              go_wp2_with fail
              (with_reducible refine (DUI.out _).mono ?_)
              rintro e w3 ⟨rfl, b3⟩
              have F1 := Lib.hid (F0.out.call b3)
              clear b3 F0 c0 c1 c2 c3 c4
              obtain ⟨c0, c1, c2, c3, c4, -⟩ := F1.out
              go_wp2_with fail
              (with_reducible refine (DEI.out _).mono ?_)
              rintro e w4 ⟨rfl, b4⟩
              have KF := Lib.hid (KB.out.trans ((F1.out.call b4).bel.mono KB.out.size))
              clear b4 F1 KB c0 c1 c2 c3 c4 DEI DUI
              go_wp2
              go_roundg (gk - 1)
              case measure => omega
              case rel => exact ⟨i + 1, by have := HI.out; omega, by rw [NE.out], by go_num, KF.out⟩
            · have NE := Lib.hid (NX.trans (if_neg (fun h => hm h.2)))
              have hm' : bb ≤ M := by omega
              clear NX hm
              go_wp2_with fail
              (with_reducible refine (DUI.out _).mono ?_)
              rintro e w3 ⟨rfl, b3⟩
              have F1 := Lib.hid (F0.out.call b3)
              clear b3 F0 c0 c1 c2 c3 c4
              obtain ⟨c0, c1, c2, c3, c4, -⟩ := F1.out
              go_wp2_with fail
              (with_reducible refine (DEI.out _).mono ?_)
              rintro e w4 ⟨rfl, b4⟩
              have KF := Lib.hid (KB.out.trans ((F1.out.call b4).bel.mono KB.out.size))
              clear b4 F1 KB c0 c1 c2 c3 c4 DEI DUI
              go_wp2
              go_roundg (gk - 1)
              case measure => omega
              case rel => exact ⟨i + 1, by have := HI.out; omega, by rw [NE.out], by go_num, KF.out⟩
          · rw [s2 hd] at DUI
            have NE := Lib.hid (NX.trans (if_neg (fun h => hd h.1)))
            clear s1 s2 NX hck
            generalize befL x 0 (l.take i) = M at *
            generalize l[i] = t at *
            obtain ⟨c0, c1, c2, c3, c4⟩ := hx
            obtain ⟨ti, tc, td, tt, tm⟩ := t
            unfold Tk.v at DUI
            simp only at *
            go_wp2_with fail
            (with_reducible refine (DUI.out _).mono ?_)
            rintro e w3 ⟨rfl, b3⟩
            have KF := Lib.hid (KB.out.trans ((F0.out.call b3).bel.mono KB.out.size))
            clear b3 F0 KB c0 c1 c2 c3 c4 DUI
            go_wp2
            go_roundg (gk - 1)
            case measure => omega
            case rel => exact ⟨i + 1, by have := HI.out; omega, by rw [NE.out], by go_num, KF.out⟩
        · have hge : (l.length : Int) ≤ (i : Int) := by omega
          rw [List.take_of_length_le (by omega)]
          have m0 := (BI.out l.length).1
          rw [List.take_of_length_le (by omega)] at m0
          have K2 := Lib.hid hB
          generalize befL x 0 l = y at *
          clear hB TQ hi hlt DU BI CK
          by_cases hy : 0 < y
          · have E2 : Hid (r = some y) := Lib.hid (by rw [E.out, if_pos hy])
            have hd : decide (0 < y) = true := decide_eq_true hy
            clear E
            go_wp2
            exact bodyPost_ret (v := .tuple #[.int .i64 y, .bool true]) (by simp [results, Try.results44, go_sem]) rfl ⟨by rw [E2.out]; rfl, K2.out⟩
          · have E2 : Hid (r = none) := Lib.hid (by rw [E.out, if_neg hy])
            obtain rfl : y = 0 := by omega
            clear E hy
            go_wp2
            exact bodyPost_ret (v := .tuple #[.int .i64 0, .bool false]) (by simp [results, Try.results44, go_sem]) rfl ⟨by rw [E2.out]; rfl, K2.out⟩
end Go.Proofs.Ytbhafcaekpccoaa.Dm
