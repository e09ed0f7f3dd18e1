/- What the statements on journals share: short, awake, and whether two finds are the same. -/
import Derived.Test.YtmccoejliaakoaaJnF
import Derived.Test.YtmccoejliaakoaaMDb
import Derived.Test.YtmccoejliaakoaaWlJ
import Derived.BigQuiet
namespace Go.Proofs.Ytmccoejliaakoaa.Jn
open Go.ChangeShapes Go.WideShapes Go.ChangeAt Go.RowKit Go.Joins
open Dk (Dk DS Own Moved ptr)
open Sl (Mv SS below_drewN)
open Wl (WS)
set_option maxRecDepth 100000
set_option linter.unusedVariables false
set_option linter.unusedSimpArgs false
theorem short_any (l : List UInt8) (n : Nat) (w : World) (hn : n ≤ 1000) :
    Calls Try.prog 12 #[.string (mkB l), .int .i64 (n : Int)] w fun e w' => e = .returned (.string (mkB (l.take n))) ∧ w' = w := by
  have hz := mkB_size l
  have hx := ext_head (mkB l) n
  rw [mkB_data] at hx
  rcases Nat.lt_or_ge n l.length with h | h
  · have h1 : (n : Int) < ((mkB l).size : Int) := by omega
    have h2 : n < (mkB l).size := by omega
    generalize mkB (l.take n) = X at *
    generalize mkB l = Y at *
    go_enter Try.func12, Try.ntmps12
    go_wp2
    go_ret
    exact ⟨by rw [← hx]; rfl, rfl⟩
  · have h1 : ((mkB l).size : Int) ≤ (n : Int) := by omega
    rw [List.take_of_length_le h]
    generalize mkB l = Y at *
    go_enter Try.func12, Try.ntmps12
    go_wp2
    go_ret
    exact ⟨rfl, rfl⟩
theorem disk_t (n : Nat) (w0 w : World) (hb : Below w0.heap.size w0 w) (h0 : 1 ≤ n) (h1 : n ≤ 1024) :
    Calls Try.prog 9 #[.int .i64 (n : Int)] w fun e w' => e = .returned (ptr (w.heap.size + 1)) ∧ Dk w0.heap.size (w.heap.size + 1) ⟨List.replicate n (List.replicate 64 0), [], 0, 0⟩ w' ∧ Below w0.heap.size w0 w' :=
  (Dk.new_yes n w h0 h1).mono fun e w' ⟨he, k, b⟩ => ⟨he, k.mono hb.size, hb.trans (b.mono hb.size)⟩
/-- a text in a row -/
theorem strs_at {A : Nat} {w : World} {v : Value} {ds : List (List UInt8)} (h : Strs A w v ds) : ∃ g cap, v = .slice g ds.length cap ∧ ∀ i (hi : i < ds.length), ∃ p, g = some ⟨p, 0, none⟩ ∧ w.cell? ⟨p, i, none⟩ = some (.string (mkB ds[i])) := by
  by_cases hne : ds = []
  · obtain ⟨a, c, hv⟩ := Wl.strs_form h
    exact ⟨a, c, hv, fun i hi => by rw [hne] at hi; simp at hi⟩
  · obtain ⟨g, cap, hv, -, -, hg⟩ := h.cell hne
    exact ⟨_, cap, hv, fun i hi => ⟨g, rfl, hg i hi⟩⟩
def SmR (o1 o2 : List (List UInt8)) (W : World) (m : Nat) (s5 : Value) (wx : World) : Prop :=
  ∃ i q, i + m = o1.length ∧ s5 = .int .i64 (i : Int) ∧ wx = W.drewN q ∧ ∀ j, j < i → o1[j]? = o2[j]?
theorem bool_of {b : Bool} {p : Prop} [Decidable p] (h : b = decide p) : Value.bool b = Value.bool (decide p) := by rw [h]
set_option maxHeartbeats 2000000 in
theorem same_any (A1 A2 : Nat) (d1 d2 : List UInt8) (v1 v2 : Value) (o1 o2 : List (List UInt8)) (w : World) (s1 : Strs A1 w v1 o1) (s2 : Strs A2 w v2 o2) (h1 : o1.length ≤ 1000) (h2 : o2.length ≤ 1000) :
    Calls Try.prog 17 #[.agg #[.string (mkB d1), v1], .agg #[.string (mkB d2), v2]] w fun r w' => r = .returned (.bool (decide (d1 = d2 ∧ o1 = o2))) ∧ Below w.heap.size w w' := by
  obtain ⟨g1, c1, rfl, e1⟩ := strs_at s1
  obtain ⟨g2, c2, rfl, e2⟩ := strs_at s2
  have b1 := (Below.refl w.heap.size w).alloc (Nat.le_refl _) (.cells #[.string (mkB d1), .slice g1 o1.length c1] 32)
  have b2 := b1.alloc (by simp) (.cells #[.string (mkB d2), .slice g2 o2.length c2] 32)
  have sz : (w.alloc (.cells #[.string (mkB d1), .slice g1 o1.length c1] 32)).heap.size = w.heap.size + 1 := by simp
  have b21 := (Below.refl (w.alloc (.cells #[.string (mkB d1), .slice g1 o1.length c1] 32)).heap.size (w.alloc (.cells #[.string (mkB d1), .slice g1 o1.length c1] 32))).alloc (Nat.le_refl _) (.cells #[.string (mkB d2), .slice g2 o2.length c2] 32)
  have f1 : FdAt ((w.alloc (.cells #[.string (mkB d1), .slice g1 o1.length c1] 32)).alloc (.cells #[.string (mkB d2), .slice g2 o2.length c2] 32)) w.heap.size (mkB d1) (.slice g1 o1.length c1) := (fdAt_new w (mkB d1) (.slice g1 o1.length c1)).kp (.below b21)
  have f2 := fdAt_new (w.alloc (.cells #[.string (mkB d1), .slice g1 o1.length c1] 32)) (mkB d2) (.slice g2 o2.length c2)
  rw [sz] at f2
  have E1 : Hid (∀ i (hi : i < o1.length), ∃ p, g1 = some ⟨p, 0, none⟩ ∧ ((w.alloc (.cells #[.string (mkB d1), .slice g1 o1.length c1] 32)).alloc (.cells #[.string (mkB d2), .slice g2 o2.length c2] 32)).cell? ⟨p, i, none⟩ = some (.string (mkB o1[i]))) := Lib.hid (fun i hi => by
    obtain ⟨p, hp, hc⟩ := e1 i hi
    exact ⟨p, hp, carry b2 hc⟩)
  have E2 : Hid (∀ i (hi : i < o2.length), ∃ p, g2 = some ⟨p, 0, none⟩ ∧ ((w.alloc (.cells #[.string (mkB d1), .slice g1 o1.length c1] 32)).alloc (.cells #[.string (mkB d2), .slice g2 o2.length c2] 32)).cell? ⟨p, i, none⟩ = some (.string (mkB o2[i]))) := Lib.hid (fun i hi => by
    obtain ⟨p, hp, hc⟩ := e2 i hi
    exact ⟨p, hp, carry b2 hc⟩)
  have x0 := f1.c0
  have x1 := f1.c1
  have y0 := f2.c0
  have y1 := f2.c1
  have BB := Lib.hid b2
  clear s1 s2 e1 e2 b1 b2 b21 sz f1 f2
  generalize hW : (w.alloc (.cells #[.string (mkB d1), .slice g1 o1.length c1] 32)).alloc (.cells #[.string (mkB d2), .slice g2 o2.length c2] 32) = W at *
  have FIN := Lib.hid (fun q => BB.out.trans ((below_drewN W q).mono BB.out.size))
  by_cases hd : d1 = d2
  · have z1 : ((mkB d1).toList != (mkB d2).toList) = false := by rw [toList_mkB, toList_mkB]; simp [hd]
    have z3 : ((mkB d1).toList == (mkB d2).toList) = true := by rw [toList_mkB, toList_mkB]; simp [hd]
    by_cases hl : o1.length = o2.length
    · have z2 : ((o1.length : Int) != (o2.length : Int)) = false := by simp; omega
      have HL := Lib.hid hl
      have HD := Lib.hid hd
      clear hd hl BB
      generalize mkB d1 = D1 at *
      generalize mkB d2 = D2 at *
      go_enter Try.func17, Try.ntmps17
      go_wp2_with fail
      (try rw [hW])
      clear hW
      go_loopg [5] (o1.length) (SmR o1 o2 W)
      case atStart => exact ⟨0, 0, by simp, rfl, rfl, fun j hj => by omega⟩
      case round =>
        obtain ⟨i, q, hi, rfl, rfl, heq⟩ := hrel
        have HEQ := Lib.hid heq
        clear heq
        rcases Nat.lt_or_ge i o1.length with hlt | hge
        · obtain ⟨p1, rfl, k1⟩ := E1.out i hlt
          obtain ⟨p2, rfl, k2⟩ := E2.out i (by have := HL.out; omega)
          have il : (i : Int) < (o1.length : Int) := by omega
          have il2 : (i : Int) < (o2.length : Int) := by have := HL.out; omega
          by_cases hx : o1[i] = o2[i]'(by have := HL.out; omega)
          · have n2 : ((mkB o1[i]).toList != (mkB (o2[i]'(by have := HL.out; omega))).toList) = false := by rw [toList_mkB, toList_mkB]; simp [hx]
            have n3 : ((mkB o1[i]).toList == (mkB (o2[i]'(by have := HL.out; omega))).toList) = true := by rw [toList_mkB, toList_mkB]; simp [hx]
            have NX := Lib.hid (show ∀ j, j < i + 1 → o1[j]? = o2[j]? from fun j hj => by
              rcases Nat.lt_or_ge j i with h | h
              · exact HEQ.out j h
              · obtain rfl : j = i := by omega
                rw [List.getElem?_eq_getElem hlt, List.getElem?_eq_getElem (by have := HL.out; omega), hx])
            clear hx HEQ E1 E2
            generalize mkB o1[i] = X1 at *
            generalize mkB (o2[i]'(by have := HL.out; omega)) = X2 at *
            go_wp2_with fail
            go_quiet (fail)
            go_wp2
            go_roundg (gk - 1)
            case measure => omega
            case rel => exact ⟨i + 1, q + nq, by omega, rfl, by simp [World.drewN_drewN], NX.out⟩
          · have n2 : ((mkB o1[i]).toList != (mkB (o2[i]'(by have := HL.out; omega))).toList) = true := by rw [toList_mkB, toList_mkB]; simp [hx]
            have n3 : ((mkB o1[i]).toList == (mkB (o2[i]'(by have := HL.out; omega))).toList) = false := by rw [toList_mkB, toList_mkB]; simp [hx]
            have RS := Lib.hid (show decide (d1 = d2 ∧ o1 = o2) = false from by
              simp only [decide_eq_false_iff_not]
              rintro ⟨-, h⟩
              exact hx (by simp [h]))
            clear hx HEQ E1 E2
            generalize mkB o1[i] = X1 at *
            generalize mkB (o2[i]'(by have := HL.out; omega)) = X2 at *
            go_wp2_with fail
            go_quiet (fail)
            go_wp2
            try simp only [Exit.noGoto]
            go_ret
            rw [RS.out]
            exact ⟨rfl, by simpa [World.drewN_drewN] using FIN.out (q + nq)⟩
        · obtain rfl : i = o1.length := by omega
          have RS := Lib.hid (show decide (d1 = d2 ∧ o1 = o2) = true from by
            simp only [decide_eq_true_eq]
            refine ⟨HD.out, List.ext_getElem? fun j => ?_⟩
            rcases Nat.lt_or_ge j o1.length with h | h
            · exact HEQ.out j h
            · rw [List.getElem?_eq_none h, List.getElem?_eq_none (by have := HL.out; omega)])
          clear HEQ E1 E2
          go_wp2
          try simp only [Exit.noGoto]
          go_ret
          rw [RS.out]
          exact ⟨rfl, FIN.out q⟩
    · have z2 : ((o1.length : Int) != (o2.length : Int)) = true := by simp; omega
      have RS := Lib.hid (show decide (d1 = d2 ∧ o1 = o2) = false from by
        simp only [decide_eq_false_iff_not]
        rintro ⟨-, h⟩
        exact hl (by rw [h]))
      clear hd hl BB E1 E2
      generalize mkB d1 = D1 at *
      generalize mkB d2 = D2 at *
      go_enter Try.func17, Try.ntmps17
      go_wp2
      go_ret
      rw [RS.out]
      exact ⟨rfl, FIN.out 0⟩
  · have z1 : ((mkB d1).toList != (mkB d2).toList) = true := by rw [toList_mkB, toList_mkB]; simp [hd]
    have z3 : ((mkB d1).toList == (mkB d2).toList) = false := by rw [toList_mkB, toList_mkB]; simp [hd]
    have RS := Lib.hid (show decide (d1 = d2 ∧ o1 = o2) = false from by
      simp only [decide_eq_false_iff_not]
      rintro ⟨h, -⟩
      exact hd h)
    clear hd BB E1 E2
    generalize mkB d1 = D1 at *
    generalize mkB d2 = D2 at *
    go_enter Try.func17, Try.ntmps17
    go_wp2
    go_ret
    rw [RS.out]
    exact ⟨rfl, FIN.out 0⟩
end Go.Proofs.Ytmccoejliaakoaa.Jn
