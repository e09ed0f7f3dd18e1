/- The document's Length. -/
import Derived.Test.YtbhafcaekpccoaaBsB
import Derived.Test.YtbhafcaekpccoaaPmQ
namespace Go.Proofs.Ytbhafcaekpccoaa.Bs
open Go.ChangeShapes Go.WideShapes Go.ChangeAt Go.RowKit Go.Joins
open Pm (Tk chk chk_iff rowB rowB_all rowB_len TkAt Ts TRow wrap_in row_any rrow_any below_drewN Ld loadR Ld.v rload_any)
open Dm (isTime isTime_iff)
set_option maxRecDepth 100000
set_option maxRecDepth 100000
set_option linter.unusedVariables false
set_option linter.unusedSimpArgs false
/-- g times are still to be looked at -/
def LnRel (m : Int) (W : World) (g : Nat) (s : Value) (wx : World) : Prop := 1 ≤ m - g ∧ s = .int .i64 (m - g) ∧ Below W.heap.size W wx
theorem cells3 (w : World) (a b c : Value) (T : TypeId) : (w.alloc (.cells #[a, b, c] T)).cell? ⟨w.heap.size, 0, none⟩ = some a ∧ (w.alloc (.cells #[a, b, c] T)).cell? ⟨w.heap.size, 1, none⟩ = some b ∧ (w.alloc (.cells #[a, b, c] T)).cell? ⟨w.heap.size, 2, none⟩ = some c :=
  ⟨by simp [go_sem], by simp [go_sem], by simp [go_sem]⟩
theorem load_pos {l : List Tk} (hr : rowB l = true) : ∀ t ∈ l, 0 < t.t ∧ 1 ≤ t.c := fun t ht => by have := chk_iff.1 (rowB_all hr t ht); omega
set_option maxHeartbeats 4000000 in
theorem rlength_any (l : List Tk) (ao : Option Addr) (cap : Nat) (w : World) (hT : Ts ao l w) (hl : l.length ≤ 1000000) :
    Calls Try.prog 31 #[.slice ao l.length cap] w fun e w' => e = .returned (.tuple #[.int .i64 (lengthR l).n, .int .i64 (lengthR l).e]) ∧ Below w.heap.size w w' := by
  have RL := Lib.hid (fun w h => rload_any l ao cap w h hl)
  have WK := Lib.hid (fun x w h => rwork_any l ao cap x w h hl)
  have T := Lib.hid hT
  have C3 := Lib.hid (fun w a b c => cells3 w a b c 34)
  have EB := Lib.hid (fun h => lengthR_bad (l := l) h)
  have EO := Lib.hid (fun h h1 => lengthR_over (l := l) h h1)
  have EN : Hid (l.length = 0 → lengthR l = ⟨0, 0⟩) := Lib.hid (fun h => by rw [List.eq_nil_of_length_eq_zero h]; exact lengthR_nil)
  have EL : Hid ((loadR l).e = 0 → (loadR l).n ≤ (loadR l).p → l.length ≠ 0 → ∃ m, Len l m ∧ m ≤ (loadR l).p ∧ (loadR l).p ≤ 1048576 ∧ rowB l = true ∧ lengthR l = ⟨m, 0⟩) := Lib.hid (fun h h1 h2 => by
    have hne : l ≠ [] := fun e => h2 (by rw [e]; rfl)
    obtain ⟨hr, p0, p1, -, m, hm, hmp⟩ := len_load h h1 hne
    exact ⟨m, hm, hmp, p1, hr, lengthR_len h h1 hne hm hmp⟩)
  unfold Pm.Ld.v at RL
  generalize lengthR l = r at *
  generalize loadR l = ld at *
  obtain ⟨n, p, e0⟩ := ld
  simp only at *
  clear hT
  go_enter Try.func31, Try.ntmps31
  go_wp2_with fail
  (with_reducible refine (RL.out _ T.out).mono ?_)
  rintro e w1 ⟨rfl, b1⟩
  have T2 : Hid (∀ o, Ts ao l (w1.alloc o)) := Lib.hid (fun o => (T.out.call b1).call ((Below.refl _ _).alloc (Nat.le_refl _) o))
  have K2 := Lib.hid (fun o => b1.alloc b1.size o)
  have C4 := Lib.hid (C3.out w1 (.int .i64 n) (.int .i64 p) (.int .i64 e0))
  clear b1 RL T C3
  obtain ⟨x0, x1, x2⟩ := C4.out
  by_cases he : e0 = 0
  · subst he
    by_cases ho : p < n
    · have E := Lib.hid (EO.out rfl ho)
      have ho' : n > p := ho
      clear EB EO EN EL C4
      go_wp2
      exact bodyPost_ret (v := .tuple #[.int .i64 0, .int .i64 17]) (by simp [results, Try.results31, go_sem]) rfl ⟨by rw [E.out], K2.out _⟩
    · have ho' : n ≤ p := by omega
      by_cases h0 : l.length = 0
      · have E := Lib.hid (EN.out h0)
        have e0 : ((l.length : Int) == 0) = true := by rw [h0]; rfl
        clear EB EO EN EL ho C4 T2 WK
        generalize l.length = n at *
        clear h0
        go_wp2
        exact bodyPost_ret (v := .tuple #[.int .i64 0, .int .i64 0]) (by simp [results, Try.results31, go_sem]) rfl ⟨by rw [E.out], K2.out _⟩
      · obtain ⟨m, hm, hmp, hp1, hr, hE⟩ := EL.out rfl ho' h0
        have E := Lib.hid hE
        have e0 : ((l.length : Int) == 0) = false := beq_eq_false_iff_ne.2 (by omega)
        have e1 : ¬ (l.length : Int) = 0 := by omega
        have M1 := Lib.hid hm.pos
        have W1 := Lib.hid (fun k (h : 1 ≤ k ∧ k < m) => (show workR l k ≠ k by rw [workR_yes hr (isTime_iff.2 ⟨by omega, by omega⟩)]; exact hm.first k h.1 h.2))
        have W2 : Hid (m < p → workR l m = m) := Lib.hid (fun h => by rw [workR_yes hr (isTime_iff.2 ⟨by have := hm.pos; omega, by omega⟩)]; exact hm.fix)
        have HM := Lib.hid hmp
        have HP := Lib.hid hp1
        clear EB EO EN EL ho h0 hm hE hr hmp hp1
        go_wp2_with fail
        go_loopg [5] (m - 1).toNat (LnRel m (w1.alloc (.cells #[.int .i64 n, .int .i64 p, .int .i64 0] 34)))
        case atStart => exact ⟨by have := M1.out; omega, by congr 1; have := M1.out; omega, Below.refl _ _⟩
        case round =>
          obtain ⟨hk, rfl, hB⟩ := hrel
          have y1 := carry hB x1
          have TW := Lib.hid ((T2.out _).call hB)
          have KB := Lib.hid ((K2.out _).trans (hB.mono (K2.out _).size))
          have HB := Lib.hid hB
          have S1 := Lib.hid (K2.out (.cells #[.int .i64 n, .int .i64 p, .int .i64 0] 34))
          clear hB x0 x1 x2 C4
          have HK := Lib.hid hk
          by_cases h0 : gk = 0
          · by_cases hlt : m < p
            · have hw := W2.out hlt
              have WQ := Lib.hid (WK.out m wr TW.out)
              rw [hw] at WQ
              have em : m - (gk : Int) = m := by omega
              rw [em] at *
              have q1 : (m == m) = true := by simp
              have q2 : (m != m) = false := by simp
              clear h0 hk hw
              go_wp2_with fail
              (with_reducible refine WQ.out.mono ?_)
              rintro e w2 ⟨rfl, b2⟩
              have KK := Lib.hid (KB.out.trans (b2.mono KB.out.size))
              clear b2
              go_wp2
              exact bodyPost_ret (v := .tuple #[.int .i64 m, .int .i64 0]) (by simp [results, Try.results31, go_sem]) rfl ⟨by rw [E.out], KK.out⟩
            · have em : m - (gk : Int) = m := by omega
              rw [em] at *
              have hge : p ≤ m := by omega
              clear h0 hk hlt
              go_wp2
              exact bodyPost_ret (v := .tuple #[.int .i64 m, .int .i64 0]) (by simp [results, Try.results31, go_sem]) rfl ⟨by rw [E.out], KB.out⟩
          · have hg0 : 0 < gk := by omega
            obtain ⟨k, hkk⟩ : ∃ k, m - (gk : Int) = k := ⟨_, rfl⟩
            have HKK := Lib.hid hkk
            rw [hkk] at hk ⊢
            have hne := W1.out k ⟨hk, by omega⟩
            have hlt : k < p := by have := HM.out; omega
            have WQ := Lib.hid (WK.out k wr TW.out)
            generalize workR l k = y at *
            have q1 : (y == k) = false := by simpa using hne
            have q2 : (y != k) = true := by simpa using hne
            have hk2 : k ≤ 1048576 := by have := HP.out; omega
            have NV : Hid (m - ((gk - 1 : Nat) : Int) = k + 1) := Lib.hid (by omega)
            clear h0 hkk
            go_wp2_with fail
            (with_reducible refine WQ.out.mono ?_)
            rintro e w2 ⟨rfl, b2⟩
            have KK := Lib.hid (HB.out.trans (b2.mono HB.out.size))
            clear b2
            go_wp2
            go_roundg (gk - 1)
            case measure => omega
            case rel => exact ⟨by have := HKK.out; omega, by rw [NV.out], KK.out⟩
  · have E := Lib.hid (EB.out he)
    have h1 : (e0 == 0) = false := by simpa using he
    have h2 : (e0 != 0) = true := by simpa using he
    clear EB EO EN EL C4 he
    go_wp2_with fail
    go_quiet (fail)
    go_wp2
    exact bodyPost_ret (v := .tuple #[.int .i64 0, .int .i64 e0]) (by simp [results, Try.results31, go_sem]) rfl ⟨by rw [E.out], (K2.out _).trans ((below_drewN _ _).mono (K2.out _).size)⟩
end Go.Proofs.Ytbhafcaekpccoaa.Bs
