/- Contracts of package disk's small methods. -/
import Derived.Test.YtcbemjckcmcelaaDkM
namespace Go.Proofs.Ytcbemjckcmcelaa.Dk
open Go.ChangeShapes Go.WideShapes Go.ChangeAt Go.RowKit Go.Joins
set_option maxRecDepth 100000
set_option linter.unusedVariables false
set_option linter.unusedSimpArgs false
abbrev ptr (b : Nat) : Value := .pointer (some ⟨b, 0, none⟩)
theorem len_any (B b : Nat) (s : DS) (w : World) (h : Dk B b s w) :
    Calls Try.prog 32 #[ptr b] w fun e w' => e = .returned (.int .i64 (s.sec.length : Int)) ∧ w' = w := by
  obtain ⟨g, v, h⟩ := h
  have c0 := h.c0
  have hl := h.ok.len
  clear h
  go_enter Try.func32, Try.ntmps32
  go_wp2
  go_ret
  exact ⟨rfl, rfl⟩
theorem len_nil (w : World) :
    Calls Try.prog 32 #[.pointer none] w fun e w' => e = .returned (.int .i64 0) ∧ w' = w := by
  go_enter Try.func32, Try.ntmps32
  go_wp2
  go_ret
  exact ⟨rfl, rfl⟩
theorem open_any (B b : Nat) (s : DS) (w : World) (h : Dk B b s w) :
    Calls Try.prog 30 #[ptr b] w fun e w' => e = .returned (.int .i64 (s.opn.length : Int)) ∧ w' = w := by
  obtain ⟨g, v, h⟩ := h
  have c1 := h.c1
  obtain ⟨p, cap, hv⟩ : ∃ p cap, v = .slice p s.opn.length cap := by
    rcases h.own.2 with ⟨rfl, h0⟩ | ⟨g', cap, cur, rfl, _⟩
    · exact ⟨none, 0, by rw [h0]⟩
    · exact ⟨_, cap, rfl⟩
  subst hv
  clear h
  go_enter Try.func30, Try.ntmps30
  go_wp2
  go_ret
  exact ⟨rfl, rfl⟩
theorem open_nil (w : World) :
    Calls Try.prog 30 #[.pointer none] w fun e w' => e = .returned (.int .i64 0) ∧ w' = w := by
  go_enter Try.func30, Try.ntmps30
  go_wp2
  go_ret
  exact ⟨rfl, rfl⟩
theorem reads_any (B b : Nat) (s : DS) (w : World) (h : Dk B b s w) :
    Calls Try.prog 31 #[ptr b] w fun e w' => e = .returned (.int .i64 (s.reads : Int)) ∧ w' = w := by
  obtain ⟨g, v, h⟩ := h
  have c3 := h.c3
  clear h
  go_enter Try.func31, Try.ntmps31
  go_wp2
  go_ret
  exact ⟨rfl, rfl⟩
theorem reads_nil (w : World) :
    Calls Try.prog 31 #[.pointer none] w fun e w' => e = .returned (.int .i64 0) ∧ w' = w := by
  go_enter Try.func31, Try.ntmps31
  go_wp2
  go_ret
  exact ⟨rfl, rfl⟩
theorem has_yes (B b : Nat) (s : DS) (a : Int) (w : World) (h : Dk B b s w) (h0 : 0 ≤ a) (h1 : a < s.sec.length) :
    Calls Try.prog 57 #[ptr b, .int .i64 a] w fun e w' => e = .returned (.bool true) ∧ w' = w := by
  have L := Lib.hid (len_any B b s w h)
  clear h
  go_enter Try.func57, Try.ntmps57
  go_wp2_with ((with_reducible refine L.out.mono ?_); rintro e w1 ⟨rfl, rfl⟩)
  go_ret
  exact ⟨rfl, rfl⟩
theorem has_no (B b : Nat) (s : DS) (a : Int) (w : World) (h : Dk B b s w) (h0 : ¬ (0 ≤ a ∧ a < s.sec.length)) :
    Calls Try.prog 57 #[ptr b, .int .i64 a] w fun e w' => e = .returned (.bool false) ∧ w' = w := by
  have L := Lib.hid (len_any B b s w h)
  clear h
  by_cases h1 : 0 ≤ a
  · have h2 : (s.sec.length : Int) ≤ a := by omega
    have h3 : decide (a < (s.sec.length : Int)) = false := by simp; omega
    clear h0
    go_enter Try.func57, Try.ntmps57
    go_wp2_with ((with_reducible refine L.out.mono ?_); rintro e w1 ⟨rfl, rfl⟩)
    go_ret
    exact ⟨rfl, rfl⟩
  · have h2 : a < 0 := by omega
    clear h0 h1
    go_enter Try.func57, Try.ntmps57
    go_wp2_with ((with_reducible refine L.out.mono ?_); rintro e w1 ⟨rfl, rfl⟩)
    go_ret
    exact ⟨rfl, rfl⟩
theorem has_nil (a : Int) (w : World) :
    Calls Try.prog 57 #[.pointer none, .int .i64 a] w fun e w' => e = .returned (.bool false) ∧ w' = w := by
  have L := Lib.hid (len_nil w)
  by_cases h1 : 0 ≤ a
  · have h3 : decide (a < 0) = false := by simp; omega
    go_enter Try.func57, Try.ntmps57
    go_wp2_with ((with_reducible refine L.out.mono ?_); rintro e w1 ⟨rfl, rfl⟩)
    go_ret
    exact ⟨rfl, rfl⟩
  · have h2 : a < 0 := by omega
    clear h1
    go_enter Try.func57, Try.ntmps57
    go_wp2_with ((with_reducible refine L.out.mono ?_); rintro e w1 ⟨rfl, rfl⟩)
    go_ret
    exact ⟨rfl, rfl⟩
/-- an operation that does not fail -/
theorem operate_ok (B b : Nat) (s : DS) (w : World) (h : Dk B b s w) (hf : s.fail ≠ 1) (hb : s.fail < 9223372036854775808) :
    Calls Try.prog 58 #[ptr b] w fun e w' => e = .returned (.int .i64 0) ∧ Dk B b ⟨s.sec, s.opn, s.fail - 1, s.reads⟩ w' ∧ Moved b w w' := by
  obtain ⟨g, v, h⟩ := h
  have c2 := h.c2
  have f2 := h.fz 2
  rcases Nat.eq_zero_or_pos s.fail with h0 | h0
  · have FIN : Hid (Dk B b ⟨s.sec, s.opn, s.fail - 1, s.reads⟩ w ∧ Moved b w w) := Lib.hid ⟨⟨g, v, by
      have e : DS.mk s.sec s.opn (s.fail - 1) s.reads = s := by rw [h0]; cases s; simp at h0; subst h0; rfl
      rw [e]; exact h⟩, Moved.refl _ _⟩
    rw [h0] at c2
    clear h h0 hf hb
    go_enter Try.func58, Try.ntmps58
    go_wp2
    go_ret
    exact ⟨rfl, FIN.out⟩
  · have FIN := Lib.hid (fun x (e : x = ((s.fail - 1 : Nat) : Int)) => And.intro (show Dk B b _ _ from ⟨g, v, h.setFail e⟩) (movedFail h x))
    have t0 : ((s.fail : Int) == 0) = false := by simp; omega
    have t1 : ((s.fail : Int) - 1 == 0) = false := by simp; omega
    generalize hF : (s.fail : Int) = F at *
    have b1 : 2 ≤ F := by omega
    have b2 : F < 9223372036854775808 := by omega
    have E := Lib.hid (show F - 1 = ((s.fail - 1 : Nat) : Int) by omega)
    clear hF h hb h0
    go_enter Try.func58, Try.ntmps58
    go_wp2
    go_ret
    exact ⟨rfl, FIN.out _ E.out⟩
/-- the one that fails -/
theorem operate_io (B b : Nat) (s : DS) (w : World) (h : Dk B b s w) (hf : s.fail = 1) :
    Calls Try.prog 58 #[ptr b] w fun e w' => e = .returned (.int .i64 18) ∧ Dk B b ⟨s.sec, s.opn, 0, s.reads⟩ w' ∧ Moved b w w' := by
  obtain ⟨g, v, h⟩ := h
  have c2 := h.c2
  have f2 := h.fz 2
  have FIN := Lib.hid (And.intro (show Dk B b _ _ from ⟨g, v, h.setFail (x := 0) (f := 0) rfl⟩) (movedFail h 0))
  rw [hf] at c2
  clear h hf
  go_enter Try.func58, Try.ntmps58
  go_wp2
  go_ret
  exact ⟨rfl, FIN.out⟩
theorem fail_any (B b : Nat) (s : DS) (n : Int) (w : World) (h : Dk B b s w) (hn : n < 9223372036854775808) :
    Calls Try.prog 19 #[ptr b, .int .i64 n] w fun e w' => e = .returned (.tuple #[]) ∧ Dk B b (failR s n) w' ∧ Moved b w w' := by
  obtain ⟨g, v, h⟩ := h
  have c2 := h.c2
  have f2 := h.fz 2
  have FIN := Lib.hid (fun x (e : x = ((n.toNat : Nat) : Int)) => And.intro (show Dk B b (failR s n) _ from ⟨g, v, h.setFail e⟩) (movedFail h x))
  have mx : ∀ w : World, (Builtin.max_ #[3, 3] 3 #[.int .i64 n, .int .i64 0]).run Try.prog w = .ok (.int .i64 (n.toNat : Int)) w := by
    intro w
    simp [Builtin.max_, Builtin.max2]
    repeat' split
    all_goals first | (simp; omega) | omega | simp_all
  clear h
  generalize (n.toNat : Int) = m at *
  go_enter Try.func19, Try.ntmps19
  go_wp2
  go_end0
  exact ⟨rfl, FIN.out _ rfl⟩
theorem fail_nil (n : Int) (w : World) :
    Calls Try.prog 19 #[.pointer none, .int .i64 n] w fun e w' => e = .returned (.tuple #[]) ∧ w' = w := by
  go_enter Try.func19, Try.ntmps19
  go_wp2
  go_end0
  exact ⟨rfl, rfl⟩
theorem rest_any (n m : Int) (w : World) (h0 : 0 < m) (h1 : m ≤ 1000) (hn : -9223372036854775808 ≤ n) (hn2 : n ≤ 9223372036854775807) :
    Calls Try.prog 38 #[.int .i64 n, .int .i64 m] w fun e w' => e = .returned (.int .i64 (n % m)) ∧ w' = w := by
  have t : n.tmod m = n % m ∧ 0 ≤ n.tmod m ∨ n.tmod m + m = n % m ∧ n.tmod m < 0 := by
    have e := Int.mul_tdiv_add_tmod n m
    have e2 := Int.mul_ediv_add_emod n m
    have l1 := Int.tmod_lt_of_pos n h0
    have l2 := Int.lt_tmod_of_pos n h0
    have l3 := Int.emod_lt_of_pos n h0
    have l4 := Int.emod_nonneg n (show m ≠ 0 by omega)
    rcases (show n.tmod m < 0 ∨ 0 ≤ n.tmod m by omega) with h | h
    · right
      refine ⟨?_, h⟩
      rw [Int.emod_eq_add_self_emod]
      have : (n + m) % m = (n.tmod m + m) % m := by
        conv => lhs; rw [← e, Int.add_assoc, Int.add_comm, Int.add_mul_emod_self_left]
      rw [this, Int.emod_eq_of_lt (by omega) (by omega)]
    · left
      refine ⟨?_, h⟩
      have : n % m = (n.tmod m) % m := by
        conv => lhs; rw [← e, Int.add_comm, Int.add_mul_emod_self_left]
      rw [this, Int.emod_eq_of_lt h l1]
  have ub := Int.tmod_lt_of_pos n h0
  have lb := Int.lt_tmod_of_pos n h0
  rcases t with ⟨t, t0⟩ | ⟨t, t0⟩
  · have T := Lib.hid t
    clear t
    go_enter Try.func38, Try.ntmps38
    go_wp2
    go_ret
    exact ⟨by rw [← T.out]; rfl, rfl⟩
  · have T := Lib.hid t
    clear t
    go_enter Try.func38, Try.ntmps38
    go_wp2
    go_ret
    exact ⟨by rw [← T.out]; rfl, rfl⟩
end Go.Proofs.Ytcbemjckcmcelaa.Dk
