/- horariumlaw11.BusyLeast answers true at every row of three numbers: the length is the least time, from 1 on, at which there is no more work than time, and is at most the period. No condition. -/
import Derived.Test.YtfnagjfgnbnlbaaBsN
import Derived.Test.YtfnagjfgnbnlbaaPmQ
import Derived.Deep.DeepCutAuto
import Derived.BigQuiet
namespace Go.Proofs.Ytfnagjfgnbnlbaa.busyLeast
open Go.ChangeShapes Go.WideShapes Go.ChangeAt Go.RowKit Go.Joins
set_option maxRecDepth 100000
set_option linter.unusedVariables false
set_option linter.unusedSimpArgs false
open Pm Bs

/-- what the law asks of a length -/
structure Ask (T : List Tk) (n p : Int) : Prop where
  n1 : 1 ≤ n
  np : n ≤ p
  p1 : p ≤ 1048576
  wn : workR T n = n
  it : idleR T n = true
  ah : ∀ k, 1 ≤ k → k < n → k < workR T k ∧ idleR T k = false
theorem parts {T : List Tk} (hr : rowB T = true) (he : (loadR T).e = 0) : ((loadR T).p < (loadR T).n ∧ lengthR T = ⟨0, 17⟩) ∨ ((loadR T).n ≤ (loadR T).p ∧ T.length = 0 ∧ lengthR T = ⟨0, 0⟩) ∨ ((loadR T).n ≤ (loadR T).p ∧ T.length ≠ 0 ∧ ∃ n, lengthR T = ⟨n, 0⟩ ∧ Ask T n (loadR T).p) := by
  by_cases h : (loadR T).p < (loadR T).n
  · exact .inl ⟨h, lengthR_over he h⟩
  · have h2 : (loadR T).n ≤ (loadR T).p := by omega
    by_cases h0 : T = []
    · subst h0; exact .inr (.inl ⟨h2, rfl, lengthR_nil⟩)
    · obtain ⟨-, p0, p1, -, n, hn, hp⟩ := len_load he h2 h0
      have hi : ∀ k, 1 ≤ k → k ≤ n → Dm.isTime k = true := fun k h3 h4 => Dm.isTime_iff.2 ⟨by omega, by omega⟩
      refine .inr (.inr ⟨h2, fun e => h0 (List.eq_nil_of_length_eq_zero e), n, lengthR_len he h2 h0 hn hp, ⟨hn.pos, hp, p1, ?_, ?_, fun k h3 h4 => ⟨?_, ?_⟩⟩⟩)
      · rw [workR_yes hr (hi n hn.pos (Int.le_refl _)), hn.fix]
      · rw [idle_yes hr (hi n hn.pos (Int.le_refl _)), workR_yes hr (hi n hn.pos (Int.le_refl _)), hn.fix]; simp
      · rw [workR_yes hr (hi k h3 (by omega))]; exact hn.more k h3 h4
      · rw [idle_yes hr (hi k h3 (by omega)), workR_yes hr (hi k h3 (by omega))]
        have := hn.more k h3 h4
        exact decide_eq_false (by omega)
def LsRel (n : Int) (W : World) (g : Nat) (s : Value) (wx : World) : Prop := ∃ k : Int, 1 ≤ k ∧ k + g = n ∧ s = .int .i64 k ∧ Below W.heap.size W wx
set_option maxRecDepth 100000 in
set_option maxHeartbeats 8000000 in
theorem walk (l : List Tri) (ao : Option Addr) (cap : Nat) (w : World) (hT : Tris ao l w) (hl : l.length ≤ 9223372036854775807) (hok : ∀ x ∈ l, x.Ok) :
    Calls Try.prog 5 #[.slice ao l.length cap] w fun e w' => e = .returned (.bool true) ∧ Below w.heap.size w w' := by
  have AW := Lib.hid awake_any
  have MA := Lib.hid (fun w h => made_any l ao cap w h hl hok)
  have TI := Lib.hid hT
  have hml := made8_len l
  have LE := Lib.hid (fun am cm w h => length_any (made8 l) am cm w h (by omega))
  have RL := Lib.hid (fun am cm w h => rload_any (made8 l) am cm w h (by omega))
  have WK := Lib.hid (fun am cm x w h => work_any (made8 l) am cm x w h (by omega))
  have ID := Lib.hid (fun am cm x w h => idle_any (made8 l) am cm x w h (by omega))
  have he := per_load (made8_row l) (fun t ht => (made8_mem ht).2.2)
  have PA := Lib.hid (parts (made8_row l) he)
  have C3 := Lib.hid (fun w a b c => cells3 w a b c 37)
  clear hT hok hml
  unfold Pm.Ld.v at RL
  generalize made8 l = T at *
  generalize lengthR T = r at *
  generalize loadR T = ld at *
  obtain ⟨N, P, E⟩ := ld
  simp only at *
  subst he
  go_enter Try.func5, Try.ntmps5
  go_wp2_with fail
  (with_reducible refine (AW.out _).mono ?_)
  rintro e w1 ⟨rfl, b1⟩
  have M1 := Lib.hid (MA.out _ (TI.out.below b1 (Nat.le_refl _)))
  have K1 := Lib.hid b1
  clear b1 MA AW TI
  go_wp2_with fail
  (with_reducible refine (M1.out).mono ?_)
  rintro e w2 ⟨v, rfl, tr, b2⟩
  obtain ⟨am, cm, rfl, hcm, hts⟩ := tr.form
  have T2 := Lib.hid hts
  have K2 := Lib.hid (K1.out.trans (b2.mono K1.out.size))
  clear tr hts b2 K1 M1
  have LE2 := Lib.hid (LE.out am cm)
  have RL2 := Lib.hid (RL.out am cm)
  have WK2 := Lib.hid (WK.out am cm)
  have ID2 := Lib.hid (ID.out am cm)
  clear LE RL WK ID
  have LL : Hid (∀ n e, r = ⟨n, e⟩ → ∀ w, Ts am T w → Calls Try.prog 14 #[.slice am T.length cm] w fun x w' => x = .returned (.tuple #[.int .i64 n, .int .i64 e]) ∧ Below w.heap.size w w') := Lib.hid (fun n e h w ht => by subst h; exact LE2.out w ht)
  clear LE2
  rcases PA.out with ⟨hp, hr⟩ | ⟨hp, h0, hr⟩ | ⟨hp, h0, n, hr, ak⟩
  · have L3 := Lib.hid (LL.out _ _ hr _ T2.out)
    have hp' : N > P := hp
    clear hr PA LL WK2 ID2 hp
    go_wp2_with fail
    (with_reducible refine L3.out.mono ?_)
    rintro e w3 ⟨rfl, b3⟩
    have T3 := Lib.hid (T2.out.call b3)
    have K3 := Lib.hid (K2.out.trans (b3.mono K2.out.size))
    clear b3 T2 K2 L3
    go_wp2_with fail
    (with_reducible refine (RL2.out _ T3.out).mono ?_)
    rintro e w4 ⟨rfl, b4⟩
    have K4 := Lib.hid (fun o => (K3.out.trans (b4.mono K3.out.size)).alloc (Nat.le_trans K3.out.size b4.size) o)
    have C4 := Lib.hid (C3.out w4 (.int .i64 N) (.int .i64 P) (.int .i64 0))
    obtain ⟨x0, x1, x2⟩ := C4.out
    clear b4 T3 K3 C3 C4 RL2
    go_wp2
    go_ret
    exact ⟨rfl, K4.out _⟩
  · have L3 := Lib.hid (LL.out _ _ hr _ T2.out)
    have e0 : ((T.length : Int) == 0) = true := by rw [h0]; rfl
    clear hr PA LL WK2 ID2 h0
    go_wp2_with fail
    (with_reducible refine L3.out.mono ?_)
    rintro e w3 ⟨rfl, b3⟩
    have T3 := Lib.hid (T2.out.call b3)
    have K3 := Lib.hid (K2.out.trans (b3.mono K2.out.size))
    clear b3 T2 K2 L3
    go_wp2_with fail
    (with_reducible refine (RL2.out _ T3.out).mono ?_)
    rintro e w4 ⟨rfl, b4⟩
    have K4 := Lib.hid (fun o => (K3.out.trans (b4.mono K3.out.size)).alloc (Nat.le_trans K3.out.size b4.size) o)
    have C4 := Lib.hid (C3.out w4 (.int .i64 N) (.int .i64 P) (.int .i64 0))
    obtain ⟨x0, x1, x2⟩ := C4.out
    clear b4 T3 K3 C3 C4 RL2
    generalize T.length = ln at *
    go_wp2
    go_ret
    exact ⟨rfl, K4.out _⟩
  · obtain ⟨n1, np, p1, wn, it, ah⟩ := ak
    have L3 := Lib.hid (LL.out _ _ hr _ T2.out)
    have AH := Lib.hid ah
    have WN := Lib.hid (fun w h => (WK2.out n w h))
    have IN := Lib.hid (fun w h => (ID2.out n w h))
    rw [wn] at WN
    rw [it] at IN
    have e0 : ((T.length : Int) == 0) = false := beq_eq_false_iff_ne.2 (by omega)
    have e1 : ¬ (T.length : Int) = 0 := by omega
    clear hr PA LL wn it ah h0
    go_wp2_with fail
    (with_reducible refine L3.out.mono ?_)
    rintro e w3 ⟨rfl, b3⟩
    have T3 := Lib.hid (T2.out.call b3)
    have K3 := Lib.hid (K2.out.trans (b3.mono K2.out.size))
    clear b3 T2 K2 L3
    go_wp2_with fail
    (with_reducible refine (RL2.out _ T3.out).mono ?_)
    rintro e w4 ⟨rfl, b4⟩
    have T4 := Lib.hid (fun o => (T3.out.call b4).call ((Below.refl _ _).alloc (Nat.le_refl _) o))
    have K4 := Lib.hid (fun o => (K3.out.trans (b4.mono K3.out.size)).alloc (Nat.le_trans K3.out.size b4.size) o)
    have C4 := Lib.hid (C3.out w4 (.int .i64 N) (.int .i64 P) (.int .i64 0))
    obtain ⟨x0, x1, x2⟩ := C4.out
    clear b4 T3 K3 C3 C4 RL2
    have q1 : (n != n) = false := by simp
    go_wp2_with fail
    (with_reducible refine (WN.out _ (T4.out _)).mono ?_)
    rintro e w5 ⟨rfl, b5⟩
    have T5 := Lib.hid ((T4.out _).call b5)
    have K5 := Lib.hid ((K4.out _).trans (b5.mono (K4.out _).size))
    clear b5 T4 K4 WN x0 x1 x2
    go_wp2_with fail
    (with_reducible refine (IN.out _ T5.out).mono ?_)
    rintro e w6 ⟨rfl, b6⟩
    have T6 := Lib.hid (T5.out.call b6)
    have K6 := Lib.hid (K5.out.trans (b6.mono K5.out.size))
    clear b6 T5 K5 IN
    go_wp2_with fail
    go_loopg [8] (n - 1).toNat (LsRel n w6)
    case atStart => exact ⟨1, by omega, by omega, rfl, Below.refl _ _⟩
    case round =>
      obtain ⟨k, hk, hkn, rfl, hB⟩ := hrel
      have TW := Lib.hid (T6.out.call hB)
      have KB := Lib.hid hB
      clear hB
      by_cases hlt : k < n
      · obtain ⟨a1, a2⟩ := AH.out k hk hlt
        have IK := Lib.hid (fun w h => ID2.out k w h)
        have WQ := Lib.hid (fun w h => WK2.out k w h)
        rw [a2] at IK
        have hg0 : 0 < gk := by omega
        have HK := Lib.hid hkn
        clear hkn a2 ID2 WK2 AH
        generalize workR T k = y at *
        go_wp2_with fail
        (with_reducible refine (IK.out _ TW.out).mono ?_)
        rintro e w7 ⟨rfl, b7⟩
        have T7 := Lib.hid (TW.out.call b7)
        have K7 := Lib.hid (KB.out.trans (b7.mono KB.out.size))
        clear b7 TW IK KB
        go_wp2_with fail
        (with_reducible refine (WQ.out _ T7.out).mono ?_)
        rintro e w8 ⟨rfl, b8⟩
        have K8 := Lib.hid (K7.out.trans (b8.mono K7.out.size))
        clear b8 T7 K7 WQ
        go_wp2
        go_roundg (gk - 1)
        case measure => omega
        case rel => exact ⟨k + 1, by omega, by have := HK.out; omega, by go_num, K8.out⟩
      · have hge : n ≤ k := by omega
        have KK := Lib.hid (K6.out.trans (KB.out.mono K6.out.size))
        clear hlt hkn
        go_wp2
        go_ret
        exact ⟨rfl, KK.out⟩

set_option maxRecDepth 100000 in
set_option maxHeartbeats 1600000 in
theorem lifted (os : Os) (started : os.Started) (H : Type) (enc : TypeId × Value → H) :
    ReturnsInHanded {} Try.checked os 5 .any (Rows.busyLeastSpec.pre6 enc Try.prog Try.f5 Rows.busyLeastRow.domain false) (Rows.busyLeastSpec.post enc Try.prog Try.f5 false true false false) := by
  refine returnsInHanded_of_change (C := Try.checked) own started (by kernel_rfl) Try.func5
    (ChangeSpec.witness6 (enc := enc) (C := Try.checked) false ⟨#[], #[.slice none 0 0], []⟩ 8 (by kernel_rfl) (by kernel_rfl) (by kernel_rfl) (by kernel_rfl)) ?_
  intro W base args ds gs before hval0 hW hcnd _
  have hval : ∀ (j : Nat) t v, Try.f5.params[j]? = some t → args[j]? = some v → Value.okWide Try.prog W .any base t v := hval0
  have hW' := hW
  obtain ⟨p, q, hA0, hV, rfl, hfz, hnd⟩ := hW
  have hA : DataW.TrodAll enc Try.prog W 0 (fun _ => true) true Try.f5.params.toList args.toList ds p := hA0
  rw [Try.params5] at hA hval
  obtain ⟨v0, vs0, d0, ds0, p0, q0, hargs, rfl, rfl, h0, r0⟩ := trodAll_cons hA
  obtain ⟨rfl, rfl, rfl⟩ := trodAll_nil r0
  obtain rfl : args = #[v0] := by cases args; simp_all
  obtain ⟨rfl, rfl⟩ := trodVars_none hV
  have lt0 : ∀ x ∈ p0, x.block < W.heap.size := by obtain ⟨m, hm⟩ := h0; exact DataW.trod_lt m _ _ _ hm
  obtain ⟨aol, ll, capl, rfl, lel, val, okl⟩ := open_tris (hval 0 23 v0 rfl rfl) h0
  clear hA0 hval0
  refine (walk ll aol capl W val lel okl).mono fun e W' ⟨he, bel⟩ => ?_
  subst he
  exact ⟨_, rfl, _, _, _, [], _, [], hW', trodAll_mk1 (shut_bool Try.underlying4 _), (trodAll_cons_mk (Below.trod laidOut (by kernel_rfl) (of_decide_eq_true (by kernel_rfl)) h0 bel lt0) trodAll_mk0), rfl, bel.frame _, fun h => by cases h⟩

theorem proved : Rows.BusyLeastSaid :=
  OpenClaim.holds_of_wide 5 Try.f5 rfl rfl rfl rfl rfl rfl rfl ⟨rfl, rfl, rfl, rfl, rfl⟩ rfl rfl rfl rfl rfl (by kernel_rfl) Try.func5 (by kernel_rfl)
    (of_decide_eq_true (by kernel_rfl)) (by unfold Func.isWrapper; first | (rw [if_pos (by decide +kernel)]; kernel_rfl) | (rw [if_neg (by decide +kernel)]; exact ⟨rfl, rfl⟩))
    (fun os started H enc _ => lifted os started H enc)
#print axioms proved
end Go.Proofs.Ytfnagjfgnbnlbaa.busyLeast
