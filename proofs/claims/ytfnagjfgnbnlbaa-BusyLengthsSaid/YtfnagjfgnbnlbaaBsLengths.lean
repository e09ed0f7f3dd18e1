/- horariumlaw11.BusyLengths answers true at every row of tasks and every row of three numbers: lengths, and the steps to them, are told as the document tells them. No condition. -/
import Derived.Test.YtfnagjfgnbnlbaaBsT
import Derived.Deep.DeepCutAuto
import Derived.BigQuiet
namespace Go.Proofs.Ytfnagjfgnbnlbaa.busyLengths
open Go.ChangeShapes Go.WideShapes Go.ChangeAt Go.RowKit Go.Joins
set_option maxRecDepth 100000
set_option linter.unusedVariables false
set_option linter.unusedSimpArgs false
open Pm Bs

/-- what stands of the row at the i-th task: all of it, or nothing -/
def LgRel (ar : Option Addr) (n cr : Nat) (W : World) (g : Nat) (s t : Value) (wx : World) : Prop :=
  ∃ i : Nat, t = .int .i64 (i : Int) ∧ wx = W ∧ i ≤ 3 ∧ ((s = .slice ar n cr ∧ i + g = n + 1) ∨ (s = .slice none 0 0 ∧ g = 0))
set_option maxRecDepth 100000 in
set_option maxHeartbeats 8000000 in
theorem walk (ar : Option Addr) (r : List Tk) (cr : Nat) (ao : Option Addr) (l : List Tri) (cap : Nat) (w : World) (hR : Ts ar r w) (hr : r.length ≤ 9223372036854775807) (hrc : r.length ≤ cr) (hT : Tris ao l w) (hl : l.length ≤ 9223372036854775807) (hok : ∀ x ∈ l, x.Ok) :
    Calls Try.prog 4 #[.slice ar r.length cr, .slice ao l.length cap] w fun e w' => e = .returned (.bool true) ∧ Below w.heap.size w w' := by
  have AW := Lib.hid awake_any
  have FE := Lib.hid (fun w => few_any r ar cr w hr hrc)
  have h3 : (r.take 3).length ≤ 3 := by rw [List.length_take]; omega
  have LR := Lib.hid (fun w h => lengths_any (r.take 3) ar cr w h (by omega))
  have LN : Hid (∀ w, Calls Try.prog 13 #[.slice none 0 0] w fun e w' => e = .returned (.bool true) ∧ Below w.heap.size w w') := Lib.hid (fun w => lengths_any [] none 0 w (fun h => absurd h (by simp)) (by simp))
  have RT := Lib.hid (hR.take 3)
  have MA := Lib.hid (fun w h => made_any l ao cap w h hl hok)
  have TI := Lib.hid hT
  have LM := Lib.hid (fun am cm w h => lengths_any (made8 l) am cm w h (by rw [made8_len]; omega))
  clear hR hT hok hrc
  generalize r.take 3 = r2 at *
  go_enter Try.func4, Try.ntmps4
  go_wp2_with fail
  (with_reducible refine (AW.out _).mono ?_)
  rintro e w1 ⟨rfl, b1⟩
  have K1 := Lib.hid b1
  have R1 := Lib.hid (RT.out.call b1)
  clear b1 AW RT
  go_wp2_with fail
  (with_reducible refine (FE.out _).mono ?_)
  rintro e w2 ⟨rfl, rfl⟩
  clear FE
  go_wp2_with fail
  go_loopg [6, 7] (r2.length + 1) (LgRel ar r2.length cr w2)
  case atStart => exact ⟨0, rfl, rfl, by omega, .inl ⟨rfl, by omega⟩⟩
  case round =>
    obtain ⟨i, rfl, rfl, hi3, ⟨rfl, hi⟩ | ⟨rfl, hi⟩⟩ := hrel
    · by_cases hlt : i < r2.length
      · obtain ⟨b, off, rfl, hb, hat⟩ := R1.out (by omega)
        have hx := hat i r2[i] (List.getElem?_eq_getElem hlt)
        have hi' : (i : Int) < (r2.length : Int) := by omega
        have hg0 : 1 < gk := by omega
        have HI := Lib.hid hi
        clear hat hi
        generalize r2[i] = x at *
        obtain ⟨c0, c1, c2, c3, c4⟩ := hx
        obtain ⟨xi, xc, xd, xt, xm⟩ := x
        simp only at *
        by_cases hl1 : 1024 < xt
        · have hl2 : xt > 1024 := hl1
          by_cases hl3 : xt ≤ 1048576
          · go_wp2
            go_roundg 0
            case measure => omega
            case rel => exact ⟨i + 1, by go_num, rfl, by omega, .inr ⟨rfl, rfl⟩⟩
          · have hl4 : 1048576 < xt := by omega
            clear hl3
            go_wp2
            go_roundg (gk - 1)
            case measure => omega
            case rel => exact ⟨i + 1, by go_num, rfl, by omega, .inl ⟨rfl, by have := HI.out; omega⟩⟩
        · have hl2 : xt ≤ 1024 := by omega
          clear hl1
          go_wp2
          go_roundg (gk - 1)
          case measure => omega
          case rel => exact ⟨i + 1, by go_num, rfl, by omega, .inl ⟨rfl, by have := HI.out; omega⟩⟩
      · have hge : (r2.length : Int) ≤ (i : Int) := by omega
        have hdec : decide (i < r2.length) = false := decide_eq_false hlt
        have LC := Lib.hid (LR.out _ R1.out)
        clear hlt hi LR LN R1
        go_wp2_with fail
        (with_reducible refine (LC.out).mono ?_)
        rintro e w3 ⟨rfl, b3⟩
        have K3 := Lib.hid (K1.out.trans (b3.mono K1.out.size))
        clear b3 LC K1
        have M4 := Lib.hid (MA.out _ (TI.out.below K3.out (Nat.le_refl _)))
        go_wp2_with fail
        (with_reducible refine (M4.out).mono ?_)
        rintro e w4 ⟨v, rfl, tr, b4⟩
        obtain ⟨am, cm, rfl, -, hts⟩ := tr.form
        have K4 := Lib.hid (K3.out.trans (b4.mono K3.out.size))
        have T5 := Lib.hid (LM.out am cm _ hts)
        clear tr hts b4 K3 M4
        go_wp2_with fail
        (with_reducible refine (T5.out).mono ?_)
        rintro e w5 ⟨rfl, b5⟩
        have K5 := Lib.hid (K4.out.trans (b5.mono K4.out.size))
        go_wp2
        go_ret
        exact ⟨rfl, K5.out⟩
    · have hge : (0 : Int) ≤ (i : Int) := by omega
      clear hi LR R1
      go_wp2_with fail
      (with_reducible refine (LN.out _).mono ?_)
      rintro e w3 ⟨rfl, b3⟩
      have K3 := Lib.hid (K1.out.trans (b3.mono K1.out.size))
      clear b3 LN K1
      have M4 := Lib.hid (MA.out _ (TI.out.below K3.out (Nat.le_refl _)))
      go_wp2_with fail
      (with_reducible refine (M4.out).mono ?_)
      rintro e w4 ⟨v, rfl, tr, b4⟩
      obtain ⟨am, cm, rfl, -, hts⟩ := tr.form
      have K4 := Lib.hid (K3.out.trans (b4.mono K3.out.size))
      have T5 := Lib.hid (LM.out am cm _ hts)
      clear tr hts b4 K3 M4
      go_wp2_with fail
      (with_reducible refine (T5.out).mono ?_)
      rintro e w5 ⟨rfl, b5⟩
      have K5 := Lib.hid (K4.out.trans (b5.mono K4.out.size))
      go_wp2
      go_ret
      exact ⟨rfl, K5.out⟩

set_option maxRecDepth 100000 in
set_option maxHeartbeats 1600000 in
theorem lifted (os : Os) (started : os.Started) (H : Type) (enc : TypeId × Value → H) :
    ReturnsInHanded {} Try.checked os 4 .any (Rows.busyLengthsSpec.pre6 enc Try.prog Try.f4 Rows.busyLengthsRow.domain false) (Rows.busyLengthsSpec.post enc Try.prog Try.f4 false true false false) := by
  refine returnsInHanded_of_change (C := Try.checked) own started (by kernel_rfl) Try.func4
    (ChangeSpec.witness6 (enc := enc) (C := Try.checked) false ⟨#[], #[.slice none 0 0, .slice none 0 0], []⟩ 8 (by kernel_rfl) (by kernel_rfl) (by kernel_rfl) (by kernel_rfl)) ?_
  intro W base args ds gs before hval0 hW hcnd _
  have hval : ∀ (j : Nat) t v, Try.f4.params[j]? = some t → args[j]? = some v → Value.okWide Try.prog W .any base t v := hval0
  have hW' := hW
  obtain ⟨p, q, hA0, hV, rfl, hfz, hnd⟩ := hW
  have hA : DataW.TrodAll enc Try.prog W 0 (fun _ => true) true Try.f4.params.toList args.toList ds p := hA0
  rw [Try.params4] at hA hval
  obtain ⟨v0, vs0, d0, ds0, p0, q0, hargs, rfl, rfl, h0, r0⟩ := trodAll_cons hA
  obtain ⟨v1, vs1, d1, ds1, p1, q1, rfl, rfl, rfl, h1, r1⟩ := trodAll_cons r0
  obtain ⟨rfl, rfl, rfl⟩ := trodAll_nil r1
  obtain rfl : args = #[v0, v1] := by cases args; simp_all
  obtain ⟨rfl, rfl⟩ := trodVars_none hV
  have lt0 : ∀ x ∈ p0, x.block < W.heap.size := by obtain ⟨m, hm⟩ := h0; exact DataW.trod_lt m _ _ _ hm
  obtain ⟨aor, lr, capr, rfl, ler, lcr, var, okr⟩ := open_tasks (hval 0 22 v0 rfl rfl) h0
  have lt1 : ∀ x ∈ p1, x.block < W.heap.size := by obtain ⟨m, hm⟩ := h1; exact DataW.trod_lt m _ _ _ hm
  obtain ⟨aol, ll, capl, rfl, lel, val, okl⟩ := open_tris (hval 1 23 v1 rfl rfl) h1
  clear hA0 hval0
  refine (walk aor lr capr aol ll capl W var ler lcr val lel okl).mono fun e W' ⟨he, bel⟩ => ?_
  subst he
  exact ⟨_, rfl, _, _, _, [], _, [], hW', trodAll_mk1 (shut_bool Try.underlying4 _), (trodAll_cons_mk (Below.trod laidOut (by kernel_rfl) (of_decide_eq_true (by kernel_rfl)) h0 bel lt0) (trodAll_cons_mk (Below.trod laidOut (by kernel_rfl) (of_decide_eq_true (by kernel_rfl)) h1 bel lt1) trodAll_mk0)), rfl, bel.frame _, fun h => by cases h⟩

theorem proved : Rows.BusyLengthsSaid :=
  OpenClaim.holds_of_wide 4 Try.f4 rfl rfl rfl rfl rfl rfl rfl ⟨rfl, rfl, rfl, rfl, rfl⟩ rfl rfl rfl rfl rfl (by kernel_rfl) Try.func4 (by kernel_rfl)
    (of_decide_eq_true (by kernel_rfl)) (by unfold Func.isWrapper; first | (rw [if_pos (by decide +kernel)]; kernel_rfl) | (rw [if_neg (by decide +kernel)]; exact ⟨rfl, rfl⟩))
    (fun os started H enc _ => lifted os started H enc)
#print axioms proved
end Go.Proofs.Ytfnagjfgnbnlbaa.busyLengths
