/- horariumlaw10.DemandPoints answers true at every row of tasks, every row of three numbers and every time: deadlines in a row, and the first time of too much work, are told as the document tells them. No condition. -/
import Derived.Test.YtldaikpchggogaaDmX
import Derived.Deep.DeepCutAuto
import Derived.BigQuiet
namespace Go.Proofs.Ytldaikpchggogaa.demandPoints
open Go.ChangeShapes Go.WideShapes Go.ChangeAt Go.RowKit Go.Joins
set_option maxRecDepth 100000
set_option linter.unusedVariables false
set_option linter.unusedSimpArgs false
open Pm Dm

/-- i tasks were looked at -/
def LgRel (r : List Tk) (w : World) (g : Nat) (s t : Value) (wx : World) : Prop :=
  ∃ (i : Nat) (v : Value) (K : List Tk), i + g = min r.length 5 ∧ t = .int .i64 (i : Int) ∧ v = s ∧ TRow w.heap.size wx v K ∧ K.length ≤ i ∧ Below w.heap.size w wx
set_option maxRecDepth 100000 in
set_option maxHeartbeats 8000000 in
theorem walk (ar : Option Addr) (r : List Tk) (cr : Nat) (ao : Option Addr) (l : List Tri) (cap : Nat) (x : Int) (w : World) (hR : Ts ar r w) (hr : r.length ≤ 9223372036854775807) (hrc : r.length ≤ cr) (hT : Tris ao l w) (hl : l.length ≤ 9223372036854775807) (hok : ∀ x ∈ l, x.Ok) :
    Calls Try.prog 4 #[.slice ar r.length cr, .slice ao l.length cap, .int .i64 x] w fun e w' => e = .returned (.bool true) ∧ Below w.heap.size w w' := by
  have AW := Lib.hid awake_any
  have FE := Lib.hid (fun w => few_any r ar cr w hr hrc)
  have PF := Lib.hid (fun x w h => pointsL_any (r.take 5) ar cr x w h (by rw [List.length_take]; omega))
  have RT := Lib.hid hR
  have R5 := Lib.hid (hR.take 5)
  have MA := Lib.hid (fun w h => made_any l ao cap w h hl hok)
  have TI := Lib.hid hT
  have PM := Lib.hid (fun am cm x w h => pointsL_any (made8 l) am cm x w h (by rw [made8_len]; omega))
  have PK := Lib.hid (fun K am cm x w (h : Ts am K w) (hk : K.length ≤ 5) => pointsL_any K am cm x w h (by omega))
  generalize r.take 5 = r5 at *
  clear hR hT hok hrc
  go_enter Try.func4, Try.ntmps4
  go_wp2_with fail
  (with_reducible refine (AW.out _).mono ?_)
  rintro e w1 ⟨rfl, b1⟩
  have K1 := Lib.hid b1
  have R1 := Lib.hid (RT.out.call b1)
  have M1 := Lib.hid (MA.out _ (TI.out.below b1 (Nat.le_refl _)))
  clear b1 AW RT MA TI
  go_wp2_with fail
  (with_reducible refine (M1.out).mono ?_)
  rintro e w2 ⟨v, rfl, tr, b2⟩
  obtain ⟨am, cm, rfl, -, hts⟩ := tr.form
  have T2 := Lib.hid hts
  have R2 := Lib.hid (R1.out.call b2)
  have K2 := Lib.hid (K1.out.trans (b2.mono K1.out.size))
  have PM2 := Lib.hid (PM.out am cm)
  clear tr hts b2 K1 M1 R1 PM
  generalize made8 l = M at *
  go_wp2_with fail
  go_loopg [9, 10] (min r.length 5) (LgRel r w2)
  case atStart => exact ⟨0, _, [], by omega, rfl, rfl, trow_nil _ _, by simp, Below.refl _ _⟩
  case round =>
    obtain ⟨i, v0, K, hi, rfl, rfl, hK, hKl, hB⟩ := hrel
    have RW := Lib.hid (R2.out.call hB)
    have KB := Lib.hid hB
    have TW := Lib.hid (T2.out.call hB)
    have KR := Lib.hid hK
    clear hB hK
    by_cases hlt : i < r.length ∧ i < 5
    · obtain ⟨h1, h2⟩ := hlt
      obtain ⟨b, off, rfl, hb, hat⟩ := RW.out (by omega)
      have hx := hat i r[i] (List.getElem?_eq_getElem h1)
      have AP := trow_append w2.heap.size wr _ _ r[i] KR.out KB.out.size (by omega)
      have HI := Lib.hid hi
      have HKL := Lib.hid hKl
      have hg0 : 0 < gk := by omega
      have i1 : (i : Int) < (r.length : Int) := by omega
      have i2 : (i : Int) < 5 := by omega
      clear hi hat TW RW PM2 PF FE PK T2 R2 K2 R5
      generalize r[i] = t at *
      obtain ⟨c0, c1, c2, c3, c4⟩ := hx
      obtain ⟨ti, tc, td, tt, tm⟩ := t
      unfold Tk.cs at AP
      simp only at *
      obtain ⟨v', w', hap, hrow, hbw⟩ := AP
      have HRW := Lib.hid hrow
      have HBW := Lib.hid hbw
      clear hrow hbw hKl
      by_cases hl1 : 1048576 ≤ tt
      · have hl2 : tt ≥ 1048576 := hl1
        go_wp2_with (at_builtin; refine Lib.wpList_append_run _ rfl _ _ _ _ rfl _ _ rfl rfl _ _ hap ?_)
        go_roundg (gk - 1)
        case measure => omega
        case rel => exact ⟨i + 1, _, K ++ [⟨ti, tc, td, tt, tm⟩], by have := HI.out; omega, by go_num, rfl, HRW.out, by have := HKL.out; simp; omega, KB.out.trans HBW.out⟩
      · have hl2 : tt < 1048576 := by omega
        clear hl1
        by_cases hl3 : tt < 1
        · go_wp2_with (at_builtin; refine Lib.wpList_append_run _ rfl _ _ _ _ rfl _ _ rfl rfl _ _ hap ?_)
          go_roundg (gk - 1)
          case measure => omega
          case rel => exact ⟨i + 1, _, K ++ [⟨ti, tc, td, tt, tm⟩], by have := HI.out; omega, by go_num, rfl, HRW.out, by have := HKL.out; simp; omega, KB.out.trans HBW.out⟩
        · have hl4 : 1 ≤ tt := by omega
          clear hl3 hap HRW HBW
          go_wp2
          go_roundg (gk - 1)
          case measure => omega
          case rel => exact ⟨i + 1, _, K, by have := HI.out; omega, by go_num, rfl, KR.out, by have := HKL.out; omega, KB.out⟩
    · have hge : (r.length : Int) ≤ (i : Int) ∨ ((i : Int) < (r.length : Int) ∧ (5 : Int) ≤ (i : Int)) := by omega
      have h5 : K.length ≤ 5 := by omega
      obtain ⟨ka, kc, rfl, -, hks⟩ := KR.out.form
      have KS := Lib.hid hks
      have PK2 := Lib.hid (fun x w h => PK.out K ka kc x w h h5)
      have K3 := Lib.hid (K2.out.trans (KB.out.mono K2.out.size))
      have RT := Lib.hid (R5.out.below K3.out (Nat.le_refl _))
      clear hks KR h5 hi hlt RW KB K2 T2 R2 PK hKl
      generalize K.length = kl at *
      obtain ⟨y, hy⟩ : ∃ y, bits .and .i64 x 16777215 = y := ⟨_, rfl⟩
      rcases hge with hge | ⟨hge1, hge2⟩
      · go_wp2_with fail
        (with_reducible refine (PM2.out _ _ TW.out).mono ?_)
        rintro e w4 ⟨rfl, b4⟩
        have K4 := Lib.hid (K3.out.trans (b4.mono K3.out.size))
        have RT4 := Lib.hid (RT.out.call b4)
        have KS4 := Lib.hid (KS.out.call b4)
        clear b4 K3 RT KS TW PM2
        go_wp2_with fail
        (with_reducible refine (FE.out _).mono ?_)
        rintro e w5 ⟨rfl, rfl⟩
        go_wp2_with fail
        (with_reducible refine (PF.out _ _ RT4.out).mono ?_)
        rintro e w6 ⟨rfl, b6⟩
        have K6 := Lib.hid (K4.out.trans (b6.mono K4.out.size))
        have KS6 := Lib.hid (KS4.out.call b6)
        clear b6 K4 RT4 KS4 PF FE
        go_wp2_with fail
        (with_reducible refine (PK2.out _ _ KS6.out).mono ?_)
        rintro e w7 ⟨rfl, b7⟩
        have K7 := Lib.hid (K6.out.trans (b7.mono K6.out.size))
        clear b7 K6 KS6 PK2
        go_wp2
        go_ret
        exact ⟨rfl, K7.out⟩
      · go_wp2_with fail
        (with_reducible refine (PM2.out _ _ TW.out).mono ?_)
        rintro e w4 ⟨rfl, b4⟩
        have K4 := Lib.hid (K3.out.trans (b4.mono K3.out.size))
        have RT4 := Lib.hid (RT.out.call b4)
        have KS4 := Lib.hid (KS.out.call b4)
        clear b4 K3 RT KS TW PM2
        go_wp2_with fail
        (with_reducible refine (FE.out _).mono ?_)
        rintro e w5 ⟨rfl, rfl⟩
        go_wp2_with fail
        (with_reducible refine (PF.out _ _ RT4.out).mono ?_)
        rintro e w6 ⟨rfl, b6⟩
        have K6 := Lib.hid (K4.out.trans (b6.mono K4.out.size))
        have KS6 := Lib.hid (KS4.out.call b6)
        clear b6 K4 RT4 KS4 PF FE
        go_wp2_with fail
        (with_reducible refine (PK2.out _ _ KS6.out).mono ?_)
        rintro e w7 ⟨rfl, b7⟩
        have K7 := Lib.hid (K6.out.trans (b7.mono K6.out.size))
        clear b7 K6 KS6 PK2
        go_wp2
        go_ret
        exact ⟨rfl, K7.out⟩

set_option maxRecDepth 100000 in
set_option maxHeartbeats 1600000 in
theorem lifted (os : Os) (started : os.Started) (H : Type) (enc : TypeId × Value → H) :
    ReturnsInHanded {} Try.checked os 4 .any (Rows.demandPointsSpec.pre6 enc Try.prog Try.f4 Rows.demandPointsRow.domain false) (Rows.demandPointsSpec.post enc Try.prog Try.f4 false true false false) := by
  refine returnsInHanded_of_change (C := Try.checked) own started (by kernel_rfl) Try.func4
    (ChangeSpec.witness6 (enc := enc) (C := Try.checked) false ⟨#[], #[.slice none 0 0, .slice none 0 0, .int .i64 0], []⟩ 8 (by kernel_rfl) (by kernel_rfl) (by kernel_rfl) (by kernel_rfl)) ?_
  intro W base args ds gs before hval0 hW hcnd _
  have hval : ∀ (j : Nat) t v, Try.f4.params[j]? = some t → args[j]? = some v → Value.okWide Try.prog W .any base t v := hval0
  have hW' := hW
  obtain ⟨p, q, hA0, hV, rfl, hfz, hnd⟩ := hW
  have hA : DataW.TrodAll enc Try.prog W 0 (fun _ => true) true Try.f4.params.toList args.toList ds p := hA0
  rw [Try.params4] at hA hval
  obtain ⟨v0, vs0, d0, ds0, p0, q0, hargs, rfl, rfl, h0, r0⟩ := trodAll_cons hA
  obtain ⟨v1, vs1, d1, ds1, p1, q1, rfl, rfl, rfl, h1, r1⟩ := trodAll_cons r0
  obtain ⟨v2, vs2, d2, ds2, p2, q2, rfl, rfl, rfl, h2, r2⟩ := trodAll_cons r1
  obtain ⟨rfl, rfl, rfl⟩ := trodAll_nil r2
  obtain rfl : args = #[v0, v1, v2] := by cases args; simp_all
  obtain ⟨rfl, rfl⟩ := trodVars_none hV
  have lt0 : ∀ x ∈ p0, x.block < W.heap.size := by obtain ⟨m, hm⟩ := h0; exact DataW.trod_lt m _ _ _ hm
  obtain ⟨aor, lr, capr, rfl, ler, lcr, var, okr⟩ := open_tasks (hval 0 22 v0 rfl rfl) h0
  have lt1 : ∀ x ∈ p1, x.block < W.heap.size := by obtain ⟨m, hm⟩ := h1; exact DataW.trod_lt m _ _ _ hm
  obtain ⟨aol, ll, capl, rfl, lel, val, okl⟩ := open_tris (hval 1 23 v1 rfl rfl) h1
  have lt2 : ∀ x ∈ p2, x.block < W.heap.size := by obtain ⟨m, hm⟩ := h2; exact DataW.trod_lt m _ _ _ hm
  obtain ⟨x, e2, -, -, wfx⟩ := open_int Try.underlying2 (hval 2 2 v2 rfl rfl) h2
  subst e2
  clear hA0 hval0
  refine (walk aor lr capr aol ll capl x W var ler lcr val lel okl).mono fun e W' ⟨he, bel⟩ => ?_
  subst he
  exact ⟨_, rfl, _, _, _, [], _, [], hW', trodAll_mk1 (shut_bool Try.underlying4 _), (trodAll_cons_mk (Below.trod laidOut (by kernel_rfl) (of_decide_eq_true (by kernel_rfl)) h0 bel lt0) (trodAll_cons_mk (Below.trod laidOut (by kernel_rfl) (of_decide_eq_true (by kernel_rfl)) h1 bel lt1) (trodAll_cons_mk (Below.trod laidOut (by kernel_rfl) (of_decide_eq_true (by kernel_rfl)) h2 bel lt2) trodAll_mk0))), rfl, bel.frame _, fun h => by cases h⟩

theorem proved : Rows.DemandPointsSaid :=
  OpenClaim.holds_of_wide 4 Try.f4 rfl rfl rfl rfl rfl rfl rfl ⟨rfl, rfl, rfl, rfl, rfl⟩ rfl rfl rfl rfl rfl (by kernel_rfl) Try.func4 (by kernel_rfl)
    (of_decide_eq_true (by kernel_rfl)) (by unfold Func.isWrapper; first | (rw [if_pos (by decide +kernel)]; kernel_rfl) | (rw [if_neg (by decide +kernel)]; exact ⟨rfl, rfl⟩))
    (fun os started H enc _ => lifted os started H enc)
#print axioms proved
end Go.Proofs.Ytldaikpchggogaa.demandPoints
