/- horariumlaw10.DemandFirst answers true at every row of three numbers: the first time of too much work is one, and no time ahead of it is. No condition. -/
import Derived.Test.YtldaikpchggogaaDmW
import Derived.Test.YtldaikpchggogaaDmK
import Derived.Deep.DeepCutAuto
import Derived.BigQuiet
namespace Go.Proofs.Ytldaikpchggogaa.demandFirst
open Go.ChangeShapes Go.WideShapes Go.ChangeAt Go.RowKit Go.Joins
set_option maxRecDepth 100000
set_option linter.unusedVariables false
set_option linter.unusedSimpArgs false
open Pm Dm

theorem ofR_sum {T : List Tk} {x : Int} (hr : rowB T = true) (h : isTime x = true) : ofR T x = sum T x := by rw [ofR_yes hr, sumR_sum h (rowB_all hr)]
theorem firstO_firsts {T : List Tk} (hr : rowB T = true) : ∀ {ps : List Int}, (∀ p ∈ ps, isTime p = true) → firstO T ps = firsts T ps := by
  intro ps
  induction ps with
  | nil => intro _; rfl
  | cons p ps ih =>
    intro h
    rw [firstO, firsts, ofR_sum hr (h p (by simp)), ih (fun q hq => h q (by simp [hq]))]
/-- what the law asks of a row of tasks -/
theorem ask {T : List Tk} (h8 : T.length ≤ 8) (hT : ∀ t ∈ T, chk t = true) : (firstR T 400 = none ∧ ∀ x, 1 ≤ x → x ≤ 400 → ofR T x ≤ x) ∨ ∃ a, firstR T 400 = some a ∧ 1 ≤ a ∧ a ≤ 400 ∧ a < ofR T a ∧ ∀ x, 1 ≤ x → x < a → ofR T x ≤ x := by
  have hr : rowB T = true := rowB_yes (by omega) hT
  have hpos : ∀ t ∈ T, 0 < t.t := fun t ht => by have := chk_iff.1 (hT t ht); omega
  have hpos3 : ∀ t ∈ T, 0 < t.t ∧ 0 < t.c ∧ 0 < t.d := fun t ht => by have := chk_iff.1 (hT t ht); omega
  have i4 : isTime 400 = true := isTime_iff.2 ⟨by omega, by omega⟩
  have e : ptsR T 400 = pts T 400 4096 0 := by unfold ptsR; rw [if_pos i4]
  have hall := fun t ht y hd h0 h1 => pts_all hr (most := 400) (by omega) hpos (n := 4096) (x := 0) (by omega) (by omega) (by omega) t ht y hd h0 h1
  have hmem := fun y (hy : y ∈ pts T 400 4096 0) => pts_mem hpos hy
  have hrise := pts_rise (l := T) (most := 400) hpos (n := 4096) (x := 0)
  unfold firstR
  rw [e, firstO_firsts hr (fun p hp => by have := hmem p hp; exact isTime_iff.2 ⟨by omega, by omega⟩)]
  cases hf : firsts T (pts T 400 4096 0) with
  | none =>
    left
    refine ⟨rfl, fun x h0 h1 => ?_⟩
    rw [ofR_sum hr (isTime_iff.2 ⟨by omega, by omega⟩)]
    have hn := firsts_none hf
    have := calm hpos3 400 (fun y hy0 hy1 ⟨t, ht, hd⟩ => hn y (hall t ht y hd (by omega) hy1)) x.toNat (by omega)
    rw [show ((x.toNat : Nat) : Int) = x by omega] at this
    exact this
  | some a =>
    right
    obtain ⟨h1, h2, h3⟩ := firsts_some hrise hf
    have hm := hmem a h1
    refine ⟨a, rfl, by omega, by omega, ?_, fun x h0 h4 => ?_⟩
    · rw [ofR_sum hr (isTime_iff.2 ⟨by omega, by omega⟩)]; exact h2
    · rw [ofR_sum hr (isTime_iff.2 ⟨by omega, by omega⟩)]
      have := calm hpos3 (a - 1) (fun y hy0 hy1 ⟨t, ht, hd⟩ => h3 y (hall t ht y hd (by omega) (by omega)) (by omega)) x.toNat (by omega)
      rw [show ((x.toNat : Nat) : Int) = x by omega] at this
      exact this
def FrRel (W : World) (g : Nat) (s : Value) (wx : World) : Prop := ∃ x : Int, x + g = 401 ∧ 1 ≤ x ∧ s = .int .i64 x ∧ Below W.heap.size W wx
def FaRel (a : Int) (W : World) (g : Nat) (s : Value) (wx : World) : Prop := ∃ x : Int, x + g = 401 ∧ 1 ≤ x ∧ x ≤ a ∧ s = .int .i64 x ∧ Below W.heap.size W wx
set_option maxRecDepth 100000 in
set_option maxHeartbeats 8000000 in
theorem walk (l : List Tri) (ao : Option Addr) (cap : Nat) (w : World) (hT : Tris ao l w) (hl : l.length ≤ 9223372036854775807) (hok : ∀ x ∈ l, x.Ok) :
    Calls Try.prog 7 #[.slice ao l.length cap] w fun e w' => e = .returned (.bool true) ∧ Below w.heap.size w w' := by
  have AW := Lib.hid awake_any
  have MA := Lib.hid (fun w h => made_any l ao cap w h hl hok)
  have TI := Lib.hid hT
  have hml := made8_len l
  have AS := ask (T := made8 l) (by omega) (fun t h => (made8_mem h).1)
  have FI := Lib.hid (fun am cm w h => first_any (made8 l) am cm 400 w h (by omega))
  have OF := Lib.hid (fun am cm x w h => of_any (made8 l) am cm x w h (by omega))
  clear hT hok hml
  go_enter Try.func7, Try.ntmps7
  go_wp2_with fail
  (with_reducible refine (AW.out _).mono ?_)
  rintro e w1 ⟨rfl, b1⟩
  have M1 := Lib.hid (MA.out _ (TI.out.below b1 (Nat.le_refl _)))
  have K1 := Lib.hid b1
  clear b1 MA AW TI
  go_wp2_with fail
  (with_reducible refine (M1.out).mono ?_)
  rintro e w2 ⟨v, rfl, tr, b2⟩
  obtain ⟨am, cm, rfl, -, hts⟩ := tr.form
  have K2 := Lib.hid (K1.out.trans (b2.mono K1.out.size))
  have F2 := Lib.hid (FI.out am cm w2 hts)
  have T2 := Lib.hid hts
  have O2 := Lib.hid (OF.out am cm)
  clear tr hts b2 K1 M1 FI OF
  generalize made8 l = T at *
  generalize firstR T 400 = n at *
  generalize hO : ofR T = O at *
  clear hO
  rcases AS with ⟨rfl, hc⟩ | ⟨a, rfl, ha1, ha2, ha3, hc⟩
  · unfold ans at F2
    simp only at F2
    have HC := Lib.hid hc
    clear hc
    go_wp2_with fail
    (with_reducible refine (F2.out).mono ?_)
    rintro e w3 ⟨rfl, b3⟩
    have T3 := Lib.hid (T2.out.call b3)
    have K3 := Lib.hid (K2.out.trans (b3.mono K2.out.size))
    clear b3 T2 K2 F2
    go_wp2_with fail
    go_loopg [7] 400 (FrRel w3)
    case atStart => exact ⟨1, by omega, by omega, rfl, Below.refl _ _⟩
    case round =>
      obtain ⟨x, hg, hx, rfl, hB⟩ := hrel
      have KB := Lib.hid hB
      have ON := Lib.hid (O2.out x wr (T3.out.call hB))
      clear hB
      by_cases h4 : x ≤ 400
      · have hle := HC.out x hx h4
        clear HC O2
        generalize O x = o at *
        have h5 : ¬ x < o := by omega
        go_wp2_with fail
        (with_reducible refine (ON.out).mono ?_)
        rintro e w4 ⟨rfl, b4⟩
        have K4 := Lib.hid (KB.out.trans (b4.mono KB.out.size))
        clear b4 KB ON
        go_wp2
        go_roundg (gk - 1)
        case measure => omega
        case rel => exact ⟨x + 1, by omega, by omega, by go_num, K4.out⟩
      · have h5 : 400 < x := by omega
        have K4 := Lib.hid (K3.out.trans (KB.out.mono K3.out.size))
        clear h4 HC O2 ON KB
        go_wp2
        go_ret
        exact ⟨rfl, K4.out⟩
  · unfold ans at F2
    simp only at F2
    have HC := Lib.hid hc
    have HA := Lib.hid ha3
    clear hc ha3
    go_wp2_with fail
    (with_reducible refine (F2.out).mono ?_)
    rintro e w3 ⟨rfl, b3⟩
    have T3 := Lib.hid (T2.out.call b3)
    have K3 := Lib.hid (K2.out.trans (b3.mono K2.out.size))
    clear b3 T2 K2 F2
    go_wp2_with fail
    go_loopg [7] 400 (FaRel a w3)
    case atStart => exact ⟨1, by omega, by omega, ha1, rfl, Below.refl _ _⟩
    case round =>
      obtain ⟨x, hg, hx, hxa, rfl, hB⟩ := hrel
      have KB := Lib.hid hB
      have ON := Lib.hid (O2.out x wr (T3.out.call hB))
      clear hB
      have h4 : x ≤ 400 := by omega
      by_cases he : x = a
      · subst he
        have hlt := HA.out
        clear HA HC O2
        generalize O x = o at *
        have h6 : decide (o > x) = true := decide_eq_true hlt
        have h7 : o > x := hlt
        go_wp2_with fail
        (with_reducible refine (ON.out).mono ?_)
        rintro e w4 ⟨rfl, b4⟩
        have K4 := Lib.hid (K3.out.trans ((KB.out.trans (b4.mono KB.out.size)).mono K3.out.size))
        clear b4 KB ON
        go_wp2
        go_ret
        exact ⟨rfl, K4.out⟩
      · have hle := HC.out x hx (by omega)
        have hb : (x == a) = false := beq_eq_false_iff_ne.2 he
        clear HC O2 HA
        generalize O x = o at *
        have h5 : ¬ x < o := by omega
        have h8 : x < a := by omega
        clear he
        go_wp2_with fail
        (with_reducible refine (ON.out).mono ?_)
        rintro e w4 ⟨rfl, b4⟩
        have K4 := Lib.hid (KB.out.trans (b4.mono KB.out.size))
        clear b4 KB ON
        go_wp2
        go_roundg (gk - 1)
        case measure => omega
        case rel => exact ⟨x + 1, by omega, by omega, by omega, by go_num, K4.out⟩

set_option maxRecDepth 100000 in
set_option maxHeartbeats 1600000 in
theorem lifted (os : Os) (started : os.Started) (H : Type) (enc : TypeId × Value → H) :
    ReturnsInHanded {} Try.checked os 7 .any (Rows.demandFirstSpec.pre6 enc Try.prog Try.f7 Rows.demandFirstRow.domain false) (Rows.demandFirstSpec.post enc Try.prog Try.f7 false true false false) := by
  refine returnsInHanded_of_change (C := Try.checked) own started (by kernel_rfl) Try.func7
    (ChangeSpec.witness6 (enc := enc) (C := Try.checked) false ⟨#[], #[.slice none 0 0], []⟩ 8 (by kernel_rfl) (by kernel_rfl) (by kernel_rfl) (by kernel_rfl)) ?_
  intro W base args ds gs before hval0 hW hcnd _
  have hval : ∀ (j : Nat) t v, Try.f7.params[j]? = some t → args[j]? = some v → Value.okWide Try.prog W .any base t v := hval0
  have hW' := hW
  obtain ⟨p, q, hA0, hV, rfl, hfz, hnd⟩ := hW
  have hA : DataW.TrodAll enc Try.prog W 0 (fun _ => true) true Try.f7.params.toList args.toList ds p := hA0
  rw [Try.params7] at hA hval
  obtain ⟨v0, vs0, d0, ds0, p0, q0, hargs, rfl, rfl, h0, r0⟩ := trodAll_cons hA
  obtain ⟨rfl, rfl, rfl⟩ := trodAll_nil r0
  obtain rfl : args = #[v0] := by cases args; simp_all
  obtain ⟨rfl, rfl⟩ := trodVars_none hV
  have lt0 : ∀ x ∈ p0, x.block < W.heap.size := by obtain ⟨m, hm⟩ := h0; exact DataW.trod_lt m _ _ _ hm
  obtain ⟨aol, ll, capl, rfl, lel, val, okl⟩ := open_tris (hval 0 23 v0 rfl rfl) h0
  clear hA0 hval0
  refine (walk ll aol capl W val lel okl).mono fun e W' ⟨he, bel⟩ => ?_
  subst he
  exact ⟨_, rfl, _, _, _, [], _, [], hW', trodAll_mk1 (shut_bool Try.underlying4 _), (trodAll_cons_mk (Below.trod laidOut (by kernel_rfl) (of_decide_eq_true (by kernel_rfl)) h0 bel lt0) trodAll_mk0), rfl, bel.frame _, fun h => by cases h⟩

theorem proved : Rows.DemandFirstSaid :=
  OpenClaim.holds_of_wide 7 Try.f7 rfl rfl rfl rfl rfl rfl rfl ⟨rfl, rfl, rfl, rfl, rfl⟩ rfl rfl rfl rfl rfl (by kernel_rfl) Try.func7 (by kernel_rfl)
    (of_decide_eq_true (by kernel_rfl)) (by unfold Func.isWrapper; first | (rw [if_pos (by decide +kernel)]; kernel_rfl) | (rw [if_neg (by decide +kernel)]; exact ⟨rfl, rfl⟩))
    (fun os started H enc _ => lifted os started H enc)
#print axioms proved
end Go.Proofs.Ytldaikpchggogaa.demandFirst
