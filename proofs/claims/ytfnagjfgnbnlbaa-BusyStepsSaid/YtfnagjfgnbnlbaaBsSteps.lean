/- horariumlaw11.BusySteps answers true at every row of three numbers: steps rise to the length, and each is the work of the one ahead of it. No condition. -/
import Derived.Test.YtfnagjfgnbnlbaaBsN
import Derived.Deep.DeepCutAuto
import Derived.Deep.RegionHeld3
import Derived.BigQuiet
namespace Go.Proofs.Ytfnagjfgnbnlbaa.busySteps
open Go.ChangeShapes Go.WideShapes Go.ChangeAt Go.RowKit Go.Joins
set_option maxRecDepth 100000
set_option linter.unusedVariables false
set_option linter.unusedSimpArgs false
open Pm Bs

def SsRel (J : Nat) (W : World) (g : Nat) (s : Value) (wx : World) : Prop := ∃ j : Nat, j + g = J ∧ s = .int .i64 ((j : Int) + 1) ∧ Below W.heap.size W wx
theorem two_call {W0 w1 w' : World} {b o1 o2 : Nat} {am : Option Addr} {T : List Tk} {y z : Value} (h : w1.cell? ⟨b, o1, none⟩ = some y ∧ w1.cell? ⟨b, o2, none⟩ = some z ∧ Ts am T w1 ∧ Below W0.heap.size W0 w1) (hb : Below w1.heap.size w1 w') : w'.cell? ⟨b, o1, none⟩ = some y ∧ w'.cell? ⟨b, o2, none⟩ = some z ∧ Ts am T w' ∧ Below W0.heap.size W0 w' := by
  obtain ⟨a0, a1, a2, k⟩ := h
  exact ⟨carry hb a0, carry hb a1, a2.call hb, k.trans (hb.mono k.size)⟩
theorem two_drew {W0 w1 : World} {b o1 o2 : Nat} {am : Option Addr} {T : List Tk} {y z : Value} (h : w1.cell? ⟨b, o1, none⟩ = some y ∧ w1.cell? ⟨b, o2, none⟩ = some z ∧ Ts am T w1 ∧ Below W0.heap.size W0 w1) : w1.drew.cell? ⟨b, o1, none⟩ = some y ∧ w1.drew.cell? ⟨b, o2, none⟩ = some z ∧ Ts am T w1.drew ∧ Below W0.heap.size W0 w1.drew := two_call h ((Below.refl _ _).drew)
theorem one_call {W0 w1 w' : World} {b o1 : Nat} {am : Option Addr} {T : List Tk} {y : Value} (h : w1.cell? ⟨b, o1, none⟩ = some y ∧ Ts am T w1 ∧ Below W0.heap.size W0 w1) (hb : Below w1.heap.size w1 w') : w'.cell? ⟨b, o1, none⟩ = some y ∧ Ts am T w' ∧ Below W0.heap.size W0 w' := by
  obtain ⟨a0, a2, k⟩ := h
  exact ⟨carry hb a0, a2.call hb, k.trans (hb.mono k.size)⟩
theorem one_drew {W0 w1 : World} {b o1 : Nat} {am : Option Addr} {T : List Tk} {y : Value} (h : w1.cell? ⟨b, o1, none⟩ = some y ∧ Ts am T w1 ∧ Below W0.heap.size W0 w1) : w1.drew.cell? ⟨b, o1, none⟩ = some y ∧ Ts am T w1.drew ∧ Below W0.heap.size W0 w1.drew := one_call h ((Below.refl _ _).drew)
set_option maxRecDepth 100000 in
set_option maxHeartbeats 8000000 in
theorem walk (l : List Tri) (ao : Option Addr) (cap : Nat) (w : World) (hT : Tris ao l w) (hl : l.length ≤ 9223372036854775807) (hok : ∀ x ∈ l, x.Ok) :
    Calls Try.prog 7 #[.slice ao l.length cap] w fun e w' => e = .returned (.bool true) ∧ Below w.heap.size w w' := by
  have AW := Lib.hid awake_any
  have MA := Lib.hid (fun w h => made_any l ao cap w h hl hok)
  have TI := Lib.hid hT
  have hml := made8_len l
  have LE := Lib.hid (fun am cm w h => length_any (made8 l) am cm w h (by omega))
  have SP := Lib.hid (fun am cm w h => bsteps_any (made8 l) am cm w h (by omega))
  have WK := Lib.hid (fun am cm x w h => work_any (made8 l) am cm x w h (by omega))
  have ST := Lib.hid (fun r (h : StepsOf (made8 l) r) => steps_stp h)
  have NE : Hid (made8 l = [] → (made8 l).length = 0) := Lib.hid (fun h => by rw [h]; rfl)
  clear hT hok hml
  generalize made8 l = T at *
  generalize lengthR T = z at *
  obtain ⟨n, e⟩ := z
  simp only at *
  go_enter Try.func7, Try.ntmps7
  go_wp2_with fail
  (with_reducible refine (AW.out _).mono ?_)
  rintro e w1 ⟨rfl, b1⟩
  have M1 := Lib.hid (MA.out _ (TI.out.below b1 (Nat.le_refl _)))
  have K1 := Lib.hid b1
  clear b1 MA AW TI
  go_wp2_with fail
  (with_reducible refine (M1.out).mono ?_)
  rintro e w2 ⟨v, rfl, tr, b2⟩
  obtain ⟨am, cm, rfl, hcm, hts⟩ := tr.form
  have T2 := Lib.hid hts
  have K2 := Lib.hid (K1.out.trans (b2.mono K1.out.size))
  clear tr hts b2 K1 M1
  have LE2 := Lib.hid (LE.out am cm)
  have SP2 := Lib.hid (SP.out am cm)
  have WK2 := Lib.hid (WK.out am cm)
  clear LE SP WK
  go_wp2_with fail
  (with_reducible refine (SP2.out _ T2.out).mono ?_)
  rintro e3 w3 ⟨v, r, rfl, nr, so, b3⟩
  have T3 := Lib.hid (T2.out.call b3)
  have K3 := Lib.hid (K2.out.trans (b3.mono K2.out.size))
  obtain ⟨pa, pc, rfl, -, ns⟩ := nr.form
  have NS := Lib.hid ns
  have SO := Lib.hid (ST.out r so)
  clear b3 T2 K2 SP2 ns nr so ST
  go_wp2_with fail
  (with_reducible refine (LE2.out _ T3.out).mono ?_)
  rintro e4 w4 ⟨rfl, b4⟩
  have T4 := Lib.hid (T3.out.call b4)
  have K4 := Lib.hid (K3.out.trans (b4.mono K3.out.size))
  have NS4 := Lib.hid (NS.out.call b4)
  clear b4 T3 K3 LE2 NS
  rcases SO.out with ⟨he, rfl⟩ | ⟨he, hne, sp⟩
  · have er : ([] : List Int).length = 0 := rfl
    rw [er]
    clear NS4 WK2 T4 SO er
    by_cases h0 : e = 0
    · have hT0 : T.length = 0 := by
        rcases he with he | he
        · exact absurd h0 he
        · exact NE.out he
      have e0 : ((T.length : Int) == 0) = true := by rw [hT0]; rfl
      subst h0
      clear he hT0 NE
      generalize T.length = ln at *
      go_wp2
      go_ret
      exact ⟨rfl, K4.out⟩
    · have q1 : (e != 0) = true := by simpa using h0
      have q2 : (e == 0) = false := by simpa using h0
      clear he NE h0
      go_wp2
      go_ret
      exact ⟨rfl, K4.out⟩
  · subst he
    obtain ⟨pos, many, m1, one, last, pair, mem⟩ := sp
    have M1 : Hid (∀ i y, r[i]? = some y → 1 ≤ y ∧ y ≤ n) := Lib.hid (fun i y h => mem y (List.mem_of_getElem? h))
    have PR := Lib.hid pair
    have ON := Lib.hid one
    have LA := Lib.hid last
    have hlen0 : 0 < r.length := by omega
    obtain ⟨b, off, rfl, hb, hat⟩ := NS4.out hlen0
    have AT := Lib.hid hat
    obtain ⟨J, hJ⟩ : ∃ J, r.length = J + 1 := ⟨r.length - 1, by omega⟩
    have GE : Hid (∀ i, i < J + 1 → ∃ y, r[i]? = some y) := Lib.hid (fun i h => ⟨r[i], List.getElem?_eq_getElem (by omega)⟩)
    have lj : r[J]? = some n := by have h := LA.out; rw [hJ] at h; exact h
    have cJ := AT.out J n lj
    have hJm : J ≤ 1048575 := by omega
    rw [hJ]
    clear mem pair one last hne SO NE hat hlen0 pos many hb NS4 lj LA hJ
    have q1 : (n != n) = false := by simp
    go_wp2_with fail
    clear cJ
    generalize hR : J + 1 = R at *
    have HR := Lib.hid hR
    clear hR
    go_loopg [8] J (SsRel J w4)
    case atStart => exact ⟨0, by omega, rfl, Below.refl _ _⟩
    case round =>
      obtain ⟨j, hj, rfl, hB⟩ := hrel
      have TW := Lib.hid (T4.out.call hB)
      have KB := Lib.hid hB
      clear hB
      by_cases hlt : j < J
      · obtain ⟨y, hy⟩ := GE.out j (by have := HR.out; omega)
        obtain ⟨z, hz⟩ := GE.out (j + 1) (by have := HR.out; omega)
        obtain ⟨p1, p2⟩ := PR.out j y z hy hz
        have cy := carry KB.out (AT.out j y hy)
        have cz := carry KB.out (AT.out (j + 1) z hz)
        have WQ := Lib.hid (fun w h => WK2.out y w h)
        rw [← p2] at WQ
        have hg0 : 0 < gk := by omega
        have HI := Lib.hid hj
        have F0 : Hid (wr.cell? ⟨b, off + j, none⟩ = some (.int .i64 y) ∧ wr.cell? ⟨b, off + (j + 1), none⟩ = some (.int .i64 z) ∧ Ts am T wr ∧ Below w4.heap.size w4 wr) := Lib.hid ⟨cy, cz, TW.out, KB.out⟩
        have F1 := Lib.hid (two_drew F0.out)
        have hr1 := HR.out
        have i1 : (j : Int) + 1 < (R : Int) := by omega
        have i2 : (j : Int) < (R : Int) := by omega
        have i5 : (0 : Int) ≤ (j : Int) + 1 := by omega
        clear hr1
        have i3 : (0 : Int) ≤ (j : Int) := by omega
        have i4 : (j : Int) < (J : Int) := by omega
        have ww0 : IntKind.i64.wrap (j : Int) = (j : Int) := wrap_in (by omega) (by omega)
        have d1 : decide (z ≤ y) = false := decide_eq_false (by omega)
        have q2 : (z != z) = false := by simp
        clear hy hz p1 p2 hj WK2 GE PR M1 AT TW KB
        go_wp2_with fail
        go_region_held3 (fun w' => w'.cell? ⟨b, off + j, none⟩ = some (.int .i64 y) ∧ w'.cell? ⟨b, off + (j + 1), none⟩ = some (.int .i64 z) ∧ Ts am T w' ∧ Below w4.heap.size w4 w') (first | exact F0.out | exact F1.out | assumption) (first
          | (go_at_call 16; (with_reducible refine (WQ.out _ (by first | exact F1.out.2.2.1 | exact F0.out.2.2.1)).mono ?_); rintro e w5 ⟨rfl, b5⟩; (have f5 := (by first | exact two_call F1.out b5 | exact two_call F0.out b5 : w5.cell? ⟨b, off + j, none⟩ = some (.int .i64 y) ∧ w5.cell? ⟨b, off + (j + 1), none⟩ = some (.int .i64 z) ∧ Ts am T w5 ∧ Below w4.heap.size w4 w5)))
          | fail)
        all_goals
          have BK := Lib.hid f5.2.2.2
          clear f5 F0 F1 cy cz
          go_wp2
          go_roundg (gk - 1)
          case measure => omega
          case rel => exact ⟨j + 1, by have := HI.out; omega, by go_num, BK.out⟩
      · have hge : (R : Int) ≤ (j : Int) + 1 := by have := HR.out; omega
        have hR0 : 0 < R := by have := HR.out; omega
        have c0 := carry KB.out (AT.out 0 _ ON.out)
        have WQ := Lib.hid (fun w h => WK2.out 1 w h)
        generalize workR T 1 = a at *
        have c0' : wr.cell? ⟨b, off, none⟩ = some (.int .i64 a) := c0
        have F0 : Hid (wr.cell? ⟨b, off, none⟩ = some (.int .i64 a) ∧ Ts am T wr ∧ Below w4.heap.size w4 wr) := Lib.hid ⟨c0', TW.out, KB.out⟩
        have F1 := Lib.hid (one_drew F0.out)
        have PB : Hid (∀ W, Below w4.heap.size w4 W → Below w.heap.size w W) := Lib.hid (fun W h => K4.out.trans (h.mono K4.out.size))
        have q2 : (a == a) = true := by simp
        clear hlt hj c0 WK2 GE PR M1 AT TW KB ON T4
        go_wp2_with fail
        go_region_held3 (fun w' => w'.cell? ⟨b, off, none⟩ = some (.int .i64 a) ∧ Ts am T w' ∧ Below w4.heap.size w4 w') (first | exact F0.out | exact F1.out | assumption) (first
          | (go_at_call 16; (with_reducible refine (WQ.out _ (by first | exact F1.out.2.1 | exact F0.out.2.1)).mono ?_); rintro e w5 ⟨rfl, b5⟩; (have f5 := (by first | exact one_call F1.out b5 | exact one_call F0.out b5 : w5.cell? ⟨b, off, none⟩ = some (.int .i64 a) ∧ Ts am T w5 ∧ Below w4.heap.size w4 w5)))
          | fail)
        all_goals
          have BK := Lib.hid (PB.out _ f5.2.2)
          clear f5 F0 F1 c0'
          go_wp2
          go_ret
          exact ⟨rfl, BK.out⟩

set_option maxRecDepth 100000 in
set_option maxHeartbeats 1600000 in
theorem lifted (os : Os) (started : os.Started) (H : Type) (enc : TypeId × Value → H) :
    ReturnsInHanded {} Try.checked os 7 .any (Rows.busyStepsSpec.pre6 enc Try.prog Try.f7 Rows.busyStepsRow.domain false) (Rows.busyStepsSpec.post enc Try.prog Try.f7 false true false false) := by
  refine returnsInHanded_of_change (C := Try.checked) own started (by kernel_rfl) Try.func7
    (ChangeSpec.witness6 (enc := enc) (C := Try.checked) false ⟨#[], #[.slice none 0 0], []⟩ 8 (by kernel_rfl) (by kernel_rfl) (by kernel_rfl) (by kernel_rfl)) ?_
  intro W base args ds gs before hval0 hW hcnd _
  have hval : ∀ (j : Nat) t v, Try.f7.params[j]? = some t → args[j]? = some v → Value.okWide Try.prog W .any base t v := hval0
  have hW' := hW
  obtain ⟨p, q, hA0, hV, rfl, hfz, hnd⟩ := hW
  have hA : DataW.TrodAll enc Try.prog W 0 (fun _ => true) true Try.f7.params.toList args.toList ds p := hA0
  rw [Try.params7] at hA hval
  obtain ⟨v0, vs0, d0, ds0, p0, q0, hargs, rfl, rfl, h0, r0⟩ := trodAll_cons hA
  obtain ⟨rfl, rfl, rfl⟩ := trodAll_nil r0
  obtain rfl : args = #[v0] := by cases args; simp_all
  obtain ⟨rfl, rfl⟩ := trodVars_none hV
  have lt0 : ∀ x ∈ p0, x.block < W.heap.size := by obtain ⟨m, hm⟩ := h0; exact DataW.trod_lt m _ _ _ hm
  obtain ⟨aol, ll, capl, rfl, lel, val, okl⟩ := open_tris (hval 0 23 v0 rfl rfl) h0
  clear hA0 hval0
  refine (walk ll aol capl W val lel okl).mono fun e W' ⟨he, bel⟩ => ?_
  subst he
  exact ⟨_, rfl, _, _, _, [], _, [], hW', trodAll_mk1 (shut_bool Try.underlying4 _), (trodAll_cons_mk (Below.trod laidOut (by kernel_rfl) (of_decide_eq_true (by kernel_rfl)) h0 bel lt0) trodAll_mk0), rfl, bel.frame _, fun h => by cases h⟩

theorem proved : Rows.BusyStepsSaid :=
  OpenClaim.holds_of_wide 7 Try.f7 rfl rfl rfl rfl rfl rfl rfl ⟨rfl, rfl, rfl, rfl, rfl⟩ rfl rfl rfl rfl rfl (by kernel_rfl) Try.func7 (by kernel_rfl)
    (of_decide_eq_true (by kernel_rfl)) (by unfold Func.isWrapper; first | (rw [if_pos (by decide +kernel)]; kernel_rfl) | (rw [if_neg (by decide +kernel)]; exact ⟨rfl, rfl⟩))
    (fun os started H enc _ => lifted os started H enc)
#print axioms proved
end Go.Proofs.Ytfnagjfgnbnlbaa.busySteps
