/- horariumlaw16.HeapLists answers true at every row of numbers: to list, and to look, changes nothing. No condition. -/
import Derived.Test.YtphnabnpapdpeaaHpK
namespace Go.Proofs.Ytphnabnpapdpeaa.heapLists
open Go.ChangeShapes Go.WideShapes Go.ChangeAt Go.RowKit Go.Joins
set_option maxRecDepth 100000
set_option linter.unusedVariables false
set_option linter.unusedSimpArgs false
open Hp
/-- i numbers were put -/
def LsRel (l : List Int) (w : World) (B b : Nat) (m : Nat) (s5 : Value) (wr : World) : Prop :=
  ∃ (i : Nat) (r : Option Nat) (s : List Int), i + m = min l.length 40 ∧ s5 = .int .i64 (i : Int) ∧ Hq B wr b r s ∧ s.length = i ∧ Below w.heap.size w wr ∧ B ≤ wr.heap.size
def LkRel (n : Nat) (W : World) (m : Nat) (s11 : Value) (wr : World) : Prop := ∃ j : Nat, j + m = n ∧ s11 = .int .i64 ((j : Int) + 1) ∧ Qt W wr
theorem srt_adj {s : List Int} (h : Srt ltI s) {k : Nat} {x y : Int} (hx : s[k]? = some x) (hy : s[k + 1]? = some y) : x ≤ y := by
  obtain ⟨h1, rfl⟩ := List.getElem?_eq_some_iff.1 hx
  obtain ⟨h2, rfl⟩ := List.getElem?_eq_some_iff.1 hy
  have := List.pairwise_iff_getElem.1 h k (k + 1) h1 h2 (by omega)
  have := of_decide_eq_false this
  omega

set_option maxRecDepth 100000 in
set_option maxHeartbeats 16000000 in
theorem walk (l : List Int) (lo : Option Addr) (lc : Nat) (w : World) (hl : l.length ≤ 9223372036854775807) (hL : Ns lo l w) : Calls Try.prog 5 #[.slice lo l.length lc] w fun e w' => e = .returned (.bool true) ∧ Below w.heap.size w w' := by
  have AW := Lib.hid awake_any
  have NW := Lib.hid new_any
  have NS := Lib.hid hL
  have SA := Lib.hid same_any
  clear hL
  go_enter Try.func5, Try.ntmps5
  go_wp2_with fail
  (with_reducible refine (AW.out _).mono ?_)
  rintro e w1 ⟨rfl, b1⟩
  have B1 := Lib.hid b1
  clear b1 AW
  go_wp2_with fail
  (with_reducible refine (NW.out _).mono ?_)
  rintro e w2 ⟨rfl, rfl⟩
  have H0 := Lib.hid (hq_new w1)
  have B2 : Hid (Below w.heap.size w (w1.alloc (.cells #[.func (.func 10) #[] #[], .slice none 0 0] 40))) := Lib.hid (B1.out.alloc B1.out.size _)
  have hBs : w1.heap.size ≤ (w1.alloc (.cells #[.func (.func 10) #[] #[], .slice none 0 0] 40)).heap.size := by simp
  have hbl : w.heap.size ≤ w1.heap.size := B1.out.size
  generalize w1.alloc (.cells #[.func (.func 10) #[] #[], .slice none 0 0] 40) = W1 at *
  generalize w1.heap.size = B at *
  have PU := Lib.hid (fun r s x W h hl => put_any B B r s x W h hl)
  have LI := Lib.hid (fun r s W h hl => list_any B B r s W h hl)
  have MI := Lib.hid (fun r s W h hl => min_any B B r s W h hl)
  have LE := Lib.hid (fun r s W h => len_any B B r s W h)
  clear NW B1
  go_wp2_with fail
  go_loopg [5] (min l.length 40) (LsRel l w B B)
  case atStart => exact ⟨0, none, [], by omega, rfl, H0.out, rfl, B2.out, hBs⟩
  case round =>
    obtain ⟨i, r, s, hi, rfl, hq, hsl, hb, hBw⟩ := hrel
    have HQ := Lib.hid hq
    have HB := Lib.hid hb
    clear H0 B2 hBs hq hb
    by_cases hlt : i < l.length ∧ i < 40
    · obtain ⟨hl1, hl2⟩ := hlt
      obtain ⟨g, off, rfl, hg, hat⟩ := (NS.out.below HB.out (Nat.le_refl _)) (by omega)
      obtain ⟨x, hx⟩ : ∃ x, l[i]? = some x := ⟨_, List.getElem?_eq_getElem hl1⟩
      have cx := hat i x hx
      have hil : (i : Int) < (l.length : Int) := by omega
      have hi40 : (i : Int) < 40 := by omega
      have hiw : IntKind.i64.wrap (i : Int) = (i : Int) := IntWalk.i64_in _ (by omega)
      have hi1w : IntKind.i64.wrap ((i : Int) + 1) = (i : Int) + 1 := IntWalk.i64_in _ (by omega)
      have HI := Lib.hid hi
      have hg0 : 0 < gk := by omega
      obtain ⟨s2, hs2⟩ : ∃ s2, s2 = ins ltI x s := ⟨_, rfl⟩
      have hl3 : s2.length = i + 1 := by rw [hs2, ins_len, hsl]
      have PX := Lib.hid (PU.out r s x wr HQ.out (by omega))
      rw [← hs2] at PX
      clear hat hx hi hs2
      go_wp2_with fail
      (with_reducible refine PX.out.mono ?_)
      rintro e w2 ⟨rfl, q2⟩
      have K2 := Lib.hid (q2.bel HQ.out hBw)
      obtain ⟨r2, h2, -⟩ := q2
      have H2 := Lib.hid h2
      have hs2' := K2.out.size
      clear h2 PX HQ
      go_wp2_with fail
      (with_reducible refine (LI.out r2 s2 w2 H2.out (by omega)).mono ?_)
      rintro e w3 ⟨u, rfl, ra, b3⟩
      have H3 := Lib.hid (H2.out.call b3)
      have K3 := Lib.hid (K2.out.trans (b3.mono (by omega)))
      have RA := Lib.hid ra
      obtain ⟨ua, uc, rfl, -, -⟩ := ra.form
      have hs3' := b3.size
      clear ra b3 H2 K2
      go_wp2_with fail
      (with_reducible refine (LI.out r2 s2 w3 H3.out (by omega)).mono ?_)
      rintro e w4 ⟨u, rfl, rb, b4⟩
      have H4 := Lib.hid (H3.out.call b4)
      have K4 := Lib.hid (K3.out.trans (b4.mono (by omega)))
      have RA4 := Lib.hid (RA.out.call b4)
      have RB4 := Lib.hid rb
      obtain ⟨ub, ud, rfl, -, -⟩ := rb.form
      have hs4' := b4.size
      clear rb b4 H3 K3 RA
      go_wp2_with fail
      (with_reducible refine (MI.out r2 s2 w4 H4.out (by omega)).mono ?_)
      rintro e w5 ⟨rfl, rfl⟩
      have NA : Hid (Ns ua s2 w5) := Lib.hid (by obtain ⟨a', c', e, -, h⟩ := RA4.out.form; cases e; exact h)
      have NB : Hid (Ns ub s2 w5) := Lib.hid (by obtain ⟨a', c', e, -, h⟩ := RB4.out.form; cases e; exact h)
      have SR := Lib.hid H4.out.srt
      have SM := Lib.hid (SA.out s2 ua ub uc ud w5 NA.out NB.out (by omega))
      have LE4 := Lib.hid (LE.out r2 s2)
      obtain ⟨a0, ha0⟩ : ∃ a0, s2[0]? = some a0 := ⟨_, List.getElem?_eq_getElem (show 0 < s2.length by omega)⟩
      have hmr : minR s2 = (a0, true) := by
        cases s2 with
        | nil => simp at ha0
        | cons a t => simp at ha0; subst ha0; rfl
      rw [hmr]
      simp only
      obtain ⟨ga, oa, rfl, -, hata⟩ := NA.out (by omega)
      have ca := hata 0 a0 ha0
      rw [Nat.add_zero] at ca
      have HL3 := Lib.hid hl3
      rw [hl3] at SM LE4
      clear hl3 ha0 hmr RA4 RB4 NB hata PU LI MI SA LE
      have hii : (i : Int) + 1 ≠ 0 := by omega
      have hip : (0 : Int) < (i : Int) + 1 := by omega
      have eaa : (a0 != a0) = false := by simp
      have eii : ((i : Int) + 1 != (i : Int) + 1) = false := by simp
      go_wp2_with fail
      (with_reducible refine SM.out.mono ?_)
      rintro e w6 ⟨rfl, q6⟩
      have H6 := Lib.hid (H4.out.call (q6.below _))
      have K6 := Lib.hid (K4.out.trans (q6.below _))
      have NA6 := Lib.hid (NA.out.call (q6.below _))
      have c6 : w6.cell? ⟨ga, oa, none⟩ = some (.int .i64 a0) := (q6.cell _).trans ca
      clear q6 SM H4 K4 NA ca
      go_wp2_with fail
      (with_reducible refine (LE4.out _ H6.out).mono ?_)
      rintro e w7 ⟨rfl, rfl⟩
      clear LE4
      go_wp2_with fail
      have HIL := Lib.hid (And.intro hl1 hl2)
      clear hl1 hl2 c6
      go_loopg [11] i (LkRel i w7)
      case atStart => exact ⟨0, by omega, rfl, Qt.refl _⟩
      case round =>
        obtain ⟨j, hj, rfl, hq⟩ := hrel
        have Q := Lib.hid hq
        by_cases hji : j < i
        · obtain ⟨y, hy⟩ : ∃ y, s2[j]? = some y := ⟨_, List.getElem?_eq_getElem (by rw [HL3.out]; omega)⟩
          obtain ⟨z, hz⟩ : ∃ z, s2[j + 1]? = some z := ⟨_, List.getElem?_eq_getElem (by rw [HL3.out]; omega)⟩
          have hyz := srt_adj SR.out hy hz
          obtain ⟨g1, o1, e1, -, hat⟩ := (NA6.out.call (hq.below _)) (by rw [HL3.out]; omega)
          cases e1
          have cy := hat j y hy
          have cz := hat (j + 1) z hz
          have hj1 : (j : Int) + 1 < (i : Int) + 1 := by omega
          have hj2 : (j : Int) < (i : Int) + 1 := by omega
          have hj3 : (0 : Int) ≤ (j : Int) := by omega
          have hj4 : (0 : Int) ≤ (j : Int) + 1 := by omega
          have hjw : IntKind.i64.wrap (j : Int) = (j : Int) := IntWalk.i64_in _ (by omega)
          have hjw1 : IntKind.i64.wrap ((j : Int) + 1) = (j : Int) + 1 := IntWalk.i64_in _ (by omega)
          have hjw2 : IntKind.i64.wrap ((j : Int) + 1 + 1) = (j : Int) + 1 + 1 := IntWalk.i64_in _ (by omega)
          have hjw3 : IntKind.i64.wrap ((j : Int) + 1 - 1) = (j : Int) := by rw [IntWalk.i64_in _ (by omega)]; omega
          have hdz : decide (z < y) = false := decide_eq_false (by omega)
          have HJ := Lib.hid hj
          have hgj : 0 < gk := by omega
          clear hat hy hz hq hj hyz
          go_wp2_with fail
          go_quiet (fail)
          have Q2 := Lib.hid (qt_drewN Q.out nq)
          go_wp2
          go_roundg (gk - 1)
          case measure => omega
          case rel => exact ⟨j + 1, by have := HJ.out; omega, by go_num, Q2.out⟩
        · have e : j = i := by omega
          subst e
          have hge : (j : Int) + 1 ≤ (j : Int) + 1 := by omega
          have hdec : decide ((j : Int) + 1 < (j : Int) + 1) = false := decide_eq_false (by omega)
          have HQ7 := Lib.hid (H6.out.call (hq.below _))
          have HB7 := Lib.hid (HB.out.trans ((K6.out.mono hbl).trans (hq.below _)))
          have hB7 := (hq.below w7.heap.size).size
          have hK7 := K6.out.size
          clear hq Q H6 K6 NA6 hj hji SR
          go_wp2
          go_roundg (min l.length 40 - (j + 1))
          case measure => have := HI.out; have := HIL.out; omega
          case rel => exact ⟨j + 1, r2, s2, by have := HI.out; have := HIL.out; omega, by go_num, HQ7.out, HL3.out, HB7.out, by omega⟩
    · have FN := Lib.hid (HB.out)
      clear HQ HB
      rcases Nat.lt_or_ge i l.length with h1 | h1
      · have h2 : (40 : Int) ≤ (i : Int) := by omega
        have h3 : (i : Int) < (l.length : Int) := by omega
        clear hlt hi
        go_wp2
        go_ret
        exact ⟨rfl, FN.out⟩
      · have h3 : (l.length : Int) ≤ (i : Int) := by omega
        have hdec : decide (i < l.length) = false := decide_eq_false (by omega)
        clear hlt hi
        go_wp2
        go_ret
        exact ⟨rfl, FN.out⟩

set_option maxRecDepth 100000 in
set_option maxHeartbeats 1600000 in
theorem lifted (os : Os) (started : os.Started) (H : Type) (enc : TypeId × Value → H) :
    ReturnsInHanded {} Try.checked os 5 .any (Rows.heapListsSpec.pre6 enc Try.prog Try.f5 Rows.heapListsRow.domain false) (Rows.heapListsSpec.post enc Try.prog Try.f5 false true false false) := by
  refine returnsInHanded_of_change (C := Try.checked) own started (by kernel_rfl) Try.func5
    (ChangeSpec.witness6 (enc := enc) (C := Try.checked) false ⟨#[], #[.slice none 0 0], []⟩ 8 (by kernel_rfl) (by kernel_rfl) (by kernel_rfl) (by kernel_rfl)) ?_
  intro W base args ds gs before hval0 hW hcnd _
  have hval : ∀ (j : Nat) t v, Try.f5.params[j]? = some t → args[j]? = some v → Value.okWide Try.prog W .any base t v := hval0
  have hW' := hW
  obtain ⟨p, q, hA0, hV, rfl, hfz, hnd⟩ := hW
  have hA : DataW.TrodAll enc Try.prog W 0 (fun _ => true) true Try.f5.params.toList args.toList ds p := hA0
  rw [Try.params5] at hA hval
  obtain ⟨v0, vs0, d0, ds0, p0, q0, hargs, rfl, rfl, h0, r0⟩ := trodAll_cons hA
  obtain ⟨rfl, rfl, rfl⟩ := trodAll_nil r0
  obtain rfl : args = #[v0] := by cases args; simp_all
  obtain ⟨rfl, rfl⟩ := trodVars_none hV
  have lt0 : ∀ x ∈ p0, x.block < W.heap.size := by obtain ⟨m, hm⟩ := h0; exact DataW.trod_lt m _ _ _ hm
  obtain ⟨lo, l, lc, rfl, ll, ls⟩ := open_nums (hval 0 22 v0 rfl rfl) h0
  clear hA0 hval0
  refine (walk l lo lc W ll ls).mono fun e W' ⟨he, bel⟩ => ?_
  subst he
  exact ⟨_, rfl, _, _, _, [], _, [], hW', trodAll_mk1 (shut_bool Try.underlying4 _), (trodAll_cons_mk (Below.trod laidOut (by kernel_rfl) (of_decide_eq_true (by kernel_rfl)) h0 bel lt0) trodAll_mk0), rfl, bel.frame _, fun h => by cases h⟩

theorem proved : Rows.HeapListsSaid :=
  OpenClaim.holds_of_wide 5 Try.f5 rfl rfl rfl rfl rfl rfl rfl ⟨rfl, rfl, rfl, rfl, rfl⟩ rfl rfl rfl rfl rfl (by kernel_rfl) Try.func5 (by kernel_rfl)
    (of_decide_eq_true (by kernel_rfl)) (by unfold Func.isWrapper; first | (rw [if_pos (by decide +kernel)]; kernel_rfl) | (rw [if_neg (by decide +kernel)]; exact ⟨rfl, rfl⟩))
    (fun os started H enc _ => lifted os started H enc)
#print axioms proved
end Go.Proofs.Ytphnabnpapdpeaa.heapLists
