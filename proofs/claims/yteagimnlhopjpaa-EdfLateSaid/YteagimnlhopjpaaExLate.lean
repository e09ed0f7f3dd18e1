/- horariumlaw18.EdfLate answers true at every row of jobs and every time: a job is late just if its deadline is not above now; jobs that are dropped are all that there are. No condition. -/
import Derived.Test.YteagimnlhopjpaaEdK
namespace Go.Proofs.Yteagimnlhopjpaa.edfLate
open Go.ChangeShapes Go.WideShapes Go.ChangeAt Go.RowKit Go.Joins
set_option maxRecDepth 100000
set_option linter.unusedVariables false
set_option linter.unusedSimpArgs false
open Hj
open Ed (Jo hasR lateR leftR addR runR mayJ)
theorem add_cases (s : List Jo) (j : Jo) : ((addR s j).2 = 0 ∧ (addR s j).1.length = s.length + 1 ∧ (∀ t, (lateR (addR s j).1 t).length = (lateR s t).length + if j.dl ≤ t then 1 else 0)) ∨ ((addR s j).2 ≠ 0 ∧ (addR s j).1 = s) := by
  unfold addR
  split
  · exact .inr ⟨show (1 : Int) ≠ 0 by decide, rfl⟩
  · split
    · exact .inr ⟨show (14 : Int) ≠ 0 by decide, rfl⟩
    · refine .inl ⟨rfl, Hp.ins_len _ _, fun t => ?_⟩
      have := ((Hp.ins_perm (lt := Ed.ahead) j s).filter (fun q => decide (q.dl ≤ t))).length_eq
      unfold lateR
      rw [this, List.filter_cons]
      split <;> simp_all
/-- i jobs were tried -/
def LaRel (n : Nat) (w : World) (x : Nat) (t : Int) (m : Nat) (s7 s8 s10 : Value) (wr : World) : Prop :=
  ∃ (i : Nat) (K : List Nat) (s : List Jo), i + m = n ∧ s7 = .int .i64 (s.length : Int) ∧ s8 = .int .i64 ((lateR s t).length : Int) ∧ s10 = .int .i64 (i : Int) ∧ Xq w.heap.size wr x K s ∧ s.length ≤ i ∧ Below w.heap.size w wr

set_option maxRecDepth 100000 in
set_option maxHeartbeats 16000000 in
theorem walk (l : List Jo) (lo : Option Addr) (lc : Nat) (now : Int) (w : World) (hl : l.length ≤ 9223372036854775807) (hL : Ns lo l w) : Calls Try.prog 6 #[.slice lo l.length lc, .int .i64 now] w fun e w' => e = .returned (.bool true) ∧ Below w.heap.size w w' := by
  have AW := Lib.hid awake_any
  have NW := Lib.hid xnew_any
  have AD := Lib.hid (fun x K s j hi hl W h => xadd_any w.heap.size x K s j hi hl W h)
  have RU := Lib.hid (fun x K s hl W h => xrun_any w.heap.size x K s hl W h)
  have PE := Lib.hid (fun x K s hl W h => xpending_any w.heap.size x K s hl W h)
  have LT := Lib.hid (fun x K s t hl W h => xlate_any w.heap.size x K s t hl W h)
  have HS := Lib.hid (fun x K s i hi hl W h => xhas_any w.heap.size x K s i hi hl W h)
  have ID := Lib.hid (fun x K s hl W h => xidle_any w.heap.size x K s hl W h)
  have LE := Lib.hid (fun x K s hl W h => xleft_any w.heap.size x K s hl W h)
  have DR := Lib.hid (fun x K s hl W h => xdrop_any w.heap.size x K s hl W h)
  have JB := Lib.hid job_any
  have NS := Lib.hid hL
  obtain ⟨t, ht, t0, t1⟩ : ∃ t, bits .and .i64 now 31 = t ∧ 0 ≤ t ∧ t ≤ 31 := ⟨_, and_pow now 31 5 (by decide) (by decide), by omega, by omega⟩
  clear hL RU PE HS
  go_enter Try.func6, Try.ntmps6
  go_wp2_with fail
  (with_reducible refine (AW.out _).mono ?_)
  rintro e w1 ⟨rfl, b1⟩
  have B1 := Lib.hid b1
  clear b1 AW
  go_wp2_with fail
  (with_reducible refine (NW.out _).mono ?_)
  rintro e W1 ⟨x, K1, rfl, h1, b2⟩
  have X1 := Lib.hid (h1.mono B1.out.size)
  have B2 := Lib.hid (B1.out.trans (b2.mono B1.out.size))
  clear h1 b2 B1 NW
  go_wp2_with fail
  go_loopg [7, 8, 10] (min l.length 8) (LaRel (min l.length 8) w x t)
  case atStart => exact ⟨0, K1, [], by omega, rfl, rfl, rfl, X1.out, by simp, B2.out⟩
  case round =>
    obtain ⟨i, K, s, hi, rfl, rfl, rfl, hx, hsl, hb⟩ := hrel
    have HX := Lib.hid hx
    have HB := Lib.hid hb
    clear X1 B2 hx hb
    by_cases hlt : i < l.length ∧ i < 8
    · obtain ⟨hl1, hl2⟩ := hlt
      obtain ⟨gl, off, rfl, hg, hat⟩ := (NS.out.below HB.out (Nat.le_refl _)).at (by omega)
      obtain ⟨j, hj⟩ : ∃ j, l[i]? = some j := ⟨_, List.getElem?_eq_getElem hl1⟩
      obtain ⟨j0, j1, j2, j3⟩ := hat i j hj
      have hil : (i : Int) < (l.length : Int) := by omega
      have hi8 : (i : Int) < 8 := by omega
      have hi0 : (0 : Int) ≤ (i : Int) := by omega
      have hiw : IntKind.i64.wrap (i : Int) = (i : Int) := IntWalk.i64_in _ (by omega)
      have hi1w : IntKind.i64.wrap ((i : Int) + 1) = (i : Int) + 1 := IntWalk.i64_in _ (by omega)
      have HI := Lib.hid hi
      have hg0 : 0 < gk := by omega
      clear hat hj hi
      have bA : Below wr.heap.size wr (wr.alloc (.cells #[.int .i64 0, .int .i64 j.id, .int .i64 j.rel, .int .i64 j.dl, .int .i64 j.le, .bool true, .bool false] 33)) := (Below.refl _ _).alloc (Nat.le_refl _) _
      go_wp2_with fail
      (with_reducible refine (JB.out 0 j true false _).mono ?_)
      rintro e w3 ⟨rfl, b3⟩
      have hX3 := (HX.out.call bA).call b3
      have hB3 := (HB.out.trans (bA.mono HB.out.size)).trans (b3.mono (by have := HB.out.size; have := bA.size; omega))
      clear bA b3 HX HB j0 j1 j2 j3
      have HQI := Lib.hid (job_near j)
      generalize jobR true j = q at *
      have bC : Below w3.heap.size w3 (w3.alloc (.cells #[.int .i64 q.id, .int .i64 q.rel, .int .i64 q.dl, .int .i64 q.le] 31)) := (Below.refl _ _).alloc (Nat.le_refl _) _
      have X4 := Lib.hid (hX3.call bC)
      have B4 := Lib.hid (hB3.trans (bC.mono hB3.size))
      have Q4 := Lib.hid (bx_new w3 q)
      have hq : w3.heap.size ∉ K := fun hk => by have := (hX3.lt _ hk).2; omega
      have AC := Lib.hid (add_cases s q)
      clear hX3 hB3 bC
      go_wp2_with fail
      generalize w3.alloc (.cells #[.int .i64 q.id, .int .i64 q.rel, .int .i64 q.dl, .int .i64 q.le] 31) = W4 at *
      generalize w3.heap.size = qb at *
      (with_reducible refine (AD.out x K s q HQI.out (by omega) W4 X4.out).mono ?_)
      rintro e w5 ⟨rfl, K5, h5, m5, -⟩
      have X5 := Lib.hid h5
      have B5 := Lib.hid (m5.below X4.out B4.out)
      have hq5 := Q4.out.of_block (m5.block _ (lt_of_heap Q4.out) hq)
      obtain ⟨-, -, c2, -⟩ := hq5.at
      clear h5 m5 X4 B4 Q4 hq5
      generalize (addR s q).1 = s5 at *
      generalize (addR s q).2 = e5 at *
      rcases AC.out with ⟨h0, hln, hlt5⟩ | ⟨h0, hs5⟩
      · subst h0
        have hlt6 := hlt5 t
        have hnw : IntKind.i64.wrap ((s.length : Int) + 1) = (s.length : Int) + 1 := IntWalk.i64_in _ (by omega)
        have hlw : IntKind.i64.wrap (((lateR s t).length : Int) + 1) = ((lateR s t).length : Int) + 1 := by
          have := List.length_filter_le (fun q : Jo => decide (q.dl ≤ t)) s
          exact IntWalk.i64_in _ (by unfold lateR; omega)
        have LN := Lib.hid hln
        clear AC hln hlt5
        by_cases hd : q.dl ≤ t
        · rw [if_pos hd] at hlt6
          have LL := Lib.hid hlt6
          clear hlt6
          go_wp2
          go_roundg (gk - 1)
          case measure => omega
          case rel => exact ⟨i + 1, K5, s5, by have := HI.out; omega, by rw [LN.out]; rfl, by rw [LL.out]; rfl, by go_num, X5.out, by have := LN.out; omega, B5.out⟩
        · rw [if_neg hd] at hlt6
          have LL := Lib.hid hlt6
          have hdd : decide (q.dl ≤ t) = false := decide_eq_false hd
          clear hlt6
          go_wp2
          go_roundg (gk - 1)
          case measure => omega
          case rel => exact ⟨i + 1, K5, s5, by have := HI.out; omega, by rw [LN.out]; rfl, by rw [LL.out]; rfl, by go_num, X5.out, by have := LN.out; omega, B5.out⟩
      · subst hs5
        have he5 : (e5 == 0) = false := by simp [h0]
        clear AC
        go_wp2
        go_roundg (gk - 1)
        case measure => omega
        case rel => exact ⟨i + 1, K5, s5, by have := HI.out; omega, rfl, rfl, by go_num, X5.out, by omega, B5.out⟩
    · have hend : (8 : Int) ≤ (i : Int) ∧ (i : Int) < (l.length : Int) ∨ (l.length : Int) ≤ (i : Int) := by omega
      have hs8 : s.length ≤ 8 := by omega
      have hlr := List.length_filter_le (fun q : Jo => decide (q.dl ≤ t)) s
      have LT1 := Lib.hid (LT.out x K s t (by omega) wr HX.out)
      have DR1 := Lib.hid (fun W h => DR.out x K s (by omega) W h)
      have ID1 := Lib.hid (fun K' W h => ID.out x K' [] (by simp) W h)
      have LE1 := Lib.hid (fun K' W h => LE.out x K' [] (by simp) W h)
      have TAIL : True := trivial
      rcases hend with ⟨h1, h2⟩ | h1
      · clear hlt hi hlr
        go_wp2_with fail
        (with_reducible refine LT1.out.mono ?_)
        rintro e w3 ⟨u3, rfl, r3, b3⟩
        have X3 := Lib.hid (HX.out.call b3)
        have B3 := Lib.hid (HB.out.trans (b3.mono HB.out.size))
        obtain ⟨pa, pc, rfl, -, -⟩ := r3.form
        clear b3 r3 HX HB LT1
        go_wp2_with fail
        (with_reducible refine (DR1.out _ X3.out).mono ?_)
        rintro e w4 ⟨u4, rfl, r4, K4, h4, m4, -⟩
        have X4 := Lib.hid h4
        have B4 := Lib.hid (m4.below X3.out B3.out)
        obtain ⟨qa, qc, rfl, -, -⟩ := r4.form
        clear h4 m4 r4 X3 B3 DR1
        go_wp2_with fail
        (with_reducible refine (ID1.out K4 _ X4.out).mono ?_)
        rintro e w5 ⟨rfl, b5⟩
        have X5 := Lib.hid (X4.out.call b5)
        have B5 := Lib.hid (B4.out.trans (b5.mono B4.out.size))
        clear b5 X4 B4 ID1
        go_wp2_with fail
        (with_reducible refine (LE1.out K4 _ X5.out).mono ?_)
        rintro e w6 ⟨rfl, b6⟩
        have B6 := Lib.hid (B5.out.trans (b6.mono B5.out.size))
        clear b6 X5 B5 LE1
        go_wp2
        go_ret
        exact ⟨rfl, B6.out⟩
      · have hdec : decide (i < l.length) = false := decide_eq_false (by omega)
        clear hlt hi hlr
        go_wp2_with fail
        (with_reducible refine LT1.out.mono ?_)
        rintro e w3 ⟨u3, rfl, r3, b3⟩
        have X3 := Lib.hid (HX.out.call b3)
        have B3 := Lib.hid (HB.out.trans (b3.mono HB.out.size))
        obtain ⟨pa, pc, rfl, -, -⟩ := r3.form
        clear b3 r3 HX HB LT1
        go_wp2_with fail
        (with_reducible refine (DR1.out _ X3.out).mono ?_)
        rintro e w4 ⟨u4, rfl, r4, K4, h4, m4, -⟩
        have X4 := Lib.hid h4
        have B4 := Lib.hid (m4.below X3.out B3.out)
        obtain ⟨qa, qc, rfl, -, -⟩ := r4.form
        clear h4 m4 r4 X3 B3 DR1
        go_wp2_with fail
        (with_reducible refine (ID1.out K4 _ X4.out).mono ?_)
        rintro e w5 ⟨rfl, b5⟩
        have X5 := Lib.hid (X4.out.call b5)
        have B5 := Lib.hid (B4.out.trans (b5.mono B4.out.size))
        clear b5 X4 B4 ID1
        go_wp2_with fail
        (with_reducible refine (LE1.out K4 _ X5.out).mono ?_)
        rintro e w6 ⟨rfl, b6⟩
        have B6 := Lib.hid (B5.out.trans (b6.mono B5.out.size))
        clear b6 X5 B5 LE1
        go_wp2
        go_ret
        exact ⟨rfl, B6.out⟩

set_option maxRecDepth 100000 in
set_option maxHeartbeats 1600000 in
theorem lifted (os : Os) (started : os.Started) (H : Type) (enc : TypeId × Value → H) :
    ReturnsInHanded {} Try.checked os 6 .any (Rows.edfLateSpec.pre6 enc Try.prog Try.f6 Rows.edfLateRow.domain false) (Rows.edfLateSpec.post enc Try.prog Try.f6 false true false false) := by
  refine returnsInHanded_of_change (C := Try.checked) own started (by kernel_rfl) Try.func6
    (ChangeSpec.witness6 (enc := enc) (C := Try.checked) false ⟨#[], #[.slice none 0 0, .int .i64 0], []⟩ 8 (by kernel_rfl) (by kernel_rfl) (by kernel_rfl) (by kernel_rfl)) ?_
  intro W base args ds gs before hval0 hW hcnd _
  have hval : ∀ (j : Nat) t v, Try.f6.params[j]? = some t → args[j]? = some v → Value.okWide Try.prog W .any base t v := hval0
  have hW' := hW
  obtain ⟨p, q, hA0, hV, rfl, hfz, hnd⟩ := hW
  have hA : DataW.TrodAll enc Try.prog W 0 (fun _ => true) true Try.f6.params.toList args.toList ds p := hA0
  rw [Try.params6] at hA hval
  obtain ⟨v0, vs0, d0, ds0, p0, q0, hargs, rfl, rfl, h0, r0⟩ := trodAll_cons hA
  obtain ⟨v1, vs1, d1, ds1, p1, q1, rfl, rfl, rfl, h1, r1⟩ := trodAll_cons r0
  obtain ⟨rfl, rfl, rfl⟩ := trodAll_nil r1
  obtain rfl : args = #[v0, v1] := by cases args; simp_all
  obtain ⟨rfl, rfl⟩ := trodVars_none hV
  have lt0 : ∀ x ∈ p0, x.block < W.heap.size := by obtain ⟨m, hm⟩ := h0; exact DataW.trod_lt m _ _ _ hm
  obtain ⟨lo, l, lc, rfl, ll, ls⟩ := open_jobs (hval 0 27 v0 rfl rfl) h0
  have lt1 : ∀ x ∈ p1, x.block < W.heap.size := by obtain ⟨m, hm⟩ := h1; exact DataW.trod_lt m _ _ _ hm
  obtain ⟨now, e1, -, -, wfnow⟩ := open_int Try.underlying2 (hval 1 2 v1 rfl rfl) h1
  subst e1
  have wnow := wf_in wfnow
  clear hA0 hval0
  refine (walk l lo lc now W ll ls).mono fun e W' ⟨he, bel⟩ => ?_
  subst he
  exact ⟨_, rfl, _, _, _, [], _, [], hW', trodAll_mk1 (shut_bool Try.underlying4 _), (trodAll_cons_mk (Below.trod laidOut (by kernel_rfl) (of_decide_eq_true (by kernel_rfl)) h0 bel lt0) (trodAll_cons_mk (Below.trod laidOut (by kernel_rfl) (of_decide_eq_true (by kernel_rfl)) h1 bel lt1) trodAll_mk0)), rfl, bel.frame _, fun h => by cases h⟩

theorem proved : Rows.EdfLateSaid :=
  OpenClaim.holds_of_wide 6 Try.f6 rfl rfl rfl rfl rfl rfl rfl ⟨rfl, rfl, rfl, rfl, rfl⟩ rfl rfl rfl rfl rfl (by kernel_rfl) Try.func6 (by kernel_rfl)
    (of_decide_eq_true (by kernel_rfl)) (by unfold Func.isWrapper; first | (rw [if_pos (by decide +kernel)]; kernel_rfl) | (rw [if_neg (by decide +kernel)]; exact ⟨rfl, rfl⟩))
    (fun os started H enc _ => lifted os started H enc)
#print axioms proved
end Go.Proofs.Yteagimnlhopjpaa.edfLate
