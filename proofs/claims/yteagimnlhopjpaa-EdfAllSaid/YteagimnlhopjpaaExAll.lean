/- horariumlaw18.EdfAll answers true at every row of jobs: as much runs as was added; what runs has the earliest deadline; each is done once. No condition. -/
import Derived.Test.YteagimnlhopjpaaEdT
import Derived.BigQuiet
import Derived.Deep.CutBlock
import Derived.Deep.DeepCutAuto
import Derived.Test.YteagimnlhopjpaaGnH
namespace Go.Proofs.Yteagimnlhopjpaa.edfAll
open Go.ChangeShapes Go.WideShapes Go.ChangeAt Go.RowKit Go.Joins
set_option maxRecDepth 100000
set_option linter.unusedVariables false
set_option linter.unusedSimpArgs false
open Hj
open Ed (Jo hasR lateR leftR addR runR mayJ)
open Ed (upd Eight eight_nil eight_add eight_first eight_run left_nonneg left_cons left_nil left_le)
theorem add_cases8 (s : List Jo) (lf du : Int → Int) (hE : Eight s lf du) (j : Jo) (hi : 0 ≤ j.id ∧ j.id ≤ 7) : ((addR s j).2 = 0 ∧ (addR s j).1.length = s.length + 1 ∧ leftR (addR s j).1 = leftR s + j.le ∧ Eight (addR s j).1 (upd lf j.id j.le) (upd du j.id j.dl)) ∨ ((addR s j).2 ≠ 0 ∧ (addR s j).1 = s) := by
  by_cases h : (addR s j).2 = 0
  · refine .inl ⟨h, ?_, Ed.left_add h, eight_add hE h hi⟩
    unfold addR at h ⊢
    split at h
    · cases h
    · rename_i hm
      split at h
      · cases h
      · rename_i hh
        rw [if_neg hm, if_neg hh]; exact Hp.ins_len _ _
  · refine .inr ⟨h, ?_⟩
    unfold addR at h ⊢
    split
    · rfl
    · rename_i hm
      rw [if_neg hm] at h
      split
      · rfl
      · rename_i hh
        rw [if_neg hh] at h; exact absurd rfl h
/-- i jobs were tried -/
def AlRel (n : Nat) (w : World) (x c : Nat) (m : Nat) (s7 s8 : Value) (wr : World) : Prop :=
  ∃ (i : Nat) (K : List Nat) (s : List Jo) (lf du : Int → Int), i + m = n ∧ s7 = .int .i64 (leftR s) ∧ s8 = .int .i64 (i : Int) ∧ Xq w.heap.size wr x K s ∧ Tw8 wr K c lf du ∧ Eight s lf du ∧ s.length ≤ i ∧ Below w.heap.size w wr
/-- m is left -/
def RnRel (w : World) (x c : Nat) (m : Nat) (s11 : Value) (wr : World) : Prop :=
  ∃ (K : List Nat) (s : List Jo) (lf du : Int → Int), leftR s = (m : Int) ∧ s11 = .int .i64 (m : Int) ∧ Xq w.heap.size wr x K s ∧ Tw8 wr K c lf du ∧ Eight s lf du ∧ s.length ≤ 8 ∧ Below w.heap.size w wr
/-- i were looked at -/
def InRel (W : World) (m : Nat) (s13 : Value) (wr : World) : Prop := ∃ i : Nat, i + m = 8 ∧ s13 = .int .i64 (i : Int) ∧ Qt W wr

set_option maxRecDepth 100000 in
set_option maxHeartbeats 16000000 in
theorem walk (l : List Jo) (lo : Option Addr) (lc : Nat) (w : World) (hl : l.length ≤ 9223372036854775807) (hL : Ns lo l w) : Calls Try.prog 4 #[.slice lo l.length lc] w fun e w' => e = .returned (.bool true) ∧ Below w.heap.size w w' := by
  have AW := Lib.hid awake_any
  have NW := Lib.hid xnew_any
  have AD := Lib.hid (fun x K s j hi hl W h => xadd_any w.heap.size x K s j hi hl W h)
  have RU := Lib.hid (fun x K s hl W h => xrun_any w.heap.size x K s hl W h)
  have PE := Lib.hid (fun x K s hl W h => xpending_any w.heap.size x K s hl W h)
  have LT := Lib.hid (fun x K s t hl W h => xlate_any w.heap.size x K s t hl W h)
  have HS := Lib.hid (fun x K s i hi hl W h => xhas_any w.heap.size x K s i hi hl W h)
  have ID := Lib.hid (fun x K s hl W h => xidle_any w.heap.size x K s hl W h)
  have LE := Lib.hid (fun x K s hl W h => xleft_any w.heap.size x K s hl W h)
  have DR := Lib.hid (fun x K s hl W h => xdrop_any w.heap.size x K s hl W h)
  have JB := Lib.hid job_any
  have NS := Lib.hid hL
  clear hL PE LT HS DR
  go_enter Try.func4, Try.ntmps4
  go_wp2_with fail
  (with_reducible refine (AW.out _).mono ?_)
  rintro e w1 ⟨rfl, b1⟩
  have B1 := Lib.hid b1
  clear b1 AW
  go_wp2_with fail
  (with_reducible refine (NW.out _).mono ?_)
  rintro e W1 ⟨x, K1, rfl, h1, b2⟩
  have X1 := Lib.hid (h1.mono B1.out.size)
  have B2 := Lib.hid (B1.out.trans (b2.mono B1.out.size))
  clear h1 b2 B1 NW
  have B3 := Lib.hid ((B2.out.alloc B2.out.size z8).alloc (by have := B2.out.size; simp; omega) z8)
  have X3 := Lib.hid ((X1.out.call ((Below.refl _ W1).alloc (Nat.le_refl _) z8)).call ((Below.refl _ _).alloc (Nat.le_refl _) z8))
  have T3 := Lib.hid (tw8_new (K := K1) W1 (fun k hk => (X1.out.lt k hk).2))
  have HC := Lib.hid B2.out.size
  clear X1 B2
  unfold z8 at B3 X3 T3
  go_wp2_with fail
  generalize (W1.alloc (.cells #[.int .i64 0, .int .i64 0, .int .i64 0, .int .i64 0, .int .i64 0, .int .i64 0, .int .i64 0, .int .i64 0] 46)).alloc (.cells #[.int .i64 0, .int .i64 0, .int .i64 0, .int .i64 0, .int .i64 0, .int .i64 0, .int .i64 0, .int .i64 0] 46) = W2 at *
  generalize W1.heap.size = c at *
  go_loopg [7, 8] (min l.length 8) (AlRel (min l.length 8) w x c)
  case atStart => exact ⟨0, K1, [], _, _, by omega, rfl, rfl, X3.out, T3.out, eight_nil _, by simp, B3.out⟩
  case round =>
    obtain ⟨i, K, s, lf, du, hi, rfl, rfl, hx, ht, he, hsl, hb⟩ := hrel
    have HX := Lib.hid hx
    have HT := Lib.hid ht
    have HE := Lib.hid he
    have HB := Lib.hid hb
    clear X3 T3 B3 hx ht he hb
    by_cases hlt : i < l.length ∧ i < 8
    · obtain ⟨hl1, hl2⟩ := hlt
      obtain ⟨gl, off, rfl, hg, hat⟩ := (NS.out.below HB.out (Nat.le_refl _)).at (by omega)
      obtain ⟨j, hj⟩ : ∃ j, l[i]? = some j := ⟨_, List.getElem?_eq_getElem hl1⟩
      obtain ⟨j0, j1, j2, j3⟩ := hat i j hj
      have hil : (i : Int) < (l.length : Int) := by omega
      have hi8 : (i : Int) < 8 := by omega
      have hi0 : (0 : Int) ≤ (i : Int) := by omega
      have hiw : IntKind.i64.wrap (i : Int) = (i : Int) := IntWalk.i64_in _ (by omega)
      have hi1w : IntKind.i64.wrap ((i : Int) + 1) = (i : Int) + 1 := IntWalk.i64_in _ (by omega)
      have HI := Lib.hid hi
      have hg0 : 0 < gk := by omega
      clear hat hj hi
      have bA : Below wr.heap.size wr (wr.alloc (.cells #[.int .i64 0, .int .i64 j.id, .int .i64 j.rel, .int .i64 j.dl, .int .i64 j.le, .bool true, .bool false] 33)) := (Below.refl _ _).alloc (Nat.le_refl _) _
      go_wp2_with fail
      (with_reducible refine (JB.out 0 j true false _).mono ?_)
      rintro e w3 ⟨rfl, b3⟩
      have hX3 := (HX.out.call bA).call b3
      have hT3 := (HT.out.call bA).call b3
      have hB3 := (HB.out.trans (bA.mono HB.out.size)).trans (b3.mono (by have := HB.out.size; have := bA.size; omega))
      have hid : ∃ k : Nat, (jobR true j).id = (k : Int) ∧ k < 8 := ⟨(j.id % 8).toNat, by show j.id % 8 = _; omega, by omega⟩
      have hqe : 1 ≤ (jobR true j).le ∧ (jobR true j).le ≤ 4 := by show 1 ≤ 1 + j.le % 4 ∧ 1 + j.le % 4 ≤ 4; omega
      clear bA b3 HX HB HT j0 j1 j2 j3
      have HQI := Lib.hid (job_near j)
      generalize jobR true j = q at *
      obtain ⟨k, hk, hk8⟩ := hid
      have HK := Lib.hid hk
      have bC : Below w3.heap.size w3 (w3.alloc (.cells #[.int .i64 q.id, .int .i64 q.rel, .int .i64 q.dl, .int .i64 q.le] 31)) := (Below.refl _ _).alloc (Nat.le_refl _) _
      have X4 := Lib.hid (hX3.call bC)
      have T4 := Lib.hid (hT3.call bC)
      have B4 := Lib.hid (hB3.trans (bC.mono hB3.size))
      have Q4 := Lib.hid (bx_new w3 q)
      have hq : w3.heap.size ∉ K := fun hk => by have := (hX3.lt _ hk).2; omega
      have hqc : w3.heap.size ≠ c ∧ w3.heap.size ≠ c + 1 := by have := hT3.du.lt; omega
      have AC := Lib.hid (add_cases8 s lf du HE.out q (by omega))
      clear hk
      have hl0 := left_nonneg hX3.good
      have hl1 := left_le hX3.good
      clear hX3 hB3 hT3 bC
      go_wp2_with fail
      generalize w3.alloc (.cells #[.int .i64 q.id, .int .i64 q.rel, .int .i64 q.dl, .int .i64 q.le] 31) = W4 at *
      generalize w3.heap.size = qb at *
      (with_reducible refine (AD.out x K s q HQI.out (by omega) W4 X4.out).mono ?_)
      rintro e w5 ⟨rfl, K5, h5, m5, n5⟩
      have X5 := Lib.hid h5
      have T5 := Lib.hid (T4.out.left m5 n5)
      have B5 := Lib.hid (m5.below X4.out B4.out)
      have hq5 := Q4.out.of_block (m5.block _ (lt_of_heap Q4.out) hq)
      obtain ⟨c0, -, c2, c3⟩ := hq5.at
      rw [HK.out] at c0
      simp only [Nat.zero_add] at c2 c3
      clear h5 m5 n5 X4 B4 Q4 T4 hq5
      generalize (addR s q).1 = s5 at *
      generalize (addR s q).2 = e5 at *
      rcases AC.out with ⟨h0, hln, hlf, hE5⟩ | ⟨h0, hs5⟩
      · subst h0
        have hkk0 : (0 : Int) ≤ (k : Int) := by omega
        have hkk8 : (k : Int) < 8 := by omega
        obtain ⟨hqc1, hqc2⟩ := hqc
        have l5 := T5.out.le.c k hk8
        have z5 := T5.out.le.z k hk8
        have d6 := (T5.out.le.set k q.le |> fun _ => (T5.out.du.other (g := c) (o := k) (v := .int .i64 q.le) (by omega)).c k hk8)
        have z6 := (T5.out.du.other (g := c) (o := k) (v := .int .i64 q.le) (by omega)).z k hk8
        have oc : ∀ (W : World) (g o : Nat) (v : Value) (a : Nat), qb ≠ g → (W.setCell ⟨g, o, none⟩ v).cell? ⟨qb, a, none⟩ = W.cell? ⟨qb, a, none⟩ := fun W g o v a h => World.cell?_of_block (Below.heap_setCell _ _ _ _ h)
        have y0 := (oc w5 c k (.int .i64 q.le) 0 hqc1).trans c0
        have y2 := (oc w5 c k (.int .i64 q.le) 2 hqc1).trans c2
        have y3 := (oc (w5.setCell ⟨c, k, none⟩ (.int .i64 q.le)) (c + 1) k (.int .i64 q.dl) 3 hqc2).trans ((oc w5 c k (.int .i64 q.le) 3 hqc1).trans c3)
        have X6 := Lib.hid ((X5.out.put8 (o := k) (.int .i64 q.le) T5.out.out).put8 (o := k) (.int .i64 q.dl) T5.out.out1)
        have T6 := Lib.hid (T5.out.put k q.le q.dl)
        have B6 := Lib.hid ((B5.out.setCell (p := ⟨c, k, none⟩) HC.out (.int .i64 q.le)).setCell (p := ⟨c + 1, k, none⟩) (by have := HC.out; show w.heap.size ≤ c + 1; omega) (.int .i64 q.dl))
        have hsw : IntKind.i64.wrap (leftR s + q.le) = leftR s + q.le := IntWalk.i64_in _ (by omega)
        have LN := Lib.hid hln
        have LF := Lib.hid hlf
        rw [HK.out] at hE5
        have E5 := Lib.hid hE5
        clear AC hln hlf hE5 oc hqc1 hqc2 X5 T5 B5
        go_wp2
        go_roundg (gk - 1)
        case measure => omega
        case rel => exact ⟨i + 1, K5, s5, _, _, by have := HI.out; omega, by rw [LF.out], by go_num, X6.out, T6.out, E5.out, by have := LN.out; omega, B6.out⟩
      · subst hs5
        have he5 : (e5 == 0) = false := by simp [h0]
        clear AC
        go_wp2
        go_roundg (gk - 1)
        case measure => omega
        case rel => exact ⟨i + 1, K5, s5, lf, du, by have := HI.out; omega, rfl, by go_num, X5.out, T5.out, HE.out, by omega, B5.out⟩
    · have hend : (8 : Int) ≤ (i : Int) ∧ (i : Int) < (l.length : Int) ∨ (l.length : Int) ≤ (i : Int) := by omega
      have hs8 : s.length ≤ 8 := by omega
      have LE1 := Lib.hid (LE.out x K s (by omega) wr HX.out)
      clear NS JB AD
      rcases hend with ⟨h1, h2⟩ | h1
      · clear hlt hi hsl
        go_wp2_with fail
        (with_reducible refine LE1.out.mono ?_)
        rintro e w3 ⟨rfl, b3⟩
        have hne : (leftR s != leftR s) = false := by simp
        obtain ⟨m, hm⟩ : ∃ m : Nat, leftR s = (m : Int) := ⟨(leftR s).toNat, by have := left_nonneg HX.out.good; omega⟩
        have X3 := Lib.hid (HX.out.call b3)
        have T3 := Lib.hid (HT.out.call b3)
        have B3 := Lib.hid (HB.out.trans (b3.mono HB.out.size))
        have E3 := Lib.hid HE.out
        have HM := Lib.hid hm
        rw [hm] at hne ⊢
        clear b3 HX HT HB HE LE1 hm
        go_wp2_with fail
        go_loopg [11] m (RnRel w x c)
        case atStart => exact ⟨K, s, lf, du, HM.out, rfl, X3.out, T3.out, E3.out, hs8, B3.out⟩
        case round =>
          clear X3 T3 B3 E3 HM hs8
          obtain ⟨K, s, lf, du, hm, rfl, hx, ht, he, hs8, hb⟩ := hrel
          have HX := Lib.hid hx
          have HT := Lib.hid ht
          have HE := Lib.hid he
          have HB := Lib.hid hb
          clear hx ht he hb
          by_cases hg0 : 0 < gk
          · have hgt : (gk : Int) > 0 := by omega
            have HGM := Lib.hid (show (gk : Int) ≤ 17179869184 by have := left_le HX.out.good; omega)
            obtain ⟨a, t, rfl⟩ := left_cons HX.out.good (by omega)
            obtain ⟨hE2, r1, r2, v1, v2, a0, a7⟩ := eight_run HE.out HX.out.good
            have FS := Lib.hid (fun i hp => eight_first HE.out HX.out.good (i := i) hp)
            have hlr := Ed.left_run (j := a) (l := t)
            have hll := run_len8 (a :: t)
            have RU1 := Lib.hid (RU.out x K (a :: t) (by omega) wr HX.out)
            rw [r1, r2] at RU1
            obtain ⟨k, hk⟩ : ∃ k : Nat, a.id = (k : Int) := ⟨a.id.toNat, by omega⟩
            rw [hk] at hE2 RU1 FS v1 v2 a0 a7
            generalize hsn : (runR (a :: t)).1 = s2 at *
            have HL2 := Lib.hid (show leftR s2 = ((gk - 1 : Nat) : Int) by omega)
            have hs82 : s2.length ≤ 8 := by omega
            have E2 := Lib.hid hE2
            clear hE2 r1 r2 hlr hll hsn hm hs8 HE a0 hk
            go_wp2_with fail
            (with_reducible refine RU1.out.mono ?_)
            rintro e w5 ⟨rfl, K5, h5, m5, n5⟩
            have hT5 := HT.out.left m5 n5
            have hB5 := m5.below HX.out HB.out
            have bC : Below w5.heap.size w5 (w5.alloc (.cells #[.int .i64 (k : Int), .bool (decide (lf (k : Int) - 1 = 0))] 35)) := (Below.refl _ _).alloc (Nat.le_refl _) _
            have X6 := Lib.hid (h5.call bC)
            have T6 := Lib.hid (hT5.call bC)
            have B6 := Lib.hid (hB5.trans (bC.mono hB5.size))
            have R6 : Hid (RanAt (w5.alloc (.cells #[.int .i64 (k : Int), .bool (decide (lf (k : Int) - 1 = 0))] 35)) w5.heap.size (k : Int) (decide (lf (k : Int) - 1 = 0))) := Lib.hid (heap_alloc_new w5 _)
            have hqc : w5.heap.size ≠ c := by have := hT5.le.lt; omega
            have hqc' : c < w5.heap.size := hT5.le.lt
            have hk8 : k < 8 := by omega
            have hk0 : (0 : Int) ≤ (k : Int) := by omega
            have hkk8 : (k : Int) < 8 := by omega
            have hv0 : (lf (k : Int) == 0) = false := by rw [beq_eq_false_iff_ne]; omega
            obtain ⟨c0, c1⟩ := R6.out.cells
            have l0 := T6.out.le.c k hk8
            have l5 := hT5.le.c k hk8
            clear h5 m5 n5 hT5 hB5 bC HX HT HB RU1
            go_wp2_with fail
            generalize w5.alloc (.cells #[.int .i64 (k : Int), .bool (decide (lf (k : Int) - 1 = 0))] 35) = W6 at *
            generalize w5.heap.size = qb at *
            generalize gk = G at *
            go_loopg [13] 8 (InRel W6)
            case atStart => exact ⟨0, by omega, rfl, Qt.refl _⟩
            case round =>
              clear c0 c1 l0
              obtain ⟨i, hi, rfl, hq⟩ := hrel
              have HI := Lib.hid hi
              have HQ := Lib.hid hq
              have bq := hq.below W6.heap.size
              have R7 := Lib.hid (R6.out.call bq)
              have T7 := Lib.hid (T6.out.call bq)
              obtain ⟨c0, c1⟩ := R7.out.cells
              clear hq hi
              by_cases hlt8 : i < 8
              · have li := T7.out.le.c i hlt8
                have di := T7.out.du.c i hlt8
                have dk := T7.out.du.c k hk8
                have hi8 : (i : Int) < 8 := by omega
                have hi0 : (0 : Int) ≤ (i : Int) := by omega
                have hiw : IntKind.i64.wrap ((i : Int) + 1) = (i : Int) + 1 := IntWalk.i64_in _ (by omega)
                have hgk2 : 0 < gk := by have := HI.out; omega
                have FS1 := FS.out (i : Int)
                clear bq R7 T7 c1 X6 T6 B6 R6 FS LE RU ID E2 hqc hqc' hv0 v1 v2 HL2 hs82
                generalize lf (i : Int) = u at *
                generalize du (i : Int) = d1 at *
                generalize du (k : Int) = d2 at *
                by_cases hu : 0 < u
                · have hle := FS1 hu
                  have g0 : decide (0 < u) = true := decide_eq_true hu
                  have g0' : u > 0 := hu
                  have g1 : decide (d1 < d2) = false := decide_eq_false (by omega)
                  clear FS1
                  go_wp2_with fail
                  go_quiet (fail)
                  have Q8 := Lib.hid (qt_drewN HQ.out nq)
                  clear li di dk c0 HQ
                  generalize wr.drewN nq = w8 at *
                  go_wp2
                  go_roundg (gk - 1)
                  case measure => omega
                  case rel => exact ⟨i + 1, by have := HI.out; omega, by go_num, Q8.out⟩
                · have hle : u ≤ 0 := by omega
                  have g0 : decide (0 < u) = false := decide_eq_false hu
                  clear FS1 hu
                  go_wp2_with fail
                  go_quiet (fail)
                  have Q8 := Lib.hid (qt_drewN HQ.out nq)
                  clear li di dk c0 HQ
                  generalize wr.drewN nq = w8 at *
                  go_wp2
                  go_roundg (gk - 1)
                  case measure => omega
                  case rel => exact ⟨i + 1, by have := HI.out; omega, by go_num, Q8.out⟩
              · have hi8 : (8 : Int) ≤ (i : Int) := by omega
                have lk := T7.out.le.c k hk8
                have zk := T7.out.le.z k hk8
                have X7 := X6.out.call bq
                have B7 := B6.out.trans (bq.mono B6.out.size)
                have hvw : IntKind.i64.wrap (lf (k : Int) - 1) = lf (k : Int) - 1 := IntWalk.i64_in _ (by omega)
                have X8 := Lib.hid (X7.put8 (o := k) (.int .i64 (lf (k : Int) - 1)) T7.out.out)
                have T8 := Lib.hid (T7.out.dec k (lf (k : Int) - 1))
                have B8 := Lib.hid (B7.setCell (p := ⟨c, k, none⟩) HC.out (.int .i64 (lf (k : Int) - 1)))
                have R8 : Hid (RanAt (wr.setCell ⟨c, k, none⟩ (.int .i64 (lf (k : Int) - 1))) qb (k : Int) (decide (lf (k : Int) - 1 = 0))) := Lib.hid ((Below.heap_setCell _ _ _ _ hqc).trans R7.out)
                have LE1 := Lib.hid (LE.out x K5 s2 (by omega))
                have hGm := HGM.out
                have hgw : IntKind.i64.wrap ((G : Int) - 1) = ((G - 1 : Nat) : Int) := by rw [IntWalk.i64_in _ (by omega)]; omega
                rw [HL2.out] at LE1
                have elf : (((G - 1 : Nat) : Int) != ((G - 1 : Nat) : Int)) = false := by simp
                clear bq R7 T7 X6 T6 B6 R6 X7 B7 FS hv0 v1 v2 HQ hlt8 hGm
                go_upto_region 31 with (fail)
                generalize wr.setCell ⟨c, k, none⟩ (.int .i64 (lf (k : Int) - 1)) = W8 at *
                have XF := Lib.hid (X8.out.call (Below.refl W8.heap.size W8).drew)
                have TF := Lib.hid (T8.out.call (Below.refl W8.heap.size W8).drew)
                have BF := Lib.hid (B8.out.trans ((Below.refl W8.heap.size W8).drew.mono B8.out.size))
                have cR := (R8.out.call (Below.refl W8.heap.size W8).drew).cells
                have cL := TF.out.le.c k hk8
                rw [Ed.upd_same] at cL
                clear X8 T8 B8 R8 c0 c1 lk zk
                generalize lf (k : Int) - 1 = v1 at *
                have edd : (v1 == 0) = decide (v1 = 0) := by
                  by_cases e : v1 = 0
                  · rw [decide_eq_true e, e]; rfl
                  · rw [decide_eq_false e, beq_eq_false_iff_ne]; exact e
                generalize decide (v1 = 0) = d at *
                have edn : (d != d) = false := by simp
                have sF : W8.drew.cell? ⟨qb, 0, none⟩ = some (.int .i64 (k : Int)) ∧ W8.drew.cell? ⟨qb, 1, none⟩ = some (.bool d) ∧ W8.drew.cell? ⟨c, k, none⟩ = some (.int .i64 v1) := ⟨cR.1, cR.2, cL⟩
                clear cR cL
                refine wp_region_held_drew (S := (fun W' => W'.cell? ⟨qb, 0, none⟩ = some (.int .i64 (k : Int)) ∧ W'.cell? ⟨qb, 1, none⟩ = some (.bool d) ∧ W'.cell? ⟨c, k, none⟩ = some (.int .i64 v1))) (by kernel_rfl) (sF) (fun hHeld => ?_)
                refine Gh.tk 0 ?_
                refine Gh.tk 1 ?_
                refine Gh.tk 2 ?_
                refine Gh.tk 3 ?_
                refine Gh.tk 4 ?_
                refine Gh.tk 5 ?_
                refine Gh.tk 6 ?_
                refine Gh.tk 7 ?_
                refine Gh.tk 8 ?_
                refine Gh.tk 9 ?_
                refine Gh.tk 11 ?_
                refine Gh.tk 12 ?_
                refine Gh.rd 10 (fun K hK => ?_)
                go_simp
                (with_reducible refine (LE1.out _ XF.out).mono ?_)
                rintro e wg ⟨rfl, bg⟩
                have Xg := Lib.hid (XF.out.call bg)
                have Tg := Lib.hid (TF.out.call bg)
                have Bg := Lib.hid (BF.out.trans (bg.mono BF.out.size))
                have sg := And.intro (carry bg sF.1) (And.intro (carry bg sF.2.1) (carry bg sF.2.2))
                clear bg XF TF BF sF LE1
                go_simp
                refine hK.out _ _ (sg) (fun hHeld => ?_)
                clear hK K
                refine Gh.pt ?_
                refine Gh.tk 13 ?_
                refine Gh.tk 14 ?_
                refine wpAnyH_done (by kernel_rfl) ?_ _
                clear hHeld
                clear hHeld
                go_wp2
                go_roundg (G - 1)
                case measure => omega
                case rel => exact ⟨K5, s2, _, du, HL2.out, rfl, Xg.out, Tg.out, E2.out, hs82, Bg.out⟩
          · have hg00 : (gk : Int) ≤ 0 := by omega
            obtain rfl := left_nil HX.out.good (by omega)
            have RU1 := Lib.hid (RU.out x K [] (by simp) wr HX.out)
            have ID1 := Lib.hid (fun K' W h => ID.out x K' [] (by simp) W h)
            have r1 : (runR []).2.1 = -1 := rfl
            have r2 : (runR []).2.2 = false := rfl
            rw [r1, r2] at RU1
            clear r1 r2 HT HE LE RU ID hm
            go_wp2_with fail
            (with_reducible refine RU1.out.mono ?_)
            rintro e w5 ⟨rfl, K5, h5, m5, n5⟩
            have h5 : Xq w.heap.size w5 x K5 [] := h5
            have hB5 := m5.below HX.out HB.out
            have bC : Below w5.heap.size w5 (w5.alloc (.cells #[.int .i64 (-1), .bool false] 35)) := (Below.refl _ _).alloc (Nat.le_refl _) _
            have X6 := Lib.hid (h5.call bC)
            have B6 := Lib.hid (hB5.trans (bC.mono hB5.size))
            clear h5 m5 n5 hB5 bC HX HB RU1
            go_wp2_with fail
            (with_reducible refine (ID1.out K5 _ X6.out).mono ?_)
            rintro e w6 ⟨rfl, b6⟩
            have B7 := Lib.hid (B6.out.trans (b6.mono B6.out.size))
            clear b6 X6 B6 ID1
            go_wp2
            go_ret
            exact ⟨rfl, B7.out⟩
      · have hdec : decide (i < l.length) = false := decide_eq_false (by omega)
        clear hlt hi hsl
        go_wp2_with fail
        (with_reducible refine LE1.out.mono ?_)
        rintro e w3 ⟨rfl, b3⟩
        have hne : (leftR s != leftR s) = false := by simp
        obtain ⟨m, hm⟩ : ∃ m : Nat, leftR s = (m : Int) := ⟨(leftR s).toNat, by have := left_nonneg HX.out.good; omega⟩
        have X3 := Lib.hid (HX.out.call b3)
        have T3 := Lib.hid (HT.out.call b3)
        have B3 := Lib.hid (HB.out.trans (b3.mono HB.out.size))
        have E3 := Lib.hid HE.out
        have HM := Lib.hid hm
        rw [hm] at hne ⊢
        clear b3 HX HT HB HE LE1 hm
        go_wp2_with fail
        go_loopg [11] m (RnRel w x c)
        case atStart => exact ⟨K, s, lf, du, HM.out, rfl, X3.out, T3.out, E3.out, hs8, B3.out⟩
        case round =>
          clear X3 T3 B3 E3 HM hs8
          obtain ⟨K, s, lf, du, hm, rfl, hx, ht, he, hs8, hb⟩ := hrel
          have HX := Lib.hid hx
          have HT := Lib.hid ht
          have HE := Lib.hid he
          have HB := Lib.hid hb
          clear hx ht he hb
          by_cases hg0 : 0 < gk
          · have hgt : (gk : Int) > 0 := by omega
            have HGM := Lib.hid (show (gk : Int) ≤ 17179869184 by have := left_le HX.out.good; omega)
            obtain ⟨a, t, rfl⟩ := left_cons HX.out.good (by omega)
            obtain ⟨hE2, r1, r2, v1, v2, a0, a7⟩ := eight_run HE.out HX.out.good
            have FS := Lib.hid (fun i hp => eight_first HE.out HX.out.good (i := i) hp)
            have hlr := Ed.left_run (j := a) (l := t)
            have hll := run_len8 (a :: t)
            have RU1 := Lib.hid (RU.out x K (a :: t) (by omega) wr HX.out)
            rw [r1, r2] at RU1
            obtain ⟨k, hk⟩ : ∃ k : Nat, a.id = (k : Int) := ⟨a.id.toNat, by omega⟩
            rw [hk] at hE2 RU1 FS v1 v2 a0 a7
            generalize hsn : (runR (a :: t)).1 = s2 at *
            have HL2 := Lib.hid (show leftR s2 = ((gk - 1 : Nat) : Int) by omega)
            have hs82 : s2.length ≤ 8 := by omega
            have E2 := Lib.hid hE2
            clear hE2 r1 r2 hlr hll hsn hm hs8 HE a0 hk
            go_wp2_with fail
            (with_reducible refine RU1.out.mono ?_)
            rintro e w5 ⟨rfl, K5, h5, m5, n5⟩
            have hT5 := HT.out.left m5 n5
            have hB5 := m5.below HX.out HB.out
            have bC : Below w5.heap.size w5 (w5.alloc (.cells #[.int .i64 (k : Int), .bool (decide (lf (k : Int) - 1 = 0))] 35)) := (Below.refl _ _).alloc (Nat.le_refl _) _
            have X6 := Lib.hid (h5.call bC)
            have T6 := Lib.hid (hT5.call bC)
            have B6 := Lib.hid (hB5.trans (bC.mono hB5.size))
            have R6 : Hid (RanAt (w5.alloc (.cells #[.int .i64 (k : Int), .bool (decide (lf (k : Int) - 1 = 0))] 35)) w5.heap.size (k : Int) (decide (lf (k : Int) - 1 = 0))) := Lib.hid (heap_alloc_new w5 _)
            have hqc : w5.heap.size ≠ c := by have := hT5.le.lt; omega
            have hqc' : c < w5.heap.size := hT5.le.lt
            have hk8 : k < 8 := by omega
            have hk0 : (0 : Int) ≤ (k : Int) := by omega
            have hkk8 : (k : Int) < 8 := by omega
            have hv0 : (lf (k : Int) == 0) = false := by rw [beq_eq_false_iff_ne]; omega
            obtain ⟨c0, c1⟩ := R6.out.cells
            have l0 := T6.out.le.c k hk8
            have l5 := hT5.le.c k hk8
            clear h5 m5 n5 hT5 hB5 bC HX HT HB RU1
            go_wp2_with fail
            generalize w5.alloc (.cells #[.int .i64 (k : Int), .bool (decide (lf (k : Int) - 1 = 0))] 35) = W6 at *
            generalize w5.heap.size = qb at *
            generalize gk = G at *
            go_loopg [13] 8 (InRel W6)
            case atStart => exact ⟨0, by omega, rfl, Qt.refl _⟩
            case round =>
              clear c0 c1 l0
              obtain ⟨i, hi, rfl, hq⟩ := hrel
              have HI := Lib.hid hi
              have HQ := Lib.hid hq
              have bq := hq.below W6.heap.size
              have R7 := Lib.hid (R6.out.call bq)
              have T7 := Lib.hid (T6.out.call bq)
              obtain ⟨c0, c1⟩ := R7.out.cells
              clear hq hi
              by_cases hlt8 : i < 8
              · have li := T7.out.le.c i hlt8
                have di := T7.out.du.c i hlt8
                have dk := T7.out.du.c k hk8
                have hi8 : (i : Int) < 8 := by omega
                have hi0 : (0 : Int) ≤ (i : Int) := by omega
                have hiw : IntKind.i64.wrap ((i : Int) + 1) = (i : Int) + 1 := IntWalk.i64_in _ (by omega)
                have hgk2 : 0 < gk := by have := HI.out; omega
                have FS1 := FS.out (i : Int)
                clear bq R7 T7 c1 X6 T6 B6 R6 FS LE RU ID E2 hqc hqc' hv0 v1 v2 HL2 hs82
                generalize lf (i : Int) = u at *
                generalize du (i : Int) = d1 at *
                generalize du (k : Int) = d2 at *
                by_cases hu : 0 < u
                · have hle := FS1 hu
                  have g0 : decide (0 < u) = true := decide_eq_true hu
                  have g0' : u > 0 := hu
                  have g1 : decide (d1 < d2) = false := decide_eq_false (by omega)
                  clear FS1
                  go_wp2_with fail
                  go_quiet (fail)
                  have Q8 := Lib.hid (qt_drewN HQ.out nq)
                  clear li di dk c0 HQ
                  generalize wr.drewN nq = w8 at *
                  go_wp2
                  go_roundg (gk - 1)
                  case measure => omega
                  case rel => exact ⟨i + 1, by have := HI.out; omega, by go_num, Q8.out⟩
                · have hle : u ≤ 0 := by omega
                  have g0 : decide (0 < u) = false := decide_eq_false hu
                  clear FS1 hu
                  go_wp2_with fail
                  go_quiet (fail)
                  have Q8 := Lib.hid (qt_drewN HQ.out nq)
                  clear li di dk c0 HQ
                  generalize wr.drewN nq = w8 at *
                  go_wp2
                  go_roundg (gk - 1)
                  case measure => omega
                  case rel => exact ⟨i + 1, by have := HI.out; omega, by go_num, Q8.out⟩
              · have hi8 : (8 : Int) ≤ (i : Int) := by omega
                have lk := T7.out.le.c k hk8
                have zk := T7.out.le.z k hk8
                have X7 := X6.out.call bq
                have B7 := B6.out.trans (bq.mono B6.out.size)
                have hvw : IntKind.i64.wrap (lf (k : Int) - 1) = lf (k : Int) - 1 := IntWalk.i64_in _ (by omega)
                have X8 := Lib.hid (X7.put8 (o := k) (.int .i64 (lf (k : Int) - 1)) T7.out.out)
                have T8 := Lib.hid (T7.out.dec k (lf (k : Int) - 1))
                have B8 := Lib.hid (B7.setCell (p := ⟨c, k, none⟩) HC.out (.int .i64 (lf (k : Int) - 1)))
                have R8 : Hid (RanAt (wr.setCell ⟨c, k, none⟩ (.int .i64 (lf (k : Int) - 1))) qb (k : Int) (decide (lf (k : Int) - 1 = 0))) := Lib.hid ((Below.heap_setCell _ _ _ _ hqc).trans R7.out)
                have LE1 := Lib.hid (LE.out x K5 s2 (by omega))
                have hGm := HGM.out
                have hgw : IntKind.i64.wrap ((G : Int) - 1) = ((G - 1 : Nat) : Int) := by rw [IntWalk.i64_in _ (by omega)]; omega
                rw [HL2.out] at LE1
                have elf : (((G - 1 : Nat) : Int) != ((G - 1 : Nat) : Int)) = false := by simp
                clear bq R7 T7 X6 T6 B6 R6 X7 B7 FS hv0 v1 v2 HQ hlt8 hGm
                go_upto_region 31 with (fail)
                generalize wr.setCell ⟨c, k, none⟩ (.int .i64 (lf (k : Int) - 1)) = W8 at *
                have XF := Lib.hid (X8.out.call (Below.refl W8.heap.size W8).drew)
                have TF := Lib.hid (T8.out.call (Below.refl W8.heap.size W8).drew)
                have BF := Lib.hid (B8.out.trans ((Below.refl W8.heap.size W8).drew.mono B8.out.size))
                have cR := (R8.out.call (Below.refl W8.heap.size W8).drew).cells
                have cL := TF.out.le.c k hk8
                rw [Ed.upd_same] at cL
                clear X8 T8 B8 R8 c0 c1 lk zk
                generalize lf (k : Int) - 1 = v1 at *
                have edd : (v1 == 0) = decide (v1 = 0) := by
                  by_cases e : v1 = 0
                  · rw [decide_eq_true e, e]; rfl
                  · rw [decide_eq_false e, beq_eq_false_iff_ne]; exact e
                generalize decide (v1 = 0) = d at *
                have edn : (d != d) = false := by simp
                have sF : W8.drew.cell? ⟨qb, 0, none⟩ = some (.int .i64 (k : Int)) ∧ W8.drew.cell? ⟨qb, 1, none⟩ = some (.bool d) ∧ W8.drew.cell? ⟨c, k, none⟩ = some (.int .i64 v1) := ⟨cR.1, cR.2, cL⟩
                clear cR cL
                refine wp_region_held_drew (S := (fun W' => W'.cell? ⟨qb, 0, none⟩ = some (.int .i64 (k : Int)) ∧ W'.cell? ⟨qb, 1, none⟩ = some (.bool d) ∧ W'.cell? ⟨c, k, none⟩ = some (.int .i64 v1))) (by kernel_rfl) (sF) (fun hHeld => ?_)
                refine Gh.tk 0 ?_
                refine Gh.tk 1 ?_
                refine Gh.tk 2 ?_
                refine Gh.tk 3 ?_
                refine Gh.tk 4 ?_
                refine Gh.tk 5 ?_
                refine Gh.tk 6 ?_
                refine Gh.tk 7 ?_
                refine Gh.tk 8 ?_
                refine Gh.tk 9 ?_
                refine Gh.tk 11 ?_
                refine Gh.tk 12 ?_
                refine Gh.rd 10 (fun K hK => ?_)
                go_simp
                (with_reducible refine (LE1.out _ XF.out).mono ?_)
                rintro e wg ⟨rfl, bg⟩
                have Xg := Lib.hid (XF.out.call bg)
                have Tg := Lib.hid (TF.out.call bg)
                have Bg := Lib.hid (BF.out.trans (bg.mono BF.out.size))
                have sg := And.intro (carry bg sF.1) (And.intro (carry bg sF.2.1) (carry bg sF.2.2))
                clear bg XF TF BF sF LE1
                go_simp
                refine hK.out _ _ (sg) (fun hHeld => ?_)
                clear hK K
                refine Gh.pt ?_
                refine Gh.tk 13 ?_
                refine Gh.tk 14 ?_
                refine wpAnyH_done (by kernel_rfl) ?_ _
                clear hHeld
                clear hHeld
                go_wp2
                go_roundg (G - 1)
                case measure => omega
                case rel => exact ⟨K5, s2, _, du, HL2.out, rfl, Xg.out, Tg.out, E2.out, hs82, Bg.out⟩
          · have hg00 : (gk : Int) ≤ 0 := by omega
            obtain rfl := left_nil HX.out.good (by omega)
            have RU1 := Lib.hid (RU.out x K [] (by simp) wr HX.out)
            have ID1 := Lib.hid (fun K' W h => ID.out x K' [] (by simp) W h)
            have r1 : (runR []).2.1 = -1 := rfl
            have r2 : (runR []).2.2 = false := rfl
            rw [r1, r2] at RU1
            clear r1 r2 HT HE LE RU ID hm
            go_wp2_with fail
            (with_reducible refine RU1.out.mono ?_)
            rintro e w5 ⟨rfl, K5, h5, m5, n5⟩
            have h5 : Xq w.heap.size w5 x K5 [] := h5
            have hB5 := m5.below HX.out HB.out
            have bC : Below w5.heap.size w5 (w5.alloc (.cells #[.int .i64 (-1), .bool false] 35)) := (Below.refl _ _).alloc (Nat.le_refl _) _
            have X6 := Lib.hid (h5.call bC)
            have B6 := Lib.hid (hB5.trans (bC.mono hB5.size))
            clear h5 m5 n5 hB5 bC HX HB RU1
            go_wp2_with fail
            (with_reducible refine (ID1.out K5 _ X6.out).mono ?_)
            rintro e w6 ⟨rfl, b6⟩
            have B7 := Lib.hid (B6.out.trans (b6.mono B6.out.size))
            clear b6 X6 B6 ID1
            go_wp2
            go_ret
            exact ⟨rfl, B7.out⟩

set_option maxRecDepth 100000 in
set_option maxHeartbeats 1600000 in
theorem lifted (os : Os) (started : os.Started) (H : Type) (enc : TypeId × Value → H) :
    ReturnsInHanded {} Try.checked os 4 .any (Rows.edfAllSpec.pre6 enc Try.prog Try.f4 Rows.edfAllRow.domain false) (Rows.edfAllSpec.post enc Try.prog Try.f4 false true false false) := by
  refine returnsInHanded_of_change (C := Try.checked) own started (by kernel_rfl) Try.func4
    (ChangeSpec.witness6 (enc := enc) (C := Try.checked) false ⟨#[], #[.slice none 0 0], []⟩ 8 (by kernel_rfl) (by kernel_rfl) (by kernel_rfl) (by kernel_rfl)) ?_
  intro W base args ds gs before hval0 hW hcnd _
  have hval : ∀ (j : Nat) t v, Try.f4.params[j]? = some t → args[j]? = some v → Value.okWide Try.prog W .any base t v := hval0
  have hW' := hW
  obtain ⟨p, q, hA0, hV, rfl, hfz, hnd⟩ := hW
  have hA : DataW.TrodAll enc Try.prog W 0 (fun _ => true) true Try.f4.params.toList args.toList ds p := hA0
  rw [Try.params4] at hA hval
  obtain ⟨v0, vs0, d0, ds0, p0, q0, hargs, rfl, rfl, h0, r0⟩ := trodAll_cons hA
  obtain ⟨rfl, rfl, rfl⟩ := trodAll_nil r0
  obtain rfl : args = #[v0] := by cases args; simp_all
  obtain ⟨rfl, rfl⟩ := trodVars_none hV
  have lt0 : ∀ x ∈ p0, x.block < W.heap.size := by obtain ⟨m, hm⟩ := h0; exact DataW.trod_lt m _ _ _ hm
  obtain ⟨lo, l, lc, rfl, ll, ls⟩ := open_jobs (hval 0 27 v0 rfl rfl) h0
  clear hA0 hval0
  refine (walk l lo lc W ll ls).mono fun e W' ⟨he, bel⟩ => ?_
  subst he
  exact ⟨_, rfl, _, _, _, [], _, [], hW', trodAll_mk1 (shut_bool Try.underlying4 _), (trodAll_cons_mk (Below.trod laidOut (by kernel_rfl) (of_decide_eq_true (by kernel_rfl)) h0 bel lt0) trodAll_mk0), rfl, bel.frame _, fun h => by cases h⟩

theorem proved : Rows.EdfAllSaid :=
  OpenClaim.holds_of_wide 4 Try.f4 rfl rfl rfl rfl rfl rfl rfl ⟨rfl, rfl, rfl, rfl, rfl⟩ rfl rfl rfl rfl rfl (by kernel_rfl) Try.func4 (by kernel_rfl)
    (of_decide_eq_true (by kernel_rfl)) (by unfold Func.isWrapper; first | (rw [if_pos (by decide +kernel)]; kernel_rfl) | (rw [if_neg (by decide +kernel)]; exact ⟨rfl, rfl⟩))
    (fun os started H enc _ => lifted os started H enc)
#print axioms proved
end Go.Proofs.Yteagimnlhopjpaa.edfAll
