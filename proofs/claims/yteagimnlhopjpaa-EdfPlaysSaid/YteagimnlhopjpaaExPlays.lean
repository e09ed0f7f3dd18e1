/- horariumlaw18.EdfPlays answers true at every row of steps and every time: an executive goes on, step by step, as the document says. No condition. -/
import Derived.Test.YteagimnlhopjpaaEdO
import Derived.Deep.CutBlock
import Derived.Deep.DeepCutAuto
import Derived.Test.YteagimnlhopjpaaGnH
namespace Go.Proofs.Yteagimnlhopjpaa.edfPlays
open Go.ChangeShapes Go.WideShapes Go.ChangeAt Go.RowKit Go.Joins
set_option maxRecDepth 100000
set_option linter.unusedVariables false
set_option linter.unusedSimpArgs false
open Hj
open Ed (Jo hasR lateR leftR addR runR mayJ)
open Ge (El Seen Row)
/-- i steps were made -/
def PlRel (n : Nat) (w : World) (x c : Nat) (m : Nat) (s8 : Value) (wr : World) : Prop :=
  ∃ (i : Nat) (K : List Nat) (ao : Option Addr) (s : List Jo), i + m = n ∧ s8 = .int .i64 (i : Int) ∧ Bo w.heap.size wr x K c ao s s ∧ s.length ≤ i ∧ Below w.heap.size w wr
/-- one more -/
def PsRel (i : Nat) (w : World) (x c ob : Nat) (o : Stp) (s10 : Value) (wr : World) : Prop :=
  ∃ (K : List Nat) (ao : Option Addr) (s : List Jo), s10 = .bool true ∧ Bo w.heap.size wr x K c ao s s ∧ Ob wr K c ob o ∧ s.length ≤ i + 1 ∧ Below w.heap.size w wr

set_option maxRecDepth 100000 in
set_option maxHeartbeats 16000000 in
theorem walk (l : List Stp) (lo : Option Addr) (lc : Nat) (now : Int) (w : World) (hl : l.length ≤ 9223372036854775807) (hL : Seen oc 7 lo l w) (hI : ∀ o ∈ l, I64 o.job.id) : Calls Try.prog 3 #[.slice lo l.length lc, .int .i64 now] w fun e w' => e = .returned (.bool true) ∧ Below w.heap.size w w' := by
  have AW := Lib.hid awake_any
  have NW := Lib.hid xnew_any
  have AD := Lib.hid (fun x K s j hi hl W h => xadd_any w.heap.size x K s j hi hl W h)
  have RU := Lib.hid (fun x K s hl W h => xrun_any w.heap.size x K s hl W h)
  have PE := Lib.hid (fun x K s hl W h => xpending_any w.heap.size x K s hl W h)
  have LT := Lib.hid (fun x K s t hl W h => xlate_any w.heap.size x K s t hl W h)
  have HS := Lib.hid (fun x K s i hi hl W h => xhas_any w.heap.size x K s i hi hl W h)
  have ID := Lib.hid (fun x K s hl W h => xidle_any w.heap.size x K s hl W h)
  have LE := Lib.hid (fun x K s hl W h => xleft_any w.heap.size x K s hl W h)
  have DR := Lib.hid (fun x K s hl W h => xdrop_any w.heap.size x K s hl W h)
  have JB := Lib.hid job_any
  have RRU := Lib.hid (fun c ao s hg hl W h => rrun_any w.heap.size c ao s hg hl W h)
  have RAD := Lib.hid (fun c ao s j hl W h => radd_any w.heap.size c ao s j hl W h)
  have RLT := Lib.hid (fun c ao s t hl W h => rlate_any w.heap.size c ao s t hl W h)
  have RLE := Lib.hid (fun c ao s hl hb W h => rleft_any w.heap.size c ao s hl hb W h)
  have RHS := Lib.hid (fun c ao s i hl W h => rhas_any w.heap.size c ao s i hl W h)
  have RDR := Lib.hid (fun c ao s W h => rdrop_any w.heap.size c ao s W h)
  have SA := Lib.hid same_any
  have LI := Lib.hid hI
  have NS := Lib.hid hL
  obtain ⟨t, ht⟩ : ∃ t, bits .and .i64 now 31 = t := ⟨_, rfl⟩
  clear hI
  clear hL
  go_enter Try.func3, Try.ntmps3
  go_wp2_with fail
  (with_reducible refine (AW.out _).mono ?_)
  rintro e w1 ⟨rfl, b1⟩
  have B1 := Lib.hid b1
  clear b1 AW
  go_wp2_with fail
  (with_reducible refine (NW.out _).mono ?_)
  rintro e W1 ⟨x, K1, rfl, h1, b2⟩
  have X1 := Lib.hid (h1.mono B1.out.size)
  have B2 := Lib.hid (B1.out.trans (b2.mono B1.out.size))
  clear h1 b2 B1 NW
  have B3 : Hid (Below w.heap.size w (W1.alloc (.cells #[.slice none 0 0] 29))) := Lib.hid (B2.out.alloc B2.out.size _)
  have P0 : Hid (Bo w.heap.size (W1.alloc (.cells #[.slice none 0 0] 29)) x K1 W1.heap.size none [] []) := Lib.hid ⟨X1.out.call ((Below.refl _ W1).alloc (Nat.le_refl _) _), (rx_new W1).mono B2.out.size, fun hk => by have := (X1.out.lt _ hk).2; omega, fun a e => by cases e⟩
  clear X1 B2
  go_wp2_with fail
  generalize W1.alloc (.cells #[.slice none 0 0] 29) = W2 at *
  generalize W1.heap.size = c at *
  obtain ⟨n, hn⟩ : ∃ n, n = min l.length 60 := ⟨_, rfl⟩
  have HN := Lib.hid hn
  clear hn
  go_loopg [8] n (PlRel n w x c)
  case atStart => exact ⟨0, K1, none, [], by omega, rfl, P0.out, by simp, B3.out⟩
  case round =>
    obtain ⟨i, K, ao, s, hi, rfl, hp, hsl, hb⟩ := hrel
    have HP := Lib.hid hp
    have HB := Lib.hid hb
    clear P0 B3 hp hb
    by_cases hlt : i < n
    · have hil : i < l.length := by have := HN.out; omega
      have hi60 : i < 60 := by have := HN.out; omega
      obtain ⟨o, ho⟩ : ∃ o, l[i]? = some o := ⟨_, List.getElem?_eq_getElem hil⟩
      have HOI : Hid (I64 (jobR o.near o.job).id) := Lib.hid (job_id (LI.out o (List.mem_of_getElem? ho)))
      obtain ⟨lb, off, rfl, o0, o1, o2, o3, o4, o5, o6⟩ := seen_op (NS.out.below HB.out (Nat.le_refl _)) ho
      have hil1 : (i : Int) < (l.length : Int) := by omega
      have hi61 : (i : Int) < 60 := by omega
      have hiw : IntKind.i64.wrap (i : Int) = (i : Int) := IntWalk.i64_in _ (by omega)
      have hiw1 : IntKind.i64.wrap ((i : Int) + 1) = (i : Int) + 1 := IntWalk.i64_in _ (by omega)
      obtain ⟨k, hk⟩ : ∃ k, bits .and .i64 o.kind 7 = k := ⟨_, rfl⟩
      have bA : Below wr.heap.size wr (wr.alloc (.cells #[.int .i64 o.kind, .int .i64 o.job.id, .int .i64 o.job.rel, .int .i64 o.job.dl, .int .i64 o.job.le, .bool o.near, .bool o.drops] 33)) := (Below.refl _ _).alloc (Nat.le_refl _) _
      have P3 := Lib.hid (HP.out.call bA)
      have B4 := Lib.hid (HB.out.trans (bA.mono HB.out.size))
      have O3 : Hid (Ob (wr.alloc (.cells #[.int .i64 o.kind, .int .i64 o.job.id, .int .i64 o.job.rel, .int .i64 o.job.dl, .int .i64 o.job.le, .bool o.near, .bool o.drops] 33)) K c wr.heap.size o) := Lib.hid ⟨heap_alloc_new wr _, fun hm => by have := (HP.out.fst.lt _ hm).2; omega, by have := HP.out.snd.lt; omega⟩
      have HI := Lib.hid hi
      have HLT := Lib.hid hlt
      clear ho hi hlt bA HP HB
      go_upto_region 11 with (fail)
      generalize wr.alloc (.cells #[.int .i64 o.kind, .int .i64 o.job.id, .int .i64 o.job.rel, .int .i64 o.job.dl, .int .i64 o.job.le, .bool o.near, .bool o.drops] 33) = W3 at *
      generalize wr.heap.size = ob at *
      clear o0 o1 o2 o3 o4 o5 o6
      have cS := O3.out.cells
      go_upto_block 2 with (fail)
      go_cut [10] (PsRel i w x c ob o)
      case first =>
        have hl100 : s.length ≤ 1000 := by omega
        have HSL := Lib.hid hsl
        by_cases k3 : k = 3
        · subst k3
          have RU1 := Lib.hid (RU.out x K s hl100 W3 P3.out.fst)
          have RR1 := Lib.hid (fun W h => RRU.out c ao s P3.out.fst.les (by omega) W h)
          have HLN := Lib.hid (show (runR s).1.length ≤ i + 1 by have := run_len s; omega)
          have ER := eql_ran
          generalize (runR s).2.1 = rid at *
          generalize (runR s).2.2 = rd at *
          generalize (runR s).1 = s5 at *
          clear cS
          go_wp2_with fail
          (with_reducible refine RU1.out.mono ?_)
          rintro e w5 ⟨rfl, K5, h5, m5, n5⟩
          have P5 := Lib.hid (P3.out.left h5 m5 n5)
          have O5 := Lib.hid (O3.out.left m5 n5)
          have B5 := Lib.hid (m5.below P3.out.fst B4.out)
          clear h5 m5 n5 RU1
          go_wp2_with fail
          (with_reducible refine (RR1.out _ P5.out.snd).mono ?_)
          rintro e w6 ⟨rfl, ao6, h6, m6, n6⟩
          have P6 := Lib.hid (P5.out.right h6 m6 n6)
          have O6 := Lib.hid (O5.out.right m6)
          have B6 := Lib.hid (m6.rx P5.out.snd B5.out)
          clear h6 m6 n6 RR1 P5 O5 B5
          go_wp2
          go_meet
          exact ⟨K5, ao6, s5, by first | rfl | simp, P6.out, O6.out, HLN.out, B6.out⟩
        by_cases k4 : k = 4
        · subst k4
          have RU1 := Lib.hid (RU.out x K s hl100 W3 P3.out.fst)
          have RR1 := Lib.hid (fun W h => RRU.out c ao s P3.out.fst.les (by omega) W h)
          have HLN := Lib.hid (show (runR s).1.length ≤ i + 1 by have := run_len s; omega)
          have ER := eql_ran
          generalize (runR s).2.1 = rid at *
          generalize (runR s).2.2 = rd at *
          generalize (runR s).1 = s5 at *
          clear cS
          go_wp2_with fail
          (with_reducible refine RU1.out.mono ?_)
          rintro e w5 ⟨rfl, K5, h5, m5, n5⟩
          have P5 := Lib.hid (P3.out.left h5 m5 n5)
          have O5 := Lib.hid (O3.out.left m5 n5)
          have B5 := Lib.hid (m5.below P3.out.fst B4.out)
          clear h5 m5 n5 RU1
          go_wp2_with fail
          (with_reducible refine (RR1.out _ P5.out.snd).mono ?_)
          rintro e w6 ⟨rfl, ao6, h6, m6, n6⟩
          have P6 := Lib.hid (P5.out.right h6 m6 n6)
          have O6 := Lib.hid (O5.out.right m6)
          have B6 := Lib.hid (m6.rx P5.out.snd B5.out)
          clear h6 m6 n6 RR1 P5 O5 B5
          go_wp2
          go_meet
          exact ⟨K5, ao6, s5, by first | rfl | simp, P6.out, O6.out, HLN.out, B6.out⟩
        by_cases k5 : k = 5
        · subst k5
          have RU1 := Lib.hid (RU.out x K s hl100 W3 P3.out.fst)
          have RR1 := Lib.hid (fun W h => RRU.out c ao s P3.out.fst.les (by omega) W h)
          have HLN := Lib.hid (show (runR s).1.length ≤ i + 1 by have := run_len s; omega)
          have ER := eql_ran
          generalize (runR s).2.1 = rid at *
          generalize (runR s).2.2 = rd at *
          generalize (runR s).1 = s5 at *
          clear cS
          go_wp2_with fail
          (with_reducible refine RU1.out.mono ?_)
          rintro e w5 ⟨rfl, K5, h5, m5, n5⟩
          have P5 := Lib.hid (P3.out.left h5 m5 n5)
          have O5 := Lib.hid (O3.out.left m5 n5)
          have B5 := Lib.hid (m5.below P3.out.fst B4.out)
          clear h5 m5 n5 RU1
          go_wp2_with fail
          (with_reducible refine (RR1.out _ P5.out.snd).mono ?_)
          rintro e w6 ⟨rfl, ao6, h6, m6, n6⟩
          have P6 := Lib.hid (P5.out.right h6 m6 n6)
          have O6 := Lib.hid (O5.out.right m6)
          have B6 := Lib.hid (m6.rx P5.out.snd B5.out)
          clear h6 m6 n6 RR1 P5 O5 B5
          go_wp2
          go_meet
          exact ⟨K5, ao6, s5, by first | rfl | simp, P6.out, O6.out, HLN.out, B6.out⟩
        by_cases k6 : k = 6
        · subst k6
          have RU1 := Lib.hid (RU.out x K s hl100 W3 P3.out.fst)
          have RR1 := Lib.hid (fun W h => RRU.out c ao s P3.out.fst.les (by omega) W h)
          have HLN := Lib.hid (show (runR s).1.length ≤ i + 1 by have := run_len s; omega)
          have ER := eql_ran
          generalize (runR s).2.1 = rid at *
          generalize (runR s).2.2 = rd at *
          generalize (runR s).1 = s5 at *
          clear cS
          go_wp2_with fail
          (with_reducible refine RU1.out.mono ?_)
          rintro e w5 ⟨rfl, K5, h5, m5, n5⟩
          have P5 := Lib.hid (P3.out.left h5 m5 n5)
          have O5 := Lib.hid (O3.out.left m5 n5)
          have B5 := Lib.hid (m5.below P3.out.fst B4.out)
          clear h5 m5 n5 RU1
          go_wp2_with fail
          (with_reducible refine (RR1.out _ P5.out.snd).mono ?_)
          rintro e w6 ⟨rfl, ao6, h6, m6, n6⟩
          have P6 := Lib.hid (P5.out.right h6 m6 n6)
          have O6 := Lib.hid (O5.out.right m6)
          have B6 := Lib.hid (m6.rx P5.out.snd B5.out)
          clear h6 m6 n6 RR1 P5 O5 B5
          go_wp2
          go_meet
          exact ⟨K5, ao6, s5, by first | rfl | simp, P6.out, O6.out, HLN.out, B6.out⟩
        have e3 : (k == 3) = false := by simp [k3]
        have e4 : (k == 4) = false := by simp [k4]
        have e5 : (k == 5) = false := by simp [k5]
        have e6 : (k == 6) = false := by simp [k6]
        by_cases k7 : k = 7
        · subst k7
          have c6 := cS.2.2.2.2.2.2
          clear cS e3 e4 e5 e6
          cases hd : o.drops with
          | false =>
            rw [hd] at c6
            go_wp2
            go_meet
            exact ⟨K, ao, s, rfl, P3.out, O3.out, by have := HSL.out; omega, B4.out⟩
          | true =>
            rw [hd] at c6
            have DR1 := Lib.hid (DR.out x K s hl100 W3 P3.out.fst)
            go_wp2_with fail
            (with_reducible refine DR1.out.mono ?_)
            rintro e w5 ⟨u, rfl, r5, K5, h5, m5, n5⟩
            have P5 := Lib.hid (P3.out.left h5 m5 n5)
            have O5 := Lib.hid (O3.out.left m5 n5)
            have B5 := Lib.hid (m5.below P3.out.fst B4.out)
            have R5 := Lib.hid r5
            have hcl := P3.out.snd.lt
            clear r5 h5 m5 n5 DR1
            go_wp2_with fail
            (with_reducible refine (RDR.out c ao s _ P5.out.snd).mono ?_)
            rintro e w6 ⟨⟨cap6, rfl⟩, h6, m6⟩
            have r6 : NRow W3.heap.size w6 u s := R5.out.of_blocks fun j hj => m6.block j (R5.out.lt j hj).2 (by have := (R5.out.lt j hj).1; omega) (by simp)
            have ns6 := P5.out.snd.seen_mv m6
            have P6 := Lib.hid (P5.out.right h6 m6 (fun a e => by cases e))
            have O6 := Lib.hid (O5.out.right m6)
            have B6 := Lib.hid (m6.rx P5.out.snd B5.out)
            obtain ⟨pa, pc, rfl, -, nsa⟩ := r6.form
            have SM := Lib.hid (SA.out s pa ao pc cap6 w6 nsa ns6 (by omega))
            clear h6 m6 r6 ns6 nsa P5 O5 B5 R5
            go_wp2_with fail
            (with_reducible refine SM.out.mono ?_)
            rintro e w7 ⟨rfl, q7⟩
            have P7 := Lib.hid (P6.out.call (q7.below _))
            have O7 := Lib.hid (O6.out.call (q7.below _))
            have B7 := Lib.hid (B6.out.trans (q7.below _))
            clear q7 P6 O6 B6 SM
            go_wp2
            go_meet
            exact ⟨K5, none, [], rfl, P7.out, O7.out, by simp, B7.out⟩
        have e7 : (k == 7) = false := by simp [k7]
        have PD := Lib.hid (P3.out.call (Below.refl W3.heap.size W3).drew)
        have OD := Lib.hid (O3.out.call (Below.refl W3.heap.size W3).drew)
        have BD := Lib.hid (B4.out.trans ((Below.refl W3.heap.size W3).drew.mono B4.out.size))
        have cD := OD.out.cells
        have JB1 := Lib.hid (fun W => JB.out o.kind o.job o.near o.drops W)
        have AD1 := Lib.hid (fun W h => AD.out x K s (jobR o.near o.job) HOI.out hl100 W h)
        have RAD1 := Lib.hid (fun W h => RAD.out c ao s (jobR o.near o.job) (by omega) W h)
        have HLN := Lib.hid (show (addR s (jobR o.near o.job)).1.length ≤ i + 1 by have := add_len s (jobR o.near o.job); omega)
        clear k3 k4 k5 k6 k7 cS
        generalize jobR o.near o.job = q at *
        generalize (addR s q).2 = A at *
        generalize (addR s q).1 = s8 at *
        go_wp2_with fail
        refine wp_region_held_drew (S := (fun W' => W'.cell? ⟨ob, 0, none⟩ = some (.int .i64 o.kind) ∧ W'.cell? ⟨ob, 1, none⟩ = some (.int .i64 o.job.id) ∧ W'.cell? ⟨ob, 2, none⟩ = some (.int .i64 o.job.rel) ∧ W'.cell? ⟨ob, 3, none⟩ = some (.int .i64 o.job.dl) ∧ W'.cell? ⟨ob, 4, none⟩ = some (.int .i64 o.job.le) ∧ W'.cell? ⟨ob, 5, none⟩ = some (.bool o.near) ∧ W'.cell? ⟨ob, 6, none⟩ = some (.bool o.drops))) (by kernel_rfl) (cD) (fun hHeld => ?_)
        refine Gh.tk 0 ?_
        refine Gh.tk 1 ?_
        refine Gh.tk 4 ?_
        refine Gh.tk 5 ?_
        refine Gh.rd 2 (fun K hK => ?_)
        go_simp
        (with_reducible refine (JB1.out _).mono ?_)
        rintro e w5 ⟨rfl, b5⟩
        have P5 := Lib.hid (PD.out.call b5)
        have O5 := Lib.hid (OD.out.call b5)
        have B5 := Lib.hid (BD.out.trans (b5.mono BD.out.size))
        have c5 := O5.out.cells
        clear b5 PD OD BD cD
        go_simp
        refine hK.out _ _ (c5) (fun hHeld => ?_)
        clear hK K
        refine Gh.pt ?_
        refine Gh.rd 3 (fun K hK => ?_)
        go_simp
        (with_reducible refine (AD1.out _ P5.out.fst).mono ?_)
        rintro e w6 ⟨rfl, K6, h6, m6, n6⟩
        have P6 := Lib.hid (P5.out.left h6 m6 n6)
        have O6 := Lib.hid (O5.out.left m6 n6)
        have B6 := Lib.hid (m6.below P5.out.fst B5.out)
        have c6 := O6.out.cells
        clear h6 m6 n6 P5 O5 B5 c5 AD1
        go_simp
        refine hK.out _ _ (c6) (fun hHeld => ?_)
        clear hK K
        refine Gh.pt ?_
        refine Gh.rd 6 (fun K hK => ?_)
        go_simp
        (with_reducible refine (JB1.out _).mono ?_)
        rintro e w7 ⟨rfl, b7⟩
        have P7 := Lib.hid (P6.out.call b7)
        have O7 := Lib.hid (O6.out.call b7)
        have B7 := Lib.hid (B6.out.trans (b7.mono B6.out.size))
        have c7 := O7.out.cells
        clear b7 P6 O6 B6 c6
        go_simp
        refine hK.out _ _ (c7) (fun hHeld => ?_)
        clear hK K
        refine Gh.pt ?_
        refine Gh.rd 7 (fun K hK => ?_)
        go_simp
        (with_reducible refine (RAD1.out _ P7.out.snd).mono ?_)
        rintro e w8 ⟨rfl, ao8, h8, m8, n8⟩
        have P8 := Lib.hid (P7.out.right h8 m8 n8)
        have O8 := Lib.hid (O7.out.right m8)
        have B8 := Lib.hid (m8.rx P7.out.snd B7.out)
        have c8 := O8.out.cells
        clear h8 m8 n8 P7 O7 B7 c7 RAD1
        go_simp
        refine hK.out _ _ (c8) (fun hHeld => ?_)
        clear hK K
        refine Gh.pt ?_
        refine Gh.tk 8 ?_
        refine Gh.tk 9 ?_
        refine wpAnyH_done (by kernel_rfl) ?_ _
        clear hHeld
        clear hHeld
        clear hHeld
        clear hHeld
        clear hHeld
        go_wp2_with fail
        go_meet
        exact ⟨K6, ao8, s8, by first | rfl | simp, P8.out, O8.out, HLN.out, B8.out⟩
      case rest =>
        obtain ⟨K2, ao2, s2, rfl, hp2, ho2, hl2, hb2⟩ := hcut
        have PD := Lib.hid (hp2.call (Below.refl wc.heap.size wc).drew)
        have OD := Lib.hid (ho2.call (Below.refl wc.heap.size wc).drew)
        have BD := Lib.hid (hb2.trans ((Below.refl wc.heap.size wc).drew.mono hb2.size))
        obtain ⟨cap, hcap, cD, -⟩ := PD.out.snd.cell
        have HL2 := Lib.hid hl2
        have hl100 : s2.length ≤ 1000 := by omega
        have PE1 := Lib.hid (fun W h => PE.out x K2 s2 hl100 W h)
        have LT1 := Lib.hid (fun W h => LT.out x K2 s2 t hl100 W h)
        have LT2 := Lib.hid (fun W h => LT.out x K2 s2 now hl100 W h)
        have RLT1 := Lib.hid (fun W h => RLT.out c ao2 s2 t (by omega) W h)
        have RLT2 := Lib.hid (fun W h => RLT.out c ao2 s2 now (by omega) W h)
        have ID1 := Lib.hid (fun W h => ID.out x K2 s2 hl100 W h)
        have LE1 := Lib.hid (fun W h => LE.out x K2 s2 hl100 W h)
        have RLE1 := Lib.hid (fun W h => RLE.out c ao2 s2 (by omega) (fun j hj => by have := PD.out.fst.les j hj; omega) W h)
        have JB1 := Lib.hid (fun W => JB.out o.kind o.job o.near o.drops W)
        have HS1 := Lib.hid (fun W h => HS.out x K2 s2 (jobR o.near o.job).id HOI.out hl100 W h)
        have RHS1 := Lib.hid (fun W h => RHS.out c ao2 s2 (jobR o.near o.job).id (by omega) W h)
        have SA1 := Lib.hid (fun pa qa pc qc W h1 h2 => SA.out s2 pa qa pc qc W h1 h2 (by omega))
        have hlr := List.length_filter_le (fun q : Jo => decide (q.dl ≤ t)) s2
        have hlr2 := List.length_filter_le (fun q : Jo => decide (q.dl ≤ now)) s2
        have SA2 := Lib.hid (fun pa qa pc qc W h1 h2 => SA.out (lateR s2 t) pa qa pc qc W h1 h2 (by unfold lateR; omega))
        have SA3 := Lib.hid (fun pa qa pc qc W h1 h2 => SA.out (lateR s2 now) pa qa pc qc W h1 h2 (by unfold lateR; omega))
        clear hp2 ho2 hl2 hb2 P3 O3 B4 cS AD RU PE LT HS ID LE DR JB RRU RAD RLT RLE RHS RDR SA hlr hlr2
        generalize lateR s2 t = l1 at *
        generalize lateR s2 now = l2 at *
        generalize leftR s2 = lf at *
        generalize jobR o.near o.job = q at *
        generalize hasR s2 q.id = hh at *
        go_wp2_with fail
        refine wp_region_held_drew (S := (fun W' => W'.cell? ⟨c, 0, none⟩ = some (.slice ao2 s2.length cap))) (by kernel_rfl) (cD) (fun hHeld => ?_)
        refine Gh.tk 0 ?_
        refine Gh.tk 2 ?_
        refine Gh.tk 3 ?_
        refine Gh.tk 4 ?_
        refine Gh.tk 5 ?_
        refine Gh.rd 1 (fun K hK => ?_)
        go_simp
        (with_reducible refine (PE1.out _ PD.out.fst).mono ?_)
        rintro e w5 ⟨u, rfl, r5, b5⟩
        have P5 := Lib.hid (PD.out.call b5)
        have O5 := Lib.hid (OD.out.call b5)
        have B5 := Lib.hid (BD.out.trans (b5.mono BD.out.size))
        have c5 := carry b5 cD
        obtain ⟨pa, pc, rfl, -, ns5⟩ := r5.form
        have SM := Lib.hid (SA1.out pa ao2 pc cap w5 ns5 P5.out.snd.seen)
        clear b5 r5 ns5 PD OD BD cD PE1 SA1
        go_simp
        refine hK.out _ _ (c5) (fun hHeld => ?_)
        clear hK K
        refine Gh.pt ?_
        refine Gh.rd 6 (fun K hK => ?_)
        go_simp
        (with_reducible refine SM.out.mono ?_)
        rintro e w6 ⟨rfl, q6⟩
        have P6 := Lib.hid (P5.out.call (q6.below _))
        have O6 := Lib.hid (O5.out.call (q6.below _))
        have B6 := Lib.hid (B5.out.trans (q6.below _))
        have c6 := carry (q6.below _) c5
        clear q6 SM P5 O5 B5 c5
        go_simp
        refine hK.out _ _ (c6) (fun hHeld => ?_)
        clear hK K
        refine Gh.pt ?_
        refine Gh.tk 7 ?_
        refine wpAnyH_done (by kernel_rfl) ?_ _
        clear hHeld
        clear hHeld
        clear hHeld
        go_wp2_with fail
        (with_reducible refine (LT1.out _ P6.out.fst).mono ?_)
        rintro e w8a ⟨u8a, rfl, r8a, b8a⟩
        have P8a := Lib.hid (P6.out.call b8a)
        have O8a := Lib.hid (O6.out.call b8a)
        have B8a := Lib.hid (B6.out.trans (b8a.mono B6.out.size))
        have R8a := Lib.hid r8a
        clear b8a r8a P6 O6 B6 LT1
        go_wp2_with fail
        (with_reducible refine (RLT1.out _ P8a.out.snd).mono ?_)
        rintro e w8b ⟨u8b, rfl, r8b, b8b⟩
        have P8b := Lib.hid (P8a.out.call b8b)
        have O8b := Lib.hid (O8a.out.call b8b)
        have B8b := Lib.hid (B8a.out.trans (b8b.mono B8a.out.size))
        have ra := R8a.out.call b8b
        obtain ⟨pa, pc, rfl, -, nsa⟩ := ra.form
        obtain ⟨qa, qc, rfl, -, nsb⟩ := r8b.form
        have SM := Lib.hid (SA2.out pa qa pc qc w8b nsa nsb)
        clear b8b r8b P8a O8a B8a R8a ra nsa nsb RLT1 SA2
        go_wp2_with fail
        (with_reducible refine SM.out.mono ?_)
        rintro e w8 ⟨rfl, q8⟩
        have P8 := Lib.hid (P8b.out.call (q8.below _))
        have O8 := Lib.hid (O8b.out.call (q8.below _))
        have B8 := Lib.hid (B8b.out.trans (q8.below _))
        clear q8 P8b O8b B8b SM
        go_wp2_with fail
        (with_reducible refine (LT2.out _ P8.out.fst).mono ?_)
        rintro e w9a ⟨u9a, rfl, r9a, b9a⟩
        have P9a := Lib.hid (P8.out.call b9a)
        have O9a := Lib.hid (O8.out.call b9a)
        have B9a := Lib.hid (B8.out.trans (b9a.mono B8.out.size))
        have R9a := Lib.hid r9a
        clear b9a r9a P8 O8 B8 LT2
        go_wp2_with fail
        (with_reducible refine (RLT2.out _ P9a.out.snd).mono ?_)
        rintro e w9b ⟨u9b, rfl, r9b, b9b⟩
        have P9b := Lib.hid (P9a.out.call b9b)
        have O9b := Lib.hid (O9a.out.call b9b)
        have B9b := Lib.hid (B9a.out.trans (b9b.mono B9a.out.size))
        have ra := R9a.out.call b9b
        obtain ⟨pa, pc, rfl, -, nsa⟩ := ra.form
        obtain ⟨qa, qc, rfl, -, nsb⟩ := r9b.form
        have SM := Lib.hid (SA3.out pa qa pc qc w9b nsa nsb)
        clear b9b r9b P9a O9a B9a R9a ra nsa nsb RLT2 SA3
        go_wp2_with fail
        (with_reducible refine SM.out.mono ?_)
        rintro e w9 ⟨rfl, q9⟩
        have P9 := Lib.hid (P9b.out.call (q9.below _))
        have O9 := Lib.hid (O9b.out.call (q9.below _))
        have B9 := Lib.hid (B9b.out.trans (q9.below _))
        clear q9 P9b O9b B9b SM
        obtain ⟨z0, z1, z2, z3, z4, z5, z6⟩ := O9.out.cells
        go_wp2_with fail
        (with_reducible refine (JB1.out _).mono ?_)
        rintro e wj ⟨rfl, bj⟩
        have hPj := P9.out.call bj
        have hBj := B9.out.trans (bj.mono B9.out.size)
        have bC : Below wj.heap.size wj (wj.alloc (.cells #[.int .i64 q.id, .int .i64 q.rel, .int .i64 q.dl, .int .i64 q.le] 31)) := (Below.refl _ _).alloc (Nat.le_refl _) _
        have Pk := Lib.hid (hPj.call bC)
        have Bk := Lib.hid (hBj.trans (bC.mono hBj.size))
        have Qk := Lib.hid (bx_new wj q)
        clear bj hPj hBj bC P9 O9 B9 z0 z1 z2 z3 z4 z5 z6
        go_upto_region 25 with (fail)
        generalize wj.alloc (.cells #[.int .i64 q.id, .int .i64 q.rel, .int .i64 q.dl, .int .i64 q.le] 31) = Wk at *
        generalize wj.heap.size = qb at *
        have PF := Lib.hid (Pk.out.call (Below.refl Wk.heap.size Wk).drew)
        have BF := Lib.hid (Bk.out.trans ((Below.refl Wk.heap.size Wk).drew.mono Bk.out.size))
        have QF := Lib.hid (Qk.out.call (Below.refl Wk.heap.size Wk).drew)
        obtain ⟨cap2, hcap2, cF, -⟩ := PF.out.snd.cell
        have sF : Wk.drew.cell? ⟨c, 0, none⟩ = some (.slice ao2 s2.length cap2) ∧ Wk.drew.cell? ⟨qb, 0, none⟩ = some (.int .i64 q.id) := ⟨cF, QF.out.at.1⟩
        have elf : (lf != lf) = false := by simp
        have ehh : (hh != hh) = false := by simp
        have eid : ((s2.length : Int) == 0) = decide (s2.length = 0) := by
          by_cases e : s2.length = 0
          · rw [decide_eq_true e, e]; rfl
          · rw [decide_eq_false e, beq_eq_false_iff_ne]; omega
        clear Pk Bk Qk cF
        generalize hbi : decide (s2.length = 0) = bi at *
        have ebi : (bi != bi) = false := by simp
        generalize hln : s2.length = ln at *
        have HLN := Lib.hid hln
        clear hbi hln
        refine wp_region_held_drew (S := (fun W' => W'.cell? ⟨c, 0, none⟩ = some (.slice ao2 ln cap2) ∧ W'.cell? ⟨qb, 0, none⟩ = some (.int .i64 q.id))) (by kernel_rfl) (sF) (fun hHeld => ?_)
        refine Gh.tk 0 ?_
        refine Gh.tk 1 ?_
        refine Gh.tk 2 ?_
        refine Gh.tk 3 ?_
        refine Gh.tk 4 ?_
        refine Gh.tk 5 ?_
        refine Gh.tk 6 ?_
        refine Gh.tk 7 ?_
        refine Gh.tk 8 ?_
        refine Gh.tk 9 ?_
        refine Gh.tk 10 ?_
        refine Gh.tk 11 ?_
        refine Gh.tk 12 ?_
        refine Gh.tk 13 ?_
        refine Gh.tk 14 ?_
        refine Gh.tk 15 ?_
        refine Gh.tk 17 ?_
        refine Gh.tk 18 ?_
        refine Gh.tk 19 ?_
        refine Gh.tk 20 ?_
        refine Gh.tk 21 ?_
        refine Gh.tk 22 ?_
        refine Gh.rd 16 (fun K hK => ?_)
        go_simp
        (with_reducible refine (ID1.out _ PF.out.fst).mono ?_)
        rintro e wg ⟨rfl, bg⟩
        have Pg := Lib.hid (PF.out.call bg)
        have Bg := Lib.hid (BF.out.trans (bg.mono BF.out.size))
        have sg := And.intro (carry bg sF.1) (carry bg sF.2)
        clear bg PF BF sF ID1
        go_simp
        refine hK.out _ _ (sg) (fun hHeld => ?_)
        clear hK K
        refine Gh.pt ?_
        refine Gh.tk 23 ?_
        refine Gh.tk 24 ?_
        refine Gh.tk 25 ?_
        refine Gh.tk 26 ?_
        refine Gh.tk 28 ?_
        refine Gh.rd 27 (fun K hK => ?_)
        go_simp
        (with_reducible refine (LE1.out _ Pg.out.fst).mono ?_)
        rintro e wh ⟨rfl, bh⟩
        have Ph := Lib.hid (Pg.out.call bh)
        have Bh := Lib.hid (Bg.out.trans (bh.mono Bg.out.size))
        have sh := And.intro (carry bh sg.1) (carry bh sg.2)
        clear bh Pg Bg sg LE1
        go_simp
        refine hK.out _ _ (sh) (fun hHeld => ?_)
        clear hK K
        refine Gh.pt ?_
        refine Gh.rd 29 (fun K hK => ?_)
        go_simp
        (with_reducible refine (RLE1.out _ Ph.out.snd).mono ?_)
        rintro e _ ⟨rfl, rfl⟩
        go_simp
        refine hK.out _ _ (sh) (fun hHeld => ?_)
        clear hK K
        refine Gh.pt ?_
        refine Gh.tk 30 ?_
        refine Gh.tk 31 ?_
        refine Gh.tk 32 ?_
        refine Gh.tk 33 ?_
        refine Gh.tk 34 ?_
        refine Gh.tk 35 ?_
        refine Gh.tk 37 ?_
        refine Gh.tk 38 ?_
        refine Gh.tk 39 ?_
        refine Gh.rd 36 (fun K hK => ?_)
        go_simp
        (with_reducible refine (HS1.out _ Ph.out.fst).mono ?_)
        rintro e wz ⟨rfl, bz⟩
        have Pz := Lib.hid (Ph.out.call bz)
        have Bz := Lib.hid (Bh.out.trans (bz.mono Bh.out.size))
        have sz := And.intro (carry bz sh.1) (carry bz sh.2)
        clear bz Ph Bh sh HS1
        go_simp
        refine hK.out _ _ (sz) (fun hHeld => ?_)
        clear hK K
        refine Gh.pt ?_
        refine Gh.rd 40 (fun K hK => ?_)
        go_simp
        (with_reducible refine (RHS1.out _ Pz.out.snd).mono ?_)
        rintro e _ ⟨rfl, rfl⟩
        go_simp
        refine hK.out _ _ (sz) (fun hHeld => ?_)
        clear hK K
        refine Gh.pt ?_
        refine Gh.tk 41 ?_
        refine Gh.tk 42 ?_
        refine wpAnyH_done (by kernel_rfl) ?_ _
        clear hHeld
        clear hHeld
        clear hHeld
        clear hHeld
        clear hHeld
        clear hHeld
        go_wp2
        go_roundg (n - (i + 1))
        case measure => have := HI.out; have := HLT.out; omega
        case rel => exact ⟨i + 1, K2, ao2, s2, by have := HLT.out; omega, by go_num, Pz.out, by rw [HLN.out]; exact HL2.out, Bz.out⟩
    · have e : i = n := by omega
      have FN := Lib.hid HB.out
      have hno : ¬ (i < l.length ∧ i < 60) := by have := HN.out; omega
      clear HP HB NS hsl hi hlt HN e
      by_cases h1 : i < l.length
      · have h1i : (i : Int) < (l.length : Int) := by omega
        have h2i : (60 : Int) ≤ (i : Int) := by omega
        clear hno
        go_wp2
        go_ret
        exact ⟨rfl, FN.out⟩
      · have h1d : decide (i < l.length) = false := decide_eq_false h1
        have h1i : (l.length : Int) ≤ (i : Int) := by omega
        clear hno h1
        go_wp2
        go_ret
        exact ⟨rfl, FN.out⟩

set_option maxRecDepth 100000 in
set_option maxHeartbeats 1600000 in
theorem lifted (os : Os) (started : os.Started) (H : Type) (enc : TypeId × Value → H) :
    ReturnsInHanded {} Try.checked os 3 .any (Rows.edfPlaysSpec.pre6 enc Try.prog Try.f3 Rows.edfPlaysRow.domain false) (Rows.edfPlaysSpec.post enc Try.prog Try.f3 false true false false) := by
  refine returnsInHanded_of_change (C := Try.checked) own started (by kernel_rfl) Try.func3
    (ChangeSpec.witness6 (enc := enc) (C := Try.checked) false ⟨#[], #[.slice none 0 0, .int .i64 0], []⟩ 8 (by kernel_rfl) (by kernel_rfl) (by kernel_rfl) (by kernel_rfl)) ?_
  intro W base args ds gs before hval0 hW hcnd _
  have hval : ∀ (j : Nat) t v, Try.f3.params[j]? = some t → args[j]? = some v → Value.okWide Try.prog W .any base t v := hval0
  have hW' := hW
  obtain ⟨p, q, hA0, hV, rfl, hfz, hnd⟩ := hW
  have hA : DataW.TrodAll enc Try.prog W 0 (fun _ => true) true Try.f3.params.toList args.toList ds p := hA0
  rw [Try.params3] at hA hval
  obtain ⟨v0, vs0, d0, ds0, p0, q0, hargs, rfl, rfl, h0, r0⟩ := trodAll_cons hA
  obtain ⟨v1, vs1, d1, ds1, p1, q1, rfl, rfl, rfl, h1, r1⟩ := trodAll_cons r0
  obtain ⟨rfl, rfl, rfl⟩ := trodAll_nil r1
  obtain rfl : args = #[v0, v1] := by cases args; simp_all
  obtain ⟨rfl, rfl⟩ := trodVars_none hV
  have lt0 : ∀ x ∈ p0, x.block < W.heap.size := by obtain ⟨m, hm⟩ := h0; exact DataW.trod_lt m _ _ _ hm
  obtain ⟨lo, l, lc, rfl, ll, ls, li⟩ := open_ops (hval 0 22 v0 rfl rfl) h0
  have lt1 : ∀ x ∈ p1, x.block < W.heap.size := by obtain ⟨m, hm⟩ := h1; exact DataW.trod_lt m _ _ _ hm
  obtain ⟨now, e1, -, -, wfnow⟩ := open_int Try.underlying2 (hval 1 2 v1 rfl rfl) h1
  subst e1
  have wnow := wf_in wfnow
  clear hA0 hval0
  refine (walk l lo lc now W ll ls li).mono fun e W' ⟨he, bel⟩ => ?_
  subst he
  exact ⟨_, rfl, _, _, _, [], _, [], hW', trodAll_mk1 (shut_bool Try.underlying4 _), (trodAll_cons_mk (Below.trod laidOut (by kernel_rfl) (of_decide_eq_true (by kernel_rfl)) h0 bel lt0) (trodAll_cons_mk (Below.trod laidOut (by kernel_rfl) (of_decide_eq_true (by kernel_rfl)) h1 bel lt1) trodAll_mk0)), rfl, bel.frame _, fun h => by cases h⟩

theorem proved : Rows.EdfPlaysSaid :=
  OpenClaim.holds_of_wide 3 Try.f3 rfl rfl rfl rfl rfl rfl rfl ⟨rfl, rfl, rfl, rfl, rfl⟩ rfl rfl rfl rfl rfl (by kernel_rfl) Try.func3 (by kernel_rfl)
    (of_decide_eq_true (by kernel_rfl)) (by unfold Func.isWrapper; first | (rw [if_pos (by decide +kernel)]; kernel_rfl) | (rw [if_neg (by decide +kernel)]; exact ⟨rfl, rfl⟩))
    (fun os started H enc _ => lifted os started H enc)
#print axioms proved
end Go.Proofs.Yteagimnlhopjpaa.edfPlays
