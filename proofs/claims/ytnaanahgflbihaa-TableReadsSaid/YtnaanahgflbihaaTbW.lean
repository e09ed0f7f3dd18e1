/- Package table's Read. -/
import Derived.Test.YtnaanahgflbihaaTbV
namespace Go.Proofs.Ytnaanahgflbihaa.Tb
open Go.ChangeShapes Go.WideShapes Go.ChangeAt Go.RowKit Go.Joins
open Ge (El Seen Row)
open Oc (mkB self Rd RC Apart left lt_of_heap int_rd good_any end_rd ended)
open Ox (num_left int_left' flag_left)
set_option maxRecDepth 100000
set_option maxRecDepth 100000
set_option linter.unusedVariables false
set_option linter.unusedSimpArgs false
theorem Bos.apart {L : List (Nat × Array Value × Nat)} {w W W' : World} {b : Nat} (h : Bos L w W) (m : Apart b W W') (hb : w.heap.size ≤ b) (hn : ∀ x ∈ L, x.1 ≠ b) : Bos L w W' :=
  ⟨fun x hx => ⟨(m.block x.1 (lt_of_heap (h.at_ x hx).1) (hn x hx)).trans (h.at_ x hx).1, (h.at_ x hx).2⟩, h.nd, h.bl.trans (m.below hb h.bl.size)⟩
theorem row_apart {B : Nat} {W W' : World} {v : Value} {l : List Rw} {b : Nat} {o : Oc.St} (hr : Row Rw.cs 6 57 B W v l) (k : Rd RC b o W) (m : Apart b W W') : Row Rw.cs 6 57 B W' v l := by
  obtain ⟨s, hs⟩ := k.cells
  exact hr.of_blocks fun q hq => m.block q (hr.lt q hq).2 (fun e => row_ne hr hs (by decide) (by rw [hq, e]))
/-- a row that grows, beside boxes and a reader -/
theorem app_rd {L : List (Nat × Array Value × Nat)} {w W : World} {v : Value} {l : List Rw} {b : Nat} {o : Oc.St} (x : Rw) (h : Bos L w W) (hn : NoRow L) (hr : Row Rw.cs 6 57 w.heap.size W v l) (k : Rd RC b o W) (hb : w.heap.size ≤ b) (hnb : ∀ y ∈ L, y.1 ≠ b) (hl : l.length ≤ 90000) :
    ∃ v' W', (Builtin.append_ #[22, 22] 22 #[v, .slice (some ⟨W.heap.size, 0, none⟩) 1 1]).run Try.prog (W.alloc (.cells #[.int .i64 x.t.id, .int .i64 x.t.c, .int .i64 x.t.d, .int .i64 x.t.t, .int .i64 x.t.m, .bool x.s] 57)) = .ok v' W' ∧ Row Rw.cs 6 57 w.heap.size W' v' (l ++ [x]) ∧ Bos L w W' ∧ Rd RC b o W' := by
  obtain ⟨s, hs⟩ := k.cells
  have h2 : Bos ((b, #[.string s, .bool (!o.isSome)], RC) :: L) w W := by
    refine ⟨fun y hy => ?_, ?_, h.bl⟩
    · rcases List.mem_cons.1 hy with rfl | hy
      · exact ⟨hs, hb⟩
      · exact h.at_ y hy
    · rw [List.map_cons, List.nodup_cons]
      refine ⟨fun hm => ?_, h.nd⟩
      obtain ⟨y, hy, e⟩ := List.mem_map.1 hm
      exact hnb y hy e
  have hn2 : NoRow ((b, #[.string s, .bool (!o.isSome)], RC) :: L) := fun y hy => by
    rcases List.mem_cons.1 hy with rfl | hy
    · exact (by decide : (RC : Nat) ≠ 57)
    · exact hn y hy
  obtain ⟨v', W', h1, h3, h4⟩ := app_new x h2 hn2 hr hl
  exact ⟨v', W', h1, h3, h4.sub (List.sublist_cons_self _ _), k.of_block (((h4.at_ _ List.mem_cons_self).1).trans hs.symm)⟩
theorem readW_left (o : Oc.St) : left (readW o).2 ≤ left o :=
  Nat.le_trans (flag_left _) (Nat.le_trans (int_left' _ _) (Nat.le_trans (num_left _ _) (Nat.le_trans (num_left _ _) (Nat.le_trans (num_left _ _) (int_left' _ _)))))
def readT (l : List UInt8) : Tb × Int := match readR l with
  | some t => (t, 0)
  | none => (tb0, 10)
theorem readWs_none (n : Nat) : (readWs n none).2 = none := by cases n <;> rfl
theorem readT_fin {l : List UInt8} {rows : List Rw} {o : Oc.St} (h : (readWs (Oc.int (Oc.int (some l) 3).2 16).1 (Oc.int (Oc.int (some l) 3).2 16).2) = (rows, o)) : readT l = if ended o = true ∧ chkT ⟨rows, ((Oc.int (some l) 3).1 : Int)⟩ = true then (⟨rows, ((Oc.int (some l) 3).1 : Int)⟩, 0) else (tb0, 10) := by
  have e : readM (some l) = (⟨rows, ((Oc.int (some l) 3).1 : Int)⟩, o) := by unfold readM; simp only; rw [h]
  unfold readT readR
  rw [e]
  simp only
  have he : ended o = true ↔ o = some [] := by unfold ended; simp
  by_cases hc : o = some [] ∧ chkT ⟨rows, ((Oc.int (some l) 3).1 : Int)⟩ = true
  · rw [if_pos hc, if_pos ⟨he.2 hc.1, hc.2⟩]
  · rw [if_neg hc, if_neg (fun k => hc ⟨he.1 k.1, k.2⟩)]
theorem readT_bad {l : List UInt8} (h : (readWs (Oc.int (Oc.int (some l) 3).2 16).1 (Oc.int (Oc.int (some l) 3).2 16).2).2 = none) : readT l = (tb0, 10) := by
  rw [readT_fin (rows := (readWs (Oc.int (Oc.int (some l) 3).2 16).1 (Oc.int (Oc.int (some l) 3).2 16).2).1) (o := none) (Prod.ext rfl h)]
  rw [if_neg (by simp [ended])]
theorem int_bad {o : Oc.St} {most : Int} (h : (Oc.int o most).2 = none) : (Oc.int o most).1 = 0 := by
  unfold Oc.int at h ⊢
  split
  · rfl
  · rename_i hm
    rw [if_neg hm] at h
    unfold Oc.num at h ⊢
    cases o with
    | none => rfl
    | some x =>
      simp only at h ⊢
      split at h <;> rename_i e
      · rfl
      · split at h
        · cases h
        · rename_i hn; rw [if_neg hn]
def RdRel (n b p : Nat) (m : Int) (o1 : Oc.St) (w : World) (g : Nat) (s : Value) (wx : World) : Prop :=
  ∃ (i : Nat) (o : Oc.St) (rows : List Rw) (v : Value), i + g = n ∧ s = .int .i64 (i : Int) ∧ Bos [(p, #[v, .int .i64 m], 24), (w.heap.size, #[.slice none 0 0, .int .i64 0], 24)] w wx ∧ Rd RC b o wx ∧ Row Rw.cs 6 57 w.heap.size wx v rows ∧ left o ≤ 1000000 ∧ rows.length = i ∧ (i < n → ∃ x, o = some x) ∧ readWs n o1 = (rows ++ (readWs (n - i) o).1, (readWs (n - i) o).2)
set_option maxHeartbeats 8000000 in
theorem readt_any (l : List UInt8) (w : World) (hl : l.length ≤ 1000000) :
    Calls Try.prog 21 #[.string (mkB l)] w fun e w' => ∃ v, e = .returned (.tuple #[v, .int .i64 (readT l).2]) ∧ Told v (readT l).1 w' ∧ Below w.heap.size w w' := by
  have RD := Lib.hid (Oc.read_any (mkB l))
  have R0 := Lib.hid ((bos_nil w).new #[.slice none 0 0, .int .i64 0] 24)
  have K0 : Rd RC (w.heap.size + 1) (some l) ((w.alloc (.cells #[.slice none 0 0, .int .i64 0] 24)).alloc (.cells #[.string (mkB l), .bool false] RC)) := by
    have := heap_alloc_new (w.alloc (.cells #[.slice none 0 0, .int .i64 0] 24)) (.cells #[.string (mkB l), .bool false] RC)
    rw [World.size_alloc] at this
    exact this
  have I1 := Lib.hid (fun W (k : Rd RC (w.heap.size + 1) (some l) W) => int_rd (w.heap.size + 1) (some l) 3 W k (by decide) hl)
  have FIN := Lib.hid (fun rows o => readT_fin (l := l) (rows := rows) (o := o))
  have BAD := Lib.hid (readT_bad (l := l))
  have M3 : (Oc.int (some l) 3).1 ≤ 3 := Oc.num_most (some l) 3
  have L1 := Nat.le_trans (int_left' (some l) 3) hl
  have B1 := Lib.hid (int_bad (o := (Oc.int (some l) 3).2) (most := 16))
  have M16 : (Oc.int (Oc.int (some l) 3).2 16).1 ≤ 16 := Oc.num_most (Oc.int (some l) 3).2 16
  have L2 := Nat.le_trans (int_left' (Oc.int (some l) 3).2 16) L1
  have I2 := Lib.hid (fun W (k : Rd RC (w.heap.size + 1) (Oc.int (some l) 3).2 W) => int_rd (w.heap.size + 1) (Oc.int (some l) 3).2 16 W k (by decide) L1)
  generalize readT l = R at *
  generalize Oc.int (some l) 3 = y1 at *
  obtain ⟨m, o0⟩ := y1
  simp only at *
  generalize Oc.int o0 16 = y2 at *
  obtain ⟨n, o1⟩ := y2
  simp only at *
  have K0 := Lib.hid K0
  have HL := Lib.hid L2
  clear L1 L2 hl
  go_enter Try.func21, Try.ntmps21
  go_wp2_with fail
  go_step3
  go_wp2_with fail
  (with_reducible refine (RD.out _).mono ?_)
  rintro e w1 ⟨rfl, rfl⟩
  have R1 := Lib.hid (R0.out.call ((Below.refl _ _).alloc (Nat.le_refl _) (.cells #[.string (mkB l), .bool false] RC)))
  have NB : Hid (∀ x ∈ ([(w.heap.size, #[.slice none 0 0, .int .i64 0], 24)] : List (Nat × Array Value × Nat)), x.1 ≠ w.heap.size + 1) := Lib.hid (by
    intro x hx
    rw [List.mem_singleton.1 hx]
    show w.heap.size ≠ w.heap.size + 1
    omega)
  clear RD R0
  rw [World.size_alloc]
  go_wp2_with fail
  (with_reducible refine (I1.out _ K0.out).mono ?_)
  rintro e w2 ⟨rfl, k2, a2⟩
  have K2 := Lib.hid k2
  have R2 := Lib.hid (R1.out.apart a2 (by omega) NB.out)
  clear k2 a2 I1 K0 R1
  go_wp2_with fail
  have K3 := Lib.hid (K2.out.call ((Below.refl _ _).alloc (Nat.le_refl _) (.cells #[.slice none 0 0, .int .i64 (m : Int)] 24)))
  have NRO : Hid (∀ (a c : Array Value) (q g : Nat), NoRow [(q, a, 24), (g, c, 24)]) := Lib.hid (by
    intro a c q g x hx
    rcases List.mem_cons.1 hx with rfl | hx
    · exact (by decide : (24 : Nat) ≠ 57)
    · rw [List.mem_singleton.1 hx]
      exact (by decide : (24 : Nat) ≠ 57))
  have R3 := Lib.hid (R2.out.new #[.slice none 0 0, .int .i64 (m : Int)] 24)
  have PN : w.heap.size + 1 < w2.heap.size := K2.out.lt
  have NC : Hid (∀ v : Value, ∀ x ∈ ([(w2.heap.size, #[v, .int .i64 (m : Int)], 24), (w.heap.size, #[.slice none 0 0, .int .i64 0], 24)] : List (Nat × Array Value × Nat)), x.1 ≠ w.heap.size + 1) := Lib.hid (by
    intro v x hx
    rcases List.mem_cons.1 hx with rfl | hx
    · show w2.heap.size ≠ w.heap.size + 1
      omega
    · rw [List.mem_singleton.1 hx]
      show w.heap.size ≠ w.heap.size + 1
      omega)
  clear K2 R2 NB
  generalize (w2.alloc (.cells #[.slice none 0 0, .int .i64 (m : Int)] 24)) = w3 at *
  generalize w2.heap.size = p at *
  go_step3
  go_wp2_with fail
  (with_reducible refine (I2.out _ K3.out).mono ?_)
  rintro e w4 ⟨rfl, k4, a4⟩
  have K4 := Lib.hid k4
  have R4 := Lib.hid (R3.out.apart a4 (by omega) (NC.out _))
  clear k4 a4 I2 K3 R3
  have G0 : Hid (RdRel n (w.heap.size + 1) p m o1 w n (.int .i64 0) w4) := Lib.hid ⟨0, o1, [], .slice none 0 0, Nat.zero_add _, rfl, R4.out, K4.out, Ge.row_nil _ _, HL.out, rfl, fun h => by
    rcases o1 with _ | x
    · have := B1.out rfl; omega
    · exact ⟨x, rfl⟩, rfl⟩
  go_wp2_with fail
  go_loopg [14] n (RdRel n (w.heap.size + 1) p m o1 w)
  case atStart => exact G0.out
  case round =>
    obtain ⟨i, o, rows, v, hi, rfl, hB, hR, hrow, hle, hlen, hsome, hE⟩ := hrel
    clear G0 R4 K4
    by_cases hlt : i < n
    · obtain ⟨x, rfl⟩ := hsome hlt
      have i1 : (i : Int) < (n : Int) := by omega
      have i3 : IntKind.i64.wrap ((i : Int) + 1) = ((i + 1 : Nat) : Int) := by rw [IntWalk.i64_in _ (by omega)]; omega
      have RE := Lib.hid (read_any wr hR hle)
      have LW : left (readW (some x)).2 ≤ 1000000 := Nat.le_trans (readW_left _) hle
      obtain ⟨k, hk⟩ : ∃ k, n - i = k + 1 := ⟨n - i - 1, by omega⟩
      have hE : readWs n o1 = (rows ++ ((readW (some x)).1 :: (readWs k (readW (some x)).2).1), (readWs k (readW (some x)).2).2) := by rw [hE, hk]; rfl
      generalize readW (some x) = y at *
      obtain ⟨r, o'⟩ := y
      simp only at hE LW RE
      unfold Rw.v at RE
      have HE := Lib.hid hE
      have HB := Lib.hid hB
      have HR := Lib.hid hR
      have HW := Lib.hid hrow
      have HLW := Lib.hid LW
      have HLN := Lib.hid hlen
      have HI := Lib.hid hi
      have HK := Lib.hid hk
      have HLT := Lib.hid hlt
      clear hE hB hR hrow LW hlen hi hk hlt hsome hle
      go_wp2_with fail
      (with_reducible refine RE.out.mono ?_)
      rintro e w5 ⟨rfl, k5, a5⟩
      have HB := Lib.hid (HB.out.apart a5 (by omega) (NC.out _))
      have HW := Lib.hid (row_apart HW.out HR.out a5)
      have HR := Lib.hid k5
      clear a5 k5 RE
      have HX := Lib.hid (HR.out.call ((Below.refl _ _).alloc (Nat.le_refl _) (.cells #[.int .i64 r.t.id, .int .i64 r.t.c, .int .i64 r.t.d, .int .i64 r.t.t, .int .i64 r.t.m, .bool r.s] 57)))
      have GG := Lib.hid (good_any _ _ _ HX.out)
      go_wp2_with fail
      (with_reducible refine GG.out.mono ?_)
      rintro e w6 ⟨rfl, rfl⟩
      clear GG
      rcases o' with _ | x'
      · have EQ := BAD.out (by rw [HE.out]; exact readWs_none k)
        subst EQ
        have ED := end_rd _ _ _ HX.out
        rw [show ended (none : Oc.St) = false from rfl] at ED
        have ED := Lib.hid ED
        have HB := Lib.hid (HB.out.call ((Below.refl _ _).alloc (Nat.le_refl _) (.cells #[.int .i64 r.t.id, .int .i64 r.t.c, .int .i64 r.t.d, .int .i64 r.t.t, .int .i64 r.t.m, .bool r.s] 57)))
        generalize (w5.alloc (.cells #[.int .i64 r.t.id, .int .i64 r.t.c, .int .i64 r.t.d, .int .i64 r.t.t, .int .i64 r.t.m, .bool r.s] 57)) = w6 at *
        simp only [Option.isSome_none]
        clear FIN BAD HR HX HW HE HLW B1
        obtain ⟨z0, z1⟩ := cell2 (HB.out.cell 1 rfl)
        have zf := HB.out.fz 1 rfl
        have HF := Lib.hid ((HB.out.set 1 rfl 0 (.slice none 0 0)).set 1 rfl 1 (.int .i64 0))
        obtain ⟨q0, q1⟩ := cell2 (HF.out.cell 1 rfl)
        go_wp2_with fail
        (with_reducible refine ED.out.mono ?_)
        rintro e w7 ⟨rfl, rfl⟩
        clear ED
        go_wp2
        simp only [Exit.noGoto]
        refine bodyPost_ret (v := .tuple #[.agg #[.slice none 0 0, .int .i64 0], .int .i64 10]) (by simp [results, Try.results21, go_sem, q0, q1]) rfl ⟨_, rfl, told_zero _, HF.out.bl⟩
      · have HN := Lib.hid (HB.out.new #[.int .i64 r.t.id, .int .i64 r.t.c, .int .i64 r.t.d, .int .i64 r.t.t, .int .i64 r.t.m, .bool r.s] 57)
        have HW := Lib.hid (HW.out.call ((Below.refl _ _).alloc (Nat.le_refl _) (.cells #[.int .i64 r.t.id, .int .i64 r.t.c, .int .i64 r.t.d, .int .i64 r.t.t, .int .i64 r.t.m, .bool r.s] 57)))
        obtain ⟨o0, o1', o2, o3, o4, o5⟩ := cell6 (HN.out.cell 0 rfl)
        obtain ⟨p0, p1⟩ := cell2 (HN.out.cell 1 rfl)
        have HB := Lib.hid (HN.out.sub (List.sublist_cons_self _ _))
        generalize (w5.alloc (.cells #[.int .i64 r.t.id, .int .i64 r.t.c, .int .i64 r.t.d, .int .i64 r.t.t, .int .i64 r.t.m, .bool r.s] 57)) = w6 at *
        simp only [Option.isSome_some]
        obtain ⟨va, vk, vc, rfl⟩ : ∃ va vk vc, v = .slice va vk vc := by obtain ⟨ao, cap, e, -⟩ := Row.form cs_len HW.out; exact ⟨_, _, _, e⟩
        have HBd := Lib.hid HB.out
        have HWd := Lib.hid HW.out
        have HXd := Lib.hid HX.out
        obtain ⟨v4, w8, ap4, r4, h4, k4⟩ := app_rd r HBd.out (NRO.out _ _ _ _) HWd.out HXd.out (by omega) (NC.out _) (by have := HLN.out; omega)
        have R4 := Lib.hid r4
        have H4 := Lib.hid h4
        have K4 := Lib.hid k4
        obtain ⟨va4, vk4, vc4, rfl⟩ : ∃ va vk vc, v4 = .slice va vk vc := by obtain ⟨ao, cap, e, -⟩ := Row.form cs_len R4.out; exact ⟨_, _, _, e⟩
        obtain ⟨s0, s1⟩ := cell2 (H4.out.cell 0 rfl)
        have sf := H4.out.fz 0 rfl
        have H7 := Lib.hid (H4.out.set 0 rfl 0 (.slice va4 vk4 vc4))
        have R7 := Lib.hid (row_set R4.out H4.out 0 rfl (by decide) 0 (.slice va4 vk4 vc4))
        have K7 : Hid (Rd RC (w.heap.size + 1) (some x') (w8.setCell ⟨p, 0, none⟩ (.slice va4 vk4 vc4))) := Lib.hid (K4.out.of_block (Below.heap_setCell _ _ _ _ (by show w.heap.size + 1 ≠ p; omega)))
        clear HR HN r4 h4 k4
        go_wp2_with (at_builtin; refine Lib.wpList_append_run _ rfl _ _ _ _ rfl _ _ rfl rfl _ _ ap4 ?_)
        go_roundg (gk - 1)
        case measure => have := HI.out; have := HLT.out; omega
        case rel => exact ⟨i + 1, some x', rows ++ [r], .slice va4 vk4 vc4, by have := HI.out; have := HLT.out; omega, by go_num, H7.out, K7.out, R7.out, HLW.out, by rw [List.length_append, HLN.out]; rfl, fun _ => ⟨x', rfl⟩, by rw [HE.out, show n - (i + 1) = k by have := HK.out; omega, List.append_assoc]; rfl⟩
    · obtain rfl : i = n := by omega
      have EQ := FIN.out rows o (by rw [hE, Nat.sub_self]; show (rows ++ [], o) = _; rw [List.append_nil])
      have ED := end_rd _ _ _ hR
      obtain ⟨ao, cap, hs⟩ := row_sl hrow
      obtain rfl := hs.eq
      have CK := Lib.hid (check_any ⟨rows, (m : Int)⟩ ao cap wr hs.seen (by show rows.length ≤ 1000; omega))
      have HB := Lib.hid hB
      have HS := Lib.hid hs
      have hge : ¬ (i : Int) < (i : Int) := by omega
      subst hlen
      clear FIN BAD hE hB hs hR hrow hle hsome B1 NC NRO
      obtain ⟨p0, p1⟩ := cell2 (HB.out.cell 0 rfl)
      obtain ⟨z0, z1⟩ := cell2 (HB.out.cell 1 rfl)
      have zf := HB.out.fz 1 rfl
      rcases hen : ended o with _ | _
      · rw [hen] at ED EQ
        rw [if_neg (by simp)] at EQ
        subst EQ
        have ED := Lib.hid ED
        have HF := Lib.hid ((HB.out.set 1 rfl 0 (.slice none 0 0)).set 1 rfl 1 (.int .i64 0))
        obtain ⟨q0, q1⟩ := cell2 (HF.out.cell 1 rfl)
        go_wp2_with fail
        (with_reducible refine ED.out.mono ?_)
        rintro e w7 ⟨rfl, rfl⟩
        clear ED
        go_wp2
        simp only [Exit.noGoto]
        refine bodyPost_ret (v := .tuple #[.agg #[.slice none 0 0, .int .i64 0], .int .i64 10]) (by simp [results, Try.results21, go_sem, q0, q1]) rfl ⟨_, rfl, told_zero _, HF.out.bl⟩
      · rw [hen] at ED EQ
        have ED := Lib.hid ED
        unfold tv at CK
        simp only at CK
        rcases hck : chkT ⟨rows, (m : Int)⟩ with _ | _
        · rw [hck] at CK EQ
          rw [if_neg (by simp)] at EQ
          subst EQ
          go_wp2_with fail
          (with_reducible refine ED.out.mono ?_)
          rintro e w7 ⟨rfl, rfl⟩
          clear ED
          go_wp2_with fail
          (with_reducible refine CK.out.mono ?_)
          rintro e w8 ⟨rfl, b8⟩
          have HB := Lib.hid (HB.out.call b8)
          have HS := Lib.hid (HS.out.call b8)
          clear b8 CK p0 p1 z0 z1 zf
          obtain ⟨p0, p1⟩ := cell2 (HB.out.cell 0 rfl)
          obtain ⟨z0, z1⟩ := cell2 (HB.out.cell 1 rfl)
          have zf := HB.out.fz 1 rfl
          have HF := Lib.hid ((HB.out.set 1 rfl 0 (.slice none 0 0)).set 1 rfl 1 (.int .i64 0))
          obtain ⟨q0, q1⟩ := cell2 (HF.out.cell 1 rfl)
          go_wp2
          simp only [Exit.noGoto]
          refine bodyPost_ret (v := .tuple #[.agg #[.slice none 0 0, .int .i64 0], .int .i64 10]) (by simp [results, Try.results21, go_sem, q0, q1]) rfl ⟨_, rfl, told_zero _, HF.out.bl⟩
        · rw [hck] at CK EQ
          rw [if_pos ⟨rfl, rfl⟩] at EQ
          subst EQ
          go_wp2_with fail
          (with_reducible refine ED.out.mono ?_)
          rintro e w7 ⟨rfl, rfl⟩
          clear ED
          go_wp2_with fail
          (with_reducible refine CK.out.mono ?_)
          rintro e w8 ⟨rfl, b8⟩
          have HB := Lib.hid (HB.out.call b8)
          have HS := Lib.hid (HS.out.call b8)
          clear b8 CK p0 p1 z0 z1 zf
          obtain ⟨p0, p1⟩ := cell2 (HB.out.cell 0 rfl)
          obtain ⟨z0, z1⟩ := cell2 (HB.out.cell 1 rfl)
          have zf := HB.out.fz 1 rfl
          have HF := Lib.hid ((HB.out.set 1 rfl 0 (.slice ao rows.length cap)).set 1 rfl 1 (.int .i64 (m : Int)))
          have SF := Lib.hid ((HS.out.set HB.out 1 rfl (by simp) 0 (.slice ao rows.length cap)).set (HB.out.set 1 rfl 0 (.slice ao rows.length cap)) 1 rfl (by simp) 1 (.int .i64 (m : Int)))
          obtain ⟨q0, q1⟩ := cell2 (HF.out.cell 1 rfl)
          go_wp2
          simp only [Exit.noGoto]
          refine bodyPost_ret (v := .tuple #[.agg #[.slice ao rows.length cap, .int .i64 (m : Int)], .int .i64 0]) (by simp [results, Try.results21, go_sem, q0, q1]) rfl ⟨_, rfl, ⟨ao, cap, rfl, SF.out⟩, HF.out.bl⟩
end Go.Proofs.Ytnaanahgflbihaa.Tb
