/- horariumlaw14.TableModes answers true at every row of ops and every mode. No condition. -/
import Derived.Test.YtnaanahgflbihaaTbQ
import Derived.Test.YtnaanahgflbihaaTbS
import Derived.Test.YtnaanahgflbihaaOcG
import Derived.Test.YtnaanahgflbihaaTbT
namespace Go.Proofs.Ytnaanahgflbihaa.tableModes
open Go.ChangeShapes Go.WideShapes Go.ChangeAt Go.RowKit Go.Joins
open Oc
set_option maxRecDepth 100000
set_option linter.unusedVariables false
set_option linter.unusedSimpArgs false
open Tb
open Ox (Od)
open Ge (Seen)
theorem inT_at {k : Int} {l : List Rw} {i : Nat} (h : i < l.length) (hb : bt k l[i].t = true) : (inT k (l.take i)).length < (inT k l).length ∧ (inT k l)[(inT k (l.take i)).length]? = some l[i].t := by
  have h0 : inT k l = inT k (l.take i) ++ inT k (l.drop i) := by unfold inT; rw [← List.map_append, ← List.filter_append, List.take_append_drop]
  have h1 : inT k (l.drop i) = l[i].t :: inT k (l.drop (i + 1)) := by
    unfold inT
    rw [List.drop_eq_getElem_cons h]
    simp only [List.filter_cons, hb, if_true, List.map_cons]
  have e : inT k l = inT k (l.take i) ++ l[i].t :: inT k (l.drop (i + 1)) := by rw [h0, h1]
  rw [e]
  refine ⟨by simp, ?_⟩
  rw [List.getElem?_append_right (Nat.le_refl _)]
  simp
theorem task_cells {b off : Nat} {l : List Pm.Tk} {W : World} (h : ∀ i x, l[i]? = some x → ∀ j u, (tcs x)[j]? = some u → W.cell? ⟨b, off + i * 5 + j, none⟩ = some u) {i : Nat} {x : Pm.Tk} (hx : l[i]? = some x) :
    W.cell? ⟨b, off + i * 5, none⟩ = some (.int .i64 x.id) ∧ W.cell? ⟨b, off + i * 5 + 1, none⟩ = some (.int .i64 x.c) ∧ W.cell? ⟨b, off + i * 5 + 2, none⟩ = some (.int .i64 x.d) ∧ W.cell? ⟨b, off + i * 5 + 3, none⟩ = some (.int .i64 x.t) ∧ W.cell? ⟨b, off + i * 5 + 4, none⟩ = some (.int .i64 x.m) :=
  ⟨h i x hx 0 _ rfl, h i x hx 1 _ rfl, h i x hx 2 _ rfl, h i x hx 3 _ rfl, h i x hx 4 _ rfl⟩
theorem and3 (n : Int) : 0 ≤ bits .and .i64 n 3 ∧ bits .and .i64 n 3 ≤ 3 := by
  have hm : (BitVec.ofInt 64 3).toNat = 2 ^ 2 - 1 := by decide
  have key : (BitVec.ofInt 64 n &&& BitVec.ofInt 64 3).toNat = (n % ((2 ^ 64 : Nat) : Int)).toNat % 2 ^ 2 := by
    rw [BitVec.toNat_and, BitVec.toNat_ofInt, hm, Nat.and_two_pow_sub_one_eq_mod]
  have e : bits .and .i64 n 3 = n % 4 := by
    show IntKind.i64.wrap ((BitVec.ofInt 64 n &&& BitVec.ofInt 64 3).toNat : Nat) = n % 4
    rw [key, IntKind.wrap_i64]
    omega
  omega
theorem neq_task (a b c d e : Int) (w : World) : (binOp .neq 27 (.agg #[.int .i64 a, .int .i64 b, .int .i64 c, .int .i64 d, .int .i64 e]) (.agg #[.int .i64 a, .int .i64 b, .int .i64 c, .int .i64 d, .int .i64 e])).run Try.prog w = .ok (.bool false) w := by
  rw [run_neq_struct]
  simp [go_sem]
def LRel (l : List Rw) (m : Int) (L : List (Nat × Array Value × Nat)) (w W0 : World) (g : Nat) (s9 s10 : Value) (wx : World) : Prop :=
  ∃ i : Nat, i + g = l.length ∧ s9 = .int .i64 ((inT m (l.take i)).length : Int) ∧ s10 = .int .i64 (i : Int) ∧ Bos L w wx ∧ Below W0.heap.size W0 wx

set_option maxRecDepth 100000 in
set_option maxHeartbeats 16000000 in
theorem walk (l : List Od) (lo : Option Addr) (lc : Nat) (z : Int) (w : World) (hl2 : l.length ≤ 9223372036854775807) (hO : Seen ocs 10 lo l w) :
    Calls Try.prog 8 #[.slice lo l.length lc, .int .i64 z] w fun e w' => e = .returned (.bool true) ∧ Below w.heap.size w w' := by
  have AW := Lib.hid awake_any
  have MA : Hid (∀ W, Below w.heap.size w W → Calls Try.prog 14 #[.slice lo l.length lc] W fun e w' => ∃ v, e = .returned v ∧ Tb.Told v (madeT l) w' ∧ Below W.heap.size W w') := Lib.hid (fun W hb => made_any l lo lc W (hO.below hb (Nat.le_refl _)) hl2)
  have HC : Hid (chkT (madeT l) = true) := Lib.hid (made_chk l)
  have ML : Hid ((madeT l).rows.length ≤ 16) := Lib.hid (chkT_iff.1 (made_chk l)).2.2.1
  have ⟨hm0, hm1⟩ := and3 z
  obtain ⟨m, hm⟩ : ∃ m, m = bits .and .i64 z 3 := ⟨_, rfl⟩
  rw [← hm] at hm0 hm1
  have hz : bits .and .i64 z 3 = m := hm.symm
  clear hm
  generalize madeT l = M at *
  generalize l.length = n at *
  obtain ⟨r, mo⟩ := M
  have IM : Hid (inM m r = inT m r) := Lib.hid (if_pos ⟨hm0, hm1⟩)
  have EA : Hid (applyR ⟨r, mo⟩ ⟨4, ⟨0, 0, 0, 0, 0⟩, false, 0, 0, m⟩ = (⟨r, m⟩, 0)) := Lib.hid (apply_mode HC.out (Ox.chk_mode hm0 hm1))
  clear hl2 hO HC
  simp only at *
  go_enter Try.func8, Try.ntmps8
  go_wp2_with fail
  (with_reducible refine (AW.out _).mono ?_)
  rintro e w1 ⟨rfl, b1⟩
  have B1 := Lib.hid b1
  clear b1 AW
  go_wp2_with fail
  (with_reducible refine (MA.out _ B1.out).mono ?_)
  rintro e w2 ⟨v, rfl, ⟨ao, cap, rfl, sl⟩, b2⟩
  simp only at sl
  have B2 := Lib.hid (B1.out.trans (b2.mono B1.out.size))
  have HX := Lib.hid ((show Bos [] w w2 from ⟨by simp, by simp, B2.out⟩).new #[.slice ao r.length cap, .int .i64 mo] 24)
  have SX := Lib.hid (sl.call ((Below.refl _ _).alloc (Nat.le_refl _) (.cells #[.slice ao r.length cap, .int .i64 mo] 24)))
  clear b2 B1 B2 sl MA
  have IC := Lib.hid (in_any r ao cap mo m _ SX.out.seen (by have := ML.out; omega))
  rw [IM.out] at IC
  obtain ⟨t0, t1⟩ := cell2 (HX.out.cell 0 rfl)
  unfold tv at *
  go_wp2_with fail
  (with_reducible refine IC.out.mono ?_)
  rintro e w3 ⟨v, rfl, ri, b3⟩
  obtain ⟨io, ic, rfl, ile, isn, -⟩ := Ge.Row.form tcs_len ri
  have HX := Lib.hid (HX.out.call b3)
  have SX := Lib.hid (SX.out.call b3)
  have B3 := Lib.hid (HX.out.bl)
  have SI := Lib.hid isn
  have IL : Hid ((inT m r).length ≤ 16) := Lib.hid (Nat.le_trans (inT_len m r) ML.out)
  clear b3 IC isn ri ile t0 t1
  obtain ⟨t0, t1⟩ := cell2 (HX.out.cell 0 rfl)
  go_wp2_with fail
  go_loopg [9, 10] r.length (LRel r m [(w2.heap.size, #[.slice ao r.length cap, .int .i64 mo], 24)] w w3)
  case atStart => exact ⟨0, by omega, by simp [inT], rfl, HX.out, Below.refl _ _⟩
  case round =>
    obtain ⟨i, hi, rfl, rfl, hB, hb3⟩ := hrel
    have HI := Lib.hid hi
    have SXW := Lib.hid (SX.out.call hb3)
    have SIW := Lib.hid (SI.out.call hb3)
    have B3 := Lib.hid hb3
    have HX := Lib.hid hB
    clear hB hb3 t0 t1
    obtain ⟨t0, t1⟩ := cell2 (HX.out.cell 0 rfl)
    by_cases hlt : i < r.length
    · obtain ⟨b, off, rfl, hb, hat⟩ := SXW.out.seen (by omega)
      have hx := row_cells hat (List.getElem?_eq_getElem hlt)
      have hlt' : (i : Int) < (r.length : Int) := by omega
      have hg0 : 0 < gk := by omega
      have hr16 : r.length ≤ 16 := ML.out
      have hi3 : IntKind.i64.wrap (i : Int) = (i : Int) := IntWalk.i64_in _ (by omega)
      have TK := Lib.hid (inT_take (k := m) hlt)
      have AT := Lib.hid (fun h => inT_at (k := m) hlt h)
      have hk1 : (inT m (r.take i)).length ≤ 16 := by have := inT_len m (r.take i); rw [List.length_take] at this; omega
      generalize r[i] = x at *
      obtain ⟨⟨xi, xc, xd, xt, xm⟩, xs⟩ := x
      simp only at hx TK AT
      obtain ⟨r0, r1, r2, r3, r4, r5⟩ := hx
      have um : IntKind.u64.wrap m = m := IntWalk.u64_in _ (by omega)
      have um2 : m % 18446744073709551616 = m := by omega
      clear hi hat hb hlt
      have hbb : bt m ⟨xi, xc, xd, xt, xm⟩ = (bits .and .i64 (xm / 2 ^ m.toNat) 1 == 1) := rfl
      cases hb : (bits .and .i64 (xm / 2 ^ m.toNat) 1 == 1)
      case true =>
        have TK2 := Lib.hid (TK.out.trans (if_pos (by rw [hbb, hb])))
        obtain ⟨hkn, hka⟩ := AT.out (by rw [hbb, hb])
        have TL : Hid ((inT m (r.take (i + 1))).length = (inT m (r.take i)).length + 1) := Lib.hid (by rw [TK2.out]; simp)
        generalize hT0 : (inT m (r.take i)).length = k0 at *
        obtain ⟨ib, ioff, rfl, hib, hiat⟩ := SIW.out (by omega)
        have ti := task_cells hiat hka
        simp only at ti
        have hkn' : (k0 : Int) < ((inT m r).length : Int) := by omega
        have hd : decide ((inT m r).length ≤ k0) = false := decide_eq_false (by omega)
        have hk3 : IntKind.i64.wrap (k0 : Int) = (k0 : Int) := IntWalk.i64_in _ (by omega)
        have hk4 : IntKind.i64.wrap ((k0 : Int) + 1) = (k0 : Int) + 1 := IntWalk.i64_in _ (by omega)
        have NT := neq_task xi xc xd xt xm
        have KD := Lib.hid (And.intro t0 (And.intro (And.intro r0 (And.intro r1 (And.intro r2 (And.intro r3 r4)))) ti))
        clear hT0 TK TK2 AT hiat hka hbb hib IM EA
        generalize (inT m r).length = nn at *
        go_wp2_with fail
        refine wp_region_held_drew (S := (fun W' => W'.cell? ⟨w2.heap.size, 0, none⟩ = some (.slice (some ⟨b, off, none⟩) r.length cap) ∧ (W'.cell? ⟨b, off + i * 6, none⟩ = some (.int .i64 xi) ∧ W'.cell? ⟨b, off + i * 6 + 1, none⟩ = some (.int .i64 xc) ∧ W'.cell? ⟨b, off + i * 6 + 2, none⟩ = some (.int .i64 xd) ∧ W'.cell? ⟨b, off + i * 6 + 3, none⟩ = some (.int .i64 xt) ∧ W'.cell? ⟨b, off + i * 6 + 4, none⟩ = some (.int .i64 xm)) ∧ (W'.cell? ⟨ib, ioff + k0 * 5, none⟩ = some (.int .i64 xi) ∧ W'.cell? ⟨ib, ioff + k0 * 5 + 1, none⟩ = some (.int .i64 xc) ∧ W'.cell? ⟨ib, ioff + k0 * 5 + 2, none⟩ = some (.int .i64 xd) ∧ W'.cell? ⟨ib, ioff + k0 * 5 + 3, none⟩ = some (.int .i64 xt) ∧ W'.cell? ⟨ib, ioff + k0 * 5 + 4, none⟩ = some (.int .i64 xm)))) (by kernel_rfl) (KD.out) (fun hHeld => ?_)
        refine wpAnyH_take (i := 0) (v := ?_) rfl (by kernel_rfl) (by kernel_rfl) (by kernel_rfl) (fun _ _ _ h => h) (Or.inl ⟨by rfl, ?_⟩) (by assumption) ?_
        rotate_left
        · (intro wS hSw; (try dsimp only at hSw); go_simp; try with_reducible rfl)
        (try simp only [Act.put, List.getElem_toArray, List.getElem_cons_succ, List.getElem_cons_zero, List.setIfInBounds_toArray, List.set_cons_zero, List.set_cons_succ])
        refine wpAnyH_take (i := 1) (v := ?_) rfl (by kernel_rfl) (by kernel_rfl) (by kernel_rfl) (fun _ _ _ h => h) (Or.inl ⟨by rfl, ?_⟩) (by assumption) ?_
        rotate_left
        · (intro wS hSw; (try dsimp only at hSw); go_simp; try with_reducible rfl)
        (try simp only [Act.put, List.getElem_toArray, List.getElem_cons_succ, List.getElem_cons_zero, List.setIfInBounds_toArray, List.set_cons_zero, List.set_cons_succ])
        refine wpAnyH_take (i := 2) (v := ?_) rfl (by kernel_rfl) (by kernel_rfl) (by kernel_rfl) (fun _ _ _ h => h) (Or.inl ⟨by rfl, ?_⟩) (by assumption) ?_
        rotate_left
        · (intro wS hSw; (try dsimp only at hSw); go_simp; try with_reducible rfl)
        (try simp only [Act.put, List.getElem_toArray, List.getElem_cons_succ, List.getElem_cons_zero, List.setIfInBounds_toArray, List.set_cons_zero, List.set_cons_succ])
        refine wpAnyH_take (i := 3) (v := ?_) rfl (by kernel_rfl) (by kernel_rfl) (by kernel_rfl) (fun _ _ _ h => h) (Or.inl ⟨by rfl, ?_⟩) (by assumption) ?_
        rotate_left
        · (intro wS hSw; (try dsimp only at hSw); go_simp; try with_reducible rfl)
        (try simp only [Act.put, List.getElem_toArray, List.getElem_cons_succ, List.getElem_cons_zero, List.setIfInBounds_toArray, List.set_cons_zero, List.set_cons_succ])
        refine wpAnyH_take (i := 4) (v := ?_) rfl (by kernel_rfl) (by kernel_rfl) (by kernel_rfl) (fun _ _ _ h => h) (Or.inl ⟨by rfl, ?_⟩) (by assumption) ?_
        rotate_left
        · (intro wS hSw; (try dsimp only at hSw); go_simp; try with_reducible rfl)
        (try simp only [Act.put, List.getElem_toArray, List.getElem_cons_succ, List.getElem_cons_zero, List.setIfInBounds_toArray, List.set_cons_zero, List.set_cons_succ])
        refine wpAnyH_take (i := 5) (v := ?_) rfl (by kernel_rfl) (by kernel_rfl) (by kernel_rfl) (fun _ _ _ h => h) (Or.inl ⟨by rfl, ?_⟩) (by assumption) ?_
        rotate_left
        · (intro wS hSw; (try dsimp only at hSw); go_simp; try with_reducible rfl)
        (try simp only [Act.put, List.getElem_toArray, List.getElem_cons_succ, List.getElem_cons_zero, List.setIfInBounds_toArray, List.set_cons_zero, List.set_cons_succ])
        refine wpAnyH_take (i := 6) (v := ?_) rfl (by kernel_rfl) (by kernel_rfl) (by kernel_rfl) (fun _ _ _ h => h) (Or.inl ⟨by rfl, ?_⟩) (by assumption) ?_
        rotate_left
        · (intro wS hSw; (try dsimp only at hSw); go_simp; try with_reducible rfl)
        (try simp only [Act.put, List.getElem_toArray, List.getElem_cons_succ, List.getElem_cons_zero, List.setIfInBounds_toArray, List.set_cons_zero, List.set_cons_succ])
        refine wpAnyH_take (i := 7) (v := ?_) rfl (by kernel_rfl) (by kernel_rfl) (by kernel_rfl) (fun _ _ _ h => h) (Or.inl ⟨by rfl, ?_⟩) (by assumption) ?_
        rotate_left
        · (intro wS hSw; (try dsimp only at hSw); go_simp; try with_reducible rfl)
        (try simp only [Act.put, List.getElem_toArray, List.getElem_cons_succ, List.getElem_cons_zero, List.setIfInBounds_toArray, List.set_cons_zero, List.set_cons_succ])
        refine wpAnyH_take (i := 8) (v := ?_) rfl (by kernel_rfl) (by kernel_rfl) (by kernel_rfl) (fun _ _ _ h => h) (Or.inl ⟨by rfl, ?_⟩) (by assumption) ?_
        rotate_left
        · (intro wS hSw; (try dsimp only at hSw); go_simp; try with_reducible rfl)
        (try simp only [Act.put, List.getElem_toArray, List.getElem_cons_succ, List.getElem_cons_zero, List.setIfInBounds_toArray, List.set_cons_zero, List.set_cons_succ])
        refine wpAnyH_take (i := 9) (v := ?_) rfl (by kernel_rfl) (by kernel_rfl) (by kernel_rfl) (fun _ _ _ h => h) (Or.inl ⟨by rfl, ?_⟩) (by assumption) ?_
        rotate_left
        · (intro wS hSw; (try dsimp only at hSw); go_simp; try with_reducible rfl)
        (try simp only [Act.put, List.getElem_toArray, List.getElem_cons_succ, List.getElem_cons_zero, List.setIfInBounds_toArray, List.set_cons_zero, List.set_cons_succ])
        refine wpAnyH_take (i := 10) (v := ?_) rfl (by kernel_rfl) (by kernel_rfl) (by kernel_rfl) (fun _ _ _ h => h) (Or.inl ⟨by rfl, ?_⟩) (by assumption) ?_
        rotate_left
        · (intro wS hSw; (try dsimp only at hSw); go_simp; try with_reducible rfl)
        (try simp only [Act.put, List.getElem_toArray, List.getElem_cons_succ, List.getElem_cons_zero, List.setIfInBounds_toArray, List.set_cons_zero, List.set_cons_succ])
        refine wpAnyH_take (i := 11) (v := ?_) rfl (by kernel_rfl) (by kernel_rfl) (by kernel_rfl) (fun _ _ _ h => h) (Or.inl ⟨by rfl, ?_⟩) (by assumption) ?_
        rotate_left
        · (intro wS hSw; (try dsimp only at hSw); go_simp; try with_reducible rfl)
        (try simp only [Act.put, List.getElem_toArray, List.getElem_cons_succ, List.getElem_cons_zero, List.setIfInBounds_toArray, List.set_cons_zero, List.set_cons_succ])
        refine wpAnyH_take (i := 12) (v := ?_) rfl (by kernel_rfl) (by kernel_rfl) (by kernel_rfl) (fun _ _ _ h => h) (Or.inl ⟨by rfl, ?_⟩) (by assumption) ?_
        rotate_left
        · (intro wS hSw; (try dsimp only at hSw); go_simp; try with_reducible rfl)
        (try simp only [Act.put, List.getElem_toArray, List.getElem_cons_succ, List.getElem_cons_zero, List.setIfInBounds_toArray, List.set_cons_zero, List.set_cons_succ])
        refine wpAnyH_take (i := 13) (v := ?_) rfl (by kernel_rfl) (by kernel_rfl) (by kernel_rfl) (fun _ _ _ h => h) (Or.inl ⟨by rfl, ?_⟩) (by assumption) ?_
        rotate_left
        · (intro wS hSw; (try dsimp only at hSw); go_simp; try with_reducible rfl)
        (try simp only [Act.put, List.getElem_toArray, List.getElem_cons_succ, List.getElem_cons_zero, List.setIfInBounds_toArray, List.set_cons_zero, List.set_cons_succ])
        refine wpAnyH_take (i := 14) (v := ?_) rfl (by kernel_rfl) (by kernel_rfl) (by kernel_rfl) (fun _ _ _ h => h) (Or.inl ⟨by rfl, ?_⟩) (by assumption) ?_
        rotate_left
        · (intro wS hSw; (try dsimp only at hSw); go_simp; try with_reducible rfl)
        (try simp only [Act.put, List.getElem_toArray, List.getElem_cons_succ, List.getElem_cons_zero, List.setIfInBounds_toArray, List.set_cons_zero, List.set_cons_succ])
        refine wpAnyH_take (i := 15) (v := ?_) rfl (by kernel_rfl) (by kernel_rfl) (by kernel_rfl) (fun _ _ _ h => h) (Or.inl ⟨by rfl, ?_⟩) (by assumption) ?_
        rotate_left
        · (intro wS hSw; (try dsimp only at hSw); go_simp; try with_reducible rfl)
        (try simp only [Act.put, List.getElem_toArray, List.getElem_cons_succ, List.getElem_cons_zero, List.setIfInBounds_toArray, List.set_cons_zero, List.set_cons_succ])
        refine wpAnyH_take (i := 16) (v := ?_) rfl (by kernel_rfl) (by kernel_rfl) (by kernel_rfl) (fun _ _ _ h => h) (Or.inl ⟨by rfl, ?_⟩) (by assumption) ?_
        rotate_left
        · (intro wS hSw; (try dsimp only at hSw); go_simp; try with_reducible rfl)
        (try simp only [Act.put, List.getElem_toArray, List.getElem_cons_succ, List.getElem_cons_zero, List.setIfInBounds_toArray, List.set_cons_zero, List.set_cons_succ])
        refine wpAnyH_done (by kernel_rfl) ?_ _
        go_wp2
        go_roundg (gk - 1)
        case measure => omega
        case rel => exact ⟨i + 1, by have := HI.out; omega, by rw [TL.out]; rfl, by go_num, HX.out.drew, B3.out.drew⟩
      case false =>
        have TK2 := Lib.hid (TK.out.trans (if_neg (by rw [hbb, hb]; decide)))
        have TL : Hid ((inT m (r.take (i + 1))).length = (inT m (r.take i)).length) := Lib.hid (by rw [TK2.out])
        generalize (inT m (r.take i)).length = k0 at *
        clear TK TK2 AT hbb
        go_wp2
        go_roundg (gk - 1)
        case measure => omega
        case rel => exact ⟨i + 1, by have := HI.out; omega, by rw [TL.out], by go_num, HX.out, B3.out⟩
    · have hge : (r.length : Int) ≤ (i : Int) := by omega
      obtain rfl : i = r.length := by omega
      rw [List.take_length]
      have AC := Lib.hid (apply_any ⟨r, mo⟩ ⟨4, ⟨0, 0, 0, 0, 0⟩, false, 0, 0, m⟩ ao cap wr SXW.out.seen (by have := ML.out; simp only at this ⊢; omega))
      rw [EA.out] at AC
      unfold tv Od.v Od.cs at AC
      simp only at AC
      generalize (inT m r).length = nn at *
      clear hi hlt SIW SI SX IM EA
      go_wp2_with fail
      (with_reducible refine AC.out.mono ?_)
      rintro e w4 ⟨v, rfl, ⟨a4, c4, rfl, s4⟩, b4⟩
      simp only at s4
      have HX := Lib.hid (HX.out.call b4)
      have S4 := Lib.hid (s4.call ((Below.refl _ _).alloc (Nat.le_refl _) (.cells #[.slice a4 r.length c4, .int .i64 mo] 24)))
      have SXW := Lib.hid ((SXW.out.call b4).call ((Below.refl _ _).alloc (Nat.le_refl _) (.cells #[.slice a4 r.length c4, .int .i64 mo] 24)))
      have HY := Lib.hid (HX.out.new #[.slice a4 r.length c4, .int .i64 m] 24)
      have HZ := Lib.hid (HX.out.new #[.slice a4 r.length c4, .int .i64 mo] 24)
      clear b4 s4 AC t0 t1
      obtain ⟨y0, y1⟩ := cell2 (HY.out.cell 0 rfl)
      have yf := HY.out.fz 0 rfl
      obtain ⟨u0, u1⟩ := cell2 (HY.out.cell 1 rfl)
      obtain ⟨z0, z1⟩ := cell2 (HZ.out.cell 0 rfl)
      obtain ⟨t0, t1⟩ := cell2 (HZ.out.cell 1 rfl)
      have SA := Lib.hid (same_any ⟨r, mo⟩ ⟨r, mo⟩ a4 ao c4 cap _ S4.out.seen SXW.out.seen (by have := ML.out; simp only at this ⊢; omega) (by have := ML.out; simp only at this ⊢; omega))
      rw [same_self] at SA
      unfold tv at *
      simp only at SA
      have nn1 : ((nn : Int) == (nn : Int)) = true := by simp
      clear S4 SXW
      go_wp2_with fail
      (with_reducible refine SA.out.mono ?_)
      rintro e w5 ⟨rfl, b5⟩
      have Z := Lib.hid (HZ.out.call b5).bl
      clear b5
      go_wp2
      go_ret
      exact ⟨rfl, Z.out⟩

set_option maxRecDepth 100000 in
set_option maxHeartbeats 1600000 in
theorem lifted (os : Os) (started : os.Started) (H : Type) (enc : TypeId × Value → H) :
    ReturnsInHanded {} Try.checked os 8 .any (Rows.tableModesSpec.pre6 enc Try.prog Try.f8 Rows.tableModesRow.domain false) (Rows.tableModesSpec.post enc Try.prog Try.f8 false true false false) := by
  refine returnsInHanded_of_change (C := Try.checked) own started (by kernel_rfl) Try.func8
    (ChangeSpec.witness6 (enc := enc) (C := Try.checked) false ⟨#[], #[.slice none 0 0, .int .i64 0], []⟩ 8 (by kernel_rfl) (by kernel_rfl) (by kernel_rfl) (by kernel_rfl)) ?_
  intro W base args ds gs before hval0 hW hcnd _
  have hval : ∀ (j : Nat) t v, Try.f8.params[j]? = some t → args[j]? = some v → Value.okWide Try.prog W .any base t v := hval0
  have hW' := hW
  obtain ⟨p, q, hA0, hV, rfl, hfz, hnd⟩ := hW
  have hA : DataW.TrodAll enc Try.prog W 0 (fun _ => true) true Try.f8.params.toList args.toList ds p := hA0
  rw [Try.params8] at hA hval
  obtain ⟨v0, vs0, d0, ds0, p0, q0, hargs, rfl, rfl, h0, r0⟩ := trodAll_cons hA
  obtain ⟨v1, vs1, d1, ds1, p1, q1, rfl, rfl, rfl, h1, r1⟩ := trodAll_cons r0
  obtain ⟨rfl, rfl, rfl⟩ := trodAll_nil r1
  obtain rfl : args = #[v0, v1] := by cases args; simp_all
  obtain ⟨rfl, rfl⟩ := trodVars_none hV
  have lt0 : ∀ x ∈ p0, x.block < W.heap.size := by obtain ⟨m, hm⟩ := h0; exact DataW.trod_lt m _ _ _ hm
  obtain ⟨lo, l, lc, rfl, ll, lm, ls⟩ := open_ops (hval 0 25 v0 rfl rfl) h0
  have lt1 : ∀ x ∈ p1, x.block < W.heap.size := by obtain ⟨m, hm⟩ := h1; exact DataW.trod_lt m _ _ _ hm
  obtain ⟨z, e1, -, -, wfz⟩ := open_int Try.underlying3 (hval 1 3 v1 rfl rfl) h1
  subst e1
  clear hA0 hval0
  refine (walk l lo lc z W ll ls).mono fun e W' ⟨he, bel⟩ => ?_
  subst he
  exact ⟨_, rfl, _, _, _, [], _, [], hW', trodAll_mk1 (shut_bool Try.underlying4 _), (trodAll_cons_mk (Below.trod laidOut (by kernel_rfl) (of_decide_eq_true (by kernel_rfl)) h0 bel lt0) (trodAll_cons_mk (Below.trod laidOut (by kernel_rfl) (of_decide_eq_true (by kernel_rfl)) h1 bel lt1) trodAll_mk0)), rfl, bel.frame _, fun h => by cases h⟩

theorem proved : Rows.TableModesSaid :=
  OpenClaim.holds_of_wide 8 Try.f8 rfl rfl rfl rfl rfl rfl rfl ⟨rfl, rfl, rfl, rfl, rfl⟩ rfl rfl rfl rfl rfl (by kernel_rfl) Try.func8 (by kernel_rfl)
    (of_decide_eq_true (by kernel_rfl)) (by unfold Func.isWrapper; first | (rw [if_pos (by decide +kernel)]; kernel_rfl) | (rw [if_neg (by decide +kernel)]; exact ⟨rfl, rfl⟩))
    (fun os started H enc _ => lifted os started H enc)
#print axioms proved
end Go.Proofs.Ytnaanahgflbihaa.tableModes
