/- The document's log in memory; contracts of its New, Start, Left and Many. Contract of the document's Append. -/
import Derived.Test.YtcbemjckcmcelaaMWd
import Derived.Test.YtcbemjckcmcelaaMDs
import Derived.Test.YtcbemjckcmcelaaMFd
import Derived.StillTailTactics
import Derived.Deep.RegionHeld3
namespace Go.Proofs.Ytcbemjckcmcelaa.Wl
open Go.ChangeShapes Go.WideShapes Go.ChangeAt Go.RowKit Go.Joins
open Dk (Dk Rk DS Own Moved ptr)
open Sl (Mv below_drewN rowOf)
set_option maxRecDepth 100000
set_option linter.unusedVariables false
set_option linter.unusedSimpArgs false
/-- the document's log at block q, of its disk at block b -/
def RlAt (q b a n : Nat) (op : Bool) (ep ln : Nat) (w : World) : Prop := w.heap[q]? = some (.cells #[ptr b, .int .i64 (a : Int), .int .i64 (n : Int), .bool op, .int .u64 (ep : Int), .int .i64 (ln : Int)] 70 (0, 0))
def Rl (q b : Nat) (t : WS) (w : World) : Prop := ∃ ep ln, RlAt q b t.at_ t.n t.st.isSome ep ln w ∧ ∀ e c, t.st = some (e, c) → ep = e ∧ ln = c
section
variable {q b a n ep ln : Nat} {op : Bool} {t : WS} {w w' : World}
theorem RlAt.lt (h : RlAt q b a n op ep ln w) : q < w.heap.size := Dk.lt_of_heap h
theorem RlAt.of_block (h : RlAt q b a n op ep ln w) (e : w'.heap[q]? = w.heap[q]?) : RlAt q b a n op ep ln w' := by unfold RlAt at *; rw [e]; exact h
theorem RlAt.c0 (h : RlAt q b a n op ep ln w) : w.cell? ⟨q, 0, none⟩ = some (ptr b) := by rw [Lib.cell_of_heap h]; rfl
theorem RlAt.c1 (h : RlAt q b a n op ep ln w) : w.cell? ⟨q, 1, none⟩ = some (.int .i64 (a : Int)) := by rw [Lib.cell_of_heap h]; rfl
theorem RlAt.c2 (h : RlAt q b a n op ep ln w) : w.cell? ⟨q, 2, none⟩ = some (.int .i64 (n : Int)) := by rw [Lib.cell_of_heap h]; rfl
theorem RlAt.c3 (h : RlAt q b a n op ep ln w) : w.cell? ⟨q, 3, none⟩ = some (.bool op) := by rw [Lib.cell_of_heap h]; rfl
theorem RlAt.c4 (h : RlAt q b a n op ep ln w) : w.cell? ⟨q, 4, none⟩ = some (.int .u64 (ep : Int)) := by rw [Lib.cell_of_heap h]; rfl
theorem RlAt.c5 (h : RlAt q b a n op ep ln w) : w.cell? ⟨q, 5, none⟩ = some (.int .i64 (ln : Int)) := by rw [Lib.cell_of_heap h]; rfl
theorem RlAt.fz (h : RlAt q b a n op ep ln w) (o : Nat) : w.frozen? ⟨q, o, none⟩ = false := Lib.frozen_of_heap h o
theorem RlAt.set3 (h : RlAt q b a n op ep ln w) (x : Bool) : RlAt q b a n x ep ln (w.setCell ⟨q, 3, none⟩ (.bool x)) := by
  unfold RlAt at *; simp [World.setCell, Array.getElem?_modify, h]
theorem RlAt.set4 (h : RlAt q b a n op ep ln w) (x : Nat) : RlAt q b a n op x ln (w.setCell ⟨q, 4, none⟩ (.int .u64 (x : Int))) := by
  unfold RlAt at *; simp [World.setCell, Array.getElem?_modify, h]
theorem RlAt.set5 (h : RlAt q b a n op ep ln w) (x : Nat) : RlAt q b a n op ep x (w.setCell ⟨q, 5, none⟩ (.int .i64 (x : Int))) := by
  unfold RlAt at *; simp [World.setCell, Array.getElem?_modify, h]
theorem RlAt.notOwn {B c : Nat} {s : DS} (h : RlAt q b a n op ep ln w) (d : Rk B c s w) : ¬ Own w c q := by
  obtain ⟨vS, vL, d⟩ := d
  intro e
  rcases d.owns.1 e with e | e | e
  · have h1 := d.blk; unfold RlAt at h; rw [← e, h] at h1; cases h1
  · obtain ⟨cur, hc⟩ := Dk.own_block d.rowS e; unfold RlAt at h; rw [h] at hc; cases hc
  · obtain ⟨cur, hc⟩ := Dk.own_block d.rowL e; unfold RlAt at h; rw [h] at hc; cases hc
theorem RlAt.disk {B c : Nat} {s : DS} (h : RlAt q b a n op ep ln w) (d : Rk B c s w) (m : Moved c w w') : RlAt q b a n op ep ln w' := h.of_block (m.block q h.lt (h.notOwn d))
theorem RlAt.call (h : RlAt q b a n op ep ln w) (hb : Below w.heap.size w w') : RlAt q b a n op ep ln w' := h.of_block (hb.block q h.lt)
theorem RlAt.ne {B : Nat} {s : DS} (h : RlAt q b a n op ep ln w) (d : Rk B b s w) : q ≠ b := fun e => h.notOwn d (.inl e)
end
theorem Rk_blocks {B b : Nat} {s : DS} {w w' : World} (h : Rk B b s w) (k : ∀ j, Own w b j → w'.heap[j]? = w.heap[j]?) : Rk B b s w' := by
  obtain ⟨vS, vL, h⟩ := h
  exact ⟨vS, vL, h.ok, h.hb, by rw [k b (.inl rfl)]; exact h.blk, Dk.own_of_block h.rowS (fun j hj => k j (h.owns.2 (.inr (.inl hj)))), Dk.own_of_block h.rowL (fun j hj => k j (h.owns.2 (.inr (.inr hj))))⟩
theorem Rk_setOther {B b q o : Nat} {s : DS} {w : World} {v : Value} (h : Rk B b s w) (hq : ¬ Own w b q) : Rk B b s (w.setCell ⟨q, o, none⟩ v) :=
  Rk_blocks h fun k hk => Below.heap_setCell w ⟨q, o, none⟩ v k (fun e => hq (by have e' : k = q := e; rw [← e']; exact hk))
theorem new_r (b a n : Nat) (w : World) :
    Calls Try.prog 13 #[ptr b, .int .i64 (a : Int), .int .i64 (n : Int)] w fun e w' => e = .returned (ptr w.heap.size) ∧ Rl w.heap.size b ⟨a, n, none⟩ w' ∧ Below w.heap.size w w' := by
  have FIN : Hid (Rl w.heap.size b ⟨a, n, none⟩ (w.alloc (.cells #[ptr b, .int .i64 (a : Int), .int .i64 (n : Int), .bool false, .int .u64 0, .int .i64 0] 70)) ∧ Below w.heap.size w (w.alloc (.cells #[ptr b, .int .i64 (a : Int), .int .i64 (n : Int), .bool false, .int .u64 0, .int .i64 0] 70))) :=
    Lib.hid ⟨⟨0, 0, heap_alloc_new _ _, fun e c h => by cases h⟩, (Below.refl _ _).alloc (Nat.le_refl _) _⟩
  go_enter Try.func13, Try.ntmps13
  go_wp2
  go_ret
  exact ⟨rfl, FIN.out⟩
theorem start_r {B q b : Nat} {t : WS} {s : DS} (e : Nat) (w : World) (h : Rl q b t w) (d : Rk B b s w) (he : 1 ≤ e) :
    Calls Try.prog 18 #[ptr q, .int .u64 (e : Int)] w fun r w' => r = .returned (.int .i64 0) ∧ Rl q b ⟨t.at_, t.n, some (e, 0)⟩ w' ∧ Rk B b s w' ∧ Mv b q w w' := by
  obtain ⟨ep, ln, h, _⟩ := h
  have h1 := h.set3 true
  have h2 := h1.set4 e
  have h3 := h2.set5 0
  have d1 := Rk_setOther (o := 3) (v := .bool true) d (h.notOwn d)
  have d2 := Rk_setOther (o := 4) (v := .int .u64 (e : Int)) d1 (h1.notOwn d1)
  have d3 := Rk_setOther (o := 5) (v := .int .i64 ((0 : Nat) : Int)) d2 (h2.notOwn d2)
  have FIN := Lib.hid (And.intro (show Rl q b ⟨t.at_, t.n, some (e, 0)⟩ _ from ⟨e, 0, h3, fun e' c' hh => by cases hh; exact ⟨rfl, rfl⟩⟩) (And.intro d3 ((((Mv.refl b q w).set (h.ne d) 3 (.bool true)).set (h.ne d) 4 (.int .u64 (e : Int))).set (h.ne d) 5 (.int .i64 ((0 : Nat) : Int)))))
  have c3 := h.c3
  have c4 := h1.c4
  have c5 := h2.c5
  have f3 := h.fz 3
  have f4 := h.fz 4
  have f5 := h.fz 5
  have b3 := h.c4
  have b5 := h.c5
  have ne : ((e : Int) == 0) = false := by simp; omega
  clear h h1 h2 h3 d d1 d2 d3
  generalize (e : Int) = E at *
  go_enter Try.func18, Try.ntmps18
  go_wp2
  go_ret
  exact ⟨rfl, FIN.out⟩
theorem start_r0 {q : Nat} (w : World) :
    Calls Try.prog 18 #[ptr q, .int .u64 0] w fun r w' => r = .returned (.int .i64 1) ∧ w' = w := by
  go_enter Try.func18, Try.ntmps18
  go_wp2
  go_ret
  exact ⟨rfl, rfl⟩
theorem many_r {q b : Nat} {t : WS} (w : World) (h : Rl q b t w) :
    Calls Try.prog 29 #[ptr q] w fun r w' => r = .returned (.int .i64 (lenOf t.st : Int)) ∧ w' = w := by
  obtain ⟨ep, ln, h, hs⟩ := h
  have c3 := h.c3
  have c5 := h.c5
  cases ht : t.st with
  | none =>
    rw [ht] at c3
    have c3' : w.cell? ⟨q, 3, none⟩ = some (.bool false) := c3
    clear c3 h hs
    go_enter Try.func29, Try.ntmps29
    go_wp2
    go_ret
    exact ⟨rfl, rfl⟩
  | some ec =>
    obtain ⟨e, c⟩ := ec
    obtain ⟨rfl, rfl⟩ := hs e c ht
    rw [ht] at c3
    have c3' : w.cell? ⟨q, 3, none⟩ = some (.bool true) := c3
    clear c3 h hs
    go_enter Try.func29, Try.ntmps29
    go_wp2
    go_ret
    exact ⟨rfl, rfl⟩
theorem left_r {q b : Nat} {t : WS} (w : World) (h : Rl q b t w) (hn : t.n ≤ 1024) (hc : lenOf t.st ≤ t.n) :
    Calls Try.prog 27 #[ptr q] w fun r w' => r = .returned (.int .i64 (leftOf t.n t.st : Int)) ∧ ∃ m, w' = w.drewN m := by
  obtain ⟨ep, ln, h, hs⟩ := h
  have c2 := h.c2
  have c3 := h.c3
  have c5 := h.c5
  cases ht : t.st with
  | none =>
    rw [ht] at c3
    have c3' : w.cell? ⟨q, 3, none⟩ = some (.bool false) := c3
    clear c3 h hs
    go_enter Try.func27, Try.ntmps27
    go_wp2
    go_ret
    exact ⟨rfl, 0, rfl⟩
  | some ec =>
    obtain ⟨e, c⟩ := ec
    obtain ⟨rfl, rfl⟩ := hs e c ht
    rw [ht] at c3 hc
    have c3' : w.cell? ⟨q, 3, none⟩ = some (.bool true) := c3
    have hc' : ln ≤ t.n := hc
    have EL : ((leftOf t.n (some (ep, ln)) : Nat) : Int) = (t.n : Int) - (ln : Int) := by show ((t.n - ln : Nat) : Int) = _; omega
    rw [EL]
    have wr : IntKind.i64.wrap ((t.n : Int) - (ln : Int)) = (t.n : Int) - (ln : Int) := IntWalk.i64_in _ (by omega)
    clear c3 h hs EL
    generalize (t.n : Int) = K at *
    generalize (ln : Int) = LN at *
    go_enter Try.func27, Try.ntmps27
    go_wp2_with fail
    go_quiet (fail)
    go_wp2
    go_ret
    exact ⟨rfl, nq, rfl⟩
end Go.Proofs.Ytcbemjckcmcelaa.Wl
namespace Go.Proofs.Ytcbemjckcmcelaa.Wl
open Go.ChangeShapes Go.WideShapes Go.ChangeAt Go.RowKit Go.Joins
open Dk (Dk Rk DS Own Moved ptr)
open Sl (Mv below_drewN rowOf)
set_option maxRecDepth 100000
set_option linter.unusedVariables false
set_option linter.unusedSimpArgs false
set_option maxHeartbeats 2000000 in
theorem app_r1 {B b q : Nat} {t : WS} {s : DS} (e c : Nat) (p : List UInt8) (w : World) (h : Rl q b t w) (dk : Rk B b s w) (hs : t.st = some (e, c)) (hc : c < t.n) (hp : p.length ≤ 43) (he : e < 18446744073709551616) (hl : t.at_ + t.n ≤ s.sec.length) (ho : s.opn.length ≤ 800000) (hf : s.fail < 9223372036854775808) (hw : (Dk.writeR s ((t.at_ + c : Nat) : Int) (sec p e c)).2 = 18) :
    Calls Try.prog 25 #[ptr q, .string (mkB p)] w fun r w' => r = .returned (.int .i64 18) ∧ Rk B b (Dk.writeR s ((t.at_ + c : Nat) : Int) (sec p e c)).1 w' ∧ Rl q b ⟨t.at_, t.n, none⟩ w' ∧ Mv b q w w' := by
  have hl2 := dk.ok.len
  obtain ⟨ep, ln, h, hst⟩ := h
  obtain ⟨rfl, rfl⟩ := hst e c hs
  clear hst
  have MK := Lib.hid (fun w => make_rf_yes (mkB p) ep ln w (by rw [mkB_size]; exact hp) he (by omega))
  rw [mkB_data] at MK
  have hz := mkB_size p
  have zi : ((mkB p).size : Int) ≤ 43 := by omega
  have OPN : t.st.isSome = true := by rw [hs]; rfl
  rw [OPN] at h
  have c2 := h.c2
  have c3 := h.c3
  have c5 := h.c5
  have P0 := Lib.hid (And.intro h dk)
  have lt1 : (ln : Int) < (t.n : Int) := by omega
  have dl : decide ((t.n : Int) ≤ (ln : Int)) = false := by simp; omega
  have u1 : IntKind.u64.wrap (ln : Int) = (ln : Int) := IntWalk.u64_in _ (by omega)
  have u2 : (ln : Int) % 18446744073709551616 = (ln : Int) := by omega
  have w1 : IntKind.i64.wrap ((t.at_ : Int) + (ln : Int)) = (t.at_ : Int) + (ln : Int) := IntWalk.i64_in _ (by omega)
  have l1 : (ln : Int) ≤ 1024 := by omega
  have l0 : 0 ≤ (ln : Int) := by omega
  have KJ := Lib.hid (fun (j : Nat) => P0.out.1.call (below_drewN w j))
  have DJ := Lib.hid (fun (j : Nat) => P0.out.2.call (below_drewN w j))
  clear h dk OPN
  generalize hX : sec p ep ln = X at *
  have XL : X.length = 64 := by rw [← hX]; exact sec_length hp ep ln
  clear hX
  generalize mkB p = PP at *
  go_enter Try.func25, Try.ntmps25
  go_wp2_with fail
  go_quiet (fail)
  go_wp2_with fail
  have M0 := Lib.hid (show Moved b w (w.drewN nq) from .of_below (below_drewN w nq) P0.out.2.lt)
  have K1 := Lib.hid (KJ.out nq)
  have D1 := Lib.hid (DJ.out nq)
  clear KJ DJ P0 c2 c3 c5
  generalize w.drewN nq = v at *
  have KS : Hid (v.drew.cell? ⟨q, 4, none⟩ = some (.int .u64 (ep : Int)) ∧ v.drew.cell? ⟨q, 5, none⟩ = some (.int .i64 (ln : Int)) ∧ Below v.heap.size v v.drew) := Lib.hid ⟨K1.out.c4, K1.out.c5, (Below.refl _ _).drew⟩
  have KB : Hid (∀ w2, Below v.drew.heap.size v.drew w2 → w2.cell? ⟨q, 4, none⟩ = some (.int .u64 (ep : Int)) ∧ w2.cell? ⟨q, 5, none⟩ = some (.int .i64 (ln : Int)) ∧ Below v.heap.size v w2) := Lib.hid (fun w2 hb => by
    have k := (K1.out.call (Below.refl _ _).drew).call hb
    exact ⟨k.c4, k.c5, (Below.refl v.heap.size v).drew.trans hb⟩)
  go_region_held3 (fun w' => w'.cell? ⟨q, 4, none⟩ = some (.int .u64 (ep : Int)) ∧ w'.cell? ⟨q, 5, none⟩ = some (.int .i64 (ln : Int)) ∧ Below v.heap.size v w') (first | exact KS.out | assumption | fail) (first | (go_at_call 42; (with_reducible refine (MK.out _).mono ?_); rintro r1 w2 ⟨rfl, b2⟩; (have kn := KB.out w2 b2)) | fail)
  have K2 := Lib.hid (K1.out.call kn.2.2)
  have D2 := Lib.hid (D1.out.call kn.2.2)
  have M2 := Lib.hid (M0.out.trans (.of_below kn.2.2 D1.out.lt))
  clear KS KB MK K1 D1 M0 kn b2 u1 u2
  have c0 := K2.out.c0
  have c1 := K2.out.c1
  have c5 := K2.out.c5
  go_wp2_with fail
  go_still_tail 14, (by kernel_rfl)
  change wpList _ _ _ _ _ w2.drew
  have c0d : w2.drew.cell? ⟨q, 0, none⟩ = some (ptr b) := c0
  have K3 := Lib.hid (K2.out.call (Below.refl _ _).drew)
  have D3 := Lib.hid (D2.out.call (Below.refl _ _).drew)
  have M3 := Lib.hid (M2.out.trans (.of_below (Below.refl _ _).drew D2.out.lt))
  have WR : Hid (Calls Try.prog 43 #[ptr b, .int .i64 ((t.at_ : Int) + (ln : Int)), .string (mkB X)] w2.drew fun e w' => e = .returned (.int .i64 ((Dk.writeR s ((t.at_ + ln : Nat) : Int) X).2 : Int)) ∧ Rk B b (Dk.writeR s ((t.at_ + ln : Nat) : Int) X).1 w' ∧ Moved b w2.drew w') := Lib.hid (by
    have HS : (t.at_ : Int) + (ln : Int) = ((t.at_ + ln : Nat) : Int) := by push_cast; rfl
    have := Dk.write_rf B b s ((t.at_ + ln : Nat) : Int) (mkB X) w2.drew D3.out (by omega) hf
    rw [mkB_data] at this
    rw [HS]
    exact this)
  clear K2 D2 M2 c0 c1 c5 c0d w1
  generalize w2.drew = w3 at *
  go_wp2_with fail
  (with_reducible refine WR.out.mono ?_)
  rintro r2 w4 ⟨rfl, d4, m4⟩
  have K4 := Lib.hid (K3.out.disk D3.out m4)
  have M4 := Lib.hid (M3.out.trans m4)
  clear WR K3 M3 D3
  rw [hw]
  have FIN := Lib.hid (show Rk B b (Dk.writeR s ((t.at_ + ln : Nat) : Int) X).1 (w4.setCell ⟨q, 3, none⟩ (.bool false)) ∧ Rl q b ⟨t.at_, t.n, none⟩ (w4.setCell ⟨q, 3, none⟩ (.bool false)) ∧ Mv b q w (w4.setCell ⟨q, 3, none⟩ (.bool false)) from
    ⟨Rk_setOther d4 (K4.out.notOwn d4), ⟨ep, ln, K4.out.set3 false, fun _ _ hh => by cases hh⟩, (Mv.of_moved M4.out).set (K4.out.ne d4) 3 _⟩)
  have c3 := K4.out.c3
  have f3 := K4.out.fz 3
  clear d4 m4 K4 M4 hw
  have n1 : (((18 : Nat) : Int) == 0) = false := by decide
  have n2 : (((18 : Nat) : Int) != 0) = true := by decide
  go_wp2
  go_ret
  exact ⟨rfl, FIN.out⟩
set_option maxHeartbeats 2000000 in
theorem app_r2 {B b q : Nat} {t : WS} {s : DS} (e c : Nat) (p : List UInt8) (w : World) (h : Rl q b t w) (dk : Rk B b s w) (hs : t.st = some (e, c)) (hc : c < t.n) (hp : p.length ≤ 43) (he : e < 18446744073709551616) (hl : t.at_ + t.n ≤ s.sec.length) (ho : s.opn.length ≤ 800000) (hf : s.fail < 9223372036854775808) (hw : (Dk.writeR s ((t.at_ + c : Nat) : Int) (sec p e c)).2 = 0) (hfl : (Dk.flushR (Dk.writeR s ((t.at_ + c : Nat) : Int) (sec p e c)).1).2 = 18) :
    Calls Try.prog 25 #[ptr q, .string (mkB p)] w fun r w' => r = .returned (.int .i64 18) ∧ Rk B b (Dk.flushR (Dk.writeR s ((t.at_ + c : Nat) : Int) (sec p e c)).1).1 w' ∧ Rl q b ⟨t.at_, t.n, none⟩ w' ∧ Mv b q w w' := by
  have hl2 := dk.ok.len
  obtain ⟨ep, ln, h, hst⟩ := h
  obtain ⟨rfl, rfl⟩ := hst e c hs
  clear hst
  have MK := Lib.hid (fun w => make_rf_yes (mkB p) ep ln w (by rw [mkB_size]; exact hp) he (by omega))
  rw [mkB_data] at MK
  have hz := mkB_size p
  have zi : ((mkB p).size : Int) ≤ 43 := by omega
  have OPN : t.st.isSome = true := by rw [hs]; rfl
  rw [OPN] at h
  have c2 := h.c2
  have c3 := h.c3
  have c5 := h.c5
  have P0 := Lib.hid (And.intro h dk)
  have lt1 : (ln : Int) < (t.n : Int) := by omega
  have dl : decide ((t.n : Int) ≤ (ln : Int)) = false := by simp; omega
  have u1 : IntKind.u64.wrap (ln : Int) = (ln : Int) := IntWalk.u64_in _ (by omega)
  have u2 : (ln : Int) % 18446744073709551616 = (ln : Int) := by omega
  have w1 : IntKind.i64.wrap ((t.at_ : Int) + (ln : Int)) = (t.at_ : Int) + (ln : Int) := IntWalk.i64_in _ (by omega)
  have l1 : (ln : Int) ≤ 1024 := by omega
  have l0 : 0 ≤ (ln : Int) := by omega
  have KJ := Lib.hid (fun (j : Nat) => P0.out.1.call (below_drewN w j))
  have DJ := Lib.hid (fun (j : Nat) => P0.out.2.call (below_drewN w j))
  clear h dk OPN
  generalize hX : sec p ep ln = X at *
  have XL : X.length = 64 := by rw [← hX]; exact sec_length hp ep ln
  clear hX
  generalize mkB p = PP at *
  go_enter Try.func25, Try.ntmps25
  go_wp2_with fail
  go_quiet (fail)
  go_wp2_with fail
  have M0 := Lib.hid (show Moved b w (w.drewN nq) from .of_below (below_drewN w nq) P0.out.2.lt)
  have K1 := Lib.hid (KJ.out nq)
  have D1 := Lib.hid (DJ.out nq)
  clear KJ DJ P0 c2 c3 c5
  generalize w.drewN nq = v at *
  have KS : Hid (v.drew.cell? ⟨q, 4, none⟩ = some (.int .u64 (ep : Int)) ∧ v.drew.cell? ⟨q, 5, none⟩ = some (.int .i64 (ln : Int)) ∧ Below v.heap.size v v.drew) := Lib.hid ⟨K1.out.c4, K1.out.c5, (Below.refl _ _).drew⟩
  have KB : Hid (∀ w2, Below v.drew.heap.size v.drew w2 → w2.cell? ⟨q, 4, none⟩ = some (.int .u64 (ep : Int)) ∧ w2.cell? ⟨q, 5, none⟩ = some (.int .i64 (ln : Int)) ∧ Below v.heap.size v w2) := Lib.hid (fun w2 hb => by
    have k := (K1.out.call (Below.refl _ _).drew).call hb
    exact ⟨k.c4, k.c5, (Below.refl v.heap.size v).drew.trans hb⟩)
  go_region_held3 (fun w' => w'.cell? ⟨q, 4, none⟩ = some (.int .u64 (ep : Int)) ∧ w'.cell? ⟨q, 5, none⟩ = some (.int .i64 (ln : Int)) ∧ Below v.heap.size v w') (first | exact KS.out | assumption | fail) (first | (go_at_call 42; (with_reducible refine (MK.out _).mono ?_); rintro r1 w2 ⟨rfl, b2⟩; (have kn := KB.out w2 b2)) | fail)
  have K2 := Lib.hid (K1.out.call kn.2.2)
  have D2 := Lib.hid (D1.out.call kn.2.2)
  have M2 := Lib.hid (M0.out.trans (.of_below kn.2.2 D1.out.lt))
  clear KS KB MK K1 D1 M0 kn b2 u1 u2
  have c0 := K2.out.c0
  have c1 := K2.out.c1
  have c5 := K2.out.c5
  go_wp2_with fail
  go_still_tail 14, (by kernel_rfl)
  change wpList _ _ _ _ _ w2.drew
  have c0d : w2.drew.cell? ⟨q, 0, none⟩ = some (ptr b) := c0
  have K3 := Lib.hid (K2.out.call (Below.refl _ _).drew)
  have D3 := Lib.hid (D2.out.call (Below.refl _ _).drew)
  have M3 := Lib.hid (M2.out.trans (.of_below (Below.refl _ _).drew D2.out.lt))
  have WR : Hid (Calls Try.prog 43 #[ptr b, .int .i64 ((t.at_ : Int) + (ln : Int)), .string (mkB X)] w2.drew fun e w' => e = .returned (.int .i64 ((Dk.writeR s ((t.at_ + ln : Nat) : Int) X).2 : Int)) ∧ Rk B b (Dk.writeR s ((t.at_ + ln : Nat) : Int) X).1 w' ∧ Moved b w2.drew w') := Lib.hid (by
    have HS : (t.at_ : Int) + (ln : Int) = ((t.at_ + ln : Nat) : Int) := by push_cast; rfl
    have := Dk.write_rf B b s ((t.at_ + ln : Nat) : Int) (mkB X) w2.drew D3.out (by omega) hf
    rw [mkB_data] at this
    rw [HS]
    exact this)
  clear K2 D2 M2 c0 c1 c5 c0d w1
  generalize w2.drew = w3 at *
  go_wp2_with fail
  (with_reducible refine WR.out.mono ?_)
  rintro r2 w4 ⟨rfl, d4, m4⟩
  have K4 := Lib.hid (K3.out.disk D3.out m4)
  have M4 := Lib.hid (M3.out.trans m4)
  clear WR K3 M3 D3
  rw [hw]
  have WB := writeR_bounds (s := s) (a := ((t.at_ + ln : Nat) : Int)) (x := X)
  have FL := Lib.hid (Dk.flush_rf B b _ w4 d4 (by omega) (by omega))
  rw [hfl] at FL
  have c0 := K4.out.c0
  have n1 : (((0 : Nat) : Int) == 0) = true := by decide
  have n3 : (((18 : Nat) : Int) != 0) = true := by decide
  go_wp2_with fail
  (with_reducible refine FL.out.mono ?_)
  rintro r3 w5 ⟨rfl, d5, m5⟩
  have K5 := K4.out.disk d4 m5
  have FIN := Lib.hid (show Rk B b (Dk.flushR (Dk.writeR s ((t.at_ + ln : Nat) : Int) X).1).1 (w5.setCell ⟨q, 3, none⟩ (.bool false)) ∧ Rl q b ⟨t.at_, t.n, none⟩ (w5.setCell ⟨q, 3, none⟩ (.bool false)) ∧ Mv b q w (w5.setCell ⟨q, 3, none⟩ (.bool false)) from
    ⟨Rk_setOther d5 (K5.notOwn d5), ⟨ep, ln, K5.set3 false, fun _ _ hh => by cases hh⟩, (Mv.of_moved (M4.out.trans m5)).set (K5.ne d5) 3 _⟩)
  have c3 := K5.c3
  have f3 := K5.fz 3
  clear d4 m4 K4 M4 hw hfl FL d5 m5 K5 c0 WB
  go_wp2
  go_ret
  exact ⟨rfl, FIN.out⟩
set_option maxHeartbeats 2000000 in
theorem app_r3 {B b q : Nat} {t : WS} {s : DS} (e c : Nat) (p : List UInt8) (w : World) (h : Rl q b t w) (dk : Rk B b s w) (hs : t.st = some (e, c)) (hc : c < t.n) (hp : p.length ≤ 43) (he : e < 18446744073709551616) (hl : t.at_ + t.n ≤ s.sec.length) (ho : s.opn.length ≤ 800000) (hf : s.fail < 9223372036854775808) (hw : (Dk.writeR s ((t.at_ + c : Nat) : Int) (sec p e c)).2 = 0) (hfl : (Dk.flushR (Dk.writeR s ((t.at_ + c : Nat) : Int) (sec p e c)).1).2 = 0) :
    Calls Try.prog 25 #[ptr q, .string (mkB p)] w fun r w' => r = .returned (.int .i64 0) ∧ Rk B b (Dk.flushR (Dk.writeR s ((t.at_ + c : Nat) : Int) (sec p e c)).1).1 w' ∧ Rl q b ⟨t.at_, t.n, some (e, c + 1)⟩ w' ∧ Mv b q w w' := by
  have hl2 := dk.ok.len
  obtain ⟨ep, ln, h, hst⟩ := h
  obtain ⟨rfl, rfl⟩ := hst e c hs
  clear hst
  have MK := Lib.hid (fun w => make_rf_yes (mkB p) ep ln w (by rw [mkB_size]; exact hp) he (by omega))
  rw [mkB_data] at MK
  have hz := mkB_size p
  have zi : ((mkB p).size : Int) ≤ 43 := by omega
  have OPN : t.st.isSome = true := by rw [hs]; rfl
  rw [OPN] at h
  have c2 := h.c2
  have c3 := h.c3
  have c5 := h.c5
  have P0 := Lib.hid (And.intro h dk)
  have lt1 : (ln : Int) < (t.n : Int) := by omega
  have dl : decide ((t.n : Int) ≤ (ln : Int)) = false := by simp; omega
  have u1 : IntKind.u64.wrap (ln : Int) = (ln : Int) := IntWalk.u64_in _ (by omega)
  have u2 : (ln : Int) % 18446744073709551616 = (ln : Int) := by omega
  have w1 : IntKind.i64.wrap ((t.at_ : Int) + (ln : Int)) = (t.at_ : Int) + (ln : Int) := IntWalk.i64_in _ (by omega)
  have l1 : (ln : Int) ≤ 1024 := by omega
  have l0 : 0 ≤ (ln : Int) := by omega
  have KJ := Lib.hid (fun (j : Nat) => P0.out.1.call (below_drewN w j))
  have DJ := Lib.hid (fun (j : Nat) => P0.out.2.call (below_drewN w j))
  clear h dk OPN
  generalize hX : sec p ep ln = X at *
  have XL : X.length = 64 := by rw [← hX]; exact sec_length hp ep ln
  clear hX
  generalize mkB p = PP at *
  go_enter Try.func25, Try.ntmps25
  go_wp2_with fail
  go_quiet (fail)
  go_wp2_with fail
  have M0 := Lib.hid (show Moved b w (w.drewN nq) from .of_below (below_drewN w nq) P0.out.2.lt)
  have K1 := Lib.hid (KJ.out nq)
  have D1 := Lib.hid (DJ.out nq)
  clear KJ DJ P0 c2 c3 c5
  generalize w.drewN nq = v at *
  have KS : Hid (v.drew.cell? ⟨q, 4, none⟩ = some (.int .u64 (ep : Int)) ∧ v.drew.cell? ⟨q, 5, none⟩ = some (.int .i64 (ln : Int)) ∧ Below v.heap.size v v.drew) := Lib.hid ⟨K1.out.c4, K1.out.c5, (Below.refl _ _).drew⟩
  have KB : Hid (∀ w2, Below v.drew.heap.size v.drew w2 → w2.cell? ⟨q, 4, none⟩ = some (.int .u64 (ep : Int)) ∧ w2.cell? ⟨q, 5, none⟩ = some (.int .i64 (ln : Int)) ∧ Below v.heap.size v w2) := Lib.hid (fun w2 hb => by
    have k := (K1.out.call (Below.refl _ _).drew).call hb
    exact ⟨k.c4, k.c5, (Below.refl v.heap.size v).drew.trans hb⟩)
  go_region_held3 (fun w' => w'.cell? ⟨q, 4, none⟩ = some (.int .u64 (ep : Int)) ∧ w'.cell? ⟨q, 5, none⟩ = some (.int .i64 (ln : Int)) ∧ Below v.heap.size v w') (first | exact KS.out | assumption | fail) (first | (go_at_call 42; (with_reducible refine (MK.out _).mono ?_); rintro r1 w2 ⟨rfl, b2⟩; (have kn := KB.out w2 b2)) | fail)
  have K2 := Lib.hid (K1.out.call kn.2.2)
  have D2 := Lib.hid (D1.out.call kn.2.2)
  have M2 := Lib.hid (M0.out.trans (.of_below kn.2.2 D1.out.lt))
  clear KS KB MK K1 D1 M0 kn b2 u1 u2
  have c0 := K2.out.c0
  have c1 := K2.out.c1
  have c5 := K2.out.c5
  go_wp2_with fail
  go_still_tail 14, (by kernel_rfl)
  change wpList _ _ _ _ _ w2.drew
  have c0d : w2.drew.cell? ⟨q, 0, none⟩ = some (ptr b) := c0
  have K3 := Lib.hid (K2.out.call (Below.refl _ _).drew)
  have D3 := Lib.hid (D2.out.call (Below.refl _ _).drew)
  have M3 := Lib.hid (M2.out.trans (.of_below (Below.refl _ _).drew D2.out.lt))
  have WR : Hid (Calls Try.prog 43 #[ptr b, .int .i64 ((t.at_ : Int) + (ln : Int)), .string (mkB X)] w2.drew fun e w' => e = .returned (.int .i64 ((Dk.writeR s ((t.at_ + ln : Nat) : Int) X).2 : Int)) ∧ Rk B b (Dk.writeR s ((t.at_ + ln : Nat) : Int) X).1 w' ∧ Moved b w2.drew w') := Lib.hid (by
    have HS : (t.at_ : Int) + (ln : Int) = ((t.at_ + ln : Nat) : Int) := by push_cast; rfl
    have := Dk.write_rf B b s ((t.at_ + ln : Nat) : Int) (mkB X) w2.drew D3.out (by omega) hf
    rw [mkB_data] at this
    rw [HS]
    exact this)
  clear K2 D2 M2 c0 c1 c5 c0d w1
  generalize w2.drew = w3 at *
  go_wp2_with fail
  (with_reducible refine WR.out.mono ?_)
  rintro r2 w4 ⟨rfl, d4, m4⟩
  have K4 := Lib.hid (K3.out.disk D3.out m4)
  have M4 := Lib.hid (M3.out.trans m4)
  clear WR K3 M3 D3
  rw [hw]
  have WB := writeR_bounds (s := s) (a := ((t.at_ + ln : Nat) : Int)) (x := X)
  have FL := Lib.hid (Dk.flush_rf B b _ w4 d4 (by omega) (by omega))
  rw [hfl] at FL
  have c0 := K4.out.c0
  have n1 : (((0 : Nat) : Int) == 0) = true := by decide
  have n3 : (((0 : Nat) : Int) != 0) = false := by decide
  go_wp2_with fail
  (with_reducible refine FL.out.mono ?_)
  rintro r3 w5 ⟨rfl, d5, m5⟩
  have K5 := K4.out.disk d4 m5
  have EI : ((ln + 1 : Nat) : Int) = (ln : Int) + 1 := by omega
  have FIN := Lib.hid (show Rk B b (Dk.flushR (Dk.writeR s ((t.at_ + ln : Nat) : Int) X).1).1 (w5.setCell ⟨q, 5, none⟩ (.int .i64 ((ln + 1 : Nat) : Int))) ∧ Rl q b ⟨t.at_, t.n, some (ep, ln + 1)⟩ (w5.setCell ⟨q, 5, none⟩ (.int .i64 ((ln + 1 : Nat) : Int))) ∧ Mv b q w (w5.setCell ⟨q, 5, none⟩ (.int .i64 ((ln + 1 : Nat) : Int))) from
    ⟨Rk_setOther d5 (K5.notOwn d5), ⟨ep, ln + 1, K5.set5 (ln + 1), fun _ _ hh => by cases hh; exact ⟨rfl, rfl⟩⟩, (Mv.of_moved (M4.out.trans m5)).set (K5.ne d5) 5 _⟩)
  rw [EI] at FIN
  have c5 := K5.c5
  have f5 := K5.fz 5
  clear d4 m4 K4 M4 hw hfl FL d5 m5 K5 c0 WB EI
  go_wp2
  go_ret
  exact ⟨rfl, FIN.out⟩
end Go.Proofs.Ytcbemjckcmcelaa.Wl
