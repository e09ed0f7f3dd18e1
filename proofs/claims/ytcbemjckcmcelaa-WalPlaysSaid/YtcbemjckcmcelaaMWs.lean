/- Contracts of the document's Append, whatever comes, and Scan. Contract of the document's Scan. -/
import Derived.Test.YtcbemjckcmcelaaMWr
import Derived.Test.YtcbemjckcmcelaaMFd
namespace Go.Proofs.Ytcbemjckcmcelaa.Wl
open Go.ChangeShapes Go.WideShapes Go.ChangeAt Go.RowKit Go.Joins
open Dk (Dk Rk DS Own Moved ptr)
open Sl (Mv below_drewN rowOf rowOf_length strs_push strs_of strs_block strs_lt)
set_option maxRecDepth 100000
set_option linter.unusedVariables false
set_option linter.unusedSimpArgs false
theorem write_err {s : DS} {a : Nat} {x : List UInt8} (ha : a < s.sec.length) (hx : x.length = 64) : (Dk.writeR s (a : Int) x).2 = 0 ∨ (Dk.writeR s (a : Int) x).2 = 18 := by
  unfold Dk.writeR
  rw [if_pos ⟨⟨by omega, by omega⟩, hx⟩]
  split
  · exact .inr rfl
  · exact .inl rfl
theorem flush_err (s : DS) : (Dk.flushR s).2 = 0 ∨ (Dk.flushR s).2 = 18 := by
  unfold Dk.flushR
  split
  · exact .inr rfl
  · exact .inl rfl
theorem Rl.same {q b : Nat} {t : WS} {w : World} (h : Rl q b t w) : Rl q b ⟨t.at_, t.n, t.st⟩ w := h
theorem Mv.drewN (b q : Nat) (w : World) {B : Nat} {s : DS} (d : Rk B b s w) (n : Nat) : Mv b q w (w.drewN n) := .of_moved (.of_below (below_drewN w n) d.lt)
theorem append_r {B b q : Nat} {t : WS} {s : DS} (p : List UInt8) (w : World) (h : Rl q b t w) (dk : Rk B b s w) (ft : t.Fit s.sec.length) (hp : p.length ≤ 100000) (ho : s.opn.length ≤ 800000) (hf : s.fail < 9223372036854775808) :
    Calls Try.prog 25 #[ptr q, .string (mkB p)] w fun r w' => r = .returned (.int .i64 ((appR s t p).2.2 : Int)) ∧ Rk B b (appR s t p).1 w' ∧ Rl q b ⟨t.at_, t.n, (appR s t p).2.1⟩ w' ∧ Mv b q w w' := by
  have hl2 := dk.ok.len
  have hz := mkB_size p
  rcases Nat.lt_or_ge 43 p.length with hlt | hge
  · rw [appR_long hlt]
    have zi : (43 : Int) < ((mkB p).size : Int) := by omega
    have FIN := Lib.hid (And.intro dk (And.intro h.same (Mv.refl b q w)))
    clear h dk hz
    generalize mkB p = PP at *
    go_enter Try.func25, Try.ntmps25
    go_wp2
    go_ret
    exact ⟨rfl, FIN.out⟩
  have zi : ((mkB p).size : Int) ≤ 43 := by omega
  cases hs : t.st with
  | none =>
    rw [appR_shut hge hs]
    have FIN := Lib.hid (show Rk B b s w ∧ Rl q b ⟨t.at_, t.n, none⟩ w ∧ Mv b q w w from ⟨dk, by rw [← hs]; exact h.same, Mv.refl b q w⟩)
    obtain ⟨ep, ln, h, _⟩ := h
    rw [hs] at h
    have c3 : w.cell? ⟨q, 3, none⟩ = some (.bool false) := h.c3
    clear h dk hz hs
    generalize mkB p = PP at *
    go_enter Try.func25, Try.ntmps25
    go_wp2
    go_ret
    exact ⟨rfl, FIN.out⟩
  | some ec =>
    obtain ⟨e, c⟩ := ec
    obtain ⟨he1, he2, hc⟩ := ft.st e c hs
    by_cases hcn : c = t.n
    · rw [appR_full hge hs hcn]
      have FIN := Lib.hid (fun j => And.intro (dk.call (below_drewN w j)) (And.intro (show Rl q b ⟨t.at_, t.n, t.st⟩ (w.drewN j) by obtain ⟨ep, ln, h, h'⟩ := h; exact ⟨ep, ln, h.call (below_drewN w j), h'⟩) (Mv.drewN b q w dk j)))
      obtain ⟨ep, ln, h, hst⟩ := h
      obtain ⟨rfl, rfl⟩ := hst e c hs
      have OPN : t.st.isSome = true := by rw [hs]; rfl
      rw [OPN] at h
      have c2 := h.c2
      have c3 := h.c3
      have c5 := h.c5
      rw [← hcn] at c2
      have dd : decide ((ln : Int) ≤ (ln : Int)) = true := by simp
      clear h dk hz hs hst OPN hcn
      generalize mkB p = PP at *
      generalize (ln : Int) = LN at *
      go_enter Try.func25, Try.ntmps25
      go_wp2_with fail
      go_quiet (fail)
      go_wp2
      go_ret
      exact ⟨rfl, FIN.out _⟩
    · rw [appR_put hge hs hcn]
      have hlt : c < t.n := by omega
      have ha : t.at_ + c < s.sec.length := by have := ft.room; omega
      rcases write_err ha (sec_length hge e c) with hw | hw
      · rw [putW_yes hw]
        rcases flush_err (Dk.writeR s ((t.at_ + c : Nat) : Int) (sec p e c)).1 with hfl | hfl
        · rw [if_pos (by show (_ == 0) = true; rw [hfl]; rfl)]
          exact app_r3 e c p w h dk hs hlt hge he2 ft.room ho hf hw hfl
        · rw [if_neg (by show ¬ ((_ == 0) = true); rw [hfl]; simp)]
          exact app_r2 e c p w h dk hs hlt hge he2 ft.room ho hf hw hfl
      · rw [putW_no (by rw [hw]; omega), if_neg (by simp)]
        exact app_r1 e c p w h dk hs hlt hge he2 ft.room ho hf hw
/-- while the document's Scan goes on -/
structure Ny (B b q : Nat) (t : WS) (ep ln : Nat) (d : DS) (v : Value) (ds : List (List UInt8)) (w0 W : World) : Prop where
  dk : Rk B b d W
  rl : RlAt q b t.at_ t.n false ep ln W
  st : Strs w0.heap.size W v ds
  sep : ∀ g, v.ownBlock = some g → ¬ Own W b g
  mv : Moved b w0 W
  bl : b < w0.heap.size
section
variable {B b q ep ln : Nat} {t : WS} {d d' : DS} {v : Value} {ds : List (List UInt8)} {w0 W W' : World}
theorem Ny.call (h : Ny B b q t ep ln d v ds w0 W) (hb : Below W.heap.size W W') : Ny B b q t ep ln d v ds w0 W' :=
  ⟨h.dk.call hb, h.rl.call hb, h.st.call hb, fun g hg e => h.sep g hg (e.of_block (hb.block b h.dk.lt)), h.mv.trans (.of_below hb h.dk.lt), h.bl⟩
theorem Ny.drew (h : Ny B b q t ep ln d v ds w0 W) : Ny B b q t ep ln d v ds w0 W.drew := h.call (Below.refl _ _).drew
theorem Ny.disk (h : Ny B b q t ep ln d v ds w0 W) (k : Rk B b d' W') (m : Moved b W W') : Ny B b q t ep ln d' v ds w0 W' :=
  ⟨k, h.rl.disk h.dk m, strs_of h.st (fun g hg => m.block g (strs_lt h.st hg).2 (h.sep g hg)), fun g hg e => by
    rcases m.own g e with e | e
    · exact h.sep g hg e
    · have := (strs_lt h.st hg).2; omega, h.mv.trans m, h.bl⟩
theorem Ny.push (h : Ny B b q t ep ln d v ds w0 W) {v' : Value} {es : List (List UInt8)} {W' : World} (st : Strs w0.heap.size W' v' es) (hb : Below w0.heap.size W W') (hs : W.heap.size ≤ W'.heap.size)
    (k : ∀ k, k < W.heap.size → v.ownBlock ≠ some k → W'.heap[k]? = W.heap[k]?) {g cap n : Nat} (hv : v' = .slice (some ⟨g, 0, none⟩) n cap) (hg : v.ownBlock = some g ∨ W.heap.size ≤ g) : Ny B b q t ep ln d v' es w0 W' := by
  have kb : ∀ j, Own W b j → W'.heap[j]? = W.heap[j]? := fun j hj => k j (h.dk.ownLt hj).2 (fun e => h.sep j e hj)
  refine ⟨Rk_blocks h.dk kb, h.rl.of_block (k q h.rl.lt (fun e => ?_)), st, fun g' hg' e => ?_, ?_, h.bl⟩
  · obtain ⟨cur, hc⟩ := strs_block h.st e
    have l := h.rl
    unfold RlAt at l
    rw [hc] at l; cases l
  · have e' := e.of_block (kb b (.inl rfl))
    subst hv
    have : g = g' := by simpa [Value.ownBlock] using hg'
    subst this
    rcases hg with hg | hg
    · exact h.sep g hg e'
    · have := (h.dk.ownLt e').2; omega
  · refine ⟨hb.os.trans h.mv.os, hb.tape.trans h.mv.tape, hb.output.trans h.mv.output, Nat.le_trans h.mv.size hs, fun j hj hn => ?_, fun j hj => h.mv.own j (hj.of_block (hb.block b h.bl))⟩
    rw [hb.block j hj, h.mv.block j hj hn]
end
end Go.Proofs.Ytcbemjckcmcelaa.Wl
namespace Go.Proofs.Ytcbemjckcmcelaa.Wl
open Go.ChangeShapes Go.WideShapes Go.ChangeAt Go.RowKit Go.Joins
open Dk (Dk Rk DS Own Moved ptr)
open Sl (Mv below_drewN rowOf rowOf_length strs_push strs_of strs_block strs_lt)
set_option maxRecDepth 100000
set_option linter.unusedVariables false
set_option linter.unusedSimpArgs false
def SrRel (B b q : Nat) (t : WS) (ep ln : Nat) (s : DS) (e : Nat) (w0 : World) (g : Nat) (s6 s7 : Value) (wx : World) : Prop :=
  ∃ i, i + g = t.n ∧ s7 = .int .i64 (i : Int) ∧ Got s t.at_ t.n e i ∧ Ny B b q t ep ln (dsRead s i) s6 (paysL (rowOf s t.at_ t.n) i) w0 wx
/-- how the document's Scan ends -/
theorem scan_ends_r {B b q ep ln : Nat} {t : WS} {s : DS} {e : Nat} {w w0 W : World} {d : DS} {v : Value} {ds : List (List UInt8)} (hs : scanR s t.at_ t.n e = (d, ds, 0)) (h : Ny B b q t ep ln d v ds w0 W) (m : Mv b q w w0) (hw : w0.heap.size = w.heap.size) {k : Nat} (hk : k = ds.length) :
    Strs w.heap.size (((W.setCell ⟨q, 3, none⟩ (.bool true)).setCell ⟨q, 4, none⟩ (.int .u64 (e : Int))).setCell ⟨q, 5, none⟩ (.int .i64 (k : Int))) v (scanR s t.at_ t.n e).2.1 ∧ Rk B b (scanR s t.at_ t.n e).1 (((W.setCell ⟨q, 3, none⟩ (.bool true)).setCell ⟨q, 4, none⟩ (.int .u64 (e : Int))).setCell ⟨q, 5, none⟩ (.int .i64 (k : Int))) ∧ Rl q b ⟨t.at_, t.n, scanS s t.at_ t.n e⟩ (((W.setCell ⟨q, 3, none⟩ (.bool true)).setCell ⟨q, 4, none⟩ (.int .u64 (e : Int))).setCell ⟨q, 5, none⟩ (.int .i64 (k : Int))) ∧ Mv b q w (((W.setCell ⟨q, 3, none⟩ (.bool true)).setCell ⟨q, 4, none⟩ (.int .u64 (e : Int))).setCell ⟨q, 5, none⟩ (.int .i64 (k : Int))) := by
  subst hk
  have h1 := h.rl.set3 true
  have h2 := h1.set4 e
  have h3 := h2.set5 ds.length
  have d1 := Rk_setOther (o := 3) (v := .bool true) h.dk (h.rl.notOwn h.dk)
  have d2 := Rk_setOther (o := 4) (v := .int .u64 (e : Int)) d1 (h1.notOwn d1)
  have d3 := Rk_setOther (o := 5) (v := .int .i64 (ds.length : Int)) d2 (h2.notOwn d2)
  have hq := h.rl.ne h.dk
  have nq : ∀ g, v.ownBlock = some g → g ≠ q := fun g hg e' => by
    obtain ⟨cur, hc⟩ := strs_block h.st hg
    have l := h.rl
    unfold RlAt at l
    rw [← e', hc] at l; cases l
  have s1 : Strs w0.heap.size (((W.setCell ⟨q, 3, none⟩ (.bool true)).setCell ⟨q, 4, none⟩ (.int .u64 (e : Int))).setCell ⟨q, 5, none⟩ (.int .i64 (ds.length : Int))) v ds := strs_of h.st fun g hg => by
    rw [Below.heap_setCell _ ⟨q, 5, none⟩ _ g (nq g hg), Below.heap_setCell _ ⟨q, 4, none⟩ _ g (nq g hg), Below.heap_setCell _ ⟨q, 3, none⟩ _ g (nq g hg)]
  unfold scanS
  rw [hs]
  exact ⟨by rw [← hw]; exact s1, d3, ⟨e, ds.length, h3, fun e' c' hh => by cases hh; exact ⟨rfl, rfl⟩⟩, m.trans ((((Mv.of_moved h.mv).set hq 3 _).set hq 4 _).set hq 5 _)⟩
theorem scan_fails_r {B b q ep ln : Nat} {t : WS} {s : DS} {e : Nat} {w w0 W : World} {d : DS} {v : Value} {ds : List (List UInt8)} (hs : scanR s t.at_ t.n e = (d, [], 18)) (h : Ny B b q t ep ln d v ds w0 W) (m : Mv b q w w0) :
    Strs w.heap.size W (.slice none 0 0) (scanR s t.at_ t.n e).2.1 ∧ Rk B b (scanR s t.at_ t.n e).1 W ∧ Rl q b ⟨t.at_, t.n, scanS s t.at_ t.n e⟩ W ∧ Mv b q w W := by
  unfold scanS
  rw [hs]
  exact ⟨strs_nil _ _, h.dk, ⟨ep, ln, h.rl, fun e' c' hh => by cases hh⟩, m.trans (.of_moved h.mv)⟩
set_option maxHeartbeats 4000000 in
theorem scan_r {B b q : Nat} {t : WS} {s : DS} (e : Nat) (w : World) (h : Rl q b t w) (dk : Rk B b s w) (hn : 1 ≤ t.n) (hl : t.at_ + t.n ≤ s.sec.length) (he : 1 ≤ e) (hr : s.reads ≤ 900000000) (ho : s.opn.length ≤ 900000) (hf : s.fail < 9223372036854775808) :
    Calls Try.prog 15 #[ptr q, .int .u64 (e : Int)] w fun r w' => ∃ v, r = .returned (.tuple #[v, .int .i64 ((scanR s t.at_ t.n e).2.2 : Int)]) ∧ Strs w.heap.size w' v (scanR s t.at_ t.n e).2.1 ∧ Rk B b (scanR s t.at_ t.n e).1 w' ∧ Rl q b ⟨t.at_, t.n, scanS s t.at_ t.n e⟩ w' ∧ Mv b q w w' := by
  have hl2 := dk.ok.len
  obtain ⟨ep, ln, h, _⟩ := h
  have SZ : Hid ((w.setCell ⟨q, 3, none⟩ (.bool false)).heap.size = w.heap.size) := Lib.hid (by simp [World.setCell])
  have MV0 : Hid (Mv b q w (w.setCell ⟨q, 3, none⟩ (.bool false))) := Lib.hid ((Mv.refl b q w).set (h.ne dk) 3 _)
  have N0 : Hid (Ny B b q t ep ln (dsRead s 0) (.slice none 0 0) [] (w.setCell ⟨q, 3, none⟩ (.bool false)) (w.setCell ⟨q, 3, none⟩ (.bool false))) := Lib.hid
    ⟨Rk_setOther dk (h.notOwn dk), h.set3 false, strs_nil _ _, fun g hg => by simp [Value.ownBlock] at hg, Moved.refl _ _, by rw [SZ.out]; exact dk.lt⟩
  have c3 := h.c3
  have f3 := h.fz 3
  clear h dk
  have ne : ((e : Int) == 0) = false := by simp; omega
  go_enter Try.func15, Try.ntmps15
  go_wp2_with fail
  generalize (w.setCell ⟨q, 3, none⟩ (.bool false)) = w0 at *
  clear c3 f3
  go_loopg [6, 7] t.n (SrRel B b q t ep ln s e w0)
  case atStart => exact ⟨0, by simp, rfl, got_zero _ _ _ _, by rw [paysL_zero]; exact N0.out⟩
  case round =>
    clear N0
    obtain ⟨i, hi', rfl, hg', hx⟩ := hrel
    have rl : (rowOf s t.at_ t.n).length = t.n := rowOf_length _ _ _
    have PL : (paysL (rowOf s t.at_ t.n) i).length = i := paysL_length (by rw [rl]; exact hg'.1)
    obtain ⟨va, vc, hv⟩ := strs_form hx.st
    rw [PL] at hv
    subst hv
    have NY := Lib.hid hx
    clear hx
    rcases Nat.lt_or_ge i t.n with hlt | hge
    · have il : (i : Int) < (t.n : Int) := by omega
      have w1 : IntKind.i64.wrap ((t.at_ : Int) + (i : Int)) = (t.at_ : Int) + (i : Int) := IntWalk.i64_in _ (by omega)
      have HS : (t.at_ : Int) + (i : Int) = ((t.at_ + i : Nat) : Int) := by push_cast; rfl
      have s1 : (t.at_ : Int) + (i : Int) ≤ 1024 := by omega
      have s0 : 0 ≤ (t.at_ : Int) + (i : Int) := by omega
      have u1 : IntKind.u64.wrap (i : Int) = (i : Int) := IntWalk.u64_in _ (by omega)
      have u2 : (i : Int) % 18446744073709551616 = (i : Int) := by omega
      have i1 : (i : Int) ≤ 1024 := by omega
      have i0 : 0 ≤ (i : Int) := by omega
      have RD := Lib.hid (Dk.read_rf B b (dsRead s i) ((t.at_ + i : Nat) : Int) wr.drew NY.out.drew.dk (by show s.reads + i ≤ 1000000000; omega) (by show s.opn.length ≤ 1000000; omega) (by show s.fail - i < 9223372036854775808; omega))
      by_cases hio : s.fail - i = 1
      · have EQ := hg'.io hlt hio
        have ER := dsRead_io (s := s) (i := i) (a := t.at_ + i) (by omega) hio
        rw [ER, ← HS] at RD
        clear HS
        generalize hD1 : DS.mk s.sec s.opn 0 (s.reads + i + 1) = D1 at *
        have ne18 : (((18 : Nat) : Int) != 0) = true := by decide
        have c2 := NY.out.rl.c2
        have KS : Hid (wr.drew.cell? ⟨q, 0, none⟩ = some (ptr b) ∧ wr.drew.cell? ⟨q, 1, none⟩ = some (.int .i64 (t.at_ : Int))) := Lib.hid ⟨NY.out.rl.c0, NY.out.rl.c1⟩
        have KD : Hid (∀ w3, Rk B b D1 w3 → Moved b wr.drew w3 → w3.cell? ⟨q, 0, none⟩ = some (ptr b) ∧ w3.cell? ⟨q, 1, none⟩ = some (.int .i64 (t.at_ : Int))) := Lib.hid (fun w3 k3 m3 => by
          have n3 := NY.out.drew.disk k3 m3
          exact ⟨n3.rl.c0, n3.rl.c1⟩)
        generalize (t.at_ : Int) = A at *
        go_wp2_with fail
        go_region_held3 (fun w' => w'.cell? ⟨q, 0, none⟩ = some (ptr b) ∧ w'.cell? ⟨q, 1, none⟩ = some (.int .i64 A)) (first | exact KS.out | assumption | fail) (first | (go_at_call 35; (with_reducible refine RD.out.mono ?_); rintro r3 w3 ⟨rfl, k3, m3⟩; (have kn := KD.out w3 k3 m3)) | fail)
        have N3 := Lib.hid (NY.out.drew.disk k3 m3)
        clear KS KD RD NY kn k3 m3 c2 ER
        have FIN := Lib.hid (scan_fails_r EQ N3.out MV0.out)
        have ERR : Hid (((scanR s t.at_ t.n e).2.2 : Int) = 18) := Lib.hid (by rw [EQ]; rfl)
        clear N3 MV0 hg' EQ PL hD1
        go_wp2
        try simp only [Exit.noGoto]
        go_ret2
        exact ⟨_, by rw [ERR.out]; rfl, FIN.out⟩
      · have ER := dsRead_next (s := s) (i := i) (a := t.at_ + i) (by omega) hio
        rw [ER, ← HS] at RD
        clear HS
        have WH := Lib.hid (fun w => whole_rf (mkB (Dk.newestOf s (t.at_ + i))) e i w)
        have FR := Lib.hid (fun w => read_rf4 (mkB (Dk.newestOf s (t.at_ + i))) w)
        rw [mkB_data] at WH FR
        have ne0 : (((0 : Nat) : Int) != 0) = false := by decide
        cases hw : whole (Dk.newestOf s (t.at_ + i)) e i with
        | false =>
          have EQ := hg'.none hlt hw hio
          rw [hw] at WH
          clear FR hw
          generalize hD1 : dsRead s (i + 1) = D1 at *
          generalize Dk.newestOf s (t.at_ + i) = X at *
          have c2 := NY.out.rl.c2
          have KS : Hid (wr.drew.cell? ⟨q, 0, none⟩ = some (ptr b) ∧ wr.drew.cell? ⟨q, 1, none⟩ = some (.int .i64 (t.at_ : Int))) := Lib.hid ⟨NY.out.rl.c0, NY.out.rl.c1⟩
          have KD : Hid (∀ w3, Rk B b D1 w3 → Moved b wr.drew w3 → w3.cell? ⟨q, 0, none⟩ = some (ptr b) ∧ w3.cell? ⟨q, 1, none⟩ = some (.int .i64 (t.at_ : Int))) := Lib.hid (fun w3 k3 m3 => by
            have n3 := NY.out.drew.disk k3 m3
            exact ⟨n3.rl.c0, n3.rl.c1⟩)
          generalize (t.at_ : Int) = A at *
          go_wp2_with fail
          go_region_held3 (fun w' => w'.cell? ⟨q, 0, none⟩ = some (ptr b) ∧ w'.cell? ⟨q, 1, none⟩ = some (.int .i64 A)) (first | exact KS.out | assumption | fail) (first | (go_at_call 35; (with_reducible refine RD.out.mono ?_); rintro r3 w3 ⟨rfl, k3, m3⟩; (have kn := KD.out w3 k3 m3)) | fail)
          have N3 := Lib.hid (NY.out.drew.disk k3 m3)
          clear KS KD RD NY kn k3 m3 c2 ER
          go_wp2_with fail
          (with_reducible refine (WH.out _).mono ?_)
          rintro r4 w4 ⟨rfl, b4⟩
          have n9 := N3.out.call b4
          clear N3 WH b4 hD1
          have c3 := n9.rl.c3
          have c4 := n9.rl.c4
          have c5 := n9.rl.c5
          have f3 := n9.rl.fz 3
          have f4 := n9.rl.fz 4
          have f5 := n9.rl.fz 5
          have FIN := Lib.hid (scan_ends_r EQ n9 MV0.out SZ.out PL.symm)
          have ERR : Hid (((scanR s t.at_ t.n e).2.2 : Int) = 0) := Lib.hid (by rw [EQ]; rfl)
          clear n9 MV0 EQ hg' PL 
          go_wp2
          try simp only [Exit.noGoto]
          go_ret2
          exact ⟨_, by rw [ERR.out]; rfl, FIN.out⟩
        | true =>
          have G1 := Lib.hid (hg'.succ hlt hw hio)
          have PS := Lib.hid (paysL_row (s := s) (a := t.at_) hlt)
          have HR := Sl.whole_rdc hw
          rw [HR] at FR
          rw [hw] at WH
          clear hw HR hg'
          generalize hD1 : dsRead s (i + 1) = D1 at *
          generalize Dk.newestOf s (t.at_ + i) = X at *
          generalize payOf X = P at *
          have EV : cellOf (some (P, e, i)) = .agg #[.string (mkB P), .int .u64 (e : Int), .int .u64 (i : Int)] := rfl
          have EB : (some (P, e, i) : Option Cl).isSome = true := rfl
          rw [EV, EB] at FR
          clear EV EB
          have c2 := NY.out.rl.c2
          have KS : Hid (wr.drew.cell? ⟨q, 0, none⟩ = some (ptr b) ∧ wr.drew.cell? ⟨q, 1, none⟩ = some (.int .i64 (t.at_ : Int))) := Lib.hid ⟨NY.out.rl.c0, NY.out.rl.c1⟩
          have KD : Hid (∀ w3, Rk B b D1 w3 → Moved b wr.drew w3 → w3.cell? ⟨q, 0, none⟩ = some (ptr b) ∧ w3.cell? ⟨q, 1, none⟩ = some (.int .i64 (t.at_ : Int))) := Lib.hid (fun w3 k3 m3 => by
            have n3 := NY.out.drew.disk k3 m3
            exact ⟨n3.rl.c0, n3.rl.c1⟩)
          generalize (t.at_ : Int) = A at *
          go_wp2_with fail
          go_region_held3 (fun w' => w'.cell? ⟨q, 0, none⟩ = some (ptr b) ∧ w'.cell? ⟨q, 1, none⟩ = some (.int .i64 A)) (first | exact KS.out | assumption | fail) (first | (go_at_call 35; (with_reducible refine RD.out.mono ?_); rintro r3 w3 ⟨rfl, k3, m3⟩; (have kn := KD.out w3 k3 m3)) | fail)
          have N3 := Lib.hid (NY.out.drew.disk k3 m3)
          clear KS KD RD NY kn k3 m3 c2 ER
          go_wp2_with fail
          (with_reducible refine (WH.out _).mono ?_)
          rintro r4 w4 ⟨rfl, b4⟩
          have N4 := Lib.hid (N3.out.call b4)
          clear N3 WH b4
          go_wp2_with fail
          (with_reducible refine (FR.out _).mono ?_)
          rintro r5 w5 ⟨rfl, b5⟩
          have N5 := Lib.hid ((N4.out.call b5).call ((Below.refl _ _).alloc (Nat.le_refl _) (.cells #[.string (mkB P), .int .u64 (e : Int), .int .u64 (i : Int)] 80)))
          have cP : (w5.alloc (.cells #[.string (mkB P), .int .u64 (e : Int), .int .u64 (i : Int)] 80)).cell? ⟨w5.heap.size, 0, none⟩ = some (.string (mkB P)) := by rw [Lib.cell_of_heap (heap_alloc_new _ _)]; rfl
          clear FR N4 b5
          go_upto_region 14 with (fail)
          generalize (w5.alloc (.cells #[.string (mkB P), .int .u64 (e : Int), .int .u64 (i : Int)] 80)) = W5 at *
          generalize w5.heap.size = pc at *
          obtain ⟨v', w', hap, s4, b6, z4, -, n4, g4, cap4, hv4, hg4⟩ := strs_push w0.heap.size _ _ _ P N5.out.st N5.out.mv.size (by rw [PL]; omega)
          rw [← PS.out] at s4
          have n6 := N5.out.push s4 b6 z4 n4 hv4 hg4
          rw [← hD1] at n6
          have N := Lib.hid (show SrRel B b q t ep ln s e w0 (gk - 1) v' (.int .i64 ((i + 1 : Nat) : Int)) w' from ⟨i + 1, by omega, rfl, G1.out, n6⟩)
          have hg0 : 0 < gk := by omega
          clear n6 s4 b6 z4 n4 hv4 hg4 N5 PS G1 PL MV0 hD1
          go_wp2_with (at_builtin; refine Lib.wpList_append_run _ rfl _ _ _ _ rfl _ _ rfl rfl _ _ hap ?_)
          go_roundg (gk - 1)
          case measure => omega
          case rel => exact N.out
    · obtain rfl : i = t.n := by omega
      have EQ := hg'.full
      have n9 := NY.out
      have c2 := NY.out.rl.c2
      clear NY
      have c3 := n9.rl.c3
      have c4 := n9.rl.c4
      have c5 := n9.rl.c5
      have f3 := n9.rl.fz 3
      have f4 := n9.rl.fz 4
      have f5 := n9.rl.fz 5
      have FIN := Lib.hid (scan_ends_r EQ n9 MV0.out SZ.out PL.symm)
      have ERR : Hid (((scanR s t.at_ t.n e).2.2 : Int) = 0) := Lib.hid (by rw [EQ]; rfl)
      clear n9 MV0 EQ hg' PL 
      go_wp2
      try simp only [Exit.noGoto]
      go_ret2
      exact ⟨_, by rw [ERR.out]; rfl, FIN.out⟩
theorem scan_r0 {q : Nat} (w : World) :
    Calls Try.prog 15 #[ptr q, .int .u64 0] w fun r w' => r = .returned (.tuple #[.slice none 0 0, .int .i64 1]) ∧ w' = w := by
  go_enter Try.func15, Try.ntmps15
  go_wp2
  go_ret2
  exact ⟨rfl, rfl⟩
end Go.Proofs.Ytcbemjckcmcelaa.Wl
