/- Contract of package wal's Scan. -/
import Derived.Test.YtcbemjckcmcelaaWlD
import Derived.Test.YtcbemjckcmcelaaGnT
namespace Go.Proofs.Ytcbemjckcmcelaa.Wl
open Go.ChangeShapes Go.WideShapes Go.ChangeAt Go.RowKit Go.Joins
open Dk (Dk DS Own Moved ptr)
open Sl (Mv below_drewN rowOf rowOf_length strs_push strs_disk strs_of strs_block strs_lt)
set_option maxRecDepth 100000
set_option linter.unusedVariables false
set_option linter.unusedSimpArgs false
section
variable {B b q p e i : Nat} {t : WS} {d d' : DS} {w0 W W' : World}
/-- all that is no row of texts stays -/
theorem Nx.rest (h : Nx B b q p t e i d w0 W) (k : ∀ (k : Nat) (cs : Array Value) (T : TypeId) (fz : Nat × Nat), W.heap[k]? = some (Obj.cells cs T fz) → T ≠ 9 → W'.heap[k]? = W.heap[k]?) (hb : Below w0.heap.size W W') (hs : W.heap.size ≤ W'.heap.size) : Nx B b q p t e i d w0 W' := by
  obtain ⟨g, v, dk⟩ := h.dk
  refine ⟨⟨g, v, dk.of_blocks fun j hj => ?_⟩, h.wl.of_block (k _ _ _ _ h.wl (by decide)), (k _ _ _ _ h.bq (by decide)).trans h.bq, (k _ _ _ _ h.be (by decide)).trans h.be, (k _ _ _ _ h.bi (by decide)).trans h.bi, ?_, h.pl, h.bl⟩
  · rcases dk.owns.1 hj with rfl | rfl | hj
    · exact k _ _ _ _ dk.blk (by decide)
    · exact k _ _ _ _ dk.row (by decide)
    · obtain ⟨cur, hc⟩ := dk.ownBlock hj; exact k _ _ _ _ hc (by decide)
  · refine ⟨hb.os.trans h.mv.os, hb.tape.trans h.mv.tape, hb.output.trans h.mv.output, Nat.le_trans h.mv.size hs, fun j hj hn => ?_, fun j hj => h.mv.own j (hj.of_block (hb.block b h.bl))⟩
    rw [hb.block j hj, h.mv.block j hj hn]
end
/-- while records are read -/
def ScRel (B b q p : Nat) (t : WS) (s : DS) (e : Nat) (w0 : World) (g : Nat) (s7 : Value) (wx : World) : Prop :=
  ∃ i, i + g = t.n ∧ Got s t.at_ t.n e i ∧ Nx B b q p t e i (dsRead s i) w0 wx ∧ Strs w0.heap.size wx s7 (paysL (rowOf s t.at_ t.n) i)
theorem dsRead_ok (s : DS) (i : Nat) : (dsRead s i).sec = s.sec ∧ (dsRead s i).opn = s.opn := ⟨rfl, rfl⟩
/-- how the log stands behind a Scan -/
theorem Nx.shut {B b q p e i : Nat} {t : WS} {d : DS} {w0 W : World} (h : Nx B b q p t e i d w0 W) {v : Value} {x : Option (Nat × Nat)} (hv : v = stV x) :
    Wl q b ⟨t.at_, t.n, x⟩ (W.setCell ⟨q, 3, none⟩ v) ∧ Dk B b d (W.setCell ⟨q, 3, none⟩ v) ∧ Mv b q w0 (W.setCell ⟨q, 3, none⟩ v) :=
  ⟨h.wl.setSt hv, Sl.Dk_setOther h.dk (h.wl.notOwn h.dk), (Mv.of_moved h.mv).set (h.wl.ne h.dk) 3 _⟩
theorem strs_log {B q b : Nat} {t : WS} {W : World} {v : Value} {ds : List (List UInt8)} (h : Strs B W v ds) (l : Wl q b t W) (o : Nat) (x : Value) : Strs B (W.setCell ⟨q, o, none⟩ x) v ds :=
  strs_of h fun g hg => Below.heap_setCell W ⟨q, o, none⟩ x g (fun e => by
    obtain ⟨cur, hc⟩ := strs_block h hg
    have e' : g = q := e
    have l' := l
    unfold Wl at l'
    rw [← e', hc] at l'; cases l')
theorem strs_form {B : Nat} {w : World} {v : Value} {ds : List (List UInt8)} (h : Strs B w v ds) : ∃ a cap, v = .slice a ds.length cap := by
  rcases h.2 with ⟨rfl, h0⟩ | ⟨g, cap, cur, rfl, _⟩
  · exact ⟨none, 0, by rw [h0]⟩
  · exact ⟨_, _, rfl⟩
/-- how a Scan ends -/
theorem scan_ends {B b q p : Nat} {t : WS} {s : DS} {e i : Nat} {w w0 W : World} {d : DS} {v : Value} {ds : List (List UInt8)} (hs : scanR s t.at_ t.n e = (d, ds, 0)) (h : Nx B b q p ⟨t.at_, t.n, none⟩ e i d w0 W) (st : Strs w0.heap.size W v ds) (m : Mv b q w w0) (hw : w0.heap.size = w.heap.size) {x : Value} (hx : x = stV (some (e, ds.length))) :
    Strs w.heap.size (W.setCell ⟨q, 3, none⟩ x) v (scanR s t.at_ t.n e).2.1 ∧ Dk B b (scanR s t.at_ t.n e).1 (W.setCell ⟨q, 3, none⟩ x) ∧ Wl q b ⟨t.at_, t.n, scanS s t.at_ t.n e⟩ (W.setCell ⟨q, 3, none⟩ x) ∧ Mv b q w (W.setCell ⟨q, 3, none⟩ x) := by
  obtain ⟨h1, h2, h3⟩ := h.shut hx
  unfold scanS
  rw [hs]
  exact ⟨by rw [← hw]; exact strs_log st h.wl 3 x, h2, h1, m.trans h3⟩
theorem scan_fails {B b q p : Nat} {t : WS} {s : DS} {e i : Nat} {w w0 W : World} {d : DS} (hs : scanR s t.at_ t.n e = (d, [], 18)) (h : Nx B b q p ⟨t.at_, t.n, none⟩ e i d w0 W) (m : Mv b q w w0) :
    Strs w.heap.size W (.slice none 0 0) (scanR s t.at_ t.n e).2.1 ∧ Dk B b (scanR s t.at_ t.n e).1 W ∧ Wl q b ⟨t.at_, t.n, scanS s t.at_ t.n e⟩ W ∧ Mv b q w W := by
  unfold scanS
  rw [hs]
  exact ⟨strs_nil _ _, h.dk, h.wl, m.trans (.of_moved h.mv)⟩
set_option maxHeartbeats 2000000 in
theorem scan_any {B b q : Nat} {t : WS} {s : DS} (e : Nat) (w : World) (h : Wl q b t w) (dk : Dk B b s w) (hn : 1 ≤ t.n) (hl : t.at_ + t.n ≤ s.sec.length) (he : 1 ≤ e) (hr : s.reads ≤ 900000000) (ho : s.opn.length ≤ 900000) (hf : s.fail < 9223372036854775808) :
    Calls Try.prog 14 #[ptr q, .int .u64 (e : Int)] w fun r w' => ∃ v, r = .returned (.tuple #[v, .int .i64 ((scanR s t.at_ t.n e).2.2 : Int)]) ∧ Strs w.heap.size w' v (scanR s t.at_ t.n e).2.1 ∧ Dk B b (scanR s t.at_ t.n e).1 w' ∧ Wl q b ⟨t.at_, t.n, scanS s t.at_ t.n e⟩ w' ∧ Mv b q w w' := by
  have NO := Lib.hid (none_any w h hn)
  have hl2 := dk.ok.len
  have W1 := Lib.hid (show Wl q b ⟨t.at_, t.n, none⟩ (w.setCell ⟨q, 3, none⟩ (.iface 64 (.agg #[]))) ∧ Dk B b s (w.setCell ⟨q, 3, none⟩ (.iface 64 (.agg #[]))) ∧ Mv b q w (w.setCell ⟨q, 3, none⟩ (.iface 64 (.agg #[]))) from
    ⟨h.setSt rfl, Sl.Dk_setOther dk (h.notOwn dk), (Mv.refl b q w).set (h.ne dk) 3 _⟩)
  have SZ : Hid ((w.setCell ⟨q, 3, none⟩ (.iface 64 (.agg #[]))).heap.size = w.heap.size) := Lib.hid (by simp [World.setCell])
  have c3 := h.c3
  have f3 := h.fz 3
  clear h dk
  have ne : ((e : Int) == 0) = false := by simp; omega
  go_enter Try.func14, Try.ntmps14
  go_wp2_with fail
  go_step3
  go_wp2_with fail
  (with_reducible refine NO.out.mono ?_)
  rintro r1 w1 ⟨rfl, rfl⟩
  clear NO
  go_wp2_with fail
  generalize (w1.setCell ⟨q, 3, none⟩ (.iface 64 (.agg #[]))) = w0 at *
  have RE := Lib.hid (reader_any e w0 W1.out.1 W1.out.2.1)
  clear c3 f3
  (with_reducible refine RE.out.mono ?_)
  rintro r2 w2 ⟨rfl, n2⟩
  have N2 := Lib.hid n2
  clear RE n2
  generalize hp : w0.heap.size = p at *
  have HP := Lib.hid hp
  clear hp
  go_wp2_with fail
  go_step3
  go_wp2_with fail
  go_loopg [7] t.n (ScRel B b q p ⟨t.at_, t.n, none⟩ s e w0)
  case atStart => exact ⟨0, by simp, got_zero _ _ _ _, N2.out, by rw [paysL_zero]; exact strs_nil _ _⟩
  case round =>
    clear N2
    obtain ⟨i, hi, hg, hx, hst⟩ := hrel
    have hi' : i + gk = t.n := hi
    have hg' : Got s t.at_ t.n e i := hg
    have rl : (rowOf s t.at_ t.n).length = t.n := rowOf_length _ _ _
    clear hi hg
    have PL : (paysL (rowOf s t.at_ t.n) i).length = i := paysL_length (by rw [rl]; exact hg'.1)
    obtain ⟨va, vc, hv⟩ := strs_form hst
    rw [PL] at hv
    subst hv
    have ST := Lib.hid hst
    have NX := Lib.hid hx
    clear hst hx
    rcases Nat.lt_or_ge i t.n with hlt | hge
    · by_cases hio : s.fail - i = 1
      · have EQ := hg'.io hlt hio
        have ER := dsRead_io (s := s) (i := i) (a := t.at_ + i) (by omega) hio
        have NE := Lib.hid (next_io wr NX.out hlt (by show t.at_ + t.n ≤ 1024; omega) (by show t.at_ + t.n ≤ s.sec.length; exact hl) (by show s.reads + i ≤ 1000000000; omega) (by show s.opn.length ≤ 1000000; omega) hio)
        rw [ER] at NE
        clear ER ST NX
        go_wp2_with fail
        (with_reducible refine NE.out.mono ?_)
        rintro r3 w3 ⟨rfl, n3, x3⟩
        have FIN := Lib.hid (scan_fails EQ n3 W1.out.2.2)
        have ERR : Hid (((scanR s t.at_ t.n e).2.2 : Int) = 18) := Lib.hid (by rw [EQ]; rfl)
        clear NE n3 W1 hg' EQ PL x3
        go_wp2
        try simp only [Exit.noGoto]
        go_ret2
        exact ⟨_, by rw [ERR.out]; rfl, FIN.out⟩
      · have ER := dsRead_next (s := s) (i := i) (a := t.at_ + i) (by omega) hio
        cases hw : whole (Dk.newestOf s (t.at_ + i)) e i with
        | false =>
          have EQ := hg'.none hlt hw hio
          have NE := Lib.hid (next_no wr NX.out hlt (by show t.at_ + t.n ≤ 1024; omega) (by show t.at_ + t.n ≤ s.sec.length; exact hl) (by show s.reads + i ≤ 1000000000; omega) (by show s.opn.length ≤ 1000000; omega) hio (by show s.fail - i < 9223372036854775808; omega) hw)
          rw [ER] at NE
          clear ER
          go_wp2_with fail
          (with_reducible refine NE.out.mono ?_)
          rintro r3 w3 ⟨rfl, n3, x3⟩
          have st3 : Strs w0.heap.size w3 (.slice va i vc) (paysL (rowOf s t.at_ t.n) i) := strs_of ST.out fun g hg => by obtain ⟨cur, hc⟩ := strs_block ST.out hg; exact x3 g cur _ hc
          have FIN := Lib.hid (fun (x : Value) (hx : x = stV (some (e, i))) => scan_ends (x := x) EQ n3 st3 W1.out.2.2 (HP.out.trans SZ.out) (by rw [PL]; exact hx))
          have ERR : Hid (((scanR s t.at_ t.n e).2.2 : Int) = 0) := Lib.hid (by rw [EQ]; rfl)
          have c3 := n3.wl.c3
          have f3 := n3.wl.fz 3
          clear n3 st3 W1 NE hg' EQ PL ST NX hw x3
          go_wp2
          try simp only [Exit.noGoto]
          go_ret2
          exact ⟨_, by rw [ERR.out]; rfl, FIN.out _ rfl⟩
        | true =>
          have G1 := Lib.hid (hg'.succ hlt hw hio)
          have NE := Lib.hid (next_yes wr NX.out hlt (by show t.at_ + t.n ≤ 1024; omega) (by show t.at_ + t.n ≤ s.sec.length; exact hl) (by show s.reads + i ≤ 1000000000; omega) (by show s.opn.length ≤ 1000000; omega) hio (by show s.fail - i < 9223372036854775808; omega) hw)
          rw [ER] at NE
          have PS := Lib.hid (paysL_row (s := s) (a := t.at_) hlt)
          have NW : Dk.newestOf (dsRead s i) (t.at_ + i) = Dk.newestOf s (t.at_ + i) := rfl
          dsimp only at NE
          rw [NW] at NE
          clear ER NW hw hg'
          generalize payOf (Dk.newestOf s (t.at_ + i)) = X at *
          go_wp2_with fail
          (with_reducible refine NE.out.mono ?_)
          rintro r3 w3 ⟨rfl, n3, x3⟩
          have st3 : Strs w0.heap.size w3 (.slice va i vc) (paysL (rowOf s t.at_ t.n) i) := strs_of ST.out fun g hg => by obtain ⟨cur, hc⟩ := strs_block ST.out hg; exact x3 g cur _ hc
          obtain ⟨v', w', hap, s4, b4, z4, k4, -, -⟩ := strs_push w0.heap.size w3 _ _ X st3 n3.mv.size (by rw [PL]; omega)
          rw [← PS.out] at s4
          have N := Lib.hid (show ScRel B b q p ⟨t.at_, t.n, none⟩ s e w0 (gk - 1) v' w' from ⟨i + 1, by show i + 1 + (gk - 1) = t.n; omega, G1.out, n3.rest k4 b4 z4, s4⟩)
          have hg0 : 0 < gk := by omega
          clear n3 st3 s4 b4 z4 k4 NE ST NX x3 PS G1 PL W1
          go_wp2_with (at_builtin; refine Lib.wpList_append_run _ rfl _ _ _ _ rfl _ _ rfl rfl _ _ hap ?_)
          go_roundg (gk - 1)
          case measure => omega
          case rel => exact N.out
    · obtain rfl : i = t.n := by omega
      have EQ := hg'.full
      have NE := Lib.hid (next_end wr NX.out)
      go_wp2_with fail
      (with_reducible refine NE.out.mono ?_)
      rintro r3 w3 ⟨rfl, n3, x3⟩
      have st3 : Strs w0.heap.size w3 (.slice va t.n vc) (paysL (rowOf s t.at_ t.n) t.n) := strs_of ST.out fun g hg => by obtain ⟨cur, hc⟩ := strs_block ST.out hg; exact x3 g cur _ hc
      have FIN := Lib.hid (fun (x : Value) (hx : x = stV (some (e, t.n))) => scan_ends (x := x) EQ n3 st3 W1.out.2.2 (HP.out.trans SZ.out) (by rw [PL]; exact hx))
      have ERR : Hid (((scanR s t.at_ t.n e).2.2 : Int) = 0) := Lib.hid (by rw [EQ]; rfl)
      have c3 := n3.wl.c3
      have f3 := n3.wl.fz 3
      clear n3 st3 W1 NE hg' EQ PL ST NX x3
      go_wp2
      try simp only [Exit.noGoto]
      go_ret2
      exact ⟨_, by rw [ERR.out]; rfl, FIN.out _ rfl⟩
end Go.Proofs.Ytcbemjckcmcelaa.Wl
