/- What a try makes of a journal: an Append, or a Snapshot, with a fault, and what a crash or a flush leaves then. -/
import Derived.Test.YtmccoejliaakoaaJnT
import Derived.Test.YtmccoejliaakoaaJnH
namespace Go.Proofs.Ytmccoejliaakoaa.Jn
open Go.ChangeShapes Go.WideShapes Go.ChangeAt Go.RowKit Go.Joins
open Dk (Dk DS Own Moved ptr)
open Sl (Mv SS)
open Wl (WS)
set_option maxRecDepth 100000
set_option linter.unusedVariables false
set_option linter.unusedSimpArgs false
/-- what is there then: of an error err -/
def Okay (err : Nat) (sn : Bool) (dat : List UInt8) (ops : List (List UInt8)) (datN : List UInt8) (opsN : List (List UInt8)) (dat2 : List UInt8) (ops2 : List (List UInt8)) : Prop :=
  (err = 0 ∧ dat2 = datN ∧ ops2 = opsN) ∨ (err = 18 ∧ dat2 = datN ∧ ops2 = opsN) ∨ (err = 18 ∧ dat2 = dat ∧ ops2 = ops) ∨ (err = 22 ∧ dat2 = dat ∧ ops2 = ops ∧ sn = false ∧ ops.length = 6)
/-- whatever a crash, or a flush, makes of the open writes -/
structure Oc (M err : Nat) (sn : Bool) (dat : List UInt8) (ops : List (List UInt8)) (datN : List UInt8) (opsN : List (List UInt8)) (s : DS) : Prop where
  any : ∀ fs, ∃ nx N E dat2 ops2, N ≤ M ∧ JI (Dk.crashedS s fs) 2 6 nx N E dat2 ops2 ∧ Okay err sn dat ops datN opsN dat2 ops2
  opn : s.opn.length ≤ 64
section
variable {M err : Nat} {sn : Bool} {dat datN : List UInt8} {ops opsN : List (List UInt8)} {s : DS}
theorem Oc.len (h : Oc M err sn dat ops datN opsN s) : s.sec.length = 2 * 2 + 6 := by
  obtain ⟨nx, N, E, dat2, ops2, -, hj, -⟩ := h.any []
  have := hj.jb.len
  unfold Dk.crashedS at this
  rw [Dk.laid_length] at this
  exact this
theorem Oc.mono {M' : Nat} (h : Oc M err sn dat ops datN opsN s) (hM : M ≤ M') : Oc M' err sn dat ops datN opsN s :=
  ⟨fun fs => by obtain ⟨nx, N, E, dat2, ops2, h1, h2⟩ := h.any fs; exact ⟨nx, N, E, dat2, ops2, Nat.le_trans h1 hM, h2⟩, h.opn⟩
theorem Oc.with (h : Oc M err sn dat ops datN opsN s) (f r : Nat) : Oc M err sn dat ops datN opsN ⟨s.sec, s.opn, f, r⟩ := ⟨h.any, h.opn⟩
end
theorem app_f (B b j l q nx N E f r : Nat) (d p : List UInt8) (ops S : List (List UInt8)) (w0 w : World) (h : JL B b j l q 2 6 nx N E d ops S f r w0 w) (hN : N < 256) (hp : p.length ≤ 43) (hf : f < 9223372036854775808) :
    Calls Try.prog 14 #[ptr j, .string (mkB p)] w fun x w' => ∃ (err : Nat) (s' : DS), x = .returned (.int .i64 (err : Int)) ∧ Dk B b s' w' ∧ Below B w0 w' ∧ Kp w w' ∧ s'.reads = r ∧ Oc N err false d ops d (ops ++ [p]) s' := by
  have AP := append_any B b j l q _ _ E _ p w0 w h.jn (h.fit hN) hp (by show 0 ≤ 800000; omega) hf
  have few := h.ji.few
  rcases Nat.lt_or_ge ops.length 6 with hl | hl
  · obtain ⟨a1, a2, a3, a4⟩ := h.ji.app hN hp hl f r hf
    refine AP.mono ?_
    rintro x w' ⟨hx, k1, k2⟩
    refine ⟨_, _, hx, k1.dk, k1.bel, k2, a4, fun fs => ?_, Nat.le_trans a3 (by omega)⟩
    rcases a1 fs with hh | ⟨h1, hh⟩
    · refine ⟨nx, N, E, d, ops ++ [p], Nat.le_refl _, hh, ?_⟩
      rcases a2 with a2 | a2
      · exact .inl ⟨a2, rfl, rfl⟩
      · exact .inr (.inl ⟨a2, rfl, rfl⟩)
    · exact ⟨nx, N, E, d, ops, Nat.le_refl _, hh, .inr (.inr (.inl ⟨h1, rfl, rfl⟩))⟩
  · have h6 : ops.length = 6 := by omega
    rw [Wl.appR_full hp rfl h6] at AP
    refine AP.mono ?_
    rintro x w' ⟨hx, k1, k2⟩
    refine ⟨22, ⟨S, [], f, r⟩, hx, k1.dk, k1.bel, k2, rfl, fun fs => ⟨nx, N, E, d, ops, Nat.le_refl _, h.ji, .inr (.inr (.inr ⟨rfl, rfl, rfl, rfl, h6⟩))⟩, by show 0 ≤ 64; omega⟩
theorem snap_f (B b j l q nx N E f r : Nat) (d data : List UInt8) (ops S : List (List UInt8)) (w0 w : World) (h : JL B b j l q 2 6 nx N E d ops S f r w0 w) (hN : N + 1 < 256) (hd : data.length ≤ 86) (hf : f < 9223372036854775808) :
    Calls Try.prog 13 #[ptr j, .string (mkB data)] w fun x w' => ∃ (err : Nat) (s' : DS), x = .returned (.int .i64 (err : Int)) ∧ Dk B b s' w' ∧ Below B w0 w' ∧ Kp w w' ∧ s'.reads = r ∧ Oc (N + 1) err true d ops data [] s' := by
  obtain ⟨-, c2, c3⟩ := h.ji.jb.snap hN (data := data) (by omega) f r
  have cj := fun fs => h.ji.snap hN (data := data) (by omega) f r fs
  cases hP : Sl.putR ⟨S, [], f, r⟩ (nx * 2) 2 data (N + 1) with
  | mk s' ok =>
    rw [hP] at c2 c3 cj
    dsimp only at c2 c3 cj
    cases ok with
    | true =>
      have SN := snapshot_ok B b j l q ⟨2 * 2, 6, some (E, ops.length)⟩ ⟨0, 2, true, N, nx⟩ E ⟨S, [], f, r⟩ s' data w0 w h.jn (by show 1 ≤ 2; omega) (by show 2 ≤ 64; omega) h.ji.jb.sl.x1 (by show 0 + nx * 2 + 2 ≤ S.length; have := h.sz; omega) rfl (by show N < _; omega) (by omega) (by show data.length ≤ 43 * 2; omega) (by show 0 ≤ 800000; omega) hf (by show 1 ≤ 6; omega) (by show Sl.putR _ (0 + nx * 2) 2 data (N + 1) = _; rw [Nat.zero_add]; exact hP)
      refine SN.mono ?_
      rintro x w' ⟨hx, k1, k2⟩
      refine ⟨0, s', hx, k1.dk, k1.bel, k2, c3, fun fs => ?_, c2⟩
      rcases cj fs with hh | ⟨h1, hh⟩
      · exact ⟨1 - nx, N + 1, N + 1, data, [], Nat.le_refl _, hh, .inl ⟨rfl, rfl, rfl⟩⟩
      · cases h1
    | false =>
      have SN := snapshot_io B b j l q ⟨2 * 2, 6, some (E, ops.length)⟩ ⟨0, 2, true, N, nx⟩ E ⟨S, [], f, r⟩ s' data w0 w h.jn (by show 1 ≤ 2; omega) (by show 2 ≤ 64; omega) h.ji.jb.sl.x1 (by show 0 + nx * 2 + 2 ≤ S.length; have := h.sz; omega) rfl (by show N < _; omega) (by omega) (by show data.length ≤ 43 * 2; omega) (by show 0 ≤ 800000; omega) hf (by show Sl.putR _ (0 + nx * 2) 2 data (N + 1) = _; rw [Nat.zero_add]; exact hP)
      refine SN.mono ?_
      rintro x w' ⟨hx, k1, k2⟩
      refine ⟨18, s', hx, k1.dk, k1.bel, k2, c3, fun fs => ?_, c2⟩
      rcases cj fs with hh | ⟨h1, hh⟩
      · exact ⟨1 - nx, N + 1, N + 1, data, [], Nat.le_refl _, hh, .inr (.inl ⟨rfl, rfl, rfl⟩)⟩
      · exact ⟨nx, N + 1, E, d, ops, Nat.le_refl _, hh, .inr (.inr (.inl ⟨rfl, rfl, rfl⟩))⟩
/-- a disk behind a try, once it is told that nothing fails: opened -/
structure Rs (B b M err : Nat) (sn : Bool) (dat : List UInt8) (ops : List (List UInt8)) (datN : List UInt8) (opsN : List (List UInt8)) (dat2 : List UInt8) (ops2 S2 : List (List UInt8)) (nx N E r : Nat) (s : DS) (w0 w : World) : Prop where
  dk : Dk B b s w
  bel : Below B w0 w
  fl : Dk.flushR s = (⟨S2, [], 0, r⟩, 0)
  opn : s.opn.length ≤ 64
  fail : s.fail = 0
  len : s.sec.length = 2 * 2 + 6
  ji : JI S2 2 6 nx N E dat2 ops2
  le : N ≤ M
  ok : Okay err sn dat ops datN opsN dat2 ops2
theorem rs_flush {B b M err : Nat} {sn : Bool} {dat datN : List UInt8} {ops opsN : List (List UInt8)} {s : DS} {w0 w : World} (h : Oc M err sn dat ops datN opsN s) (d : Dk B b ⟨s.sec, s.opn, 0, s.reads⟩ w) (bel : Below B w0 w) :
    ∃ dat2 ops2 S2 nx N E, Rs B b M err sn dat ops datN opsN dat2 ops2 S2 nx N E s.reads ⟨s.sec, s.opn, 0, s.reads⟩ w0 w := by
  obtain ⟨nx, N, E, dat2, ops2, h1, h2, h3⟩ := h.any (List.replicate s.opn.length (1, 0))
  refine ⟨dat2, ops2, _, nx, N, E, d, bel, ?_, h.opn, rfl, h.len, h2, h1, h3⟩
  unfold Dk.flushR
  rw [if_neg (by show ¬ 0 = 1; omega)]
  have e : Dk.flushedS ⟨s.sec, s.opn, 0, s.reads⟩ = Dk.crashedS s (List.replicate s.opn.length (1, 0)) := flush_crash ⟨s.sec, s.opn, 0, s.reads⟩
  rw [e]
  rfl
theorem rs_crash {B b M err : Nat} {sn : Bool} {dat datN : List UInt8} {ops opsN : List (List UInt8)} {s : DS} {w0 w : World} (fs : List (Int × Int)) (h : Oc M err sn dat ops datN opsN s) (d : Dk B b (Dk.crashR ⟨s.sec, s.opn, 0, s.reads⟩ fs).1 w) (bel : Below B w0 w) :
    ∃ dat2 ops2 S2 nx N E, Rs B b M err sn dat ops datN opsN dat2 ops2 S2 nx N E 0 (Dk.crashR ⟨s.sec, s.opn, 0, s.reads⟩ fs).1 w0 w := by
  obtain ⟨nx, N, E, dat2, ops2, h1, h2, h3⟩ := h.any fs
  refine ⟨dat2, ops2, _, nx, N, E, d, bel, flush_calm _ 0, by show 0 ≤ 64; omega, rfl, ?_, h2, h1, h3⟩
  exact h2.jb.len
theorem Rs.open {B b M err nx N E r : Nat} {sn : Bool} {dat datN dat2 : List UInt8} {ops opsN ops2 S2 : List (List UInt8)} {s : DS} {w0 w : World} (h : Rs B b M err sn dat ops datN opsN dat2 ops2 S2 nx N E r s w0 w) (hM : M < 256) (hr : r ≤ 1000) :
    Calls Try.prog 16 #[ptr b, .int .i64 2] w fun x w' => ∃ j l q v N', x = .returned (.tuple #[ptr j, .agg #[.string (mkB dat2), v], .int .i64 0]) ∧ Strs B w' v ops2 ∧ N' ≤ M ∧ JL B b j l q 2 6 nx N' E dat2 ops2 S2 0 (r + 2 * 2 + Wl.readsN ops2.length 6) w0 w' ∧ Kp w w' := by
  have hle := h.le
  have OP : Calls Try.prog 16 #[ptr b, .int .i64 2] w _ := open_t B b 2 6 nx N E 0 r dat2 ops2 S2 s w0 w h.dk h.bel h.ji (by omega) (by have := h.opn; omega) (by rw [h.fail]; omega) h.fl h.len (by omega) (by omega) (.inl rfl)
  refine OP.mono ?_
  rintro x w' ⟨j, l, q, v, N', hx, st, hN, hj, hk⟩
  have e : (0 - 2 * 2 - Wl.readsN ops2.length 6) = 0 := by omega
  rw [e] at hj
  exact ⟨j, l, q, v, N', hx, Sl.strs_mono st h.dk.le, by omega, hj, hk⟩
theorem JL.open {B b j l q nx N E r : Nat} {d : List UInt8} {ops S : List (List UInt8)} {w0 w : World} (h : JL B b j l q 2 6 nx N E d ops S 0 r w0 w) (hN : N < 256) (hr : r ≤ 1000) :
    Calls Try.prog 16 #[ptr b, .int .i64 2] w fun x w' => ∃ j l q v N', x = .returned (.tuple #[ptr j, .agg #[.string (mkB d), v], .int .i64 0]) ∧ Strs B w' v ops ∧ N' ≤ N ∧ JL B b j l q 2 6 nx N' E d ops S 0 (r + 2 * 2 + Wl.readsN ops.length 6) w0 w' ∧ Kp w w' := by
  have OP : Calls Try.prog 16 #[ptr b, .int .i64 2] w _ := open_c B b 2 6 nx N E r d ops S w0 w h.jn.dk h.jn.bel h.ji hN (by omega)
  refine OP.mono ?_
  rintro x w' ⟨j, l, q, v, N', hx, st, hN', hj, hk⟩
  exact ⟨j, l, q, v, N', hx, Sl.strs_mono st h.jn.dk.le, hN', hj, hk⟩
/-- the law's own blocks: a try, what was had, what is to be had next -/
structure Me (B ob p7 p10 : Nat) (sn cr tw : Bool) (T : List UInt8) (fl : Int) (fv : Value) (dat : List UInt8) (ops : List (List UInt8)) (v : Value) (datN : List UInt8) (opsN : List (List UInt8)) (vN : Value) (wx : World) : Prop where
  ob : ObAt wx ob sn cr tw (mkB T) fl fv
  had : FdAt wx p7 (mkB dat) v
  hst : Strs B wx v ops
  nxt : FdAt wx p10 (mkB datN) vN
  nst : Strs B wx vN opsN
theorem Me.kp {B ob p7 p10 : Nat} {sn cr tw : Bool} {T : List UInt8} {fl : Int} {fv : Value} {dat datN : List UInt8} {ops opsN : List (List UInt8)} {v vN : Value} {wx w' : World} (h : Me B ob p7 p10 sn cr tw T fl fv dat ops v datN opsN vN wx) (k : Kp wx w') : Me B ob p7 p10 sn cr tw T fl fv dat ops v datN opsN vN w' :=
  ⟨h.ob.kp k, h.had.kp k, k.strs h.hst, h.nxt.kp k, k.strs h.nst⟩
/-- a store into one of two finds -/
theorem FdAt.other {w : World} {p c : Nat} {t : ByteArray} {v : Value} (h : FdAt w p t v) (hc : p ≠ c) (o : Nat) (x : Value) : FdAt (w.setCell ⟨c, o, none⟩ x) p t v := h.of_block (Below.heap_setCell w ⟨c, o, none⟩ x p hc)
theorem ObAt.other {w : World} {p c o : Nat} {s cr t : Bool} {x : ByteArray} {n : Int} {v y : Value} {tt : ByteArray} {u : Value} (h : ObAt w p s cr t x n v) (hc : FdAt w c tt u) : ObAt (w.setCell ⟨c, o, none⟩ y) p s cr t x n v := by
  have ne : p ≠ c := fun e => by
    have h1 := h; have h2 := hc
    unfold ObAt at h1; unfold FdAt at h2
    rw [e, h2] at h1
    simp only [Option.some.injEq, Obj.cells.injEq] at h1
    exact absurd h1.2.1 (by decide)
  unfold ObAt at *
  rw [Below.heap_setCell w ⟨c, o, none⟩ y p ne]; exact h
theorem strs_fd {A : Nat} {W : World} {p o : Nat} {t : ByteArray} {u y : Value} {v : Value} {ds : List (List UInt8)} (st : Strs A W v ds) (f : FdAt W p t u) : Strs A (W.setCell ⟨p, o, none⟩ y) v ds :=
  Sl.strs_of st fun g hg => by
    obtain ⟨cur, hc⟩ := Sl.strs_block st hg
    have ne : g ≠ p := fun e => by
      have f' := f
      unfold FdAt at f'
      rw [← e, hc] at f'
      simp only [Option.some.injEq, Obj.cells.injEq] at f'
      exact absurd f'.2.1 (by decide)
    exact Below.heap_setCell _ _ _ _ ne
/-- next is turned, both its cells -/
theorem Me.set2 {B ob p7 p10 : Nat} {sn cr tw : Bool} {T : List UInt8} {fl : Int} {fv : Value} {dat datN : List UInt8} {ops opsN : List (List UInt8)} {v vN : Value} {wx : World} (h : Me B ob p7 p10 sn cr tw T fl fv dat ops v datN opsN vN wx) (hne : p7 ≠ p10) (p : List UInt8) : Me B ob p7 p10 sn cr tw T fl fv dat ops v p [] (.slice none 0 0) ((wx.setCell ⟨p10, 0, none⟩ (.string (mkB p))).setCell ⟨p10, 1, none⟩ (.slice none 0 0)) := by
  have n0 := h.nxt.set0 (mkB p)
  exact ⟨(h.ob.other h.nxt).other n0, (h.had.other hne 0 _).other hne 1 _, strs_fd (strs_fd h.hst h.nxt) n0, n0.set1 _, strs_nil _ _⟩
/-- next is turned, its second cell -/
theorem Me.set1 {B ob p7 p10 : Nat} {sn cr tw : Bool} {T : List UInt8} {fl : Int} {fv : Value} {dat datN : List UInt8} {ops opsN : List (List UInt8)} {v vN : Value} {wx : World} (h : Me B ob p7 p10 sn cr tw T fl fv dat ops v datN opsN vN wx) (hne : p7 ≠ p10) {u : Value} {es : List (List UInt8)} (st : Strs B wx u es) : Me B ob p7 p10 sn cr tw T fl fv dat ops v datN es u (wx.setCell ⟨p10, 1, none⟩ u) :=
  ⟨h.ob.other h.nxt, h.had.other hne 1 _, strs_fd h.hst h.nxt, h.nxt.set1 _, strs_fd st h.nxt⟩
end Go.Proofs.Ytmccoejliaakoaa.Jn
