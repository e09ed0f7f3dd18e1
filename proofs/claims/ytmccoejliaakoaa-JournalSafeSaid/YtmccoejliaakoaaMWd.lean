/- A log as the statements use it: on a disk without open writes on which nothing fails, unless it is told. Rows of texts beside a log: one text more; two rows of the same texts; what a Scan tells of any row. -/
import Derived.Test.YtmccoejliaakoaaMWb
import Derived.Test.YtmccoejliaakoaaWlF
import Derived.Test.YtmccoejliaakoaaWlG
import Derived.Test.YtmccoejliaakoaaMDb
import Derived.Test.YtmccoejliaakoaaMFd
namespace Go.Proofs.Ytmccoejliaakoaa.Wl
open Go.ChangeShapes Go.WideShapes Go.ChangeAt Go.RowKit Go.Joins
open Dk (Dk DS Own Moved ptr)
open Sl (Mv below_drewN rowOf rowOf_length strs_of strs_block)
set_option maxRecDepth 100000
set_option linter.unusedVariables false
set_option linter.unusedSimpArgs false
/-- a disk and its log, since world w0 -/
structure Lg (B b q : Nat) (t : WS) (s : DS) (w0 w : World) : Prop where
  dk : Dk B b s w
  wl : Wl q b t w
  bel : Below B w0 w
  hq : B ≤ q
section
variable {B b q : Nat} {t t' : WS} {s s' : DS} {w0 w w' : World}
theorem Lg.call (h : Lg B b q t s w0 w) (hb : Below w.heap.size w w') : Lg B b q t s w0 w' := ⟨h.dk.call hb, h.wl.call hb, h.bel.trans (hb.mono h.dk.le), h.hq⟩
theorem Lg.go (h : Lg B b q t s w0 w) (k : Dk B b s' w') (l : Wl q b t' w') (m : Mv b q w w') : Lg B b q t' s' w0 w' := ⟨k, l, h.bel.trans (m.belowD h.dk h.hq), h.hq⟩
theorem Lg.disk (h : Lg B b q t s w0 w) (k : Dk B b s' w') (m : Moved b w w') : Lg B b q t s' w0 w' := h.go k (h.wl.disk h.dk m) (.of_moved m)
theorem Lg.sec (h : Lg B b q t s w0 w) : ∀ y ∈ s.sec, y.length = 64 := h.dk.ok.sec
/-- a row of texts stays over a log's call -/
theorem Lg.strs (h : Lg B b q t s w0 w) (m : Mv b q w w') {A : Nat} {v : Value} {ds : List (List UInt8)} (st : Strs A w v ds) : Strs A w' v ds :=
  strs_of st fun g hg => by
    obtain ⟨cur, hc⟩ := strs_block st hg
    refine m.block g (Dk.lt_of_heap hc) (fun e => ?_) (fun e => ?_)
    · obtain ⟨g', v', dk⟩ := h.dk
      exact dk.keepT hc (by decide) (by decide) (by decide) e
    · have l := h.wl
      unfold Wl at l
      rw [← e, hc] at l; cases l
end
theorem lg_new {B b : Nat} {s : DS} {w0 w w' : World} {t : WS} (dk : Dk B b s w) (bel : Below B w0 w) (wl : Wl w.heap.size b t w') (hb : Below w.heap.size w w') : Lg B b w.heap.size t s w0 w' :=
  ⟨dk.call hb, wl, bel.trans (hb.mono dk.le), dk.le⟩
theorem start_t (B b q : Nat) (t : WS) (s : DS) (e : Nat) (w0 w : World) (h : Lg B b q t s w0 w) (hn : 1 ≤ t.n) (he : 1 ≤ e) :
    Calls Try.prog 44 #[ptr q, .int .u64 (e : Int)] w fun r w' => r = .returned (.int .i64 0) ∧ Lg B b q ⟨t.at_, t.n, some (e, 0)⟩ s w0 w' ∧ Mv b q w w' :=
  (start_any e w h.wl h.dk hn he).mono fun r w' ⟨hr, l, k, m⟩ => ⟨hr, h.go k l m, m⟩
theorem app_t (B b q : Nat) (a n e c : Nat) (S : List (List UInt8)) (r : Nat) (p : List UInt8) (w0 w : World) (h : Lg B b q ⟨a, n, some (e, c)⟩ ⟨S, [], 0, r⟩ w0 w) (hn : 1 ≤ n) (hr : a + n ≤ S.length) (he : 1 ≤ e) (he2 : e < 18446744073709551616) (hc : c < n) (hp : p.length ≤ 43) :
    Calls Try.prog 30 #[ptr q, .string (mkB p)] w fun x w' => x = .returned (.int .i64 0) ∧ Lg B b q ⟨a, n, some (e, c + 1)⟩ ⟨S.set (a + c) (sec p e c), [], 0, r⟩ w0 w' ∧ Mv b q w w' := by
  have := append_any p w h.wl h.dk ⟨hn, hr, fun e' c' hh => by cases hh; exact ⟨he, he2, by show c ≤ n; omega⟩⟩ (by omega) (by show 0 ≤ 800000; omega) (by show 0 < 9223372036854775808; omega)
  rw [appR_put hp rfl (by show c ≠ n; omega)] at this
  have e1 : putW ⟨S, [], 0, r⟩ (a + c) (sec p e c) = (⟨S.set (a + c) (sec p e c), [], 0, r⟩, true) := putW_calm (by omega) (sec_length hp e c) h.sec (by omega) (by omega)
  dsimp only at this
  rw [e1, if_pos rfl] at this
  exact this.mono fun x w' ⟨hx, k, l, m⟩ => ⟨hx, h.go k l m, m⟩
theorem app_full (B b q : Nat) (t : WS) (s : DS) (e c : Nat) (p : List UInt8) (w0 w : World) (h : Lg B b q t s w0 w) (ft : t.Fit s.sec.length) (ht : t.st = some (e, c)) (hc : c = t.n) (hp : p.length ≤ 43) (ho : s.opn.length ≤ 800000) (hf : s.fail < 9223372036854775808) :
    Calls Try.prog 30 #[ptr q, .string (mkB p)] w fun x w' => x = .returned (.int .i64 22) ∧ Lg B b q t s w0 w' ∧ Mv b q w w' := by
  have := append_any p w h.wl h.dk ft (by omega) ho hf
  rw [appR_full hp ht hc] at this
  exact this.mono fun x w' ⟨hx, k, l, m⟩ => ⟨hx, h.go k l m, m⟩
theorem scan_t (B b q : Nat) (a n : Nat) (st : Option (Nat × Nat)) (S : List (List UInt8)) (r e : Nat) (rs : List (List UInt8)) (w0 w : World) (h : Lg B b q ⟨a, n, st⟩ ⟨S, [], 0, r⟩ w0 w) (hn : 1 ≤ n) (hr : a + n ≤ S.length) (he : 1 ≤ e) (he2 : e < 18446744073709551616) (hi : Inv (rw_ S a n) e rs) (hrd : r ≤ 900000000) :
    Calls Try.prog 50 #[ptr q, .int .u64 (e : Int)] w fun x w' => ∃ v, x = .returned (.tuple #[v, .int .i64 0]) ∧ Strs w.heap.size w' v rs ∧ Lg B b q ⟨a, n, some (e, rs.length)⟩ ⟨S, [], 0, r + readsN rs.length n⟩ w0 w' ∧ Mv b q w w' := by
  have hl := h.dk.ok.len
  have hl' : S.length ≤ 1024 := hl
  have := scan_any e w h.wl h.dk hn hr he hrd (by show 0 ≤ 900000; omega) (by show 0 < 9223372036854775808; omega)
  dsimp only at this
  have e1 : scanR ⟨S, [], 0, r⟩ a n e = (⟨S, [], 0, r + readsN rs.length n⟩, rs, 0) := by
    unfold scanR
    rw [row_plain hr, hi.lead he2 (by rw [rw_length hr]; omega), hi.recs he2 (by rw [rw_length hr]; omega), if_neg (by show ¬ (1 ≤ 0 ∧ _); omega)]
    simp
  have e2 : scanS ⟨S, [], 0, r⟩ a n e = some (e, rs.length) := by unfold scanS; rw [e1]; rfl
  rw [e1, e2] at this
  exact this.mono fun x w' ⟨v, hx, st', k, l, m⟩ => ⟨v, hx, st', h.go k l m, m⟩
theorem scan_nil (e : Int) (w : World) :
    Calls Try.prog 50 #[.pointer none, .int .u64 e] w fun r w' => r = .returned (.tuple #[.slice none 0 0, .int .i64 1]) ∧ w' = w := by
  have NO := Lib.hid (none_nil w)
  go_enter Try.func50, Try.ntmps50
  go_wp2_with fail
  go_step3
  go_wp2_with fail
  (with_reducible refine NO.out.mono ?_)
  rintro e w1 ⟨rfl, rfl⟩
  clear NO
  go_wp2
  try simp only [Exit.noGoto]
  go_ret2
  exact ⟨rfl, rfl⟩
theorem scan_zero {q b : Nat} {t : WS} (w : World) (h : Wl q b t w) (hn : 1 ≤ t.n) :
    Calls Try.prog 50 #[ptr q, .int .u64 0] w fun r w' => r = .returned (.tuple #[.slice none 0 0, .int .i64 1]) ∧ w' = w := by
  have NO := Lib.hid (none_any w h hn)
  clear h
  go_enter Try.func50, Try.ntmps50
  go_wp2_with fail
  go_step3
  go_wp2_with fail
  (with_reducible refine NO.out.mono ?_)
  rintro e w1 ⟨rfl, rfl⟩
  clear NO
  go_wp2
  try simp only [Exit.noGoto]
  go_ret2
  exact ⟨rfl, rfl⟩
theorem short_any (l : List UInt8) (n : Nat) (w : World) (hn : n ≤ 1000) :
    Calls Try.prog 12 #[.string (mkB l), .int .i64 (n : Int)] w fun e w' => e = .returned (.string (mkB (l.take n))) ∧ w' = w := by
  have hz := mkB_size l
  have hx := ext_head (mkB l) n
  rw [mkB_data] at hx
  rcases Nat.lt_or_ge n l.length with h | h
  · have h1 : (n : Int) < ((mkB l).size : Int) := by omega
    have h2 : n < (mkB l).size := by omega
    generalize mkB (l.take n) = X at *
    generalize mkB l = Y at *
    go_enter Try.func12, Try.ntmps12
    go_wp2
    go_ret
    exact ⟨by rw [← hx]; rfl, rfl⟩
  · have h1 : ((mkB l).size : Int) ≤ (n : Int) := by omega
    rw [List.take_of_length_le h]
    generalize mkB l = Y at *
    go_enter Try.func12, Try.ntmps12
    go_wp2
    go_ret
    exact ⟨rfl, rfl⟩
theorem disk_t (n : Nat) (w0 w : World) (hb : Below w0.heap.size w0 w) (h0 : 1 ≤ n) (h1 : n ≤ 1024) :
    Calls Try.prog 9 #[.int .i64 (n : Int)] w fun e w' => e = .returned (ptr (w.heap.size + 1)) ∧ Dk w0.heap.size (w.heap.size + 1) ⟨List.replicate n (List.replicate 64 0), [], 0, 0⟩ w' ∧ Below w0.heap.size w0 w' :=
  (Dk.new_yes n w h0 h1).mono fun e w' ⟨he, k, b⟩ => ⟨he, k.mono hb.size, hb.trans (b.mono hb.size)⟩
theorem log_t (B b : Nat) (s : DS) (a n : Nat) (w0 w : World) (h : Dk B b s w) (hb : Below B w0 w) (h1 : 1 ≤ n) (h3 : a + n ≤ s.sec.length) :
    Calls Try.prog 37 #[ptr b, .int .i64 (a : Int), .int .i64 (n : Int)] w fun e w' => e = .returned (ptr w.heap.size) ∧ Lg B b w.heap.size ⟨a, n, none⟩ s w0 w' ∧ Below w.heap.size w w' :=
  (new_yes B b s a n w h h1 h3).mono fun e w' ⟨he, l, b'⟩ => ⟨he, lg_new h hb l b', b'⟩
end Go.Proofs.Ytmccoejliaakoaa.Wl
namespace Go.Proofs.Ytmccoejliaakoaa.Wl
open Go.ChangeShapes Go.WideShapes Go.ChangeAt Go.RowKit Go.Joins
open Dk (Dk DS Own Moved ptr)
open Sl (Mv below_drewN rowOf rowOf_length strs_of strs_block)
set_option maxRecDepth 100000
set_option linter.unusedVariables false
set_option linter.unusedSimpArgs false
/-- all that is no row of texts stays -/
theorem Lg.rest {B b q : Nat} {t : WS} {s : DS} {w0 W W' : World} (h : Lg B b q t s w0 W) (k : ∀ (k : Nat) (cs : Array Value) (T : TypeId) (fz : Nat × Nat), W.heap[k]? = some (Obj.cells cs T fz) → T ≠ 9 → W'.heap[k]? = W.heap[k]?) (hb : Below B W W') : Lg B b q t s w0 W' := by
  obtain ⟨g, v, dk⟩ := h.dk
  refine ⟨⟨g, v, dk.of_blocks fun j hj => ?_⟩, h.wl.of_block (k _ _ _ _ h.wl (by decide)), h.bel.trans hb, h.hq⟩
  rcases dk.owns.1 hj with rfl | rfl | hj
  · exact k _ _ _ _ dk.blk (by decide)
  · exact k _ _ _ _ dk.row (by decide)
  · obtain ⟨cur, hc⟩ := dk.ownBlock hj; exact k _ _ _ _ hc (by decide)
theorem scan_g (B b q : Nat) (a n : Nat) (st : Option (Nat × Nat)) (S : List (List UInt8)) (r e : Nat) (w0 w : World) (h : Lg B b q ⟨a, n, st⟩ ⟨S, [], 0, r⟩ w0 w) (hn : 1 ≤ n) (hr : a + n ≤ S.length) (he : 1 ≤ e) (he2 : e < 18446744073709551616) (hrd : r ≤ 900000000) :
    Calls Try.prog 50 #[ptr q, .int .u64 (e : Int)] w fun x w' => ∃ v, x = .returned (.tuple #[v, .int .i64 0]) ∧ Strs w.heap.size w' v (recs (rw_ S a n) e) ∧ Lg B b q ⟨a, n, some (e, (recs (rw_ S a n) e).length)⟩ ⟨S, [], 0, r + readsN (lead (rw_ S a n) e) n⟩ w0 w' ∧ Mv b q w w' := by
  have := scan_any e w h.wl h.dk hn hr he hrd (by show 0 ≤ 900000; omega) (by show 0 < 9223372036854775808; omega)
  dsimp only at this
  have e1 : scanR ⟨S, [], 0, r⟩ a n e = (⟨S, [], 0, r + readsN (lead (rw_ S a n) e) n⟩, recs (rw_ S a n) e, 0) := by
    unfold scanR
    rw [row_plain hr, if_neg (by show ¬ (1 ≤ 0 ∧ _); omega)]
    simp
  have e2 : scanS ⟨S, [], 0, r⟩ a n e = some (e, (recs (rw_ S a n) e).length) := by unfold scanS; rw [e1]; rfl
  rw [e1, e2] at this
  exact this.mono fun x w' ⟨v, hx, st', k, l, m⟩ => ⟨v, hx, st', h.go k l m, m⟩
/-- a row of texts that came in -/
def Texts (ao : Option Addr) (len : Nat) (w : World) : Prop := 0 < len → ∃ b off, ao = some ⟨b, off, none⟩ ∧ b < w.heap.size ∧ ∀ i, i < len → ∃ t, w.cell? ⟨b, off + i, none⟩ = some (.string t)
theorem open_texts {H : Type} {enc : TypeId × Value → H} {W : World} {r : Reach} {b0 base : Nat} {spare : Nat → Bool} {held : Bool} {v : Value} {d : DataW H} {p : List MemPlace}
    (hok : Value.okWide Try.prog W r b0 30 v) (h : DataW.Trod enc Try.prog W base spare held 30 v d p) :
    ∃ ao len cap, v = .slice ao len cap ∧ len ≤ 9223372036854775807 ∧ Texts ao len W := by
  obtain ⟨ao, len, cap, rfl⟩ := okWide_slice Try.underlying30 hok
  obtain ⟨fuel, hf⟩ := h
  rcases Go.Deep.open_slice Try.underlying30 hf with ⟨hcs, hx⟩ | ⟨a, len', cap', m, n, D, Pl, hcs, _, hl, hm, hmm, hx, hi⟩
  · simp [Value.cells] at hcs
    obtain ⟨rfl, rfl, rfl⟩ := hcs
    exact ⟨none, 0, 0, rfl, by omega, fun h => by omega⟩
  · simp [Value.cells] at hcs
    obtain ⟨rfl, rfl, rfl⟩ := hcs
    have hml : len ≤ m := by rw [hmm]; split <;> omega
    have hC : Try.prog.cellsOf 9 = 1 := by kernel_rfl
    rw [hC] at hi
    refine ⟨some a, len, cap, rfl, by unfold maxLen at hm; omega, fun h0 => ?_⟩
    have key : ∀ i, i < len → ∃ t : ByteArray, W.cell? (a.add (i * 1)) = some (.string t) := by
      intro i hil
      obtain ⟨cs, hc, ht⟩ := hi i (by omega)
      obtain ⟨_, hcl, hat⟩ := World.cells?_some hc
      obtain ⟨c, rfl⟩ := List.length_eq_one_iff.1 hcl
      obtain ⟨t, e0, -, -⟩ := DataW.trod_string Try.underlying9 ht
      refine ⟨t, ?_⟩
      have := hat 0 (by omega)
      have e : (a.add (i * 1)).add 0 = a.add (i * 1) := by unfold Addr.add; split <;> simp_all
      rw [e] at this
      rw [this]
      first | (simpa using e0) | (simp; exact e0)
    obtain ⟨b, off, spot⟩ := a
    obtain ⟨t0, h01⟩ := key 0 h0
    have hspot : spot = none := by simpa [Addr.add] using World.cell?_spot h01
    subst hspot
    refine ⟨b, off, rfl, World.block_lt_of_cell? _ _ h01, fun i hi => ?_⟩
    obtain ⟨t, h1⟩ := key i hi
    rw [Dk.addr_add, Nat.mul_one] at h1
    exact ⟨t, h1⟩
end Go.Proofs.Ytmccoejliaakoaa.Wl
