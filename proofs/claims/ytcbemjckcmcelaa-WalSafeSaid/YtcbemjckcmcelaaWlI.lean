/- Rows of texts beside a log: one text more; two rows of the same texts; what a Scan tells of any row. -/
import Derived.Test.YtcbemjckcmcelaaWlH
import Derived.Test.YtcbemjckcmcelaaFrF
namespace Go.Proofs.Ytcbemjckcmcelaa.Wl
open Go.ChangeShapes Go.WideShapes Go.ChangeAt Go.RowKit Go.Joins
open Dk (Dk DS Own Moved ptr)
open Sl (Mv below_drewN rowOf rowOf_length strs_of strs_block)
set_option maxRecDepth 100000
set_option linter.unusedVariables false
set_option linter.unusedSimpArgs false
/-- all that is no row of texts stays -/
theorem Lg.rest {B b q : Nat} {t : WS} {s : DS} {w0 W W' : World} (h : Lg B b q t s w0 W) (k : ∀ (k : Nat) (cs : Array Value) (T : TypeId) (fz : Nat × Nat), W.heap[k]? = some (Obj.cells cs T fz) → T ≠ 9 → W'.heap[k]? = W.heap[k]?) (hb : Below B W W') : Lg B b q t s w0 W' := by
  obtain ⟨g, v, dk⟩ := h.dk
  refine ⟨⟨g, v, dk.of_blocks fun j hj => ?_⟩, h.wl.of_block (k _ _ _ _ h.wl (by decide)), h.bel.trans hb, h.hq⟩
  rcases dk.owns.1 hj with rfl | rfl | hj
  · exact k _ _ _ _ dk.blk (by decide)
  · exact k _ _ _ _ dk.row (by decide)
  · obtain ⟨cur, hc⟩ := dk.ownBlock hj; exact k _ _ _ _ hc (by decide)
theorem same_any (B C : Nat) (v u : Value) (ds : List (List UInt8)) (w : World) (hv : Strs B w v ds) (hu : Strs C w u ds) (hn : ds.length ≤ 100000) :
    Calls Try.prog 16 #[v, u] w fun r w' => r = .returned (.bool true) ∧ Below w.heap.size w w' := by
  cases ds with
  | cons x ds => exact same_rf B C v u _ w hv hu (by simp) hn
  | nil =>
    obtain ⟨a, c, hv'⟩ := strs_form hv
    obtain ⟨a', c', hu'⟩ := strs_form hu
    have hv2 : v = .slice a 0 c := hv'
    have hu2 : u = .slice a' 0 c' := hu'
    subst hv2 hu2
    clear hv hu hv' hu'
    go_enter Try.func16, Try.ntmps16
    go_wp2
    go_loopg [5] 0 (SmRel w 0)
    case atStart => exact ⟨0, by omega, rfl, 0, rfl⟩
    case round =>
      obtain ⟨i, hi, rfl, q, rfl⟩ := hrel
      obtain rfl : i = 0 := by omega
      go_wp2
      go_ret
      exact ⟨rfl, ⟨rfl, rfl, rfl, Nat.le_refl _, fun _ _ => rfl⟩⟩
theorem scan_g (B b q : Nat) (a n : Nat) (st : Option (Nat × Nat)) (S : List (List UInt8)) (r e : Nat) (w0 w : World) (h : Lg B b q ⟨a, n, st⟩ ⟨S, [], 0, r⟩ w0 w) (hn : 1 ≤ n) (hr : a + n ≤ S.length) (he : 1 ≤ e) (he2 : e < 18446744073709551616) (hrd : r ≤ 900000000) :
    Calls Try.prog 14 #[ptr q, .int .u64 (e : Int)] w fun x w' => ∃ v, x = .returned (.tuple #[v, .int .i64 0]) ∧ Strs w.heap.size w' v (recs (rw_ S a n) e) ∧ Lg B b q ⟨a, n, some (e, (recs (rw_ S a n) e).length)⟩ ⟨S, [], 0, r + readsN (lead (rw_ S a n) e) n⟩ w0 w' ∧ Mv b q w w' := by
  have := scan_any e w h.wl h.dk hn hr he hrd (by show 0 ≤ 900000; omega) (by show 0 < 9223372036854775808; omega)
  dsimp only at this
  have e1 : scanR ⟨S, [], 0, r⟩ a n e = (⟨S, [], 0, r + readsN (lead (rw_ S a n) e) n⟩, recs (rw_ S a n) e, 0) := by
    unfold scanR
    rw [row_plain hr, if_neg (by show ¬ (1 ≤ 0 ∧ _); omega)]
    simp
  have e2 : scanS ⟨S, [], 0, r⟩ a n e = some (e, (recs (rw_ S a n) e).length) := by unfold scanS; rw [e1]; rfl
  rw [e1, e2] at this
  exact this.mono fun x w' ⟨v, hx, st', k, l, m⟩ => ⟨v, hx, st', h.go k l m, m⟩
/-- a row of texts that came in -/
def Texts (ao : Option Addr) (len : Nat) (w : World) : Prop := 0 < len → ∃ b off, ao = some ⟨b, off, none⟩ ∧ b < w.heap.size ∧ ∀ i, i < len → ∃ t, w.cell? ⟨b, off + i, none⟩ = some (.string t)
theorem open_texts {H : Type} {enc : TypeId × Value → H} {W : World} {r : Reach} {b0 base : Nat} {spare : Nat → Bool} {held : Bool} {v : Value} {d : DataW H} {p : List MemPlace}
    (hok : Value.okWide Try.prog W r b0 36 v) (h : DataW.Trod enc Try.prog W base spare held 36 v d p) :
    ∃ ao len cap, v = .slice ao len cap ∧ len ≤ 9223372036854775807 ∧ Texts ao len W := by
  obtain ⟨ao, len, cap, rfl⟩ := okWide_slice Try.underlying36 hok
  obtain ⟨fuel, hf⟩ := h
  rcases Go.Deep.open_slice Try.underlying36 hf with ⟨hcs, hx⟩ | ⟨a, len', cap', m, n, D, Pl, hcs, _, hl, hm, hmm, hx, hi⟩
  · simp [Value.cells] at hcs
    obtain ⟨rfl, rfl, rfl⟩ := hcs
    exact ⟨none, 0, 0, rfl, by omega, fun h => by omega⟩
  · simp [Value.cells] at hcs
    obtain ⟨rfl, rfl, rfl⟩ := hcs
    have hml : len ≤ m := by rw [hmm]; split <;> omega
    have hC : Try.prog.cellsOf 9 = 1 := by kernel_rfl
    rw [hC] at hi
    refine ⟨some a, len, cap, rfl, by unfold maxLen at hm; omega, fun h0 => ?_⟩
    have key : ∀ i, i < len → ∃ t : ByteArray, W.cell? (a.add (i * 1)) = some (.string t) := by
      intro i hil
      obtain ⟨cs, hc, ht⟩ := hi i (by omega)
      obtain ⟨_, hcl, hat⟩ := World.cells?_some hc
      obtain ⟨c, rfl⟩ := List.length_eq_one_iff.1 hcl
      obtain ⟨t, e0, -, -⟩ := DataW.trod_string Try.underlying9 ht
      refine ⟨t, ?_⟩
      have := hat 0 (by omega)
      have e : (a.add (i * 1)).add 0 = a.add (i * 1) := by unfold Addr.add; split <;> simp_all
      rw [e] at this
      rw [this]
      first | (simpa using e0) | (simp; exact e0)
    obtain ⟨b, off, spot⟩ := a
    obtain ⟨t0, h01⟩ := key 0 h0
    have hspot : spot = none := by simpa [Addr.add] using World.cell?_spot h01
    subst hspot
    refine ⟨b, off, rfl, World.block_lt_of_cell? _ _ h01, fun i hi => ?_⟩
    obtain ⟨t, h1⟩ := key i hi
    rw [Dk.addr_add, Nat.mul_one] at h1
    exact ⟨t, h1⟩
end Go.Proofs.Ytcbemjckcmcelaa.Wl
