/- Contract of package qpa's Room. -/
import Derived.Test.YtbhafcaekpccoaaQpN
import Derived.Test.YtbhafcaekpccoaaPmR
import Derived.Deep.AppendLies
import Derived.BigQuiet
import Derived.WalkMore
namespace Go.Proofs.Ytbhafcaekpccoaa.Qp
open Go.ChangeShapes Go.WideShapes Go.ChangeAt Go.RowKit Go.Joins
open Pm (Tk chk chk_iff rowB rowB_all rowB_len TkAt Ts TRow trow_all flat flat_cons below_drewN wrap_in)
set_option maxRecDepth 100000
set_option maxRecDepth 100000
set_option linter.unusedVariables false
set_option linter.unusedSimpArgs false
theorem trow_one (B : Nat) (w : World) (x : Tk) (hB : B ≤ w.heap.size) : TRow B (w.alloc (.cells x.cs.toArray 42)) (.slice (some ⟨w.heap.size, 0, none⟩) 1 1) [x] :=
  ⟨rfl, .inr ⟨w.heap.size, 1, x.cs.toArray, rfl, hB, by show (w.heap.push _)[w.heap.size]? = _; rw [Array.getElem?_push_size], Nat.le_refl _, by simp [maxLen], rfl, rfl⟩⟩
/-- the first task's work, written over -/
theorem trow_c {B : Nat} {w : World} {g cap : Nat} {t : Tk} {l : List Tk} (h : TRow B w (.slice (some ⟨g, 0, none⟩) (l.length + 1) cap) (t :: l)) (c : Int) :
    w.cell? ⟨g, 1, none⟩ = some (.int .i64 t.c) ∧ w.frozen? ⟨g, 1, none⟩ = false ∧ TRow B (w.setCell ⟨g, 1, none⟩ (.int .i64 c)) (.slice (some ⟨g, 0, none⟩) (l.length + 1) cap) (wc t c :: l) ∧ B ≤ g := by
  have hf := h.form
  obtain ⟨ao, cap', hv, -, hts⟩ := hf
  cases hv
  obtain ⟨b, off, e, hl, hat⟩ := hts (by simp)
  cases e
  have hk := (hat 0 t rfl).c1
  simp at hk
  rcases h.2 with ⟨h0, _⟩ | ⟨g', cap', cur, hv, hB, hg, hcap, hm, hsz, ht⟩
  · cases h0
  · cases hv
    have he : (w.setCell ⟨g, 1, none⟩ (.int .i64 c)).heap[g]? = some (.cells (cur.setIfInBounds 1 (.int .i64 c)) 42 (0, 0)) := by simp [World.setCell, Array.getElem?_modify, hg]
    refine ⟨hk, Lib.frozen_of_heap hg 1, ⟨by rw [Pm.flat_length], .inr ⟨g, cap, _, rfl, hB, he, hcap, hm, by simpa using hsz, ?_⟩⟩, hB⟩
    have e2 : (wc t c :: l).length * 5 = (t :: l).length * 5 := rfl
    rw [Array.toList_setIfInBounds, List.take_set, e2, ht]
    simp [flat_cons, wc, Tk.cs]
theorem TRow.ts1 {B : Nat} {w : World} {g cap n : Nat} {l : List Tk} (h : TRow B w (.slice (some ⟨g, 0, none⟩) n cap) l) (hn : n = l.length) : Ts (some ⟨g, 0, none⟩) l w := by
  obtain ⟨ao, cap', hv, -, hts⟩ := h.form
  cases hv; exact hts
def RmRel (l : List Tk) (t : Tk) (g cap : Nat) (w : World) (G : Nat) (s6 s7 : Value) (wx : World) : Prop :=
  ∃ room most c : Int, s6 = .int .i64 room ∧ s7 = .int .i64 most ∧ 0 ≤ room ∧ room ≤ most ∧ most ≤ t.d ∧ (0 < room → fit (wc t room :: l)) ∧ (most < t.d → ¬ fit (wc t (most + 1) :: l)) ∧
    TRow w.heap.size wx (.slice (some ⟨g, 0, none⟩) (l.length + 1) cap) (wc t c :: l) ∧ Below w.heap.size w wx ∧ (G : Int) = most - room
set_option maxHeartbeats 4000000 in
theorem room_any (l : List Tk) (ao : Option Addr) (cap : Nat) (t : Tk) (w : World) (hT : Ts ao l w) (hl : l.length ≤ 15) (hN : Nice l) (ht : chk t = true) (hd : t.t.toNat ∣ 240) :
    Calls Try.prog 21 #[.slice ao l.length cap, t.v] w fun e w' => ∃ r, RoomIs l t r ∧ e = .returned (.int .i64 r) ∧ Below w.heap.size w w' := by
  have htd := chk_iff.1 ht
  have NT : Hid (∀ c, 1 ≤ c → c ≤ t.d → Nice (wc t c :: l)) := Lib.hid (fun c h1 h2 => nice_cons hN hl (wc_chk ht h1 h2) hd)
  have TE : Hid (∀ g cap c W, TRow w.heap.size W (.slice (some ⟨g, 0, none⟩) (l.length + 1) cap) (wc t c :: l) → Calls Try.prog 18 #[.slice (some ⟨g, 0, none⟩) (l.length + 1) cap] W fun e w' => e = .returned (.int .i64 (testR (wc t c :: l))) ∧ Below W.heap.size W w') := Lib.hid (fun g cap c W h => test_any (wc t c :: l) _ cap W (TRow.ts1 h rfl) (by simp; omega))
  have bel0 := (Below.refl w.heap.size w).alloc (Nat.le_refl _) (.cells #[.int .i64 t.id, .int .i64 t.c, .int .i64 t.d, .int .i64 t.t, .int .i64 t.m] 42)
  have one := trow_one w.heap.size (w.alloc (.cells #[.int .i64 t.id, .int .i64 t.c, .int .i64 t.d, .int .i64 t.t, .int .i64 t.m] 42)) t bel0.size
  have bel1 := bel0.alloc bel0.size (.cells t.cs.toArray 42)
  obtain ⟨v', w1, hap, hrow, hb1, hkp⟩ := trow_all w.heap.size _ _ [t] l ao cap one (hT.call bel1) bel1.size (by simp; omega)
  have K1 := Lib.hid (bel1.trans hb1)
  obtain ⟨g, cp, rfl, hg1, hg2⟩ := World.ownsRow.form hrow (by simp)
  have e1 : ([t] ++ l).length = l.length + 1 := by simp
  rw [e1] at hap hrow
  have R1 : Hid (TRow w.heap.size w1 (.slice (some ⟨g, 0, none⟩) (l.length + 1) cp) (wc t t.c :: l)) := Lib.hid hrow
  have bx : w1.cell? ⟨w.heap.size, 2, none⟩ = some (.int .i64 t.d) := by
    have hk := hkp w.heap.size (by simp; omega) (by simp [Value.ownBlock])
    rw [World.cell?_of_block hk]
    simp [go_sem]
  clear hkp
  have x0 : (w.alloc (.cells #[.int .i64 t.id, .int .i64 t.c, .int .i64 t.d, .int .i64 t.t, .int .i64 t.m] 42)).cell? ⟨w.heap.size, 0, none⟩ = some (.int .i64 t.id) := by simp [go_sem]
  have x1 : (w.alloc (.cells #[.int .i64 t.id, .int .i64 t.c, .int .i64 t.d, .int .i64 t.t, .int .i64 t.m] 42)).cell? ⟨w.heap.size, 1, none⟩ = some (.int .i64 t.c) := by simp [go_sem]
  have x2 : (w.alloc (.cells #[.int .i64 t.id, .int .i64 t.c, .int .i64 t.d, .int .i64 t.t, .int .i64 t.m] 42)).cell? ⟨w.heap.size, 2, none⟩ = some (.int .i64 t.d) := by simp [go_sem]
  have x3 : (w.alloc (.cells #[.int .i64 t.id, .int .i64 t.c, .int .i64 t.d, .int .i64 t.t, .int .i64 t.m] 42)).cell? ⟨w.heap.size, 3, none⟩ = some (.int .i64 t.t) := by simp [go_sem]
  have x4 : (w.alloc (.cells #[.int .i64 t.id, .int .i64 t.c, .int .i64 t.d, .int .i64 t.t, .int .i64 t.m] 42)).cell? ⟨w.heap.size, 4, none⟩ = some (.int .i64 t.m) := by simp [go_sem]
  have z1 : (w.alloc (.cells #[.int .i64 t.id, .int .i64 t.c, .int .i64 t.d, .int .i64 t.t, .int .i64 t.m] 42)).heap.size = w.heap.size + 1 := by simp
  clear one bel1 hb1 hrow hT hN ht
  go_enter Try.func21, Try.ntmps21
  unfold Tk.v at *
  go_upto_region 1 with (fail)
  rw [z1] at hap
  generalize (w.alloc (.cells #[.int .i64 t.id, .int .i64 t.c, .int .i64 t.d, .int .i64 t.t, .int .i64 t.m] 42)) = W at *
  go_step3
  go_wp2_with (at_builtin; refine Lib.wpList_append_run _ rfl _ _ _ _ rfl _ _ rfl rfl _ _ hap ?_)
  go_quiet (fail)
  have K2 := Lib.hid (K1.out.trans ((below_drewN _ nq).mono K1.out.size))
  have R2 := Lib.hid (R1.out.call (below_drewN _ nq))
  generalize w1.drewN nq = w2 at *
  have S0 : Hid (RmRel l t g cp w t.d.toNat (.int .i64 0) (.int .i64 t.d) w2) := Lib.hid ⟨0, t.d, t.c, rfl, rfl, by omega, by omega, by omega, fun h => by omega, fun h => by omega, R2.out, K2.out, by omega⟩
  clear K1 R1 K2 R2 bel0 bx x0 x1 x2 x3 x4 z1 hap nq
  have ht3 : 0 < t.t := by omega
  have hdd : t.d ≤ 2147483648 := by omega
  go_wp2_with fail
  go_step3
  go_wp2_with fail
  go_loopg [6, 7] t.d.toNat (RmRel l t g cp w)
  case atStart => exact S0.out
  case round =>
    obtain ⟨room, most, c, rfl, rfl, h0, h1, h2, h3, h4, hr, hB, hG⟩ := hrel
    by_cases hlt : room < most
    · obtain ⟨q, hq⟩ : ∃ q, (most - room) / 2 = q := ⟨_, rfl⟩
      have q1 : (most - room).tdiv 2 = q := by rw [Int.tdiv_eq_ediv_of_nonneg (by omega)]; exact hq
      have q2 : 0 ≤ q ∧ q < most - room := by omega
      obtain ⟨q3, q4⟩ := q2
      have w1' : IntKind.i64.wrap (most - room) = most - room := wrap_in (by omega) (by omega)
      have w2' : IntKind.i64.wrap (most - q) = most - q := wrap_in (by omega) (by omega)
      obtain ⟨u0, u1, u2, u3⟩ := trow_c hr (most - q)
      have RR := Lib.hid u2
      have KB := Lib.hid (hB.setCell (p := ⟨g, 1, none⟩) u3 (.int .i64 (most - q)))
      have NN := Lib.hid (nice_test (NT.out (most - q) (by omega) (by omega)))
      have TT := Lib.hid (TE.out g cp (most - q) _ RR.out)
      have HQ := Lib.hid hq
      have hlen : (0 : Int) < ((l.length + 1 : Nat) : Int) := by omega
      clear hr hB u2 hq S0
      go_wp2_with fail
      generalize (wr.setCell ⟨g, 1, none⟩ (.int .i64 (most - q))) = W3 at *
      (with_reducible refine TT.out.mono ?_)
      rintro e w4 ⟨rfl, b4⟩
      have K4 := Lib.hid (KB.out.trans (b4.mono KB.out.size))
      have R4 := Lib.hid (RR.out.call b4)
      have HG := Lib.hid hG
      have H3 := Lib.hid h3
      have H4 := Lib.hid h4
      clear b4 TT KB RR hG h3 h4
      generalize testR (wc t (most - q) :: l) = z at *
      rcases NN.out with ⟨hf, rfl⟩ | ⟨hf, rfl⟩
      · have HF := Lib.hid hf
        clear hf NN
        go_wp2
        go_roundg (q.toNat)
        case measure => have := HG.out; omega
        case rel => exact ⟨most - q, most, most - q, rfl, rfl, by omega, by omega, by omega, fun _ => HF.out, H4.out, R4.out, K4.out, by omega⟩
      · have HF := Lib.hid hf
        have w5 : IntKind.i64.wrap (most - q - 1) = most - q - 1 := wrap_in (by omega) (by omega)
        clear hf NN
        go_wp2
        go_roundg ((most - q - 1 - room).toNat)
        case measure => have := HG.out; omega
        case rel => exact ⟨room, most - q - 1, most - q, rfl, rfl, by omega, by omega, by omega, H3.out, fun _ => by rw [show most - q - 1 + 1 = most - q by omega]; exact HF.out, R4.out, K4.out, by omega⟩
    · obtain rfl : room = most := by omega
      have E := Lib.hid (RoomIs.mk (l := l) (t := t) (r := room) h0 h2 h3 h4)
      have KB := Lib.hid hB
      clear hr hB h3 h4 S0 hlt
      go_wp2
      try simp only [Exit.noGoto]
      go_ret
      exact ⟨_, E.out, rfl, KB.out⟩
end Go.Proofs.Ytbhafcaekpccoaa.Qp
