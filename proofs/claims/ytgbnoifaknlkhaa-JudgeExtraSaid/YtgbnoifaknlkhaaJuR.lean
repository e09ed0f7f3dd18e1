/- The statements' function awake of layer 15. -/
import Derived.Test.YtgbnoifaknlkhaaJuQ
namespace Go.Proofs.Ytgbnoifaknlkhaa.Ju
open Go.ChangeShapes Go.WideShapes Go.ChangeAt Go.RowKit Go.Joins
open Pm (Tk chk chk_iff I64)
open Ge (El Seen Row)
open Ox (Od chkR chkR_iff tk0)
open Tb
set_option maxRecDepth 100000
set_option maxRecDepth 100000
set_option linter.unusedVariables false
set_option linter.unusedSimpArgs false
open Qp (testR testR_is)
def rwA : Rw := ⟨⟨1, 1, 2, 2, 15⟩, false⟩
def tbA : Tb.Tb := ⟨[rwA], 0⟩
def odA : Od := ⟨1, ⟨2, 2, 3, 3, 1⟩, false, 0, 0, 0⟩
theorem bt_A {k : Int} (h0 : 0 ≤ k) (h3 : k ≤ 3) : bt k rwA.t = true := by
  unfold bt
  rw [and1]
  rcases (by omega : k = 0 ∨ k = 1 ∨ k = 2 ∨ k = 3) with rfl | rfl | rfl | rfl <;> decide
theorem bt_B : bt 0 ⟨2, 2, 3, 3, 1⟩ = true := by
  unfold bt
  rw [and1]
  decide
theorem fits_A : fitsR tbA = 0 := by
  refine fits_zero.2 ⟨by decide, fun k h0 h3 => ?_⟩
  have e : inT k tbA.rows = [⟨1, 1, 2, 2, 15⟩] := by
    show inT k [rwA] = _
    rw [inT_cons, if_pos (bt_A h0 h3)]; rfl
  rw [e]
  refine (nice_test ⟨by decide, fun t ht => ?_⟩).2 ⟨by decide, fun s hs => ?_⟩
  · rw [List.mem_singleton.1 ht]; decide
  · show Dm.one _ s + 0 ≤ s
    unfold Dm.one Dm.cnt
    simp only
    split <;> omega
theorem may_A : (mayR tbA odA []).2 = 17 := by
  have ea : applyR tbA odA = (⟨[rwA, ⟨⟨2, 2, 3, 3, 1⟩, false⟩], 0⟩, 0) := by decide
  have e0 : inT 0 [rwA, ⟨⟨2, 2, 3, 3, 1⟩, false⟩] = [⟨1, 1, 2, 2, 15⟩, ⟨2, 2, 3, 3, 1⟩] := by
    rw [inT_cons, if_pos (bt_A (Int.le_refl 0) (by decide)), inT_cons, if_pos bt_B]; rfl
  have hn : Nice [⟨1, 1, 2, 2, 15⟩, ⟨2, 2, 3, 3, 1⟩] := ⟨by decide, fun t ht => by
    rcases List.mem_cons.1 ht with rfl | ht
    · decide
    · rw [List.mem_singleton.1 ht]; decide⟩
  have e1 : testR [⟨1, 1, 2, 2, 15⟩, ⟨2, 2, 3, 3, 1⟩] = 17 := by
    rcases testR_is (nice_load hn).1 with h | h
    · have := ((nice_test hn).1 h).1
      exact absurd this (by decide)
    · exact h
  have ef : fitsR ⟨[rwA, ⟨⟨2, 2, 3, 3, 1⟩, false⟩], 0⟩ = 17 := by
    unfold fitsR firstR
    rw [if_pos (by decide), firstF_four]
    show (if testR (inT 0 [rwA, ⟨⟨2, 2, 3, 3, 1⟩, false⟩]) ≠ 0 then _ else _ : Int × Int).2 = 17
    rw [e0, e1]; rfl
  unfold mayR
  rw [ea]
  simp only
  have ew : withR ⟨[rwA, ⟨⟨2, 2, 3, 3, 1⟩, false⟩], 0⟩ [] = 17 := by
    unfold withR
    rw [ef]; rfl
  rw [ew]; rfl
set_option maxHeartbeats 8000000 in
theorem awake_any (w : World) :
    Calls Try.prog 8 #[] w fun e w' => e = .returned (.bool true) ∧ Below w.heap.size w w' := by
  have S0 := Lib.hid (seen_one rwA w)
  have H0 := Lib.hid (((bos_nil w).new #[.int .i64 1, .int .i64 1, .int .i64 2, .int .i64 2, .int .i64 15, .bool false] 48).new #[.slice (some ⟨w.heap.size, 0, none⟩) 1 1, .int .i64 0] 29)
  rw [World.size_alloc] at H0
  have SB : Hid (∀ W, Below (w.heap.size + 1) (w.alloc (.cells #[.int .i64 1, .int .i64 1, .int .i64 2, .int .i64 2, .int .i64 15, .bool false] 48)) W → Sl (.slice (some ⟨w.heap.size, 0, none⟩) 1 1) [rwA] W (some ⟨w.heap.size, 0, none⟩) 1) := Lib.hid (fun W hb => ⟨rfl, by simp, (fun h => by cases h), S0.out.below hb (by simp)⟩)
  have B0 : Below (w.heap.size + 1) (w.alloc (.cells #[.int .i64 1, .int .i64 1, .int .i64 2, .int .i64 2, .int .i64 15, .bool false] 48)) ((w.alloc (.cells #[.int .i64 1, .int .i64 1, .int .i64 2, .int .i64 2, .int .i64 15, .bool false] 48)).alloc (.cells #[.slice (some ⟨w.heap.size, 0, none⟩) 1 1, .int .i64 0] 29)) := (Below.refl _ _).alloc (by simp) _
  have K0 := Lib.hid B0
  have MA : Hid (∀ W, Sl (.slice (some ⟨w.heap.size, 0, none⟩) 1 1) [rwA] W (some ⟨w.heap.size, 0, none⟩) 1 → Calls Try.prog 13 #[.agg #[.slice (some ⟨w.heap.size, 0, none⟩) 1 1, .int .i64 0], .agg #[.int .i64 1, .int .i64 2, .int .i64 2, .int .i64 3, .int .i64 3, .int .i64 1, .bool false, .int .i64 0, .int .i64 0, .int .i64 0], .slice none 0 0] W fun e w' => ∃ v, e = .returned (.tuple #[v, .int .i64 17]) ∧ Tb.Told v (mayR tbA odA []).1 w' ∧ Below W.heap.size W w') := Lib.hid (fun W h => by
    have := may_any tbA odA [] _ _ none 0 W h (by decide) (Ge.seen_nil _ _) (by simp)
    rw [may_A] at this
    exact this)
  have FI : Hid (∀ W, Sl (.slice (some ⟨w.heap.size, 0, none⟩) 1 1) [rwA] W (some ⟨w.heap.size, 0, none⟩) 1 → Calls Try.prog 17 #[.agg #[.slice (some ⟨w.heap.size, 0, none⟩) 1 1, .int .i64 0]] W fun e w' => e = .returned (.int .i64 0) ∧ Below W.heap.size W w') := Lib.hid (fun W h => by
    have := fits_any tbA _ 1 W h.seen (by decide)
    rw [fits_A] at this
    exact this)
  clear B0
  generalize (mayR tbA odA []).1 = M1 at *
  obtain ⟨t0, t1⟩ := cell2 (H0.out.cell 0 rfl)
  go_enter Try.func8, Try.ntmps8
  go_wp2_with fail
  (with_reducible refine (MA.out _ (SB.out _ K0.out)).mono ?_)
  rintro e w1 ⟨v, rfl, ⟨a1, c1, rfl, -⟩, b1⟩
  unfold tv
  have H1 := Lib.hid (H0.out.call b1)
  have H2 := Lib.hid (H1.out.new #[.slice a1 M1.rows.length c1, .int .i64 M1.mode] 29)
  have S2 := Lib.hid ((SB.out _ K0.out).call (b1.trans ((Below.refl _ _).alloc b1.size (.cells #[.slice a1 M1.rows.length c1, .int .i64 M1.mode] 29))))
  have FC := Lib.hid (FI.out _ S2.out)
  clear b1 MA FI H1 H0 t0 t1 S2 SB K0 S0
  obtain ⟨t0, t1⟩ := cell2 (H2.out.cell 1 rfl)
  go_wp2_with fail
  (with_reducible refine FC.out.mono ?_)
  rintro e w2 ⟨rfl, b2⟩
  have Z := Lib.hid (H2.out.call b2).bl
  clear b2 FC H2
  go_wp2
  go_ret
  exact ⟨rfl, Z.out⟩
end Go.Proofs.Ytgbnoifaknlkhaa.Ju
