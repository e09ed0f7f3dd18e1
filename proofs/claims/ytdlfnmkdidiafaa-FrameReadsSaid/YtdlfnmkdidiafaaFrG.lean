/- The chapter's example stands; how the arguments of the statements of layer 4 are opened. -/
import Derived.Test.YtdlfnmkdidiafaaFrF
import Derived.Test.YtdlfnmkdidiafaaCcG
import Derived.Test.YtdlfnmkdidiafaaGnA
import Derived.Deep.Slices
namespace Go.Proofs.Ytdlfnmkdidiafaa
open Go.ChangeShapes Go.WideShapes Go.ChangeAt Go.RowKit Go.Joins
set_option linter.unusedVariables false
set_option linter.unusedSimpArgs false
theorem example_tag : (mkB (sec [97, 98] 3 7)).extract 48 64 = ⟨#[0, 0, 0, 0, 0, 0, 0, 3, 0, 0, 0, 0, 0, 0, 0, 7]⟩ := by
  rw [mkB_extract, sec_tag (by decide)]
  decide +kernel
set_option maxRecDepth 100000 in
set_option maxHeartbeats 1600000 in
theorem awake_any (w : World) :
    Calls Try.prog 8 #[] w fun e w' => e = .returned (.bool true) ∧ Below w.heap.size w w' := by
  have M : Hid (∀ w : World, Calls Try.prog 10 #[.agg #[.string ⟨#[97, 98]⟩, .int .u64 3, .int .u64 7]] w fun r w' => r = .returned (.tuple #[.string (mkB (sec [97, 98] 3 7)), .int .i64 0]) ∧ Below w.heap.size w w') := Lib.hid (fun w => make_yes ⟨#[97, 98]⟩ 3 7 w (by decide) (by omega) (by omega))
  have R := Lib.hid (fun w => read_any (mkB (sec [97, 98] 3 7)) w)
  rw [mkB_data, rdc_sec (by decide) (by omega) (by omega)] at R
  have R' : Hid (∀ w : World, Calls Try.prog 15 #[.string (mkB (sec [97, 98] 3 7))] w fun r w' => r = .returned (.tuple #[.agg #[.string ⟨#[97, 98]⟩, .int .u64 3, .int .u64 7], .bool true]) ∧ Below w.heap.size w w') := R
  have zs : (mkB (sec [97, 98] 3 7)).size = 64 := by rw [mkB_size, sec_length (by decide)]
  have zi : ((mkB (sec [97, 98] 3 7)).size : Int) = 64 := by omega
  have et := example_tag
  generalize mkB (sec [97, 98] 3 7) = X at *
  clear R
  go_enter Try.func8, Try.ntmps8
  go_wp2_with fail
  (with_reducible refine (M.out _).mono ?_)
  rintro e w1 ⟨rfl, b1⟩
  go_wp2_with fail
  (with_reducible refine (R'.out _).mono ?_)
  rintro e w2 ⟨rfl, b2⟩
  have B := Lib.hid (b1.trans (b2.mono b1.size))
  clear b1 b2 M R'
  go_wp2
  go_ret
  exact ⟨rfl, B.out.alloc B.out.size _⟩
theorem is64_nat {n : Int} (h : (Lit.int .u64 n).wf = true) : ∃ x : Nat, n = (x : Int) ∧ x < 18446744073709551616 := by
  have hb : 0 ≤ n ∧ n < 18446744073709551616 := by
    simp [Lit.wf, IntKind.min, IntKind.max, IntKind.bits, IntKind.signed] at h; omega
  exact ⟨n.toNat, by omega, by omega⟩
theorem is8_nat {n : Int} (h : (Lit.int .u8 n).wf = true) : ∃ x : Nat, n = (x : Int) ∧ x < 256 := by
  have hb : 0 ≤ n ∧ n < 256 := by
    simp [Lit.wf, IntKind.min, IntKind.max, IntKind.bits, IntKind.signed] at h; omega
  exact ⟨n.toNat, by omega, by omega⟩
theorem one_of {cs : List Value} {j : Nat} (h : j < cs.length) : (cs.drop j).take 1 = [cs[j]] := by
  rw [List.drop_eq_getElem_cons h]; rfl
theorem open_cell {H : Type} {enc : TypeId × Value → H} {W : World} {r : Reach} {b0 base : Nat} {spare : Nat → Bool} {held : Bool} {v : Value} {d : DataW H} {p : List MemPlace}
    (hok : Value.okWide Try.prog W r b0 24 v) (h : DataW.Trod enc Try.prog W base spare held 24 v d p) :
    ∃ (s : ByteArray) (e n : Nat), v = .agg #[.string s, .int .u64 (e : Int), .int .u64 (n : Int)] ∧ e < 18446744073709551616 ∧ n < 18446744073709551616 := by
  obtain ⟨cs, rfl, hsz, _⟩ : ∃ cs, v = .agg cs ∧ cs.size = Try.prog.cellsOf 24 ∧ Row.okWide Try.prog W r b0 24 cs := by
    simpa [Value.okWide, Try.underlying24] using hok
  have hC : Try.prog.cellsOf 24 = 3 := by kernel_rfl
  have c1 : Try.prog.cellsOf 22 = 1 := by kernel_rfl
  have c9 : Try.prog.cellsOf 9 = 1 := by kernel_rfl
  rw [hC] at hsz
  obtain ⟨fuel, hf⟩ := h
  obtain ⟨ys, n', hn', hy, hlen, hyl, hfd⟩ := DataW.trod_struct Try.underlying24 hf
  have el : (Value.agg cs).cells.toList = cs.toList := by simp [Value.cells]
  rw [el] at hfd
  have zl : cs.toList.length = 3 := by simpa using hsz
  have g0 : DataW.trod enc Try.prog W base spare held n' 9 ((cs.toList.drop 0).take (Try.prog.cellsOf 9)) = ys[0]? := hfd 0 _ rfl
  have g1 : DataW.trod enc Try.prog W base spare held n' 22 ((cs.toList.drop 1).take (Try.prog.cellsOf 22)) = ys[1]? := hfd 1 _ rfl
  have g2 : DataW.trod enc Try.prog W base spare held n' 22 ((cs.toList.drop 2).take (Try.prog.cellsOf 22)) = ys[2]? := hfd 2 _ rfl
  have hy3 : ys.length = 3 := by rw [hyl]; rfl
  rw [c9, one_of (j := 0) (by omega), List.getElem?_eq_getElem (by omega)] at g0
  rw [c1, one_of (j := 1) (by omega), List.getElem?_eq_getElem (by omega)] at g1
  rw [c1, one_of (j := 2) (by omega), List.getElem?_eq_getElem (by omega)] at g2
  obtain ⟨s, e0, -, -⟩ := DataW.trod_string Try.underlying9 g0
  obtain ⟨x, e1, -, wx⟩ := DataW.trod_int Try.underlying22 g1
  obtain ⟨y, e2, -, wy⟩ := DataW.trod_int Try.underlying22 g2
  obtain ⟨x, rfl, hx⟩ := is64_nat wx
  obtain ⟨y, rfl, hy⟩ := is64_nat wy
  simp only [List.cons.injEq, and_true] at e0 e1 e2
  refine ⟨s, x, y, ?_, hx, hy⟩
  congr 1
  apply Array.ext'
  rw [List.ext_getElem_iff]
  refine ⟨by simpa using hsz, fun i h1 h2 => ?_⟩
  have : i = 0 ∨ i = 1 ∨ i = 2 := by omega
  rcases this with rfl | rfl | rfl
  · simpa using e0
  · simpa using e1
  · simpa using e2
end Go.Proofs.Ytdlfnmkdidiafaa
