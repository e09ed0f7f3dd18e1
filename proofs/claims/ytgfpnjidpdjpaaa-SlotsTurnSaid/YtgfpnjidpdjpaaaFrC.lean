/- Contract of frame.Chunks: a row of the text's parts. -/
import Derived.Test.YtgfpnjidpdjpaaaFrR
import Derived.Test.YtgfpnjidpdjpaaaGnS
namespace Go.Proofs.Ytgfpnjidpdjpaaa
open Go.ChangeShapes Go.WideShapes Go.ChangeAt Go.RowKit Go.Joins
set_option maxRecDepth 100000
set_option linter.unusedVariables false
set_option linter.unusedSimpArgs false
theorem chunks_len (l : List UInt8) : (chunks l).length ≤ l.length + 1 := by
  induction h : l.length using Nat.strongRecOn generalizing l with
  | _ n ih =>
    by_cases c : 43 < l.length
    · rw [chunks_long c, List.length_cons]
      have := ih (l.drop 43).length (by simp; omega) (l.drop 43) rfl
      simp at this
      omega
    · rw [chunks_short (by omega)]; simp
theorem chunks_ne (l : List UInt8) : chunks l ≠ [] := by
  by_cases c : 43 < l.length
  · rw [chunks_long c]; simp
  · rw [chunks_short (by omega)]; simp
theorem ext_head (s : ByteArray) (n : Nat) : s.extract 0 n = mkB (s.data.toList.take n) := mkB_ext (by rw [ext_list]; simp)
theorem ext_tail (s : ByteArray) (n : Nat) : s.extract n s.size = mkB (s.data.toList.drop n) := mkB_ext (by rw [ext_list, List.take_of_length_le (by simp)])
def ChRel (w : World) (l : List UInt8) (g : Nat) (s0 s3 : Value) (wx : World) : Prop :=
  ∃ ds r, g = r.length ∧ s0 = .string (mkB r) ∧ chunks l = ds ++ chunks r ∧ Strs w.heap.size wx s3 ds ∧ Below w.heap.size w wx
set_option maxRecDepth 100000 in
set_option maxHeartbeats 4000000 in
theorem chunks_any (s : ByteArray) (w : World) (hs : s.size ≤ 1000) :
    Calls Try.prog 35 #[.string s] w fun r w' => (∃ v, r = .returned v ∧ Strs w.heap.size w' v (chunks s.data.toList)) ∧ Below w.heap.size w w' := by
  obtain ⟨wm, hmk, sm, bm⟩ := make_strs w.heap.size (s.size / 43 + 1) ((s.size : Int) / 43 + 1) (by omega) (by omega) w (Nat.le_refl _)
  have SM := Lib.hid sm
  have BM := Lib.hid bm
  have cl := chunks_len s.data.toList
  rw [← size_list] at cl
  have hS := Lib.hid (mkB_of s).symm
  have zz := Lib.hid (size_list s)
  generalize s.data.toList = l at *
  clear sm bm
  have t1 : (s.size : Int).tdiv 43 = (s.size : Int) / 43 := Int.tdiv_eq_ediv_of_nonneg (by omega)
  go_enter Try.func35, Try.ntmps35
  go_wp2_with fail
  go_step3
  go_wp2_with fail
  go_step3
  go_wp2_with fail
  go_loopg [0, 3] (s.size) (ChRel w l)
  case atStart => exact ⟨[], l, by rw [zz.out], by rw [hS.out], rfl, SM.out, BM.out⟩
  case round =>
    clear SM BM hmk
    obtain ⟨ds, r, rfl, rfl, hc, st, bl⟩ := hrel
    have dl : ds.length ≤ 1001 := by have := congrArg List.length hc; rw [List.length_append] at this; omega
    have zr := mkB_size r
    have ST := Lib.hid st
    have BL := Lib.hid bl
    clear st bl
    have e1 := ext_head (mkB r) 43
    have e2 := ext_tail (mkB r) 43
    rw [mkB_data] at e1
    rw [mkB_data, mkB_size] at e2
    have CC := Lib.hid hc
    clear hc
    rcases Nat.lt_or_ge 43 r.length with hlt | hge
    · have CL := Lib.hid (fun w => clone_any (mkB (r.take 43)) w (by rw [mkB_size]; simp; omega))
      have zr' : 43 < (mkB r).size := by omega
      have zi : (43 : Int) < ((mkB r).size : Int) := by omega
      have nx : Hid (chunks l = (ds ++ [r.take 43]) ++ chunks (r.drop 43)) := Lib.hid (by rw [CC.out, chunks_long hlt]; simp)
      have dr : (r.drop 43).length = r.length - 43 := by simp
      generalize mkB r = R at *
      generalize hX : mkB (r.take 43) = X at *
      generalize hY : mkB (r.drop 43) = Y at *
      go_wp2_with fail
      (with_reducible refine (CL.out _).mono ?_)
      rintro e w1 ⟨rfl, b1⟩
      have s1 := ST.out.call b1
      have b01 := BL.out.trans (b1.mono BL.out.size)
      obtain ⟨v', w', hap, s2, b2⟩ := strs_append w.heap.size w1 _ ds (r.take 43) s1 b01.size (by omega)
      rw [hX] at hap
      have N := Lib.hid (show ChRel w l (r.drop 43).length (.string (mkB (r.drop 43))) v' w' from ⟨_, _, rfl, rfl, nx.out, s2, b01.trans b2⟩)
      rw [hY] at N
      clear s1 b01 s2 b2 b1 CL nx hX hY ST BL CC
      go_wp2_with (at_builtin; refine Lib.wpList_append_run _ rfl _ _ _ _ rfl _ _ rfl rfl _ _ hap ?_)
      go_roundg (r.drop 43).length
      case measure => omega
      case rel => exact N.out
    · have CL := Lib.hid (fun w => clone_any (mkB r) w (by rw [mkB_size]; omega))
      have zi : ((mkB r).size : Int) ≤ 43 := by omega
      generalize hX : mkB r = X at *
      go_wp2_with fail
      (with_reducible refine (CL.out _).mono ?_)
      rintro e w1 ⟨rfl, b1⟩
      have s1 := ST.out.call b1
      have b01 := BL.out.trans (b1.mono BL.out.size)
      obtain ⟨v', w', hap, s2, b2⟩ := strs_append w.heap.size w1 _ ds r s1 b01.size (by omega)
      rw [hX] at hap
      have N := Lib.hid (show Strs w.heap.size w' v' (chunks l) from by rw [CC.out, chunks_short hge]; exact s2)
      have BN := Lib.hid (b01.trans b2)
      clear s1 b01 s2 b2 b1 CL hX ST BL CC
      go_wp2_with (at_builtin; refine Lib.wpList_append_run _ rfl _ _ _ _ rfl _ _ rfl rfl _ _ hap ?_)
      simp only [Exit.noGoto]
      go_ret
      exact ⟨⟨_, rfl, N.out⟩, BN.out⟩
end Go.Proofs.Ytgfpnjidpdjpaaa
