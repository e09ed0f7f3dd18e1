/- The document's side of layer 4: Chunks, Same. -/
import Derived.Test.YtdlfnmkdidiafaaFrE
import Derived.BigQuiet
namespace Go.Proofs.Ytdlfnmkdidiafaa
open Go.ChangeShapes Go.WideShapes Go.ChangeAt Go.RowKit Go.Joins
set_option linter.unusedVariables false
set_option linter.unusedSimpArgs false
set_option maxRecDepth 100000 in
set_option maxHeartbeats 4000000 in
theorem chunks_rf (s : ByteArray) (w : World) (hs : s.size ≤ 1000) :
    Calls Try.prog 14 #[.string s] w fun r w' => (∃ v, r = .returned v ∧ Strs w.heap.size w' v (chunks s.data.toList)) ∧ Below w.heap.size w w' := by
  have cl := chunks_len s.data.toList
  rw [← size_list] at cl
  have hS := Lib.hid (mkB_of s).symm
  have zz := Lib.hid (size_list s)
  generalize s.data.toList = l at *
  go_enter Try.func14, Try.ntmps14
  go_wp2
  go_loopg [0, 3] (s.size) (ChRel w l)
  case atStart => exact ⟨[], l, by rw [zz.out], by rw [hS.out], rfl, strs_nil _ _, Below.refl _ _⟩
  case round =>
    obtain ⟨ds, r, rfl, rfl, hc, st, bl⟩ := hrel
    have dl : ds.length ≤ 1001 := by have := congrArg List.length hc; rw [List.length_append] at this; omega
    have zr := mkB_size r
    have ST := Lib.hid st
    have BL := Lib.hid bl
    clear st bl
    have e1 := ext_head (mkB r) 43
    have e2 := ext_tail (mkB r) 43
    rw [mkB_data] at e1
    rw [mkB_data, mkB_size] at e2
    have CC := Lib.hid hc
    clear hc
    rcases Nat.lt_or_ge 43 r.length with hlt | hge
    · have zr' : 43 < (mkB r).size := by omega
      have zi : (43 : Int) < ((mkB r).size : Int) := by omega
      have nx : Hid (chunks l = (ds ++ [r.take 43]) ++ chunks (r.drop 43)) := Lib.hid (by rw [CC.out, chunks_long hlt]; simp)
      have dr : (r.drop 43).length = r.length - 43 := by simp
      obtain ⟨v', w', hap, s2, b2⟩ := strs_append w.heap.size wr _ ds (r.take 43) ST.out BL.out.size (by omega)
      generalize mkB r = R at *
      generalize hX : mkB (r.take 43) = X at *
      generalize hY : mkB (r.drop 43) = Y at *
      have N := Lib.hid (show ChRel w l (r.drop 43).length (.string (mkB (r.drop 43))) v' w' from ⟨_, _, rfl, rfl, nx.out, s2, BL.out.trans b2⟩)
      rw [hY] at N
      clear s2 b2 nx hX hY ST BL CC
      go_wp2_with (at_builtin; refine Lib.wpList_append_run _ rfl _ _ _ _ rfl _ _ rfl rfl _ _ hap ?_)
      go_roundg (r.drop 43).length
      case measure => omega
      case rel => exact N.out
    · have zi : ((mkB r).size : Int) ≤ 43 := by omega
      obtain ⟨v', w', hap, s2, b2⟩ := strs_append w.heap.size wr _ ds r ST.out BL.out.size (by omega)
      generalize hX : mkB r = X at *
      have N := Lib.hid (show Strs w.heap.size w' v' (chunks l) from by rw [CC.out, chunks_short hge]; exact s2)
      have BN := Lib.hid (BL.out.trans b2)
      clear s2 b2 hX ST BL CC
      go_wp2_with (at_builtin; refine Lib.wpList_append_run _ rfl _ _ _ _ rfl _ _ rfl rfl _ _ hap ?_)
      go_ret
      exact ⟨⟨_, rfl, N.out⟩, BN.out⟩
def SmRel (w : World) (n : Nat) (g : Nat) (s5 : Value) (wx : World) : Prop := ∃ i : Nat, i + g = n ∧ s5 = .int .i64 (i : Int) ∧ ∃ q, wx = w.drewN q
theorem drewN_cell (w : World) (q : Nat) (a : Addr) : (w.drewN q).cell? a = w.cell? a := rfl
set_option maxRecDepth 100000 in
set_option maxHeartbeats 4000000 in
/-- rows of the same texts are the same -/
theorem same_rf (B C : Nat) (v u : Value) (ds : List (List UInt8)) (w : World) (hv : Strs B w v ds) (hu : Strs C w u ds) (hne : ds ≠ []) (hn : ds.length ≤ 100000) :
    Calls Try.prog 12 #[v, u] w fun r w' => r = .returned (.bool true) ∧ Below w.heap.size w w' := by
  obtain ⟨g, cap, rfl, -, -, hg⟩ := hv.cell hne
  obtain ⟨k, cap2, rfl, -, -, hk⟩ := hu.cell hne
  clear hv hu
  have HG := Lib.hid hg
  have HK := Lib.hid hk
  clear hg hk
  have n1 : ((ds.length : Int) != (ds.length : Int)) = false := by simp
  go_enter Try.func12, Try.ntmps12
  go_wp2
  go_loopg [5] (ds.length) (SmRel w ds.length)
  case atStart => exact ⟨0, by omega, rfl, 0, rfl⟩
  case round =>
    obtain ⟨i, hi, rfl, q, rfl⟩ := hrel
    rcases Nat.lt_or_ge i ds.length with hlt | hge
    · have c1 : w.cell? ⟨g, i, none⟩ = some (.string (mkB ds[i])) := HG.out i hlt
      have c2 : w.cell? ⟨k, i, none⟩ = some (.string (mkB ds[i])) := HK.out i hlt
      have il : (i : Int) < (ds.length : Int) := by omega
      have n2 : ((mkB ds[i]).toList != (mkB ds[i]).toList) = false := by simp
      generalize mkB ds[i] = X at *
      clear HG HK
      go_wp2_with fail
      go_region
      all_goals
        go_wp2
        go_roundg (gk - 1)
        case measure => omega
        case rel => exact ⟨i + 1, by omega, rfl, q + 1, rfl⟩
    · obtain rfl : i = ds.length := by omega
      go_wp2
      go_ret
      exact ⟨rfl, ⟨rfl, rfl, rfl, Nat.le_refl _, fun _ _ => rfl⟩⟩
end Go.Proofs.Ytdlfnmkdidiafaa
