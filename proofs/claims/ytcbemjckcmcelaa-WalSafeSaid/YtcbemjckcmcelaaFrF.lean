/- The document's side of layer 4: Chunks, Same. -/
import Derived.Test.YtcbemjckcmcelaaFrE
import Derived.BigQuiet
namespace Go.Proofs.Ytcbemjckcmcelaa
open Go.ChangeShapes Go.WideShapes Go.ChangeAt Go.RowKit Go.Joins
set_option maxRecDepth 100000
set_option linter.unusedVariables false
set_option linter.unusedSimpArgs false
def SmRel (w : World) (n : Nat) (g : Nat) (s5 : Value) (wx : World) : Prop := ∃ i : Nat, i + g = n ∧ s5 = .int .i64 (i : Int) ∧ ∃ q, wx = w.drewN q
theorem drewN_cell (w : World) (q : Nat) (a : Addr) : (w.drewN q).cell? a = w.cell? a := rfl
set_option maxRecDepth 100000 in
set_option maxHeartbeats 4000000 in
/-- rows of the same texts are the same -/
theorem same_rf (B C : Nat) (v u : Value) (ds : List (List UInt8)) (w : World) (hv : Strs B w v ds) (hu : Strs C w u ds) (hne : ds ≠ []) (hn : ds.length ≤ 100000) :
    Calls Try.prog 16 #[v, u] w fun r w' => r = .returned (.bool true) ∧ Below w.heap.size w w' := by
  obtain ⟨g, cap, rfl, -, -, hg⟩ := hv.cell hne
  obtain ⟨k, cap2, rfl, -, -, hk⟩ := hu.cell hne
  clear hv hu
  have HG := Lib.hid hg
  have HK := Lib.hid hk
  clear hg hk
  have n1 : ((ds.length : Int) != (ds.length : Int)) = false := by simp
  go_enter Try.func16, Try.ntmps16
  go_wp2
  go_loopg [5] (ds.length) (SmRel w ds.length)
  case atStart => exact ⟨0, by omega, rfl, 0, rfl⟩
  case round =>
    obtain ⟨i, hi, rfl, q, rfl⟩ := hrel
    rcases Nat.lt_or_ge i ds.length with hlt | hge
    · have c1 : w.cell? ⟨g, i, none⟩ = some (.string (mkB ds[i])) := HG.out i hlt
      have c2 : w.cell? ⟨k, i, none⟩ = some (.string (mkB ds[i])) := HK.out i hlt
      have il : (i : Int) < (ds.length : Int) := by omega
      have n2 : ((mkB ds[i]).toList != (mkB ds[i]).toList) = false := by simp
      generalize mkB ds[i] = X at *
      clear HG HK
      go_wp2_with fail
      go_region
      all_goals
        go_wp2
        go_roundg (gk - 1)
        case measure => omega
        case rel => exact ⟨i + 1, by omega, rfl, q + 1, rfl⟩
    · obtain rfl : i = ds.length := by omega
      go_wp2
      go_ret
      exact ⟨rfl, ⟨rfl, rfl, rfl, Nat.le_refl _, fun _ _ => rfl⟩⟩
end Go.Proofs.Ytcbemjckcmcelaa
