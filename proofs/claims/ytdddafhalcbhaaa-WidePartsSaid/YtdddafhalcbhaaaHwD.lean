/- Contract of wide.Div. -/
import Derived.Test.YtdddafhalcbhaaaHwA
import Derived.Test.YtdddafhalcbhaaaHwDM
import Derived.Deep.LoopGhost
namespace Go.Proofs.Ytdddafhalcbhaaa
open Go.ChangeShapes Go.WideShapes Go.ChangeAt Go.RowKit Go.Joins
set_option linter.unusedVariables false

def DivRel (w : World) (b d : Int) (qh r0 : Int) (r i : Value) (w' : World) : Prop :=
  ∃ (k : Nat) (R Q : Int), k ≤ 64 ∧ i = .int .i64 (63 - k) ∧ r = .int .u64 R ∧ DivNum b d r0 k R Q ∧
    w'.cell? ⟨w.heap.size, 1, none⟩ = some (.int .u64 b) ∧ w'.cell? ⟨w.heap.size + 1, 0, none⟩ = some (.int .u64 qh) ∧ w'.cell? ⟨w.heap.size + 1, 1, none⟩ = some (.int .u64 Q) ∧
    w'.frozen? ⟨w.heap.size + 1, 0, none⟩ = false ∧ w'.frozen? ⟨w.heap.size + 1, 1, none⟩ = false ∧ Below w.heap.size w w'

theorem div_any (a b d : Int) (w : World) (ha : Is64 a) (hb : Is64 b) (hd : Is64 d) (h0 : (d == 0) = false) :
    Calls Try.prog 20 #[.agg #[.int .u64 a, .int .u64 b], .int .u64 d] w fun e w' => e = .returned (.tuple #[.agg #[.int .u64 (hi (V a b / d)), .int .u64 (lo (V a b / d))], .int .u64 (V a b % d), .bool true]) ∧ Below w.heap.size w w' := by
  have hne : ¬ d = 0 := by simpa using h0
  have ha0 : 0 ≤ a := ha.1
  have hd0 : 1 ≤ d := by have := hd.1; omega
  go_enter Try.func20, Try.ntmps20
  go_wp2
  go_region
  go_wp2
  go_loopw [5, 7] (DivRel w b d (IntKind.u64.wrap (a.tdiv d)) (a % d)) (fun _ i _ => (intOf i + 1).toNat)
  case atStart =>
    refine ⟨0, _, _, by omega, rfl, rfl, div_start ha hb hd0, ?_, ?_, ?_, ?_, ?_, ?_⟩
    · simp [go_sem]
    · simp [go_sem]
    · simp [go_sem]
    · simp [go_sem]
    · simp [go_sem]
    · exact (below_alloc2 _ _ _).drew
  case round =>
    obtain ⟨k, R, Q, hk, rfl, rfl, hN, hc1, hc2, hc3, hf1, hf2, hB⟩ := hrel
    have hBs := hB.size
    by_cases hlt : k < 64
    · have hi0 : (0 : Int) ≤ 63 - k := by omega
      have hQ := Lib.hid (div_Q64 hk hN)
      go_wp2
      · go_region
        go_wp2
        go_roundw
        case rel =>
          refine ⟨k + 1, _, _, by omega, by go_num, rfl, div_sub' hb hd hlt hN hQ.out (.inl (by assumption)), ?_, ?_, ?_, ?_, ?_, ?_⟩
          · simp [go_sem, hc1]
          · simp [go_sem, hc2]
          · simp [go_sem, hc3]
          · simp [go_sem, hf1]
          · simp [go_sem, hf2]
          · exact (hB.setCell (by simp) _).drew
        case measure => simp [intOf]; omega
      · go_region
        go_wp2
        go_roundw
        case rel =>
          refine ⟨k + 1, _, _, by omega, by go_num, rfl, div_sub' hb hd hlt hN hQ.out (by rename_i hx; simpa using hx), ?_, ?_, ?_, ?_, ?_, ?_⟩
          · simp [go_sem, hc1]
          · simp [go_sem, hc2]
          · simp [go_sem, hc3]
          · simp [go_sem, hf1]
          · simp [go_sem, hf2]
          · exact (hB.setCell (by simp) _).drew
        case measure => simp [intOf]; omega
      · go_roundw
        case rel =>
          rename_i hx hy
          exact ⟨k + 1, _, _, by omega, by go_num, rfl, div_keep hb hd hlt hN rfl hx hy.2, hc1, hc2, hc3, hf1, hf2, hB⟩
        case measure => simp [intOf]; omega
    · obtain rfl : k = 64 := by omega
      obtain ⟨e1, e2, e3⟩ := div_end ha hb hd0 hN
      have hE := Lib.hid e1
      have hE2 := Lib.hid e2
      have hE3 := Lib.hid e3
      clear e1 e2 e3
      go_wp2
      refine bodyPost_ret (v := .tuple #[.agg #[.int .u64 (hi (V a b / d)), .int .u64 (lo (V a b / d))], .int .u64 (V a b % d), .bool true]) ?_ rfl ⟨rfl, by repeat (first | exact hB | refine Below.setCell ?_ (by simp; try omega) _)⟩
      rw [← hE.out, ← hE2.out, ← hE3.out]
      simp [results, Try.results20, go_sem, hc2, hc3]

theorem div_zero (a b : Int) (w : World) :
    Calls Try.prog 20 #[.agg #[.int .u64 a, .int .u64 b], .int .u64 0] w fun e w' => e = .returned (.tuple #[.agg #[.int .u64 0, .int .u64 0], .int .u64 0, .bool false]) ∧ Below w.heap.size w w' := by
  go_enter Try.func20, Try.ntmps20
  go_wp2
  exact bodyPost_ret (v := .tuple #[.agg #[.int .u64 0, .int .u64 0], .int .u64 0, .bool false]) (by simp [results, Try.results20, go_sem]) rfl ⟨rfl, by repeat (first | exact Below.refl _ _ | refine Below.setCell ?_ (by simp; try omega) _ | refine Below.alloc ?_ (by simp; try omega) _)⟩
end Go.Proofs.Ytdddafhalcbhaaa
