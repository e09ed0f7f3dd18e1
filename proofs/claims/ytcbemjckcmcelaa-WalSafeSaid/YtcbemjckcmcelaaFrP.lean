/- Contracts of package frame's bytesOf and put. -/
import Derived.Test.YtcbemjckcmcelaaFrA
namespace Go.Proofs.Ytcbemjckcmcelaa
open Go.ChangeShapes Go.WideShapes Go.ChangeAt Go.RowKit Go.Joins
set_option maxRecDepth 100000
set_option linter.unusedVariables false
set_option linter.unusedSimpArgs false
/-- the first i of eight bytes stand -/
def part8 (n i : Nat) : List UInt8 := (be 8 n).take i ++ List.replicate (8 - i) 0
theorem part8_zero (n : Nat) : part8 n 0 = List.replicate 8 0 := rfl
theorem part8_all (n : Nat) : part8 n 8 = be 8 n := by unfold part8; rw [List.take_of_length_le (by rw [be_length]; omega)]; simp
theorem part8_set (n : Nat) {i : Nat} (h : i < 8) : (part8 n i).set i (UInt8.ofNat (n / 256 ^ (7 - i) % 256)) = part8 n (i + 1) := by
  have hl : i < (be 8 n).length := by rw [be_length]; exact h
  unfold part8
  rw [List.take_succ_eq_append_getElem hl, be_get hl]
  have e : List.replicate (8 - i) (0 : UInt8) = 0 :: List.replicate (8 - (i + 1)) 0 := by
    rw [show 8 - i = (8 - (i + 1)) + 1 by omega, List.replicate_succ]
  rw [e, List.set_append_right _ _ (by simp; omega)]
  have e2 : i - (List.take i (be 8 n)).length = 0 := by simp [be_length]; omega
  rw [e2]
  simp
theorem zero8 : (∀ w, (zeroValue 119).run Try.prog w = .ok (.agg (Lib.byteCells (List.replicate 8 0)).toArray) w) ∧ (Try.prog.info? 119).map (·.size) = some 8 := zero_of_info (by kernel_rfl)
def ByRel (w : World) (n b g : Nat) (s5 : Value) (wx : World) : Prop := ∃ i : Nat, i + g = 8 ∧ s5 = .int .i64 (i : Int) ∧ RowB wx b 119 (part8 n i) ∧ Below w.heap.size w wx
theorem by_next {w wr : World} {n b i g : Nat} {x : Int} (hi : i + g = 8) (hg : 0 < g) (hb : w.heap.size ≤ b) (h : RowB wr b 119 (part8 n i)) (k : Below w.heap.size w wr) (e : x = ((n / 256 ^ (7 - i) % 256 : Nat) : Int)) (i' : Int) (ei : i' = ((i + 1 : Nat) : Int)) :
    ByRel w n b (g - 1) (.int .i64 i') (wr.setCell ⟨b, i, none⟩ (.int .u8 x)) := by
  subst ei
  refine ⟨i + 1, by omega, rfl, ?_, k.setCell hb _⟩
  rw [← part8_set n (by omega)]
  exact h.set (by rw [e, UInt8.toNat_ofNat']; omega)
theorem arr8 : Try.prog.arrayLen 119 = 8 := by kernel_rfl
theorem arr8u : Try.prog.underlying 119 = some (.array (Try.prog.arrayLen 119) (Try.prog.elem 119)) := by kernel_rfl
theorem arr8e (w : World) : (sizeOf (Try.prog.elem 119)).run Try.prog w = .ok 1 w := by kernel_rfl
theorem slice8 (b : Nat) (w : World) : (Instr.sliceAt 119 (.pointer (some ⟨b, 0, none⟩)) none none none).run Try.prog w = .ok (.slice (some ⟨b, 0, none⟩) 8 8) w := by
  rw [run_sliceAt_array_all w _ _ arr8u, arr8e]
  simp only [Result.andThen, slicedAt, arr8]
  simp [Addr.add]
set_option maxRecDepth 100000 in
set_option maxHeartbeats 4000000 in
theorem bytes8 (n : Nat) (w : World) (hn : n < 18446744073709551616) :
    Calls Try.prog 64 #[.int .u64 (n : Int)] w fun e w' => e = .returned (.string (mkB (be 8 n))) ∧ Below w.heap.size w w' := by
  have z := zero8.1
  have r0 := Lib.hid (rowB_new w (List.replicate 8 0) 119)
  have b0 := Lib.hid ((Below.refl w.heap.size w).alloc (Nat.le_refl _) (.cells (Lib.byteCells (List.replicate 8 0)).toArray 119))
  have s8 := slice8
  have lw : w.heap.size < (w.alloc (.cells (Lib.byteCells (List.replicate 8 0)).toArray 119)).heap.size := by simp
  generalize (Lib.byteCells (List.replicate 8 0)).toArray = M at *
  go_enter Try.func64, Try.ntmps64
  go_wp2
  go_loopg [5] 8 (ByRel w n w.heap.size)
  case atStart => exact ⟨0, rfl, rfl, r0.out, b0.out⟩
  case round =>
    clear r0 b0 z
    obtain ⟨i, hk, rfl, hr, hB⟩ := hrel
    have HR := Lib.hid hr
    have HB := Lib.hid hB
    rcases Nat.lt_or_ge i 8 with hlt | hge
    · have hl : i < (part8 n i).length := by simp [part8, be_length]; omega
      have c := hr.cell hl
      have f := hr.frozen i
      generalize ((part8 n i)[i].toNat : Int) = old at *
      clear hr hB s8
      have : i = 0 ∨ i = 1 ∨ i = 2 ∨ i = 3 ∨ i = 4 ∨ i = 5 ∨ i = 6 ∨ i = 7 := by omega
      rcases this with rfl | rfl | rfl | rfl | rfl | rfl | rfl | rfl
      all_goals
        go_wp2
        go_roundg (gk - 1)
        case measure => omega
        case rel => exact by_next hk (by omega) (Nat.le_refl _) HR.out HB.out (by first | (simp; done) | (simp; omega)) _ rfl
    · obtain rfl : i = 8 := by omega
      rw [part8_all] at hr
      have hcv := hr.text 0 8 8 (by rw [be_length]; omega)
      rw [List.drop_zero, List.take_of_length_le (by rw [be_length]; omega)] at hcv
      clear hr hB
      go_wp2
      go_ret
      exact ⟨rfl, HB.out⟩
/-- parts in a row in memory -/
def PartsAt (w : World) (q : Nat) (ps : List (List UInt8)) : Prop := ∀ i (h : i < ps.length), w.cell? ⟨q, i, none⟩ = some (.string (mkB ps[i]))
def lenTo (ps : List (List UInt8)) (i : Nat) : Nat := (ps.take i).flatten.length
theorem lenTo_zero (ps : List (List UInt8)) : lenTo ps 0 = 0 := rfl
theorem flat_succ (ps : List (List UInt8)) {i : Nat} (h : i < ps.length) : (ps.take (i + 1)).flatten = (ps.take i).flatten ++ ps[i] := by
  rw [List.take_succ_eq_append_getElem h, List.flatten_append, List.flatten_cons, List.flatten_nil, List.append_nil]
theorem lenTo_succ (ps : List (List UInt8)) {i : Nat} (h : i < ps.length) : lenTo ps (i + 1) = lenTo ps i + ps[i].length := by
  unfold lenTo; rw [flat_succ ps h]; simp
/-- the row when the first i parts stand -/
def putTo (l : List UInt8) (off : Nat) (ps : List (List UInt8)) (i : Nat) : List UInt8 := l.take off ++ (ps.take i).flatten ++ l.drop (off + lenTo ps i)
theorem putTo_zero (l : List UInt8) (off : Nat) (ps : List (List UInt8)) : putTo l off ps 0 = l := by simp [putTo, lenTo]
theorem putTo_length {l : List UInt8} {off : Nat} {ps : List (List UInt8)} {i : Nat} (h : off + lenTo ps i ≤ l.length) : (putTo l off ps i).length = l.length := by
  unfold putTo lenTo at *
  simp only [List.length_append, List.length_take, List.length_drop]
  omega
theorem putTo_succ {l : List UInt8} {off : Nat} {ps : List (List UInt8)} {i : Nat} (h : i < ps.length) (hf : off + lenTo ps (i + 1) ≤ l.length) :
    (putTo l off ps i).take (off + lenTo ps i) ++ ps[i] ++ (putTo l off ps i).drop (off + lenTo ps i + ps[i].length) = putTo l off ps (i + 1) := by
  have e := lenTo_succ ps h
  have hh : (l.take off ++ (ps.take i).flatten).length = off + lenTo ps i := by
    unfold lenTo at *
    simp only [List.length_append, List.length_take]; omega
  unfold putTo
  rw [List.take_left' hh, ← hh, List.drop_append, hh, List.drop_eq_nil_of_le (by omega), List.nil_append, List.drop_drop, flat_succ ps h, e]
  simp only [List.append_assoc]
  congr 4
  omega
/-- a slice of which so much is left: where there is any, it lies at that place -/
def Left (g off L d : Nat) (v : Value) : Prop := ∃ ao, v = .slice ao (L - d) (L - d) ∧ (d < L → ao = some ⟨g, off + d, none⟩)
theorem elemB : Try.prog.underlying 55 = some (.slice (Try.prog.elem 55)) := by kernel_rfl
theorem elemBs (w : World) : (sizeOf (Try.prog.elem 55)).run Try.prog w = .ok 1 w := by kernel_rfl
theorem left_cut {g off L d : Nat} (k : Nat) (hk : d + k ≤ L) (hd : d < L) :
    ∃ v', Left g off L (d + k) v' ∧ ∀ w : World, (Instr.sliceAt 55 (.slice (some ⟨g, off + d, none⟩) (L - d) (L - d)) (some (.int .i64 (k : Int))) none none).run Try.prog w = .ok v' w := by
  refine ⟨sliced (some ⟨g, off + d, none⟩) k (L - d) (L - d) 1, ?_, fun w => ?_⟩
  · unfold sliced
    refine ⟨_, by rw [show L - d - k = L - (d + k) by omega], fun h => ?_⟩
    rw [if_neg (by omega), Option.map_some, addr_add]
    simp [Nat.add_assoc]
  · rw [run_sliceAt_slice w _ _ _ _ _ elemB, run_slice_l w _ _ _ _ elemB _ _ (by omega) (by omega), elemBs]
    rfl
def PutRel (w : World) (g off L : Nat) (T : TypeId) (l : List UInt8) (ps : List (List UInt8)) (k : Nat) (s0 s8 : Value) (wx : World) : Prop :=
  ∃ i : Nat, i + k = ps.length ∧ s8 = .int .i64 (i : Int) ∧ Left g off L (lenTo ps i) s0 ∧ RowB wx g T (putTo l off ps i) ∧ Apart g w wx
theorem put_next {w wr : World} {g off L : Nat} {T : TypeId} {l : List UInt8} {ps : List (List UInt8)} {i k : Nat} {v' : Value} (h : i < ps.length) (hk : i + k = ps.length) (hf : off + lenTo ps (i + 1) ≤ l.length) (hl : Left g off L (lenTo ps i + ps[i].length) v') (hr : RowB wr g T (putTo l off ps i)) (ha : Apart g w wr) :
    PutRel w g off L T l ps (k - 1) v' (.int .i64 ((i : Int) + 1)) (wr.setRow g (Lib.byteCells (putTo l off ps (i + 1))).toArray) :=
  ⟨i + 1, by omega, rfl, by rw [lenTo_succ ps h]; exact hl, hr.put _, ha.trans (hr.apart_put _)⟩
set_option maxRecDepth 100000 in
set_option maxHeartbeats 4000000 in
theorem put_any (g off L q : Nat) (T : TypeId) (l : List UInt8) (ps : List (List UInt8)) (w : World) (hr : RowB w g T l) (hp : PartsAt w q ps) (hq : q ≠ g) (hlen : ps.length ≤ 1000) (hfit : ∀ i, i < ps.length → lenTo ps i < L) (htot : ∀ i, i ≤ ps.length → lenTo ps i ≤ L) (hL : off + L ≤ l.length) (hL2 : L ≤ 1000) (h0 : 0 < L) (hqz : q < w.heap.size) :
    Calls Try.prog 67 #[.slice (some ⟨g, off, none⟩) L L, .slice (some ⟨q, 0, none⟩) ps.length ps.length] w fun e w' => e = .returned (.tuple #[]) ∧ RowB w' g T (putTo l off ps ps.length) ∧ Apart g w w' := by
  have R0 := Lib.hid hr
  have HP := Lib.hid hp
  have HF := Lib.hid hfit
  have HT := Lib.hid htot
  clear hr hp hfit htot
  have lz : lenTo ps 0 = 0 := rfl
  go_enter Try.func67, Try.ntmps67
  go_wp2
  go_loopg [0, 8] (ps.length) (PutRel w g off L T l ps)
  case atStart => exact ⟨0, by omega, rfl, ⟨_, rfl, fun _ => rfl⟩, by rw [putTo_zero]; exact R0.out, Apart.refl _ _⟩
  case round =>
    clear R0
    obtain ⟨i, hk, rfl, ⟨ao, rfl, hao⟩, hr, ha⟩ := hrel
    have HR := Lib.hid hr
    have HA := Lib.hid ha
    rcases Nat.lt_or_ge i ps.length with hlt | hge
    · obtain rfl := hao (HF.out i hlt)
      have hd := HF.out i hlt
      have ht := HT.out (i + 1) (by omega)
      have e := lenTo_succ ps hlt
      have c : wr.cell? ⟨q, i, none⟩ = some (.string (mkB ps[i])) := by rw [ha.cell (p := ⟨q, i, none⟩) hqz hq]; exact HP.out i hlt
      have ok : off + lenTo ps i ≤ l.length := by omega
      have cp := hr.copy (mkB ps[i]) (off + lenTo ps i) (L - lenTo ps i) (L - lenTo ps i) (by rw [mkB_size]; omega) (by rw [mkB_size, putTo_length ok]; omega)
      rw [mkB_data, mkB_size, putTo_succ hlt (by omega)] at cp
      obtain ⟨v', hv, hc⟩ := left_cut (g := g) (off := off) (L := L) (d := lenTo ps i) ps[i].length (by omega) hd
      have NX := Lib.hid (fun (k : Nat) (hk : i + k = ps.length) => put_next (w := w) (k := k) hlt hk (by omega) hv HR.out HA.out)
      have il : (i : Int) < (ps.length : Int) := by omega
      generalize mkB ps[i] = p at *
      generalize ps[i].length = pl at *
      generalize lenTo ps i = d at *
      generalize (Lib.byteCells (putTo l off ps (i + 1))).toArray = M at *
      clear hr ha hv HF HT e ht HP ok hao
      go_wp2
      go_roundg (gk - 1)
      case measure => omega
      case rel => exact NX.out gk hk
    · obtain rfl : i = ps.length := by omega
      clear hr ha hao HF HT HP
      go_wp2
      go_end0
      exact ⟨rfl, HR.out, HA.out⟩
end Go.Proofs.Ytcbemjckcmcelaa
