/- Contract of frame.Make: a cell's sector. -/
import Derived.Test.YtcbemjckcmcelaaFrP
import Derived.Deep.RegionHeld3
import Derived.Deep.DeepCutAuto
namespace Go.Proofs.Ytcbemjckcmcelaa
open Go.ChangeShapes Go.WideShapes Go.ChangeAt Go.RowKit Go.Joins
set_option maxRecDepth 100000
set_option linter.unusedVariables false
set_option linter.unusedSimpArgs false
/-- a cell in memory, and nothing of what was there has turned -/
theorem h3_call {w0 w w' : World} {b : Nat} {x y z : Value} (h : w.cell? ⟨b, 0, none⟩ = some x ∧ w.cell? ⟨b, 1, none⟩ = some y ∧ w.cell? ⟨b, 2, none⟩ = some z ∧ Below w0.heap.size w0 w) (hb : Below w.heap.size w w') :
    w'.cell? ⟨b, 0, none⟩ = some x ∧ w'.cell? ⟨b, 1, none⟩ = some y ∧ w'.cell? ⟨b, 2, none⟩ = some z ∧ Below w0.heap.size w0 w' :=
  ⟨carry hb h.1, carry hb h.2.1, carry hb h.2.2.1, h.2.2.2.trans (hb.mono h.2.2.2.size)⟩
theorem h3_apart {w0 w w' : World} {b t : Nat} {x y z : Value} (h : w.cell? ⟨b, 0, none⟩ = some x ∧ w.cell? ⟨b, 1, none⟩ = some y ∧ w.cell? ⟨b, 2, none⟩ = some z ∧ Below w0.heap.size w0 w) (ha : Apart t w w') (hn : b ≠ t) (ht : w0.heap.size ≤ t) :
    w'.cell? ⟨b, 0, none⟩ = some x ∧ w'.cell? ⟨b, 1, none⟩ = some y ∧ w'.cell? ⟨b, 2, none⟩ = some z ∧ Below w0.heap.size w0 w' := by
  have hl := lt_of_cell h.1
  exact ⟨by rw [ha.cell (p := ⟨b, 0, none⟩) hl hn]; exact h.1, by rw [ha.cell (p := ⟨b, 1, none⟩) hl hn]; exact h.2.1, by rw [ha.cell (p := ⟨b, 2, none⟩) hl hn]; exact h.2.2.1, h.2.2.2.trans (ha.below ht h.2.2.2.size)⟩
theorem h3_drew {w0 w : World} {b : Nat} {x y z : Value} (h : w.cell? ⟨b, 0, none⟩ = some x ∧ w.cell? ⟨b, 1, none⟩ = some y ∧ w.cell? ⟨b, 2, none⟩ = some z ∧ Below w0.heap.size w0 w) :
    w.drew.cell? ⟨b, 0, none⟩ = some x ∧ w.drew.cell? ⟨b, 1, none⟩ = some y ∧ w.drew.cell? ⟨b, 2, none⟩ = some z ∧ Below w0.heap.size w0 w.drew := ⟨h.1, h.2.1, h.2.2.1, h.2.2.2.drew⟩
theorem one_byte (g : Nat) (x : Nat) (hx : x < 256) (w : World) (h : w.cell? ⟨g, 0, none⟩ = some (.int .u8 (x : Int))) (cap : Nat) :
    (convert 55 9 (.slice (some ⟨g, 0, none⟩) 1 cap)).run Try.prog w = .ok (.string (mkB [UInt8.ofNat x])) w := by
  have := run_convert_bytes_back (P := Try.prog) w 55 9 5 ⟨g, 0, none⟩ cap [UInt8.ofNat x] Try.underlying55 Try.underlying5 Try.underlying9 (fun j hj => by
    obtain rfl : j = 0 := by simpa using hj
    rw [addr_add]
    simp only [List.getElem_cons_zero, UInt8.toNat_ofNat']
    rw [Nat.mod_eq_of_lt hx]
    exact h)
  exact this
theorem zero64 : (∀ w, (zeroValue 83).run Try.prog w = .ok (.agg (Lib.byteCells (List.replicate 64 0)).toArray) w) ∧ (Try.prog.info? 83).map (·.size) = some 64 := zero_of_info (by kernel_rfl)
theorem arr64 : Try.prog.arrayLen 83 = 64 := by kernel_rfl
theorem arr64u : Try.prog.underlying 83 = some (.array (Try.prog.arrayLen 83) (Try.prog.elem 83)) := by kernel_rfl
theorem arr64e (w : World) : (sizeOf (Try.prog.elem 83)).run Try.prog w = .ok 1 w := by kernel_rfl
theorem slice64 (b : Nat) (w : World) : (Instr.sliceAt 83 (.pointer (some ⟨b, 0, none⟩)) none none none).run Try.prog w = .ok (.slice (some ⟨b, 0, none⟩) 64 64) w := by
  rw [run_sliceAt_array_all w _ _ arr64u, arr64e]
  simp only [Result.andThen, slicedAt, arr64]
  simp [Addr.add]
theorem slice48 (b : Nat) (w : World) : (Instr.sliceAt 83 (.pointer (some ⟨b, 0, none⟩)) (some (.int .i64 48)) none none).run Try.prog w = .ok (.slice (some ⟨b, 48, none⟩) 16 16) w := by
  rw [run_sliceAt_array_l w _ _ arr64u .i64 48 (by omega) (by rw [arr64]; omega), arr64e]
  simp only [Result.andThen, slicedAt, arr64]
  simp [Addr.add]
theorem bytes4 (x : Nat) (w : World) (h : Is32 x) :
    Calls Try.prog 68 #[.int .u32 (x : Int)] w fun e w' => e = .returned (.string (mkB (be 4 x))) ∧ Below w.heap.size w w' := by
  have := bytes_any x w h
  rw [bytesOf_be h] at this
  exact this
/-- the parts of a sector, and where they stand -/
def front (p : List UInt8) (e n : Nat) : List (List UInt8) := [[UInt8.ofNat p.length], be 4 (sumOf p e n), p]
def tail (e n : Nat) : List (List UInt8) := [be 8 e, be 8 n]
theorem front_len {p : List UInt8} (h : p.length ≤ 43) (e n : Nat) (i : Nat) : lenTo (front p e n) i ≤ 48 := by
  unfold lenTo front
  rcases i with _ | _ | _ | i <;> simp [be_length] <;> omega
theorem tail_len (e n : Nat) (i : Nat) : lenTo (tail e n) i ≤ 16 := by
  unfold lenTo tail
  rcases i with _ | _ | i <;> simp [be_length]
theorem tail_less (e n : Nat) {i : Nat} (h : i < 2) : lenTo (tail e n) i < 16 := by
  unfold lenTo tail
  rcases i with _ | _ | i <;> first | (simp [be_length]; done) | omega
def half (p : List UInt8) (e n : Nat) : List UInt8 := putTo (List.replicate 64 0) 0 (front p e n) 3
theorem half_eq {p : List UInt8} (h : p.length ≤ 43) (e n : Nat) : half p e n = [UInt8.ofNat p.length] ++ be 4 (sumOf p e n) ++ p ++ List.replicate (59 - p.length) 0 := by
  have e1 : lenTo (front p e n) 3 = 5 + p.length := by unfold lenTo front; simp [be_length]; omega
  have e2 : ((front p e n).take 3).flatten = [UInt8.ofNat p.length] ++ be 4 (sumOf p e n) ++ p := by unfold front; simp
  unfold half putTo
  rw [e1, e2, List.take_zero, List.nil_append, List.drop_replicate]
  congr 2
  omega
theorem half_length {p : List UInt8} (h : p.length ≤ 43) (e n : Nat) : (half p e n).length = 64 := by
  rw [half_eq h]; simp [be_length]; omega
theorem half_sec {p : List UInt8} (h : p.length ≤ 43) (e n : Nat) : putTo (half p e n) 48 (tail e n) 2 = sec p e n := by
  have h1 : (half p e n).take 48 = [UInt8.ofNat p.length] ++ be 4 (sumOf p e n) ++ p ++ List.replicate (43 - p.length) 0 := by
    rw [half_eq h, show 59 - p.length = (43 - p.length) + 16 by omega, ← List.replicate_append_replicate, ← List.append_assoc, List.take_left' (by simp [be_length]; omega)]
  unfold putTo
  rw [h1, List.drop_eq_nil_of_le (by rw [half_length h]; simp [lenTo, tail, be_length])]
  unfold sec tail
  simp
theorem put_front (g q : Nat) (p : List UInt8) (e n : Nat) (h : p.length ≤ 43) (w : World) (hr : RowB w g 83 (List.replicate 64 0)) (hp : PartsAt w q (front p e n)) (hq : q ≠ g) (hz : q < w.heap.size) :
    Calls Try.prog 67 #[.slice (some ⟨g, 0, none⟩) 64 64, .slice (some ⟨q, 0, none⟩) 3 3] w fun r w' => r = .returned (.tuple #[]) ∧ RowB w' g 83 (half p e n) ∧ Apart g w w' :=
  put_any g 0 64 q _ _ (front p e n) w hr hp hq (by simp [front]) (fun i _ => by have := front_len h e n i; omega) (fun i _ => by have := front_len h e n i; omega) (by simp) (by omega) (by omega) hz
theorem put_tail (g q : Nat) (p : List UInt8) (e n : Nat) (h : p.length ≤ 43) (w : World) (hr : RowB w g 83 (half p e n)) (hp : PartsAt w q (tail e n)) (hq : q ≠ g) (hz : q < w.heap.size) :
    Calls Try.prog 67 #[.slice (some ⟨g, 48, none⟩) 16 16, .slice (some ⟨q, 0, none⟩) 2 2] w fun r w' => r = .returned (.tuple #[]) ∧ RowB w' g 83 (sec p e n) ∧ Apart g w w' := by
  have := put_any g 48 16 q _ _ (tail e n) w hr hp hq (by simp [tail]) (fun i hi => tail_less e n hi) (fun i _ => tail_len e n i) (by rw [half_length h]; omega) (by omega) (by omega) hz
  have e2 : putTo (half p e n) 48 (tail e n) (tail e n).length = sec p e n := half_sec h e n
  rw [e2] at this
  exact this
theorem add_mk (a b : List UInt8) (h : a.length + b.length ≤ 1000000) (w : World) : (Op.stringOp .add (mkB a) (mkB b)).run Try.prog w = .ok (.string (mkB (a ++ b))) w := by
  rw [run_string_add_sum (a := mkB a) (b := mkB b) (h := by rw [mkB_size, mkB_size]; omega), mkB_append]
theorem add_of (p : ByteArray) (b : List UInt8) (h : p.size + b.length ≤ 1000000) (w : World) : (Op.stringOp .add p (mkB b)).run Try.prog w = .ok (.string (mkB (p.data.toList ++ b))) w := by
  have := add_mk p.data.toList b (by rw [← size_list]; exact h) w
  rwa [mkB_of] at this
theorem sum_cell {p : ByteArray} {e n : Nat} (h : p.size ≤ 43) (b : Nat) (w : World) (ht : Tbl w b) :
    Calls Try.prog 66 #[.pointer (some ⟨b, 0, none⟩), .string (mkB (content p.data.toList e n))] w fun r w' => r = .returned (.int .u32 (sumOf p.data.toList e n : Int)) ∧ Full w' b ∧ Apart b w w' :=
  sum_any b _ w ht (by rw [mkB_size]; unfold content; simp [be_length]; omega)
theorem partsAt_new (w : World) (ps : List (List UInt8)) (C : Array Value) (T : TypeId) (h : C = (ps.map fun l => Value.string (mkB l)).toArray) : PartsAt (w.alloc (.cells C T)) w.heap.size ps := by
  subst h
  intro i hi
  simp [go_sem, hi]
theorem front_cells (p : ByteArray) (e n : Nat) : (#[.string (mkB [UInt8.ofNat p.size]), .string (mkB (be 4 (sumOf p.data.toList e n))), .string p] : Array Value) = ((front p.data.toList e n).map fun l => Value.string (mkB l)).toArray := by
  unfold front
  rw [← size_list]
  simp [mkB_of]
theorem tail_cells (e n : Nat) : (#[.string (mkB (be 8 e)), .string (mkB (be 8 n))] : Array Value) = ((tail e n).map fun l => Value.string (mkB l)).toArray := by simp [tail]
theorem make_no (p : ByteArray) (e n : Int) (w : World) (hp : 43 < p.size) :
    Calls Try.prog 51 #[.agg #[.string p, .int .u64 e, .int .u64 n]] w fun r w' => r = .returned (.tuple #[.string ⟨#[]⟩, .int .i64 1]) ∧ Below w.heap.size w w' := by
  go_enter Try.func51, Try.ntmps51
  go_wp2
  refine bodyPost_ret (v := .tuple #[.string ⟨#[]⟩, .int .i64 1]) (by simp [results, Try.results51, go_sem]) rfl ⟨rfl, (Below.refl _ _).alloc (Nat.le_refl _) _⟩
set_option maxRecDepth 100000 in
set_option maxHeartbeats 4000000 in
theorem make_yes (p : ByteArray) (e n : Nat) (w : World) (hp : p.size ≤ 43) (he : e < 18446744073709551616) (hn : n < 18446744073709551616) :
    Calls Try.prog 51 #[.agg #[.string p, .int .u64 (e : Int), .int .u64 (n : Int)]] w fun r w' => r = .returned (.tuple #[.string (mkB (sec p.data.toList e n)), .int .i64 0]) ∧ Below w.heap.size w w' := by
  have B1 := Lib.hid (fun w => bytes8 e w he)
  have B2 := Lib.hid (fun w => bytes8 n w hn)
  have ob := one_byte (w.heap.size + 1) p.size (by omega) ((w.alloc (.cells #[.string p, .int .u64 (e : Int), .int .u64 (n : Int)] 80)).alloc (.cells #[.int .u8 (p.size : Int)] 5)) (by simp [go_sem]) 1
  have hm : (p.size : Int) % 256 = (p.size : Int) := by omega
  go_enter Try.func51, Try.ntmps51
  have K0 : Hid ((fun w' => w'.cell? ⟨w.heap.size, 0, none⟩ = some (.string p) ∧ w'.cell? ⟨w.heap.size, 1, none⟩ = some (.int .u64 (e : Int)) ∧ w'.cell? ⟨w.heap.size, 2, none⟩ = some (.int .u64 (n : Int)) ∧ Below w.heap.size w w') ((w.alloc (.cells #[.string p, .int .u64 (e : Int), .int .u64 (n : Int)] 80)).alloc (.cells #[.int .u8 (p.size : Int)] 5))) := Lib.hid ⟨by simp [go_sem], by simp [go_sem], by simp [go_sem], ((Below.refl _ _).alloc (Nat.le_refl _) _).alloc (by simp) _⟩
  simp only at K0
  go_wp2_with fail
  go_region_held3 (fun w' => w'.cell? ⟨w.heap.size, 0, none⟩ = some (.string p) ∧ w'.cell? ⟨w.heap.size, 1, none⟩ = some (.int .u64 (e : Int)) ∧ w'.cell? ⟨w.heap.size, 2, none⟩ = some (.int .u64 (n : Int)) ∧ Below w.heap.size w w') (first | exact K0.out | exact h3_drew K0.out | assumption)
    (first
      | (go_at_call 64; (with_reducible refine (B1.out _).mono ?_); rintro r w1 ⟨rfl, b1⟩; (have k1 := h3_call (w0 := w) (b := w.heap.size) (x := .string p) (y := .int .u64 (e : Int)) (z := .int .u64 (n : Int)) (by first | exact h3_drew K0.out | exact K0.out | assumption) b1))
      | (go_at_call 64; (with_reducible refine (B2.out _).mono ?_); rintro r w2 ⟨rfl, b2⟩; (have k2 := h3_call k1 b2))
      | fail)
  clear K0 B1 B2 b1 b2 k1 ob hm
  have K2 := Lib.hid k2
  have lt2 : w.heap.size < w2.heap.size := lt_of_cell k2.1
  clear k2
  have d1 := add_of p (be 8 e) (by rw [be_length]; omega)
  have d2 := add_mk (p.data.toList ++ be 8 e) (be 8 n) (by rw [List.length_append, ← size_list, be_length, be_length]; omega)
  rw [show p.data.toList ++ be 8 e ++ be 8 n = content p.data.toList e n by unfold content; rw [List.append_assoc]] at d2
  have SM := Lib.hid (fun (b : Nat) (W : World) (ht : Tbl W b) => sum_cell (e := e) (n := n) hp b W ht)
  go_wp2_with fail
  go_region_held3 (fun w' => w'.cell? ⟨w.heap.size, 0, none⟩ = some (.string p) ∧ w'.cell? ⟨w.heap.size, 1, none⟩ = some (.int .u64 (e : Int)) ∧ w'.cell? ⟨w.heap.size, 2, none⟩ = some (.int .u64 (n : Int)) ∧ Below w.heap.size w w') (first | exact K2.out | exact h3_drew K2.out | assumption)
    (first
      | (go_at_call 65; (with_reducible refine (new_any _).mono ?_); rintro r w3 ⟨rfl, hw3⟩; (have k3 := h3_call (w0 := w) (b := w.heap.size) (x := .string p) (y := .int .u64 (e : Int)) (z := .int .u64 (n : Int)) (by first | exact h3_drew K2.out | exact K2.out) (show Below _ _ w3 from by rw [hw3]; exact (Below.refl _ _).alloc (Nat.le_refl _) _)); (have t3 : Tbl w3 w2.heap.size := by rw [hw3]; exact (fresh_new _ _).tbl); (clear hw3))
      | (go_at_call 66; (with_reducible refine (SM.out _ _ t3).mono ?_); rintro r w4 ⟨rfl, f4, a4⟩; (have k4 := h3_apart k3 a4 (by omega) (by omega)))
      | fail)
  clear SM K2 k3 t3 f4 a4 d1 d2 lt2
  have z := zero64.1
  have s64 := slice64
  have s48 := slice48
  have BY := Lib.hid (fun w => bytes4 (sumOf p.data.toList e n) w (sumOf_is32 _ _ _))
  have R4 := Lib.hid (rowB_new w4 (List.replicate 64 0) 83)
  have K4 := Lib.hid (h3_call k4 ((Below.refl _ _).alloc (Nat.le_refl _) (.cells (Lib.byteCells (List.replicate 64 0)).toArray 83)))
  have lt4 : w.heap.size < w4.heap.size := lt_of_cell k4.1
  have hl : p.data.toList.length ≤ 43 := by rw [← size_list]; exact hp
  have PF := Lib.hid (fun (q : Nat) (W : World) (hr : RowB W w4.heap.size 83 (List.replicate 64 0)) (hp : PartsAt W q (front p.data.toList e n)) (hq : q ≠ w4.heap.size) (hz : q < W.heap.size) => put_front w4.heap.size q p.data.toList e n hl W hr hp hq hz)
  have PT := Lib.hid (fun (q : Nat) (W : World) (hr : RowB W w4.heap.size 83 (half p.data.toList e n)) (hp : PartsAt W q (tail e n)) (hq : q ≠ w4.heap.size) (hz : q < W.heap.size) => put_tail w4.heap.size q p.data.toList e n hl W hr hp hq hz)
  clear k4
  generalize (Lib.byteCells (List.replicate 64 0)).toArray = M at *
  go_wp2_with fail
  go_region_held3 (fun w' => w'.cell? ⟨w.heap.size, 0, none⟩ = some (.string p) ∧ w'.cell? ⟨w.heap.size, 1, none⟩ = some (.int .u64 (e : Int)) ∧ w'.cell? ⟨w.heap.size, 2, none⟩ = some (.int .u64 (n : Int)) ∧ Below w.heap.size w w') (first | exact K4.out | exact h3_drew K4.out | assumption | exact h3_call k5 ((Below.refl _ _).alloc (Nat.le_refl _) _))
    (first
      | (go_at_call 68; (with_reducible refine (BY.out _).mono ?_); rintro r w5 ⟨rfl, b5⟩; (have k5 := h3_call (w0 := w) (b := w.heap.size) (x := .string p) (y := .int .u64 (e : Int)) (z := .int .u64 (n : Int)) (by first | exact h3_drew K4.out | exact K4.out) b5); (have r5 := R4.out.drew.call b5); (have lt5 := r5.lt))
      | (go_at_call 67; (with_reducible refine (PF.out w5.heap.size _ (r5.alloc _) (partsAt_new _ _ _ _ (front_cells p e n)) (by omega) (by simp)).mono ?_); rintro r w6 ⟨rfl, r6, a6⟩; (have k6 := h3_apart (h3_call k5 ((Below.refl _ _).alloc (Nat.le_refl _) _)) a6 (by omega) (by omega)))
      | fail)
  have lt6 := r6.lt
  have b6 := k6.2.2.2
  clear k6 k5 a6 b5 r5 lt5 R4 K4 PF BY z
  go_wp2_with fail
  (with_reducible refine (PT.out w6.heap.size _ (r6.alloc _) (partsAt_new _ _ _ _ (tail_cells e n)) (by omega) (by simp)).mono ?_)
  rintro r w7 ⟨rfl, r7, a7⟩
  have B7 := Lib.hid ((b6.alloc b6.size _).trans (a7.below (by omega) (by have := b6.size; simp; omega)))
  have hcv := r7.text 0 64 64 (by rw [sec_length hl]; omega)
  rw [List.drop_zero, List.take_of_length_le (by rw [sec_length hl]; omega)] at hcv
  clear r7 a7 r6 b6 PT
  go_wp2
  refine bodyPost_ret (v := .tuple #[.string (mkB (sec p.data.toList e n)), .int .i64 0]) (by simp [results, Try.results51, go_sem]) rfl ⟨rfl, B7.out⟩
/-- what Make answers -/
def madeOf (p : List UInt8) (e n : Nat) : List UInt8 × Nat := if p.length ≤ 43 then (sec p e n, 0) else ([], 1)
theorem make_any (p : ByteArray) (e n : Nat) (w : World) (he : e < 18446744073709551616) (hn : n < 18446744073709551616) :
    Calls Try.prog 51 #[.agg #[.string p, .int .u64 (e : Int), .int .u64 (n : Int)]] w fun r w' => r = .returned (.tuple #[.string (mkB (madeOf p.data.toList e n).1), .int .i64 ((madeOf p.data.toList e n).2 : Int)]) ∧ Below w.heap.size w w' := by
  unfold madeOf
  by_cases h : p.size ≤ 43
  · rw [if_pos (by rw [← size_list]; exact h)]; exact make_yes p e n w h he hn
  · rw [if_neg (by rw [← size_list]; exact h)]; exact make_no p _ _ w (by omega)
end Go.Proofs.Ytcbemjckcmcelaa
