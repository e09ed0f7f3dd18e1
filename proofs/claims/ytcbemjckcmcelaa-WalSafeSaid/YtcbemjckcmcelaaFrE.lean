/- The document's side of layer 4: Tag, Read, Whole. -/
import Derived.Test.YtcbemjckcmcelaaFrD
namespace Go.Proofs.Ytcbemjckcmcelaa
open Go.ChangeShapes Go.WideShapes Go.ChangeAt Go.RowKit Go.Joins
set_option maxRecDepth 100000
set_option linter.unusedVariables false
set_option linter.unusedSimpArgs false
theorem tag_rf_no (s : ByteArray) (w : World) (h : s.size ≠ 64) :
    Calls Try.prog 49 #[.string s] w fun r w' => r = .returned (.agg #[.int .u64 0, .int .u64 0, .bool false]) ∧ Below w.heap.size w w' := by
  have h1 : ((s.size : Int) != 64) = true := by simp; omega
  have h2 : ¬ (s.size : Int) = 64 := by omega
  go_enter Try.func49, Try.ntmps49
  go_wp2
  refine bodyPost_ret (v := .agg #[.int .u64 0, .int .u64 0, .bool false]) (by simp [results, Try.results49, go_sem]) rfl ⟨rfl, ?_⟩
  repeat (first | exact Below.refl _ _ | refine Below.setCell ?_ (by first | omega | (simp; done) | (simp; omega)) _ | refine Below.alloc ?_ (by first | omega | (simp; done) | (simp; omega)) _ | refine Below.drew ?_)
/-- where Tag's answer stands, as it was laid -/
structure Rts (w0 w : World) : Prop where
  c0 : w.cell? ⟨w0.heap.size, 0, none⟩ = some (.int .u64 0)
  c1 : w.cell? ⟨w0.heap.size, 1, none⟩ = some (.int .u64 0)
  c2 : w.cell? ⟨w0.heap.size, 2, none⟩ = some (.bool false)
  f0 : w.frozen? ⟨w0.heap.size, 0, none⟩ = false
  f1 : w.frozen? ⟨w0.heap.size, 1, none⟩ = false
  f2 : w.frozen? ⟨w0.heap.size, 2, none⟩ = false
  bel : Below w0.heap.size w0 w
set_option maxRecDepth 100000 in
set_option maxHeartbeats 4000000 in
theorem tag_rf_yes (s : ByteArray) (w : World) (h : s.size = 64) :
    Calls Try.prog 49 #[.string s] w fun r w' => r = .returned (.agg #[.int .u64 (epochOf s.data.toList : Int), .int .u64 (numberOf s.data.toList : Int), .bool true]) ∧ Below w.heap.size w w' := by
  have hi : (s.size : Int) = 64 := by omega
  have zA : (s.extract 48 56).size = 8 := by rw [ByteArray.size_extract]; omega
  have zB : (s.extract 56 64).size = 8 := by rw [ByteArray.size_extract]; omega
  have NA := Lib.hid (fun w => number_rf (s.extract 48 56) w zA)
  have NB := Lib.hid (fun w => number_rf (s.extract 56 64) w zB)
  have eA : val (s.extract 48 56).data.toList = epochOf s.data.toList := by rw [ext_list]; rfl
  have eB : val (s.extract 56 64).data.toList = numberOf s.data.toList := by rw [ext_list]; rfl
  rw [eA] at NA
  rw [eB] at NB
  have K0 : Hid (Rts w (w.alloc (.cells #[.int .u64 0, .int .u64 0, .bool false] 101)).drew) := Lib.hid ⟨by simp [go_sem], by simp [go_sem], by simp [go_sem], by simp [go_sem], by simp [go_sem], by simp [go_sem], ((Below.refl _ _).alloc (Nat.le_refl _) _).drew⟩
  clear eA eB zA zB
  generalize epochOf s.data.toList = E at *
  generalize numberOf s.data.toList = M at *
  go_enter Try.func49, Try.ntmps49
  go_wp2_with fail
  go_region_held3 (fun w' => w' = (w.alloc (.cells #[.int .u64 0, .int .u64 0, .bool false] 101)).drew ∨ Below w.heap.size w w') (first | exact .inl rfl | (right; repeat (first | exact Below.refl _ _ | refine Below.setCell ?_ (by first | omega | (simp; done) | (simp; omega)) _ | refine Below.alloc ?_ (by first | omega | (simp; done) | (simp; omega)) _ | refine Below.drew ?_)))
    (first
      | (go_at_call 63; (with_reducible refine (NA.out _).mono ?_); rintro r w1 ⟨rfl, rfl⟩)
      | (go_at_call 63; (with_reducible refine (NB.out _).mono ?_); rintro r w2 ⟨rfl, rfl⟩)
      | fail)
  go_wp2
  refine bodyPost_ret (v := .agg #[.int .u64 (E : Int), .int .u64 (M : Int), .bool true]) (by simp [results, Try.results49, go_sem]) rfl ⟨rfl, ?_⟩
  repeat (first | exact Below.refl _ _ | refine Below.setCell ?_ (by first | omega | (simp; done) | (simp; omega)) _ | refine Below.alloc ?_ (by first | omega | (simp; done) | (simp; omega)) _ | refine Below.drew ?_)
theorem tag_rf (s : ByteArray) (w : World) :
    Calls Try.prog 49 #[.string s] w fun r w' => r = .returned (.agg #[.int .u64 (tagE s.data.toList : Int), .int .u64 (tagN s.data.toList : Int), .bool (decide (s.size = 64))]) ∧ Below w.heap.size w w' := by
  unfold tagE tagN
  by_cases h : s.size = 64
  · rw [if_pos (by rw [← size_list]; exact h), if_pos (by rw [← size_list]; exact h), decide_eq_true h]; exact tag_rf_yes s w h
  · rw [if_neg (by rw [← size_list]; exact h), if_neg (by rw [← size_list]; exact h), decide_eq_false h]; exact tag_rf_no s w h
theorem read_rf_size (s : ByteArray) (w : World) (h : s.size ≠ 64) :
    Calls Try.prog 37 #[.string s] w fun r w' => r = .returned (.tuple #[cellOf (rdc s.data.toList), .bool (rdc s.data.toList).isSome]) ∧ Below w.heap.size w w' := by
  rw [rdc_size (by rw [← size_list]; exact h)]
  have h1 : ((s.size : Int) != 64) = true := by simp; omega
  have h2 : ¬ (s.size : Int) = 64 := by omega
  go_enter Try.func37, Try.ntmps37
  go_wp2
  refine bodyPost_ret (v := .tuple #[.agg #[.string ⟨#[]⟩, .int .u64 0, .int .u64 0], .bool false]) (by simp [results, Try.results37, go_sem]) rfl ⟨rfl, ?_⟩
  repeat (first | exact Below.refl _ _ | refine Below.setCell ?_ (by first | omega | (simp; done) | (simp; omega)) _ | refine Below.alloc ?_ (by first | omega | (simp; done) | (simp; omega)) _ | refine Below.drew ?_)
set_option maxRecDepth 100000 in
set_option maxHeartbeats 4000000 in
theorem read_rf_64 (s : ByteArray) (w : World) (h : s.size = 64) :
    Calls Try.prog 37 #[.string s] w fun r w' => r = .returned (.tuple #[cellOf (rdc s.data.toList), .bool (rdc s.data.toList).isSome]) ∧ Below w.heap.size w w' := by
  have T := Lib.hid (fun w => tag_rf_yes s w h)
  have hi : (s.size : Int) = 64 := by omega
  have hb := byteAt_eq (s := s) (i := 0) (by omega)
  have hk := head_byte (s := s) (by omega)
  have hlt := byteAt_lt s 0
  by_cases h43 : 43 < byteAt s 0
  · rw [rdc_first (by rw [hk]; exact h43)]
    generalize byteAt s 0 = k at *
    have hk3 : decide ((43 : Int) < (k : Int)) = true := by simp; omega
    clear hk T
    go_enter Try.func37, Try.ntmps37
    go_wp2
    refine bodyPost_ret (v := .tuple #[.agg #[.string ⟨#[]⟩, .int .u64 0, .int .u64 0], .bool false]) (by simp [results, Try.results37, go_sem]) rfl ⟨rfl, ?_⟩
    repeat (first | exact Below.refl _ _ | refine Below.setCell ?_ (by first | omega | (simp; done) | (simp; omega)) _ | refine Below.alloc ?_ (by first | omega | (simp; done) | (simp; omega)) _ | refine Below.drew ?_)
  · have h43' : byteAt s 0 ≤ 43 := by omega
    have hE := epochOf_lt s.data.toList
    have hM := numberOf_lt s.data.toList
    have hP : payOf s.data.toList = (s.extract 5 (5 + byteAt s 0)).data.toList := by
      unfold payOf; rw [hk, ext_list]
      congr 1
      omega
    have l64 : s.data.toList.length = 64 := by rw [← size_list]; exact h
    have RD : Hid (rdc s.data.toList = if mkB (sec (payOf s.data.toList) (epochOf s.data.toList) (numberOf s.data.toList)) = s then some (payOf s.data.toList, epochOf s.data.toList, numberOf s.data.toList) else none) := Lib.hid (by
      unfold rdc
      by_cases hc : sec (payOf s.data.toList) (epochOf s.data.toList) (numberOf s.data.toList) = s.data.toList
      · rw [if_pos ⟨l64, by rw [hk]; exact h43', hc⟩, if_pos (by rw [hc, mkB_of])]
      · rw [if_neg (fun c => hc c.2.2), if_neg (fun c => hc (by rw [← mkB_data (sec _ _ _), c]))])
    have zP : (s.extract 5 (5 + byteAt s 0)).size ≤ 43 := by rw [ByteArray.size_extract]; omega
    have MK := Lib.hid (fun w => make_rf_yes (s.extract 5 (5 + byteAt s 0)) _ _ w zP hE hM)
    rw [hP] at RD
    have hx : s.extract 5 (5 + (byteAt s 0 : Int)).toNat = s.extract 5 (5 + byteAt s 0) := by congr 1
    generalize s.extract 5 (5 + byteAt s 0) = P at *
    generalize epochOf s.data.toList = E at *
    generalize numberOf s.data.toList = M at *
    generalize byteAt s 0 = k at *
    have hk3 : decide ((43 : Int) < (k : Int)) = false := by simp; omega
    have hk0 : (0 : Int) ≤ 5 + (k : Int) := by omega
    have hk5 : (5 : Int) ≤ 5 + (k : Int) := by omega
    have hk6 : 5 + (k : Int) ≤ (s.size : Int) := by omega
    have hk7 : 5 + (k : Int) ≤ 64 := by omega
    have hwr : IntKind.i64.wrap (k : Int) = (k : Int) := by rw [IntKind.wrap_i64]; omega
    clear hk hP l64 zP hE hM
    go_enter Try.func37, Try.ntmps37
    go_wp2_with fail
    (with_reducible refine (T.out _).mono ?_)
    rintro r w1 ⟨rfl, b1⟩
    have R1 := (res_new w).call b1
    clear b1 T
    have lt1 := R1.lt
    have ne1 : ¬ w.heap.size = w1.heap.size := by omega
    go_wp2_with fail
    go_region
    have R2 := (R1.call ((Below.refl _ _).alloc (Nat.le_refl _) (.cells #[.int .u64 (E : Int), .int .u64 (M : Int), .bool true] 101))).call ((Below.refl _ _).alloc (Nat.le_refl _) (.cells #[.string P, .int .u64 (E : Int), .int .u64 (M : Int)] 80)).drew
    go_wp2_with fail
    (with_reducible refine (MK.out _).mono ?_)
    rintro r w7 ⟨rfl, b7⟩
    have R7 := Lib.hid (R2.call b7)
    have q0 := carry b7 (p := ⟨w1.heap.size + 1, 0, none⟩) (v := .string P) (by simp [go_sem])
    have q1 := carry b7 (p := ⟨w1.heap.size + 1, 1, none⟩) (v := .int .u64 (E : Int)) (by simp [go_sem])
    have q2 := carry b7 (p := ⟨w1.heap.size + 1, 2, none⟩) (v := .int .u64 (M : Int)) (by simp [go_sem])
    have c0 := R7.out.c0
    have c1 := R7.out.c1
    have c2 := R7.out.c2
    have f0 := R7.out.f0
    have f1 := R7.out.f1
    have f2 := R7.out.f2
    have ne : ¬ w1.heap.size + 1 = w.heap.size := by omega
    have ne2 : ¬ w.heap.size = w1.heap.size + 1 := by omega
    clear b7 R1 R2 MK
    by_cases hc : mkB (sec P.data.toList E M) = s
    · have HR : Hid (rdc s.data.toList = some (P.data.toList, E, M)) := Lib.hid (by rw [RD.out, if_pos hc])
      rw [hc]
      have t1 : (s.toList != s.toList) = false := by simp
      have e : (Value.agg #[.string P, .int .u64 (E : Int), .int .u64 (M : Int)]) = cellOf (some (P.data.toList, E, M)) := by
        show _ = Value.agg #[.string (mkB P.data.toList), .int .u64 (E : Int), .int .u64 (M : Int)]
        rw [mkB_of]
      have Q := Lib.hid e
      clear RD hc e
      go_wp2
      refine bodyPost_ret (v := .tuple #[.agg #[.string P, .int .u64 (E : Int), .int .u64 (M : Int)], .bool true]) (by simp [results, Try.results37, go_sem, c0, c1, c2]) rfl ⟨by rw [Q.out, HR.out]; rfl, R7.out.set _ _ _⟩
    · have HR : Hid (rdc s.data.toList = none) := Lib.hid (by rw [RD.out, if_neg hc])
      have t1 : ((mkB (sec P.data.toList E M)).toList != s.toList) = true := by
        rw [toList_mkB, toList_of]
        simp
        intro e
        exact hc (by rw [e, mkB_of])
      have t2 : ((mkB (sec P.data.toList E M)).toList == s.toList) = false := by simpa [bne] using t1
      generalize mkB (sec P.data.toList E M) = X at *
      clear RD hc
      go_wp2
      refine bodyPost_ret (v := .tuple #[.agg #[.string ⟨#[]⟩, .int .u64 0, .int .u64 0], .bool false]) (by simp [results, Try.results37, go_sem, c0, c1, c2]) rfl ⟨by rw [HR.out]; rfl, R7.out.set _ _ _⟩
theorem read_rf4 (s : ByteArray) (w : World) :
    Calls Try.prog 37 #[.string s] w fun r w' => r = .returned (.tuple #[cellOf (rdc s.data.toList), .bool (rdc s.data.toList).isSome]) ∧ Below w.heap.size w w' := by
  by_cases h : s.size = 64
  · exact read_rf_64 s w h
  · exact read_rf_size s w h
set_option maxRecDepth 100000 in
theorem whole_rf (s : ByteArray) (e n : Nat) (w : World) :
    Calls Try.prog 36 #[.string s, .int .u64 (e : Int), .int .u64 (n : Int)] w fun r w' => r = .returned (.bool (whole s.data.toList e n)) ∧ Below w.heap.size w w' := by
  have RA := Lib.hid (fun w => read_rf4 s w)
  have hw : whole s.data.toList e n = match rdc s.data.toList with | some c => c.2.1 == e && c.2.2 == n | none => false := rfl
  rw [hw]
  cases hr : rdc s.data.toList with
  | none =>
    rw [hr] at RA
    clear hw hr
    simp only [cellOf, Option.isSome] at RA
    go_enter Try.func36, Try.ntmps36
    go_wp2_with fail
    (with_reducible refine (RA.out _).mono ?_)
    rintro r w1 ⟨rfl, b1⟩
    go_wp2
    go_ret
    exact ⟨rfl, b1.alloc b1.size _⟩
  | some c =>
    obtain ⟨p, f, m⟩ := c
    rw [hr] at RA
    clear hw hr
    simp only [cellOf, Option.isSome] at RA
    have d1 : ((f : Int) == (e : Int)) = (f == e) := by
      by_cases h : f = e
      · simp [h]
      · rw [beq_eq_false_iff_ne.2 h]; simp; omega
    have d2 : ((m : Int) == (n : Int)) = (m == n) := by
      by_cases h : m = n
      · simp [h]
      · rw [beq_eq_false_iff_ne.2 h]; simp; omega
    dsimp only
    generalize (f == e) = x at *
    generalize (m == n) = y at *
    go_enter Try.func36, Try.ntmps36
    go_wp2_with fail
    (with_reducible refine (RA.out _).mono ?_)
    rintro r w1 ⟨rfl, b1⟩
    have B1 := Lib.hid (b1.alloc b1.size (.cells #[.string (mkB p), .int .u64 (f : Int), .int .u64 (m : Int)] 80))
    clear b1 RA
    cases x <;> cases y
    all_goals
      go_wp2
      go_ret
      exact ⟨rfl, B1.out⟩
end Go.Proofs.Ytcbemjckcmcelaa
