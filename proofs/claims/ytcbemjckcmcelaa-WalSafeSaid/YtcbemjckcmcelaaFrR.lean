/- Contracts of frame.Tag, Read, Whole. -/
import Derived.Test.YtcbemjckcmcelaaFrM
namespace Go.Proofs.Ytcbemjckcmcelaa
open Go.ChangeShapes Go.WideShapes Go.ChangeAt Go.RowKit Go.Joins
set_option maxRecDepth 100000
set_option linter.unusedVariables false
set_option linter.unusedSimpArgs false
theorem ext_list (s : ByteArray) (a c : Nat) : (s.extract a c).data.toList = (s.data.toList.drop a).take (c - a) := by
  rw [ByteArray.data_extract]; simp [List.take_drop]
/-- what a tag says -/
def tagE (l : List UInt8) : Nat := if l.length = 64 then epochOf l else 0
def tagN (l : List UInt8) : Nat := if l.length = 64 then numberOf l else 0
theorem tag_no (s : ByteArray) (w : World) (h : s.size ≠ 64) :
    Calls Try.prog 60 #[.string s] w fun r w' => r = .returned (.tuple #[.int .u64 0, .int .u64 0, .bool false]) ∧ Below w.heap.size w w' := by
  have h1 : ((s.size : Int) != 64) = true := by simp; omega
  have h2 : ¬ (s.size : Int) = 64 := by omega
  go_enter Try.func60, Try.ntmps60
  go_wp2
  refine bodyPost_ret (v := .tuple #[.int .u64 0, .int .u64 0, .bool false]) (by simp [results, Try.results60, go_sem]) rfl ⟨rfl, Below.refl _ _⟩
set_option maxRecDepth 100000 in
set_option maxHeartbeats 4000000 in
theorem tag_yes (s : ByteArray) (w : World) (h : s.size = 64) :
    Calls Try.prog 60 #[.string s] w fun r w' => r = .returned (.tuple #[.int .u64 (epochOf s.data.toList : Int), .int .u64 (numberOf s.data.toList : Int), .bool true]) ∧ Below w.heap.size w w' := by
  have hi : (s.size : Int) = 64 := by omega
  obtain ⟨T, hT⟩ : ∃ T, T = s.extract 48 64 := ⟨_, rfl⟩
  obtain ⟨U, hU⟩ : ∃ U, U = T.extract 8 16 := ⟨_, rfl⟩
  have zT : T.size = 16 := by rw [hT, ByteArray.size_extract]; omega
  have zU : U.size = 8 := by rw [hU, ByteArray.size_extract]; omega
  have eA : val (T.extract 0 8).data.toList = epochOf s.data.toList := by
    rw [ext_list, hT, ext_list]; unfold epochOf; simp [List.take_take]
  have eB : val (U.extract 0 8).data.toList = numberOf s.data.toList := by
    rw [ext_list, hU, ext_list, hT, ext_list]; unfold numberOf; simp [List.take_take, List.drop_take, List.drop_drop]
  have zA : (T.extract 0 8).size ≤ 8 := by rw [ByteArray.size_extract]; omega
  have zB : (U.extract 0 8).size ≤ 8 := by rw [ByteArray.size_extract]; omega
  have NA := Lib.hid (fun w => num_any (T.extract 0 8) w zA)
  have NB := Lib.hid (fun w => num_any (U.extract 0 8) w zB)
  rw [eA] at NA
  rw [eB] at NB
  have N1 := Lib.hid (fun (b : Nat) (W : World) h => next_of w b 8 8 rfl T W (by omega) h)
  rw [zT, ← hU] at N1
  have N2 := Lib.hid (fun (b : Nat) (W : World) h => next_of w b 8 8 rfl U W (by omega) h)
  rw [zU] at N2
  have x1 : s.extract 48 64 = T := hT.symm
  clear eA eB zA zB hT hU
  generalize T.extract 0 8 = A at *
  generalize U.extract 0 8 = B at *
  generalize U.extract 8 8 = V at *
  generalize epochOf s.data.toList = E at *
  generalize numberOf s.data.toList = M at *
  go_enter Try.func60, Try.ntmps60
  go_wp2_with fail
  (with_reducible refine (parts_of w T _ (Below.refl _ _)).mono ?_)
  rintro r w1 ⟨rfl, p1, -⟩
  go_wp2_with fail
  (with_reducible refine (N1.out _ _ p1).mono ?_)
  rintro r w2 ⟨rfl, p2, -⟩
  go_wp2_with fail
  (with_reducible refine (NA.out _).mono ?_)
  rintro r w3 ⟨rfl, rfl⟩
  go_wp2_with fail
  (with_reducible refine (N2.out _ _ p2).mono ?_)
  rintro r w4 ⟨rfl, p4, -⟩
  go_wp2_with fail
  (with_reducible refine (NB.out _).mono ?_)
  rintro r w5 ⟨rfl, rfl⟩
  have bl := Lib.hid p4.bel
  clear p4 p2 p1 N1 N2 NA NB
  go_wp2
  refine bodyPost_ret (v := .tuple #[.int .u64 (E : Int), .int .u64 (M : Int), .bool true]) (by simp [results, Try.results60, go_sem]) rfl ⟨rfl, bl.out⟩
theorem tag_any (s : ByteArray) (w : World) :
    Calls Try.prog 60 #[.string s] w fun r w' => r = .returned (.tuple #[.int .u64 (tagE s.data.toList : Int), .int .u64 (tagN s.data.toList : Int), .bool (decide (s.size = 64))]) ∧ Below w.heap.size w w' := by
  unfold tagE tagN
  by_cases h : s.size = 64
  · rw [if_pos (by rw [← size_list]; exact h), if_pos (by rw [← size_list]; exact h), decide_eq_true h]; exact tag_yes s w h
  · rw [if_neg (by rw [← size_list]; exact h), if_neg (by rw [← size_list]; exact h), decide_eq_false h]; exact tag_no s w h
/-- a cell as a value: what Read hands back -/
def cellOf (o : Option Cl) : Value := match o with | some c => .agg #[.string (mkB c.1), .int .u64 (c.2.1 : Int), .int .u64 (c.2.2 : Int)] | none => .agg #[.string ⟨#[]⟩, .int .u64 0, .int .u64 0]
theorem toList_mkB (l : List UInt8) : (mkB l).toList = l := by rw [ByteArray.toList_eq, mkB_data]
theorem toList_of (s : ByteArray) : s.toList = s.data.toList := ByteArray.toList_eq s
theorem rdc_size {l : List UInt8} (h : l.length ≠ 64) : rdc l = none := by unfold rdc; rw [if_neg (fun c => h c.1)]
theorem rdc_first {l : List UInt8} (h : 43 < (l.headD 0).toNat) : rdc l = none := by unfold rdc; rw [if_neg (fun c => by have := c.2.1; omega)]
theorem head_byte {s : ByteArray} (h : 0 < s.size) : (s.data.toList.headD 0).toNat = byteAt s 0 := by
  unfold byteAt
  rw [dif_pos h, ByteArray.getElem_eq_getElem_data]
  have h' : 0 < s.data.toList.length := by simpa using h
  cases hs : s.data.toList with
  | nil => rw [hs] at h'; simp at h'
  | cons a r =>
    have : s.data[0]'h = s.data.toList[0]'h' := rfl
    rw [this]
    simp [hs]
/-- where Read's answer stands, as it was laid -/
structure Res (w0 w : World) : Prop where
  c0 : w.cell? ⟨w0.heap.size, 0, none⟩ = some (.string ⟨#[]⟩)
  c1 : w.cell? ⟨w0.heap.size, 1, none⟩ = some (.int .u64 0)
  c2 : w.cell? ⟨w0.heap.size, 2, none⟩ = some (.int .u64 0)
  f0 : w.frozen? ⟨w0.heap.size, 0, none⟩ = false
  f1 : w.frozen? ⟨w0.heap.size, 1, none⟩ = false
  f2 : w.frozen? ⟨w0.heap.size, 2, none⟩ = false
  bel : Below w0.heap.size w0 w
theorem res_new (w : World) : Res w (w.alloc (.cells #[.string ⟨#[]⟩, .int .u64 0, .int .u64 0] 80)) :=
  ⟨by simp [go_sem], by simp [go_sem], by simp [go_sem], by simp [go_sem], by simp [go_sem], by simp [go_sem], (Below.refl _ _).alloc (Nat.le_refl _) _⟩
theorem Res.lt {w0 w : World} (h : Res w0 w) : w0.heap.size < w.heap.size := lt_of_cell h.c0
theorem Res.block {w0 w w' : World} (h : Res w0 w) (e : w'.heap[w0.heap.size]? = w.heap[w0.heap.size]?) (hb : Below w0.heap.size w0 w') : Res w0 w' :=
  ⟨(World.cell?_of_block (w := w) e).trans h.c0, (World.cell?_of_block (w := w) e).trans h.c1, (World.cell?_of_block (w := w) e).trans h.c2, (World.frozen?_of_block (w := w) e).trans h.f0, (World.frozen?_of_block (w := w) e).trans h.f1, (World.frozen?_of_block (w := w) e).trans h.f2, hb⟩
theorem Res.call {w0 w w' : World} (h : Res w0 w) (hb : Below w.heap.size w w') : Res w0 w' := h.block (hb.block _ h.lt) (h.bel.trans (hb.mono h.bel.size))
theorem Res.apart {w0 w w' : World} {b : Nat} (h : Res w0 w) (ha : Apart b w w') (hb : w0.heap.size < b) : Res w0 w' := h.block (ha.block _ h.lt (by omega)) (h.bel.trans (ha.below (by omega) h.bel.size))
theorem Res.set {w0 w : World} (h : Res w0 w) (x y z : Value) : Below w0.heap.size w0 (((w.setCell ⟨w0.heap.size, 0, none⟩ x).setCell ⟨w0.heap.size, 1, none⟩ y).setCell ⟨w0.heap.size, 2, none⟩ z) :=
  ((h.bel.setCell (Nat.le_refl _) _).setCell (Nat.le_refl _) _).setCell (Nat.le_refl _) _
theorem read_size (s : ByteArray) (w : World) (h : s.size ≠ 64) :
    Calls Try.prog 47 #[.string s] w fun r w' => r = .returned (.tuple #[cellOf (rdc s.data.toList), .bool (rdc s.data.toList).isSome]) ∧ Below w.heap.size w w' := by
  rw [rdc_size (by rw [← size_list]; exact h)]
  have T := Lib.hid (fun w => tag_no s w h)
  go_enter Try.func47, Try.ntmps47
  go_wp2_with fail
  (with_reducible refine (T.out _).mono ?_)
  rintro r w1 ⟨rfl, b1⟩
  have R1 := Lib.hid ((res_new w).call b1)
  have c0 := R1.out.c0
  have c1 := R1.out.c1
  have c2 := R1.out.c2
  have f0 := R1.out.f0
  have f1 := R1.out.f1
  have f2 := R1.out.f2
  clear b1
  go_wp2
  refine bodyPost_ret (v := .tuple #[.agg #[.string ⟨#[]⟩, .int .u64 0, .int .u64 0], .bool false]) (by simp [results, Try.results47, go_sem, c0, c1, c2]) rfl ⟨rfl, R1.out.set _ _ _⟩
set_option maxRecDepth 100000 in
set_option maxHeartbeats 4000000 in
theorem read_64 (s : ByteArray) (w : World) (h : s.size = 64) :
    Calls Try.prog 47 #[.string s] w fun r w' => r = .returned (.tuple #[cellOf (rdc s.data.toList), .bool (rdc s.data.toList).isSome]) ∧ Below w.heap.size w w' := by
  have T := Lib.hid (fun w => tag_yes s w h)
  have hi : (s.size : Int) = 64 := by omega
  have hb := byteAt_eq (s := s) (i := 0) (by omega)
  have hk := head_byte (s := s) (by omega)
  have hlt := byteAt_lt s 0
  by_cases h43 : 43 < byteAt s 0
  · rw [rdc_first (by rw [hk]; exact h43)]
    generalize epochOf s.data.toList = E at *
    generalize numberOf s.data.toList = M at *
    generalize byteAt s 0 = k at *
    have hk3 : decide ((43 : Int) < (k : Int)) = true := by simp; omega
    clear hk
    go_enter Try.func47, Try.ntmps47
    go_wp2_with fail
    (with_reducible refine (T.out _).mono ?_)
    rintro r w1 ⟨rfl, b1⟩
    have R1 := Lib.hid ((res_new w).call b1)
    have c0 := R1.out.c0
    have c1 := R1.out.c1
    have c2 := R1.out.c2
    have f0 := R1.out.f0
    have f1 := R1.out.f1
    have f2 := R1.out.f2
    clear b1
    go_wp2
    refine bodyPost_ret (v := .tuple #[.agg #[.string ⟨#[]⟩, .int .u64 0, .int .u64 0], .bool false]) (by simp [results, Try.results47, go_sem, c0, c1, c2]) rfl ⟨rfl, R1.out.set _ _ _⟩
  · have h43' : byteAt s 0 ≤ 43 := by omega
    have hE := epochOf_lt s.data.toList
    have hM := numberOf_lt s.data.toList
    have hP : payOf s.data.toList = ((s.extract 5 64).extract 0 (byteAt s 0)).data.toList := by
      unfold payOf; rw [hk, ext_list, ext_list, List.drop_zero, List.take_take]
      congr 1
      omega
    have l64 : s.data.toList.length = 64 := by rw [← size_list]; exact h
    have RD : Hid (rdc s.data.toList = if mkB (sec (payOf s.data.toList) (epochOf s.data.toList) (numberOf s.data.toList)) = s then some (payOf s.data.toList, epochOf s.data.toList, numberOf s.data.toList) else none) := Lib.hid (by
      unfold rdc
      by_cases hc : sec (payOf s.data.toList) (epochOf s.data.toList) (numberOf s.data.toList) = s.data.toList
      · rw [if_pos ⟨l64, by rw [hk]; exact h43', hc⟩, if_pos (by rw [hc, mkB_of])]
      · rw [if_neg (fun c => hc c.2.2), if_neg (fun c => hc (by rw [← mkB_data (sec _ _ _), c]))])
    have zP : ((s.extract 5 64).extract 0 (byteAt s 0)).size ≤ 43 := by rw [ByteArray.size_extract]; omega
    have MK := Lib.hid (fun w => make_yes ((s.extract 5 64).extract 0 (byteAt s 0)) _ _ w zP hE hM)
    have CL := Lib.hid (fun w => clone_any ((s.extract 5 64).extract 0 (byteAt s 0)) w (by omega))
    rw [hP] at RD
    have N1 := Lib.hid (fun (b : Nat) (W : World) h => next_of w b 1 1 rfl s W (by omega) h)
    have N2 := Lib.hid (fun (b : Nat) (W : World) h => next_of w b 4 4 rfl (s.extract 1 64) W (by rw [ByteArray.size_extract]; omega) h)
    have N3 := Lib.hid (fun (b : Nat) (W : World) h => next_of w b (byteAt s 0) _ rfl (s.extract 5 64) W (by rw [ByteArray.size_extract]; omega) h)
    have y1 : (s.extract 1 64).size = 63 := by rw [ByteArray.size_extract]; omega
    have y2 : (s.extract 1 64).extract 4 63 = s.extract 5 64 := by
      rw [← mkB_of ((s.extract 1 64).extract 4 63), ← mkB_of (s.extract 5 64)]
      rw [ext_list, ext_list, ext_list, List.drop_take, List.drop_drop, List.take_take]
      simp
    rw [h] at N1
    rw [y1, y2] at N2
    have z1 : (s.extract 0 1).size = 1 := by rw [ByteArray.size_extract]; omega
    have b1' : byteAt (s.extract 0 1) 0 = byteAt s 0 := by
      rw [← head_byte (s := s.extract 0 1) (by omega), ← hk, ext_list]
      cases s.data.toList <;> rfl
    generalize s.extract 0 1 = A1 at *
    have z1i : (A1.size : Int) = 1 := by omega
    have b1 := byteAt_eq (s := A1) (i := 0) (by omega)
    rw [b1'] at b1
    generalize (s.extract 5 64).extract 0 (byteAt s 0) = P at *
    generalize epochOf s.data.toList = E at *
    generalize numberOf s.data.toList = M at *
    generalize (s.extract 5 64).extract (byteAt s 0) (s.extract 5 64).size = V at *
    generalize byteAt s 0 = k at *
    have hk3 : decide ((43 : Int) < (k : Int)) = false := by simp; omega
    have hm : (k : Int) % 18446744073709551616 = (k : Int) := by omega
    clear hk hP l64 y1 y2 b1' zP hE hM
    go_enter Try.func47, Try.ntmps47
    go_wp2_with fail
    (with_reducible refine (T.out _).mono ?_)
    rintro r w1 ⟨rfl, b1⟩
    have R1 := (res_new w).call b1
    clear b1
    go_wp2_with fail
    (with_reducible refine (parts_of w s _ R1.bel).mono ?_)
    rintro r w2 ⟨rfl, p2, b2⟩
    have R2 := R1.call b2
    have lt1 := R1.lt
    generalize w1.heap.size = g at *
    clear b2 R1
    go_wp2_with fail
    (with_reducible refine (N1.out _ _ p2).mono ?_)
    rintro r w3 ⟨rfl, p3, a3⟩
    have R3 := R2.apart a3 lt1
    clear R2 a3 p2
    go_wp2_with fail
    (with_reducible refine (N2.out _ _ p3).mono ?_)
    rintro r w4 ⟨rfl, p4, a4⟩
    have R4 := R3.apart a4 lt1
    clear R3 a4 p3
    go_wp2_with fail
    (with_reducible refine (N3.out _ _ p4).mono ?_)
    rintro r w5 ⟨rfl, p5, a5⟩
    have R5 := R4.apart a5 lt1
    clear R4 a5 p4 p5
    go_wp2_with fail
    (with_reducible refine (CL.out _).mono ?_)
    rintro r w6 ⟨rfl, b6⟩
    have R6 := R5.call b6
    clear R5 b6 N1 N2 N3 CL
    go_wp2_with fail
    (with_reducible refine (MK.out _).mono ?_)
    rintro r w7 ⟨rfl, b7⟩
    have R7 := Lib.hid ((R6.call ((Below.refl _ _).alloc (Nat.le_refl _) _)).call b7)
    have q0 := carry b7 (p := ⟨w6.heap.size, 0, none⟩) (v := .string P) (by simp [go_sem])
    have q1 := carry b7 (p := ⟨w6.heap.size, 1, none⟩) (v := .int .u64 (E : Int)) (by simp [go_sem])
    have q2 := carry b7 (p := ⟨w6.heap.size, 2, none⟩) (v := .int .u64 (M : Int)) (by simp [go_sem])
    have c0 := R7.out.c0
    have c1 := R7.out.c1
    have c2 := R7.out.c2
    have f0 := R7.out.f0
    have f1 := R7.out.f1
    have f2 := R7.out.f2
    have ne : ¬ w6.heap.size = w.heap.size := by have := R6.lt; omega
    have ne2 : ¬ w.heap.size = w6.heap.size := by omega
    clear b7 R6 MK T lt1
    by_cases hc : mkB (sec P.data.toList E M) = s
    · have HR : Hid (rdc s.data.toList = some (P.data.toList, E, M)) := Lib.hid (by rw [RD.out, if_pos hc])
      rw [hc]
      have t1 : (s.toList != s.toList) = false := by simp
      have e : (Value.agg #[.string P, .int .u64 (E : Int), .int .u64 (M : Int)]) = cellOf (some (P.data.toList, E, M)) := by
        show _ = Value.agg #[.string (mkB P.data.toList), .int .u64 (E : Int), .int .u64 (M : Int)]
        rw [mkB_of]
      have Q := Lib.hid e
      clear RD hc e
      go_wp2
      refine bodyPost_ret (v := .tuple #[.agg #[.string P, .int .u64 (E : Int), .int .u64 (M : Int)], .bool true]) (by simp [results, Try.results47, go_sem, c0, c1, c2]) rfl ⟨by rw [Q.out, HR.out]; rfl, R7.out.set _ _ _⟩
    · have HR : Hid (rdc s.data.toList = none) := Lib.hid (by rw [RD.out, if_neg hc])
      have t1 : ((mkB (sec P.data.toList E M)).toList != s.toList) = true := by
        rw [toList_mkB, toList_of]
        simp
        intro e
        exact hc (by rw [e, mkB_of])
      have t2 : ((mkB (sec P.data.toList E M)).toList == s.toList) = false := by simpa [bne] using t1
      generalize mkB (sec P.data.toList E M) = X at *
      clear RD hc
      go_wp2
      refine bodyPost_ret (v := .tuple #[.agg #[.string ⟨#[]⟩, .int .u64 0, .int .u64 0], .bool false]) (by simp [results, Try.results47, go_sem, c0, c1, c2]) rfl ⟨by rw [HR.out]; rfl, R7.out.set _ _ _⟩
theorem read_any (s : ByteArray) (w : World) :
    Calls Try.prog 47 #[.string s] w fun r w' => r = .returned (.tuple #[cellOf (rdc s.data.toList), .bool (rdc s.data.toList).isSome]) ∧ Below w.heap.size w w' := by
  by_cases h : s.size = 64
  · exact read_64 s w h
  · exact read_size s w h
end Go.Proofs.Ytcbemjckcmcelaa
