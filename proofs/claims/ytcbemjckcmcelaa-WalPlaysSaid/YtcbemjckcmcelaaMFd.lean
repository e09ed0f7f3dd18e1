/- The document's side of layer 4: eight, number, Make. The document's side of layer 4: Tag, Read, Whole. The document's side of layer 4: Chunks, Same. -/
import Derived.Test.YtcbemjckcmcelaaMFr
import Derived.BigQuiet
namespace Go.Proofs.Ytcbemjckcmcelaa
open Go.ChangeShapes Go.WideShapes Go.ChangeAt Go.RowKit Go.Joins
set_option maxRecDepth 100000
set_option linter.unusedVariables false
set_option linter.unusedSimpArgs false
def EiRel (w : World) (n : Nat) (g : Nat) (s0 s3 s4 : Value) (wx : World) : Prop :=
  ∃ (i y : Nat) (t : List UInt8), i + g = 8 ∧ y < 18446744073709551616 ∧ s0 = .int .u64 (y : Int) ∧ s3 = .string (mkB t) ∧ s4 = .int .i64 (i : Int) ∧ be g y ++ t = be 8 n ∧ t.length = i ∧ Below w.heap.size w wx
set_option maxRecDepth 100000 in
set_option maxHeartbeats 4000000 in
theorem eight_rf (n : Nat) (w : World) (hn : n < 18446744073709551616) :
    Calls Try.prog 54 #[.int .u64 (n : Int)] w fun e w' => e = .returned (.string (mkB (be 8 n))) ∧ Below w.heap.size w w' := by
  go_enter Try.func54, Try.ntmps54
  go_wp2
  go_loopg [0, 3, 4] 8 (EiRel w n)
  case atStart => exact ⟨0, n, [], rfl, hn, rfl, rfl, rfl, by simp, rfl, Below.refl _ _⟩
  case round =>
    obtain ⟨i, y, t, hk, hy, rfl, rfl, rfl, ht, hl, bl⟩ := hrel
    have BL := Lib.hid bl
    have HT := Lib.hid ht
    clear bl ht
    rcases Nat.lt_or_ge i 8 with hlt | hge
    · have ob := one_byte wr.heap.size (y % 256) (by omega) (wr.alloc (.cells #[.int .u8 ((y : Int) % 256)] 5)) (by simp [go_sem]) 1
      have ad := add_mk [UInt8.ofNat (y % 256)] t (by simp; omega)
      have NX : Hid (be (gk - 1) (y / 256) ++ ([UInt8.ofNat (y % 256)] ++ t) = be 8 n) := Lib.hid (by
        rw [← HT.out, show gk = gk - 1 + 1 by omega, be]; simp)
      have NL : ([UInt8.ofNat (y % 256)] ++ t).length = i + 1 := by simp; omega
      have m1 : (y : Int).tmod 256 = (y : Int) % 256 := Int.tmod_eq_emod_of_nonneg (by omega)
      have m2 : (y : Int).tdiv 256 = (y : Int) / 256 := Int.tdiv_eq_ediv_of_nonneg (by omega)
      have m3 : (y : Int) / 256 % 18446744073709551616 = (y : Int) / 256 := by omega
      have m4 : (y : Int) % 256 % 18446744073709551616 = (y : Int) % 256 := by omega
      have q1 : y / 256 < 18446744073709551616 := by omega
      generalize mkB [UInt8.ofNat (y % 256)] = X at *
      generalize [UInt8.ofNat (y % 256)] ++ t = T at *
      clear HT
      go_wp2
      go_roundg (gk - 1)
      case measure => omega
      case rel => exact ⟨i + 1, y / 256, T, by omega, q1, rfl, rfl, rfl, NX.out, NL, BL.out.alloc BL.out.size _⟩
    · have e : gk = 0 := by omega
      subst e
      have e2 : t = be 8 n := HT.out
      rw [e2]
      go_wp2
      go_ret
      exact ⟨rfl, BL.out⟩
def NuRel (w : World) (s : ByteArray) (g : Nat) (s3 s4 : Value) (wx : World) : Prop := ∃ i : Nat, i + g = 8 ∧ s3 = .int .u64 (val (s.data.toList.take i) : Int) ∧ s4 = .int .i64 (i : Int) ∧ wx = w
theorem number_rf (s : ByteArray) (w : World) (hs : s.size = 8) :
    Calls Try.prog 63 #[.string s] w fun e w' => e = .returned (.int .u64 (val s.data.toList : Int)) ∧ w' = w := by
  have hE : val s.data.toList = val (s.data.toList.take s.size) := by rw [List.take_of_length_le (by simp)]
  generalize val s.data.toList = t at *
  have HE := Lib.hid hE
  clear hE
  go_enter Try.func63, Try.ntmps63
  go_wp2
  go_loopg [3, 4] 8 (NuRel w s)
  case atStart => exact ⟨0, by omega, rfl, rfl, rfl⟩
  case round =>
    obtain ⟨i, hk, rfl, rfl, rfl⟩ := hrel
    rcases Nat.lt_or_ge i 8 with hlt | hge
    · have hlt' : i < s.size := by omega
      have b := byteAt_eq hlt'
      have hb := byteAt_lt s i
      have hv := val_small (s := s) (i := i) (by omega)
      have V := Lib.hid (val_step hlt')
      have il : (i : Int) < (s.size : Int) := by omega
      generalize val (s.data.toList.take i) = x at *
      generalize byteAt s i = c at *
      have m1 : (c : Int) % 18446744073709551616 = (c : Int) := by omega
      have m2 : (x : Int) * 256 % 18446744073709551616 = (x : Int) * 256 := by omega
      clear HE
      go_wp2
      go_roundg (gk - 1)
      case measure => omega
      case rel => exact ⟨i + 1, by omega, by rw [V.out, Int.natCast_add, Int.natCast_mul]; rfl, rfl, rfl⟩
    · obtain rfl : i = 8 := by omega
      have e := HE.out
      rw [hs] at e
      rw [← e]
      clear HE e
      go_wp2
      go_ret
      exact ⟨rfl, rfl⟩
theorem make_rf_no (p : ByteArray) (e n : Int) (w : World) (hp : 43 < p.size) :
    Calls Try.prog 42 #[.agg #[.string p, .int .u64 e, .int .u64 n]] w fun r w' => r = .returned (.tuple #[.string ⟨#[]⟩, .int .i64 1]) ∧ Below w.heap.size w w' := by
  go_enter Try.func42, Try.ntmps42
  go_wp2
  refine bodyPost_ret (v := .tuple #[.string ⟨#[]⟩, .int .i64 1]) (by simp [results, Try.results42, go_sem]) rfl ⟨rfl, (Below.refl _ _).alloc (Nat.le_refl _) _⟩
theorem bytes4_rf (x : Nat) (w : World) (h : Is32 x) :
    Calls Try.prog 55 #[.int .u32 (x : Int)] w fun e w' => e = .returned (.string (mkB (be 4 x))) ∧ Below w.heap.size w w' := by
  have := bytes_rf x w h
  rw [bytesOf_be h] at this
  exact this
theorem sum_cell_rf {p : ByteArray} {e n : Nat} (h : p.size ≤ 43) (w : World) :
    Calls Try.prog 56 #[.string (mkB (content p.data.toList e n))] w fun r w' => r = .returned (.int .u32 (sumOf p.data.toList e n : Int)) ∧ Below w.heap.size w w' :=
  (sum_rf _ w (by rw [mkB_size]; unfold content; simp [be_length]; omega)).mono fun _ _ ⟨he, hw⟩ => ⟨he, by subst hw; exact Below.refl _ _⟩
/-- a sector's first bytes: k of what fills it up -/
def lead (p : List UInt8) (e n k : Nat) : List UInt8 := [UInt8.ofNat p.length] ++ be 4 (sumOf p e n) ++ p ++ List.replicate k 0
def LdRel (w : World) (l : List UInt8) (e n g : Nat) (s5 : Value) (wx : World) : Prop := ∃ k, k + g = 43 - l.length ∧ s5 = .string (mkB (lead l e n k)) ∧ Below w.heap.size w wx
set_option maxRecDepth 100000 in
set_option maxHeartbeats 4000000 in
theorem make_rf_yes (p : ByteArray) (e n : Nat) (w : World) (hp : p.size ≤ 43) (he : e < 18446744073709551616) (hn : n < 18446744073709551616) :
    Calls Try.prog 42 #[.agg #[.string p, .int .u64 (e : Int), .int .u64 (n : Int)]] w fun r w' => r = .returned (.tuple #[.string (mkB (sec p.data.toList e n)), .int .i64 0]) ∧ Below w.heap.size w w' := by
  have B1 := Lib.hid (fun w => eight_rf e w he)
  have B2 := Lib.hid (fun w => eight_rf n w hn)
  have K0 : Hid ((fun w' => w'.cell? ⟨w.heap.size, 0, none⟩ = some (.string p) ∧ w'.cell? ⟨w.heap.size, 1, none⟩ = some (.int .u64 (e : Int)) ∧ w'.cell? ⟨w.heap.size, 2, none⟩ = some (.int .u64 (n : Int)) ∧ Below w.heap.size w w') (w.alloc (.cells #[.string p, .int .u64 (e : Int), .int .u64 (n : Int)] 80))) := Lib.hid ⟨by simp [go_sem], by simp [go_sem], by simp [go_sem], (Below.refl _ _).alloc (Nat.le_refl _) _⟩
  simp only at K0
  have d0 := add_mk (be 8 e) (be 8 n) (by rw [be_length, be_length]; omega)
  have d1 := add_of p (be 8 e ++ be 8 n) (by simp [be_length]; omega)
  rw [show p.data.toList ++ (be 8 e ++ be 8 n) = content p.data.toList e n from rfl] at d1
  go_enter Try.func42, Try.ntmps42
  go_wp2_with fail
  go_region_held3 (fun w' => w'.cell? ⟨w.heap.size, 0, none⟩ = some (.string p) ∧ w'.cell? ⟨w.heap.size, 1, none⟩ = some (.int .u64 (e : Int)) ∧ w'.cell? ⟨w.heap.size, 2, none⟩ = some (.int .u64 (n : Int)) ∧ Below w.heap.size w w') (first | exact K0.out | exact h3_drew K0.out | assumption)
    (first
      | (go_at_call 54; (with_reducible refine (B1.out _).mono ?_); rintro r w1 ⟨rfl, b1⟩; (have k1 := h3_call (w0 := w) (b := w.heap.size) (x := .string p) (y := .int .u64 (e : Int)) (z := .int .u64 (n : Int)) (by first | exact h3_drew K0.out | exact K0.out | assumption) b1))
      | (go_at_call 54; (with_reducible refine (B2.out _).mono ?_); rintro r w2 ⟨rfl, b2⟩; (have k2 := h3_call k1 b2))
      | fail)
  clear K0 B1 B2 b1 b2 k1 d0
  have K2 := Lib.hid k2
  clear k2
  generalize hTG : mkB (be 8 e ++ be 8 n) = TG at *
  have SM := Lib.hid (fun (W : World) => sum_cell_rf (e := e) (n := n) hp W)
  have BY := Lib.hid (fun w => bytes4_rf (sumOf p.data.toList e n) w (sumOf_is32 _ _ _))
  have hm : (p.size : Int) % 256 = (p.size : Int) := by omega
  have hwr : IntKind.u8.wrap (p.size : Int) = (p.size : Int) := by rw [IntKind.wrap_u8]; omega
  have ob := fun (g : Nat) (W : World) (h : W.cell? ⟨g, 0, none⟩ = some (.int .u8 (p.size : Int))) => one_byte g p.size (by omega) W h 1
  have a1 := add_mk [UInt8.ofNat p.size] (be 4 (sumOf p.data.toList e n)) (by rw [be_length]; simp)
  have a2 : ∀ w, (Op.stringOp .add (mkB ([UInt8.ofNat p.size] ++ be 4 (sumOf p.data.toList e n))) p).run Try.prog w = .ok (.string (mkB (lead p.data.toList e n 0))) w := fun w => by
    have := add_mk ([UInt8.ofNat p.size] ++ be 4 (sumOf p.data.toList e n)) p.data.toList (by rw [← size_list, List.length_append, be_length]; simp; omega) w
    rw [mkB_of] at this
    rw [this]
    unfold lead
    rw [← size_list, List.replicate_zero, List.append_nil]
  generalize hX1 : mkB [UInt8.ofNat p.size] = X1 at *
  generalize hX2 : mkB ([UInt8.ofNat p.size] ++ be 4 (sumOf p.data.toList e n)) = X2 at *
  generalize hX3 : mkB (be 4 (sumOf p.data.toList e n)) = X3 at *
  generalize hX4 : mkB (content p.data.toList e n) = X4 at *
  go_upto_region 4 with (fail)
  go_cut [5] (fun s5 wx => s5 = .string (mkB (lead p.data.toList e n 0)) ∧ Below w.heap.size w wx)
  case first =>
    -- (the region, by frd.py)
    refine wp_region_held_drew (S := (fun w' => w'.cell? ⟨w.heap.size, 0, none⟩ = some (.string p) ∧ w'.cell? ⟨w.heap.size, 1, none⟩ = some (.int .u64 (e : Int)) ∧ w'.cell? ⟨w.heap.size, 2, none⟩ = some (.int .u64 (n : Int)) ∧ Below w.heap.size w w')) (by kernel_rfl) (h3_drew K2.out) (fun hHeld => ?_)
    refine wpAnyH_take (i := 0) (v := ?_) rfl (by kernel_rfl) (by kernel_rfl) (by kernel_rfl) (fun _ _ _ h => h) (Or.inl ⟨by rfl, ?_⟩) (by assumption) ?_
    rotate_left
    · (intro wS hSw; (try dsimp only at hSw); go_simp; try with_reducible rfl)
    (try simp only [Act.put, List.getElem_toArray, List.getElem_cons_succ, List.getElem_cons_zero, List.setIfInBounds_toArray, List.set_cons_zero, List.set_cons_succ])
    refine wpAnyH_take (i := 1) (v := ?_) rfl (by kernel_rfl) (by kernel_rfl) (by kernel_rfl) (fun _ _ _ h => h) (Or.inl ⟨by rfl, ?_⟩) (by assumption) ?_
    rotate_left
    · (intro wS hSw; (try dsimp only at hSw); go_simp; try with_reducible rfl)
    (try simp only [Act.put, List.getElem_toArray, List.getElem_cons_succ, List.getElem_cons_zero, List.setIfInBounds_toArray, List.set_cons_zero, List.set_cons_succ])
    refine wpAnyH_take (i := 2) (v := ?_) rfl (by kernel_rfl) (by kernel_rfl) (by kernel_rfl) (fun _ _ _ h => h) (Or.inl ⟨by rfl, ?_⟩) (by assumption) ?_
    rotate_left
    · (intro wS hSw; (try dsimp only at hSw); go_simp; try with_reducible rfl)
    (try simp only [Act.put, List.getElem_toArray, List.getElem_cons_succ, List.getElem_cons_zero, List.setIfInBounds_toArray, List.set_cons_zero, List.set_cons_succ])
    refine wpAnyH_take (i := 3) (v := ?_) rfl (by kernel_rfl) (by kernel_rfl) (by kernel_rfl) (fun _ _ _ h => h) (Or.inl ⟨by rfl, ?_⟩) (by assumption) ?_
    rotate_left
    · (intro wS hSw; (try dsimp only at hSw); go_simp; try with_reducible rfl)
    (try simp only [Act.put, List.getElem_toArray, List.getElem_cons_succ, List.getElem_cons_zero, List.setIfInBounds_toArray, List.set_cons_zero, List.set_cons_succ])
    refine wpAnyH_take (i := 6) (v := ?_) rfl (by kernel_rfl) (by kernel_rfl) (by kernel_rfl) (fun _ _ _ h => h) (Or.inl ⟨by rfl, ?_⟩) (by assumption) ?_
    rotate_left
    · (intro wS hSw; (try dsimp only at hSw); go_simp; try with_reducible rfl)
    (try simp only [Act.put, List.getElem_toArray, List.getElem_cons_succ, List.getElem_cons_zero, List.setIfInBounds_toArray, List.set_cons_zero, List.set_cons_succ])
    refine wpAnyH_take (i := 7) (v := ?_) rfl (by kernel_rfl) (by kernel_rfl) (by kernel_rfl) (fun _ _ _ h => h) (Or.inl ⟨by rfl, ?_⟩) (by assumption) ?_
    rotate_left
    · (intro wS hSw; (try dsimp only at hSw); go_simp; try with_reducible rfl)
    (try simp only [Act.put, List.getElem_toArray, List.getElem_cons_succ, List.getElem_cons_zero, List.setIfInBounds_toArray, List.set_cons_zero, List.set_cons_succ])
    refine wpAnyH_take (i := 8) (v := ?_) rfl (by kernel_rfl) (by kernel_rfl) (by kernel_rfl) (fun _ _ _ h => h) (Or.inl ⟨by rfl, ?_⟩) (by assumption) ?_
    rotate_left
    · (intro wS hSw; (try dsimp only at hSw); go_simp; try with_reducible rfl)
    (try simp only [Act.put, List.getElem_toArray, List.getElem_cons_succ, List.getElem_cons_zero, List.setIfInBounds_toArray, List.set_cons_zero, List.set_cons_succ])
    refine wpAnyH_take (i := 9) (v := ?_) rfl (by kernel_rfl) (by kernel_rfl) (by kernel_rfl) (fun _ _ _ h => h) (Or.inl ⟨by rfl, ?_⟩) (by assumption) ?_
    rotate_left
    · (intro wS hSw; (try dsimp only at hSw); go_simp; try with_reducible rfl)
    (try simp only [Act.put, List.getElem_toArray, List.getElem_cons_succ, List.getElem_cons_zero, List.setIfInBounds_toArray, List.set_cons_zero, List.set_cons_succ])
    refine wpAnyH_take (i := 13) (v := ?_) rfl (by kernel_rfl) (by kernel_rfl) (by kernel_rfl) (fun _ _ _ h => h) (Or.inl ⟨by rfl, ?_⟩) (by assumption) ?_
    rotate_left
    · (intro wS hSw; (try dsimp only at hSw); go_simp; try with_reducible rfl)
    (try simp only [Act.put, List.getElem_toArray, List.getElem_cons_succ, List.getElem_cons_zero, List.setIfInBounds_toArray, List.set_cons_zero, List.set_cons_succ])
    refine wpAnyH_take (i := 14) (v := ?_) rfl (by kernel_rfl) (by kernel_rfl) (by kernel_rfl) (fun _ _ _ h => h) (Or.inl ⟨by rfl, ?_⟩) (by assumption) ?_
    rotate_left
    · (intro wS hSw; (try dsimp only at hSw); go_simp; try with_reducible rfl)
    (try simp only [Act.put, List.getElem_toArray, List.getElem_cons_succ, List.getElem_cons_zero, List.setIfInBounds_toArray, List.set_cons_zero, List.set_cons_succ])
    refine wpAnyH_ready (rs := [4, 10]) (by kernel_rfl) (by simp) ?_
    refine AllReadyH.cons rfl (fun K hK => ?_) ?_
    · go_simp
      refine hK.out _ _ (h3_call (h3_drew K2.out) ((Below.refl _ _).alloc (Nat.le_refl _) _)) (fun hHeld => ?_)
      clear hK K
      (try simp only [Act.put, List.getElem_toArray, List.getElem_cons_succ, List.getElem_cons_zero, List.setIfInBounds_toArray, List.set_cons_zero, List.set_cons_succ])
      refine wpAnyH_ready (rs := [5, 10]) (by kernel_rfl) (by simp) ?_
      refine AllReadyH.cons rfl (fun K hK => ?_) ?_
      · go_simp
        refine hK.out _ _ (h3_call (h3_drew K2.out) ((Below.refl _ _).alloc (Nat.le_refl _) _)) (fun hHeld => ?_)
        clear hK K
        (try simp only [Act.put, List.getElem_toArray, List.getElem_cons_succ, List.getElem_cons_zero, List.setIfInBounds_toArray, List.set_cons_zero, List.set_cons_succ])
        refine wpAnyH_ready (rs := [10]) (by kernel_rfl) (by simp) ?_
        refine AllReadyH.cons rfl (fun K hK => ?_) ?_
        · go_simp
          (with_reducible refine (SM.out _).mono ?_)
          rintro r w3 ⟨rfl, b3⟩
          have k3 := h3_call (h3_call (h3_drew K2.out) ((Below.refl _ _).alloc (Nat.le_refl _) _)) b3
          have c3 := carry b3 (p := ⟨w2.heap.size, 0, none⟩) (v := .int .u8 (p.size : Int)) (by simp [go_sem])
          clear b3
          go_simp
          refine hK.out _ _ (k3) (fun hHeld => ?_)
          clear hK K
          (try simp only [Act.put, List.getElem_toArray, List.getElem_cons_succ, List.getElem_cons_zero, List.setIfInBounds_toArray, List.set_cons_zero, List.set_cons_succ])
          refine wpAnyH_ready (rs := [11]) (by kernel_rfl) (by simp) ?_
          refine AllReadyH.cons rfl (fun K hK => ?_) ?_
          · go_simp
            (with_reducible refine (BY.out _).mono ?_)
            rintro r w4 ⟨rfl, b4⟩
            have k4 := h3_call (k3) b4
            have c4 := carry b4 (p := ⟨w2.heap.size, 0, none⟩) (v := .int .u8 (p.size : Int)) c3
            clear b4
            go_simp
            refine hK.out _ _ (k4) (fun hHeld => ?_)
            clear hK K
            (try simp only [Act.put, List.getElem_toArray, List.getElem_cons_succ, List.getElem_cons_zero, List.setIfInBounds_toArray, List.set_cons_zero, List.set_cons_succ])
            refine wpAnyH_take (i := 12) (v := ?_) rfl (by kernel_rfl) (by kernel_rfl) (by kernel_rfl) (fun _ _ _ h => h) (Or.inl ⟨by rfl, ?_⟩) (by assumption) ?_
            rotate_left
            · (intro wS hSw; (try dsimp only at hSw); go_simp; try with_reducible rfl)
            (try simp only [Act.put, List.getElem_toArray, List.getElem_cons_succ, List.getElem_cons_zero, List.setIfInBounds_toArray, List.set_cons_zero, List.set_cons_succ])
            refine wpAnyH_take (i := 15) (v := ?_) rfl (by kernel_rfl) (by kernel_rfl) (by kernel_rfl) (fun _ _ _ h => h) (Or.inl ⟨by rfl, ?_⟩) (by assumption) ?_
            rotate_left
            · (intro wS hSw; (try dsimp only at hSw); go_simp; try with_reducible rfl)
            (try simp only [Act.put, List.getElem_toArray, List.getElem_cons_succ, List.getElem_cons_zero, List.setIfInBounds_toArray, List.set_cons_zero, List.set_cons_succ])
            refine wpAnyH_take (i := 16) (v := ?_) rfl (by kernel_rfl) (by kernel_rfl) (by kernel_rfl) (fun _ _ _ h => h) (Or.inl ⟨by rfl, ?_⟩) (by assumption) ?_
            rotate_left
            · (intro wS hSw; (try dsimp only at hSw); go_simp; try with_reducible rfl)
            (try simp only [Act.put, List.getElem_toArray, List.getElem_cons_succ, List.getElem_cons_zero, List.setIfInBounds_toArray, List.set_cons_zero, List.set_cons_succ])
            refine wpAnyH_done (by kernel_rfl) ?_ _
            (go_wp2_with fail; go_meet; exact ⟨rfl, (k4).2.2.2⟩)
          exact AllReadyH.nil
        exact AllReadyH.nil
      refine AllReadyH.cons rfl (fun K hK => ?_) ?_
      · go_simp
        (with_reducible refine (SM.out _).mono ?_)
        rintro r w3 ⟨rfl, b3⟩
        have k3 := h3_call (h3_call (h3_drew K2.out) ((Below.refl _ _).alloc (Nat.le_refl _) _)) b3
        have c3 := carry b3 (p := ⟨w2.heap.size, 0, none⟩) (v := .int .u8 (p.size : Int)) (by simp [go_sem])
        clear b3
        go_simp
        refine hK.out _ _ (k3) (fun hHeld => ?_)
        clear hK K
        (try simp only [Act.put, List.getElem_toArray, List.getElem_cons_succ, List.getElem_cons_zero, List.setIfInBounds_toArray, List.set_cons_zero, List.set_cons_succ])
        refine wpAnyH_ready (rs := [5, 11]) (by kernel_rfl) (by simp) ?_
        refine AllReadyH.cons rfl (fun K hK => ?_) ?_
        · go_simp
          refine hK.out _ _ (k3) (fun hHeld => ?_)
          clear hK K
          (try simp only [Act.put, List.getElem_toArray, List.getElem_cons_succ, List.getElem_cons_zero, List.setIfInBounds_toArray, List.set_cons_zero, List.set_cons_succ])
          refine wpAnyH_ready (rs := [11]) (by kernel_rfl) (by simp) ?_
          refine AllReadyH.cons rfl (fun K hK => ?_) ?_
          · go_simp
            (with_reducible refine (BY.out _).mono ?_)
            rintro r w4 ⟨rfl, b4⟩
            have k4 := h3_call (k3) b4
            have c4 := carry b4 (p := ⟨w2.heap.size, 0, none⟩) (v := .int .u8 (p.size : Int)) c3
            clear b4
            go_simp
            refine hK.out _ _ (k4) (fun hHeld => ?_)
            clear hK K
            (try simp only [Act.put, List.getElem_toArray, List.getElem_cons_succ, List.getElem_cons_zero, List.setIfInBounds_toArray, List.set_cons_zero, List.set_cons_succ])
            refine wpAnyH_take (i := 12) (v := ?_) rfl (by kernel_rfl) (by kernel_rfl) (by kernel_rfl) (fun _ _ _ h => h) (Or.inl ⟨by rfl, ?_⟩) (by assumption) ?_
            rotate_left
            · (intro wS hSw; (try dsimp only at hSw); go_simp; try with_reducible rfl)
            (try simp only [Act.put, List.getElem_toArray, List.getElem_cons_succ, List.getElem_cons_zero, List.setIfInBounds_toArray, List.set_cons_zero, List.set_cons_succ])
            refine wpAnyH_take (i := 15) (v := ?_) rfl (by kernel_rfl) (by kernel_rfl) (by kernel_rfl) (fun _ _ _ h => h) (Or.inl ⟨by rfl, ?_⟩) (by assumption) ?_
            rotate_left
            · (intro wS hSw; (try dsimp only at hSw); go_simp; try with_reducible rfl)
            (try simp only [Act.put, List.getElem_toArray, List.getElem_cons_succ, List.getElem_cons_zero, List.setIfInBounds_toArray, List.set_cons_zero, List.set_cons_succ])
            refine wpAnyH_take (i := 16) (v := ?_) rfl (by kernel_rfl) (by kernel_rfl) (by kernel_rfl) (fun _ _ _ h => h) (Or.inl ⟨by rfl, ?_⟩) (by assumption) ?_
            rotate_left
            · (intro wS hSw; (try dsimp only at hSw); go_simp; try with_reducible rfl)
            (try simp only [Act.put, List.getElem_toArray, List.getElem_cons_succ, List.getElem_cons_zero, List.setIfInBounds_toArray, List.set_cons_zero, List.set_cons_succ])
            refine wpAnyH_done (by kernel_rfl) ?_ _
            (go_wp2_with fail; go_meet; exact ⟨rfl, (k4).2.2.2⟩)
          exact AllReadyH.nil
        refine AllReadyH.cons rfl (fun K hK => ?_) ?_
        · go_simp
          (with_reducible refine (BY.out _).mono ?_)
          rintro r w4 ⟨rfl, b4⟩
          have k4 := h3_call (k3) b4
          have c4 := carry b4 (p := ⟨w2.heap.size, 0, none⟩) (v := .int .u8 (p.size : Int)) c3
          clear b4
          go_simp
          refine hK.out _ _ (k4) (fun hHeld => ?_)
          clear hK K
          (try simp only [Act.put, List.getElem_toArray, List.getElem_cons_succ, List.getElem_cons_zero, List.setIfInBounds_toArray, List.set_cons_zero, List.set_cons_succ])
          refine wpAnyH_ready (rs := [5]) (by kernel_rfl) (by simp) ?_
          refine AllReadyH.cons rfl (fun K hK => ?_) ?_
          · go_simp
            refine hK.out _ _ (k4) (fun hHeld => ?_)
            clear hK K
            (try simp only [Act.put, List.getElem_toArray, List.getElem_cons_succ, List.getElem_cons_zero, List.setIfInBounds_toArray, List.set_cons_zero, List.set_cons_succ])
            refine wpAnyH_take (i := 12) (v := ?_) rfl (by kernel_rfl) (by kernel_rfl) (by kernel_rfl) (fun _ _ _ h => h) (Or.inl ⟨by rfl, ?_⟩) (by assumption) ?_
            rotate_left
            · (intro wS hSw; (try dsimp only at hSw); go_simp; try with_reducible rfl)
            (try simp only [Act.put, List.getElem_toArray, List.getElem_cons_succ, List.getElem_cons_zero, List.setIfInBounds_toArray, List.set_cons_zero, List.set_cons_succ])
            refine wpAnyH_take (i := 15) (v := ?_) rfl (by kernel_rfl) (by kernel_rfl) (by kernel_rfl) (fun _ _ _ h => h) (Or.inl ⟨by rfl, ?_⟩) (by assumption) ?_
            rotate_left
            · (intro wS hSw; (try dsimp only at hSw); go_simp; try with_reducible rfl)
            (try simp only [Act.put, List.getElem_toArray, List.getElem_cons_succ, List.getElem_cons_zero, List.setIfInBounds_toArray, List.set_cons_zero, List.set_cons_succ])
            refine wpAnyH_take (i := 16) (v := ?_) rfl (by kernel_rfl) (by kernel_rfl) (by kernel_rfl) (fun _ _ _ h => h) (Or.inl ⟨by rfl, ?_⟩) (by assumption) ?_
            rotate_left
            · (intro wS hSw; (try dsimp only at hSw); go_simp; try with_reducible rfl)
            (try simp only [Act.put, List.getElem_toArray, List.getElem_cons_succ, List.getElem_cons_zero, List.setIfInBounds_toArray, List.set_cons_zero, List.set_cons_succ])
            refine wpAnyH_done (by kernel_rfl) ?_ _
            (go_wp2_with fail; go_meet; exact ⟨rfl, (k4).2.2.2⟩)
          exact AllReadyH.nil
        exact AllReadyH.nil
      exact AllReadyH.nil
    refine AllReadyH.cons rfl (fun K hK => ?_) ?_
    · go_simp
      (with_reducible refine (SM.out _).mono ?_)
      rintro r w3 ⟨rfl, b3⟩
      have k3 := h3_call (h3_drew K2.out) b3
      clear b3
      go_simp
      refine hK.out _ _ (k3) (fun hHeld => ?_)
      clear hK K
      (try simp only [Act.put, List.getElem_toArray, List.getElem_cons_succ, List.getElem_cons_zero, List.setIfInBounds_toArray, List.set_cons_zero, List.set_cons_succ])
      refine wpAnyH_ready (rs := [4, 11]) (by kernel_rfl) (by simp) ?_
      refine AllReadyH.cons rfl (fun K hK => ?_) ?_
      · go_simp
        refine hK.out _ _ (h3_call (k3) ((Below.refl _ _).alloc (Nat.le_refl _) _)) (fun hHeld => ?_)
        clear hK K
        (try simp only [Act.put, List.getElem_toArray, List.getElem_cons_succ, List.getElem_cons_zero, List.setIfInBounds_toArray, List.set_cons_zero, List.set_cons_succ])
        refine wpAnyH_ready (rs := [5, 11]) (by kernel_rfl) (by simp) ?_
        refine AllReadyH.cons rfl (fun K hK => ?_) ?_
        · go_simp
          refine hK.out _ _ (h3_call (k3) ((Below.refl _ _).alloc (Nat.le_refl _) _)) (fun hHeld => ?_)
          clear hK K
          (try simp only [Act.put, List.getElem_toArray, List.getElem_cons_succ, List.getElem_cons_zero, List.setIfInBounds_toArray, List.set_cons_zero, List.set_cons_succ])
          refine wpAnyH_ready (rs := [11]) (by kernel_rfl) (by simp) ?_
          refine AllReadyH.cons rfl (fun K hK => ?_) ?_
          · go_simp
            (with_reducible refine (BY.out _).mono ?_)
            rintro r w4 ⟨rfl, b4⟩
            have k4 := h3_call (h3_call (k3) ((Below.refl _ _).alloc (Nat.le_refl _) _)) b4
            have c4 := carry b4 (p := ⟨w3.heap.size, 0, none⟩) (v := .int .u8 (p.size : Int)) (by simp [go_sem])
            clear b4
            go_simp
            refine hK.out _ _ (k4) (fun hHeld => ?_)
            clear hK K
            (try simp only [Act.put, List.getElem_toArray, List.getElem_cons_succ, List.getElem_cons_zero, List.setIfInBounds_toArray, List.set_cons_zero, List.set_cons_succ])
            refine wpAnyH_take (i := 12) (v := ?_) rfl (by kernel_rfl) (by kernel_rfl) (by kernel_rfl) (fun _ _ _ h => h) (Or.inl ⟨by rfl, ?_⟩) (by assumption) ?_
            rotate_left
            · (intro wS hSw; (try dsimp only at hSw); go_simp; try with_reducible rfl)
            (try simp only [Act.put, List.getElem_toArray, List.getElem_cons_succ, List.getElem_cons_zero, List.setIfInBounds_toArray, List.set_cons_zero, List.set_cons_succ])
            refine wpAnyH_take (i := 15) (v := ?_) rfl (by kernel_rfl) (by kernel_rfl) (by kernel_rfl) (fun _ _ _ h => h) (Or.inl ⟨by rfl, ?_⟩) (by assumption) ?_
            rotate_left
            · (intro wS hSw; (try dsimp only at hSw); go_simp; try with_reducible rfl)
            (try simp only [Act.put, List.getElem_toArray, List.getElem_cons_succ, List.getElem_cons_zero, List.setIfInBounds_toArray, List.set_cons_zero, List.set_cons_succ])
            refine wpAnyH_take (i := 16) (v := ?_) rfl (by kernel_rfl) (by kernel_rfl) (by kernel_rfl) (fun _ _ _ h => h) (Or.inl ⟨by rfl, ?_⟩) (by assumption) ?_
            rotate_left
            · (intro wS hSw; (try dsimp only at hSw); go_simp; try with_reducible rfl)
            (try simp only [Act.put, List.getElem_toArray, List.getElem_cons_succ, List.getElem_cons_zero, List.setIfInBounds_toArray, List.set_cons_zero, List.set_cons_succ])
            refine wpAnyH_done (by kernel_rfl) ?_ _
            (go_wp2_with fail; go_meet; exact ⟨rfl, (k4).2.2.2⟩)
          exact AllReadyH.nil
        refine AllReadyH.cons rfl (fun K hK => ?_) ?_
        · go_simp
          (with_reducible refine (BY.out _).mono ?_)
          rintro r w4 ⟨rfl, b4⟩
          have k4 := h3_call (h3_call (k3) ((Below.refl _ _).alloc (Nat.le_refl _) _)) b4
          have c4 := carry b4 (p := ⟨w3.heap.size, 0, none⟩) (v := .int .u8 (p.size : Int)) (by simp [go_sem])
          clear b4
          go_simp
          refine hK.out _ _ (k4) (fun hHeld => ?_)
          clear hK K
          (try simp only [Act.put, List.getElem_toArray, List.getElem_cons_succ, List.getElem_cons_zero, List.setIfInBounds_toArray, List.set_cons_zero, List.set_cons_succ])
          refine wpAnyH_ready (rs := [5]) (by kernel_rfl) (by simp) ?_
          refine AllReadyH.cons rfl (fun K hK => ?_) ?_
          · go_simp
            refine hK.out _ _ (k4) (fun hHeld => ?_)
            clear hK K
            (try simp only [Act.put, List.getElem_toArray, List.getElem_cons_succ, List.getElem_cons_zero, List.setIfInBounds_toArray, List.set_cons_zero, List.set_cons_succ])
            refine wpAnyH_take (i := 12) (v := ?_) rfl (by kernel_rfl) (by kernel_rfl) (by kernel_rfl) (fun _ _ _ h => h) (Or.inl ⟨by rfl, ?_⟩) (by assumption) ?_
            rotate_left
            · (intro wS hSw; (try dsimp only at hSw); go_simp; try with_reducible rfl)
            (try simp only [Act.put, List.getElem_toArray, List.getElem_cons_succ, List.getElem_cons_zero, List.setIfInBounds_toArray, List.set_cons_zero, List.set_cons_succ])
            refine wpAnyH_take (i := 15) (v := ?_) rfl (by kernel_rfl) (by kernel_rfl) (by kernel_rfl) (fun _ _ _ h => h) (Or.inl ⟨by rfl, ?_⟩) (by assumption) ?_
            rotate_left
            · (intro wS hSw; (try dsimp only at hSw); go_simp; try with_reducible rfl)
            (try simp only [Act.put, List.getElem_toArray, List.getElem_cons_succ, List.getElem_cons_zero, List.setIfInBounds_toArray, List.set_cons_zero, List.set_cons_succ])
            refine wpAnyH_take (i := 16) (v := ?_) rfl (by kernel_rfl) (by kernel_rfl) (by kernel_rfl) (fun _ _ _ h => h) (Or.inl ⟨by rfl, ?_⟩) (by assumption) ?_
            rotate_left
            · (intro wS hSw; (try dsimp only at hSw); go_simp; try with_reducible rfl)
            (try simp only [Act.put, List.getElem_toArray, List.getElem_cons_succ, List.getElem_cons_zero, List.setIfInBounds_toArray, List.set_cons_zero, List.set_cons_succ])
            refine wpAnyH_done (by kernel_rfl) ?_ _
            (go_wp2_with fail; go_meet; exact ⟨rfl, (k4).2.2.2⟩)
          exact AllReadyH.nil
        exact AllReadyH.nil
      refine AllReadyH.cons rfl (fun K hK => ?_) ?_
      · go_simp
        (with_reducible refine (BY.out _).mono ?_)
        rintro r w4 ⟨rfl, b4⟩
        have k4 := h3_call (k3) b4
        clear b4
        go_simp
        refine hK.out _ _ (k4) (fun hHeld => ?_)
        clear hK K
        (try simp only [Act.put, List.getElem_toArray, List.getElem_cons_succ, List.getElem_cons_zero, List.setIfInBounds_toArray, List.set_cons_zero, List.set_cons_succ])
        refine wpAnyH_ready (rs := [4]) (by kernel_rfl) (by simp) ?_
        refine AllReadyH.cons rfl (fun K hK => ?_) ?_
        · go_simp
          refine hK.out _ _ (h3_call (k4) ((Below.refl _ _).alloc (Nat.le_refl _) _)) (fun hHeld => ?_)
          clear hK K
          (try simp only [Act.put, List.getElem_toArray, List.getElem_cons_succ, List.getElem_cons_zero, List.setIfInBounds_toArray, List.set_cons_zero, List.set_cons_succ])
          refine wpAnyH_ready (rs := [5]) (by kernel_rfl) (by simp) ?_
          refine AllReadyH.cons rfl (fun K hK => ?_) ?_
          · go_simp
            refine hK.out _ _ (h3_call (k4) ((Below.refl _ _).alloc (Nat.le_refl _) _)) (fun hHeld => ?_)
            clear hK K
            (try simp only [Act.put, List.getElem_toArray, List.getElem_cons_succ, List.getElem_cons_zero, List.setIfInBounds_toArray, List.set_cons_zero, List.set_cons_succ])
            refine wpAnyH_take (i := 12) (v := ?_) rfl (by kernel_rfl) (by kernel_rfl) (by kernel_rfl) (fun _ _ _ h => h) (Or.inl ⟨by rfl, ?_⟩) (by assumption) ?_
            rotate_left
            · (intro wS hSw; (try dsimp only at hSw); go_simp; try with_reducible rfl)
            (try simp only [Act.put, List.getElem_toArray, List.getElem_cons_succ, List.getElem_cons_zero, List.setIfInBounds_toArray, List.set_cons_zero, List.set_cons_succ])
            refine wpAnyH_take (i := 15) (v := ?_) rfl (by kernel_rfl) (by kernel_rfl) (by kernel_rfl) (fun _ _ _ h => h) (Or.inl ⟨by rfl, ?_⟩) (by assumption) ?_
            rotate_left
            · (intro wS hSw; (try dsimp only at hSw); go_simp; try with_reducible rfl)
            (try simp only [Act.put, List.getElem_toArray, List.getElem_cons_succ, List.getElem_cons_zero, List.setIfInBounds_toArray, List.set_cons_zero, List.set_cons_succ])
            refine wpAnyH_take (i := 16) (v := ?_) rfl (by kernel_rfl) (by kernel_rfl) (by kernel_rfl) (fun _ _ _ h => h) (Or.inl ⟨by rfl, ?_⟩) (by assumption) ?_
            rotate_left
            · (intro wS hSw; (try dsimp only at hSw); go_simp; try with_reducible rfl)
            (try simp only [Act.put, List.getElem_toArray, List.getElem_cons_succ, List.getElem_cons_zero, List.setIfInBounds_toArray, List.set_cons_zero, List.set_cons_succ])
            refine wpAnyH_done (by kernel_rfl) ?_ _
            (go_wp2_with fail; go_meet; exact ⟨rfl, (h3_call (k4) ((Below.refl _ _).alloc (Nat.le_refl _) _)).2.2.2⟩)
          exact AllReadyH.nil
        exact AllReadyH.nil
      exact AllReadyH.nil
    exact AllReadyH.nil
    -- (its end)
  case rest =>
    obtain ⟨rfl, bl⟩ := hcut
    have BL := Lib.hid bl
    have hl : p.data.toList.length ≤ 43 := by rw [← size_list]; exact hp
    have zl : ∀ k, (lead p.data.toList e n k).length = 5 + p.data.toList.length + k := fun k => by unfold lead; simp [be_length]; omega
    have dd : ∀ w, (Op.stringOp .add (mkB (lead p.data.toList e n (43 - p.data.toList.length))) TG).run Try.prog w = .ok (.string (mkB (sec p.data.toList e n))) w := fun w => by
      rw [← hTG, add_mk _ _ (by rw [zl]; simp [be_length]; omega)]
      rfl
    have d0 : ∀ k w, k ≤ 43 → (Op.stringOp .add (mkB (lead p.data.toList e n k)) ⟨#[0]⟩).run Try.prog w = .ok (.string (mkB (lead p.data.toList e n (k + 1)))) w := fun k w hk => by
      rw [show (⟨#[0]⟩ : ByteArray) = mkB [0] from rfl, add_mk _ _ (by rw [zl]; simp; omega)]
      congr 3
      unfold lead
      rw [List.replicate_succ', ← List.append_assoc]
    have D0 := Lib.hid d0
    have ZL := Lib.hid zl
    clear hX1 hX2 hX3 hX4 hTG a1 a2 ob hm hwr SM BY bl d1 K2 d0 zl
    generalize hL : p.data.toList = l at *
    have HL := Lib.hid hL
    clear hL
    go_wp2
    go_loopg [5] (43 - l.length) (LdRel w l e n)
    case atStart => exact ⟨0, by omega, rfl, BL.out⟩
    case round =>
      clear BL
      obtain ⟨k, hk, rfl, bl⟩ := hrel
      have zk := ZL.out k
      have zi : ((mkB (lead l e n k)).size : Int) = 5 + (l.length : Int) + (k : Int) := by rw [mkB_size, zk]; omega
      rcases Nat.lt_or_ge k (43 - l.length) with hlt | hge
      · have d := D0.out k
        have dk : decide (5 + (l.length : Int) + (k : Int) < 48) = true := by simp; omega
        generalize mkB (lead l e n k) = X at *
        have d' := fun w => d w (by omega)
        clear d
        have N := Lib.hid (show LdRel w l e n (gk - 1) (.string (mkB (lead l e n (k + 1)))) wr from ⟨k + 1, by omega, rfl, bl⟩)
        generalize mkB (lead l e n (k + 1)) = Y at *
        clear dd D0 ZL bl zk
        go_wp2
        go_roundg (gk - 1)
        case measure => omega
        case rel => exact N.out
      · obtain rfl : k = 43 - l.length := by omega
        have dk : decide (5 + (l.length : Int) + ((43 - l.length : Nat) : Int) < 48) = false := by simp; omega
        have B := Lib.hid bl
        generalize mkB (lead l e n (43 - l.length)) = X at *
        clear D0 ZL bl zk
        go_wp2
        refine bodyPost_ret (v := .tuple #[.string (mkB (sec l e n)), .int .i64 0]) (by simp [results, Try.results42, go_sem]) rfl ⟨by rw [HL.out], B.out⟩
theorem make_rf (p : ByteArray) (e n : Nat) (w : World) (he : e < 18446744073709551616) (hn : n < 18446744073709551616) :
    Calls Try.prog 42 #[.agg #[.string p, .int .u64 (e : Int), .int .u64 (n : Int)]] w fun r w' => r = .returned (.tuple #[.string (mkB (madeOf p.data.toList e n).1), .int .i64 ((madeOf p.data.toList e n).2 : Int)]) ∧ Below w.heap.size w w' := by
  unfold madeOf
  by_cases h : p.size ≤ 43
  · rw [if_pos (by rw [← size_list]; exact h)]; exact make_rf_yes p e n w h he hn
  · rw [if_neg (by rw [← size_list]; exact h)]; exact make_rf_no p _ _ w (by omega)
end Go.Proofs.Ytcbemjckcmcelaa
namespace Go.Proofs.Ytcbemjckcmcelaa
open Go.ChangeShapes Go.WideShapes Go.ChangeAt Go.RowKit Go.Joins
set_option maxRecDepth 100000
set_option linter.unusedVariables false
set_option linter.unusedSimpArgs false
theorem tag_rf_no (s : ByteArray) (w : World) (h : s.size ≠ 64) :
    Calls Try.prog 49 #[.string s] w fun r w' => r = .returned (.agg #[.int .u64 0, .int .u64 0, .bool false]) ∧ Below w.heap.size w w' := by
  have h1 : ((s.size : Int) != 64) = true := by simp; omega
  have h2 : ¬ (s.size : Int) = 64 := by omega
  go_enter Try.func49, Try.ntmps49
  go_wp2
  refine bodyPost_ret (v := .agg #[.int .u64 0, .int .u64 0, .bool false]) (by simp [results, Try.results49, go_sem]) rfl ⟨rfl, ?_⟩
  repeat (first | exact Below.refl _ _ | refine Below.setCell ?_ (by first | omega | (simp; done) | (simp; omega)) _ | refine Below.alloc ?_ (by first | omega | (simp; done) | (simp; omega)) _ | refine Below.drew ?_)
/-- where Tag's answer stands, as it was laid -/
structure Rts (w0 w : World) : Prop where
  c0 : w.cell? ⟨w0.heap.size, 0, none⟩ = some (.int .u64 0)
  c1 : w.cell? ⟨w0.heap.size, 1, none⟩ = some (.int .u64 0)
  c2 : w.cell? ⟨w0.heap.size, 2, none⟩ = some (.bool false)
  f0 : w.frozen? ⟨w0.heap.size, 0, none⟩ = false
  f1 : w.frozen? ⟨w0.heap.size, 1, none⟩ = false
  f2 : w.frozen? ⟨w0.heap.size, 2, none⟩ = false
  bel : Below w0.heap.size w0 w
set_option maxRecDepth 100000 in
set_option maxHeartbeats 4000000 in
theorem tag_rf_yes (s : ByteArray) (w : World) (h : s.size = 64) :
    Calls Try.prog 49 #[.string s] w fun r w' => r = .returned (.agg #[.int .u64 (epochOf s.data.toList : Int), .int .u64 (numberOf s.data.toList : Int), .bool true]) ∧ Below w.heap.size w w' := by
  have hi : (s.size : Int) = 64 := by omega
  have zA : (s.extract 48 56).size = 8 := by rw [ByteArray.size_extract]; omega
  have zB : (s.extract 56 64).size = 8 := by rw [ByteArray.size_extract]; omega
  have NA := Lib.hid (fun w => number_rf (s.extract 48 56) w zA)
  have NB := Lib.hid (fun w => number_rf (s.extract 56 64) w zB)
  have eA : val (s.extract 48 56).data.toList = epochOf s.data.toList := by rw [ext_list]; rfl
  have eB : val (s.extract 56 64).data.toList = numberOf s.data.toList := by rw [ext_list]; rfl
  rw [eA] at NA
  rw [eB] at NB
  have K0 : Hid (Rts w (w.alloc (.cells #[.int .u64 0, .int .u64 0, .bool false] 101)).drew) := Lib.hid ⟨by simp [go_sem], by simp [go_sem], by simp [go_sem], by simp [go_sem], by simp [go_sem], by simp [go_sem], ((Below.refl _ _).alloc (Nat.le_refl _) _).drew⟩
  clear eA eB zA zB
  generalize epochOf s.data.toList = E at *
  generalize numberOf s.data.toList = M at *
  go_enter Try.func49, Try.ntmps49
  go_wp2_with fail
  go_region_held3 (fun w' => w' = (w.alloc (.cells #[.int .u64 0, .int .u64 0, .bool false] 101)).drew ∨ Below w.heap.size w w') (first | exact .inl rfl | (right; repeat (first | exact Below.refl _ _ | refine Below.setCell ?_ (by first | omega | (simp; done) | (simp; omega)) _ | refine Below.alloc ?_ (by first | omega | (simp; done) | (simp; omega)) _ | refine Below.drew ?_)))
    (first
      | (go_at_call 63; (with_reducible refine (NA.out _).mono ?_); rintro r w1 ⟨rfl, rfl⟩)
      | (go_at_call 63; (with_reducible refine (NB.out _).mono ?_); rintro r w2 ⟨rfl, rfl⟩)
      | fail)
  go_wp2
  refine bodyPost_ret (v := .agg #[.int .u64 (E : Int), .int .u64 (M : Int), .bool true]) (by simp [results, Try.results49, go_sem]) rfl ⟨rfl, ?_⟩
  repeat (first | exact Below.refl _ _ | refine Below.setCell ?_ (by first | omega | (simp; done) | (simp; omega)) _ | refine Below.alloc ?_ (by first | omega | (simp; done) | (simp; omega)) _ | refine Below.drew ?_)
theorem tag_rf (s : ByteArray) (w : World) :
    Calls Try.prog 49 #[.string s] w fun r w' => r = .returned (.agg #[.int .u64 (tagE s.data.toList : Int), .int .u64 (tagN s.data.toList : Int), .bool (decide (s.size = 64))]) ∧ Below w.heap.size w w' := by
  unfold tagE tagN
  by_cases h : s.size = 64
  · rw [if_pos (by rw [← size_list]; exact h), if_pos (by rw [← size_list]; exact h), decide_eq_true h]; exact tag_rf_yes s w h
  · rw [if_neg (by rw [← size_list]; exact h), if_neg (by rw [← size_list]; exact h), decide_eq_false h]; exact tag_rf_no s w h
theorem read_rf_size (s : ByteArray) (w : World) (h : s.size ≠ 64) :
    Calls Try.prog 37 #[.string s] w fun r w' => r = .returned (.tuple #[cellOf (rdc s.data.toList), .bool (rdc s.data.toList).isSome]) ∧ Below w.heap.size w w' := by
  rw [rdc_size (by rw [← size_list]; exact h)]
  have h1 : ((s.size : Int) != 64) = true := by simp; omega
  have h2 : ¬ (s.size : Int) = 64 := by omega
  go_enter Try.func37, Try.ntmps37
  go_wp2
  refine bodyPost_ret (v := .tuple #[.agg #[.string ⟨#[]⟩, .int .u64 0, .int .u64 0], .bool false]) (by simp [results, Try.results37, go_sem]) rfl ⟨rfl, ?_⟩
  repeat (first | exact Below.refl _ _ | refine Below.setCell ?_ (by first | omega | (simp; done) | (simp; omega)) _ | refine Below.alloc ?_ (by first | omega | (simp; done) | (simp; omega)) _ | refine Below.drew ?_)
set_option maxRecDepth 100000 in
set_option maxHeartbeats 4000000 in
theorem read_rf_64 (s : ByteArray) (w : World) (h : s.size = 64) :
    Calls Try.prog 37 #[.string s] w fun r w' => r = .returned (.tuple #[cellOf (rdc s.data.toList), .bool (rdc s.data.toList).isSome]) ∧ Below w.heap.size w w' := by
  have T := Lib.hid (fun w => tag_rf_yes s w h)
  have hi : (s.size : Int) = 64 := by omega
  have hb := byteAt_eq (s := s) (i := 0) (by omega)
  have hk := head_byte (s := s) (by omega)
  have hlt := byteAt_lt s 0
  by_cases h43 : 43 < byteAt s 0
  · rw [rdc_first (by rw [hk]; exact h43)]
    generalize byteAt s 0 = k at *
    have hk3 : decide ((43 : Int) < (k : Int)) = true := by simp; omega
    clear hk T
    go_enter Try.func37, Try.ntmps37
    go_wp2
    refine bodyPost_ret (v := .tuple #[.agg #[.string ⟨#[]⟩, .int .u64 0, .int .u64 0], .bool false]) (by simp [results, Try.results37, go_sem]) rfl ⟨rfl, ?_⟩
    repeat (first | exact Below.refl _ _ | refine Below.setCell ?_ (by first | omega | (simp; done) | (simp; omega)) _ | refine Below.alloc ?_ (by first | omega | (simp; done) | (simp; omega)) _ | refine Below.drew ?_)
  · have h43' : byteAt s 0 ≤ 43 := by omega
    have hE := epochOf_lt s.data.toList
    have hM := numberOf_lt s.data.toList
    have hP : payOf s.data.toList = (s.extract 5 (5 + byteAt s 0)).data.toList := by
      unfold payOf; rw [hk, ext_list]
      congr 1
      omega
    have l64 : s.data.toList.length = 64 := by rw [← size_list]; exact h
    have RD : Hid (rdc s.data.toList = if mkB (sec (payOf s.data.toList) (epochOf s.data.toList) (numberOf s.data.toList)) = s then some (payOf s.data.toList, epochOf s.data.toList, numberOf s.data.toList) else none) := Lib.hid (by
      unfold rdc
      by_cases hc : sec (payOf s.data.toList) (epochOf s.data.toList) (numberOf s.data.toList) = s.data.toList
      · rw [if_pos ⟨l64, by rw [hk]; exact h43', hc⟩, if_pos (by rw [hc, mkB_of])]
      · rw [if_neg (fun c => hc c.2.2), if_neg (fun c => hc (by rw [← mkB_data (sec _ _ _), c]))])
    have zP : (s.extract 5 (5 + byteAt s 0)).size ≤ 43 := by rw [ByteArray.size_extract]; omega
    have MK := Lib.hid (fun w => make_rf_yes (s.extract 5 (5 + byteAt s 0)) _ _ w zP hE hM)
    rw [hP] at RD
    have hx : s.extract 5 (5 + (byteAt s 0 : Int)).toNat = s.extract 5 (5 + byteAt s 0) := by congr 1
    generalize s.extract 5 (5 + byteAt s 0) = P at *
    generalize epochOf s.data.toList = E at *
    generalize numberOf s.data.toList = M at *
    generalize byteAt s 0 = k at *
    have hk3 : decide ((43 : Int) < (k : Int)) = false := by simp; omega
    have hk0 : (0 : Int) ≤ 5 + (k : Int) := by omega
    have hk5 : (5 : Int) ≤ 5 + (k : Int) := by omega
    have hk6 : 5 + (k : Int) ≤ (s.size : Int) := by omega
    have hk7 : 5 + (k : Int) ≤ 64 := by omega
    have hwr : IntKind.i64.wrap (k : Int) = (k : Int) := by rw [IntKind.wrap_i64]; omega
    clear hk hP l64 zP hE hM
    go_enter Try.func37, Try.ntmps37
    go_wp2_with fail
    (with_reducible refine (T.out _).mono ?_)
    rintro r w1 ⟨rfl, b1⟩
    have R1 := (res_new w).call b1
    clear b1 T
    have lt1 := R1.lt
    have ne1 : ¬ w.heap.size = w1.heap.size := by omega
    go_wp2_with fail
    go_region
    have R2 := (R1.call ((Below.refl _ _).alloc (Nat.le_refl _) (.cells #[.int .u64 (E : Int), .int .u64 (M : Int), .bool true] 101))).call ((Below.refl _ _).alloc (Nat.le_refl _) (.cells #[.string P, .int .u64 (E : Int), .int .u64 (M : Int)] 80)).drew
    go_wp2_with fail
    (with_reducible refine (MK.out _).mono ?_)
    rintro r w7 ⟨rfl, b7⟩
    have R7 := Lib.hid (R2.call b7)
    have q0 := carry b7 (p := ⟨w1.heap.size + 1, 0, none⟩) (v := .string P) (by simp [go_sem])
    have q1 := carry b7 (p := ⟨w1.heap.size + 1, 1, none⟩) (v := .int .u64 (E : Int)) (by simp [go_sem])
    have q2 := carry b7 (p := ⟨w1.heap.size + 1, 2, none⟩) (v := .int .u64 (M : Int)) (by simp [go_sem])
    have c0 := R7.out.c0
    have c1 := R7.out.c1
    have c2 := R7.out.c2
    have f0 := R7.out.f0
    have f1 := R7.out.f1
    have f2 := R7.out.f2
    have ne : ¬ w1.heap.size + 1 = w.heap.size := by omega
    have ne2 : ¬ w.heap.size = w1.heap.size + 1 := by omega
    clear b7 R1 R2 MK
    by_cases hc : mkB (sec P.data.toList E M) = s
    · have HR : Hid (rdc s.data.toList = some (P.data.toList, E, M)) := Lib.hid (by rw [RD.out, if_pos hc])
      rw [hc]
      have t1 : (s.toList != s.toList) = false := by simp
      have e : (Value.agg #[.string P, .int .u64 (E : Int), .int .u64 (M : Int)]) = cellOf (some (P.data.toList, E, M)) := by
        show _ = Value.agg #[.string (mkB P.data.toList), .int .u64 (E : Int), .int .u64 (M : Int)]
        rw [mkB_of]
      have Q := Lib.hid e
      clear RD hc e
      go_wp2
      refine bodyPost_ret (v := .tuple #[.agg #[.string P, .int .u64 (E : Int), .int .u64 (M : Int)], .bool true]) (by simp [results, Try.results37, go_sem, c0, c1, c2]) rfl ⟨by rw [Q.out, HR.out]; rfl, R7.out.set _ _ _⟩
    · have HR : Hid (rdc s.data.toList = none) := Lib.hid (by rw [RD.out, if_neg hc])
      have t1 : ((mkB (sec P.data.toList E M)).toList != s.toList) = true := by
        rw [toList_mkB, toList_of]
        simp
        intro e
        exact hc (by rw [e, mkB_of])
      have t2 : ((mkB (sec P.data.toList E M)).toList == s.toList) = false := by simpa [bne] using t1
      generalize mkB (sec P.data.toList E M) = X at *
      clear RD hc
      go_wp2
      refine bodyPost_ret (v := .tuple #[.agg #[.string ⟨#[]⟩, .int .u64 0, .int .u64 0], .bool false]) (by simp [results, Try.results37, go_sem, c0, c1, c2]) rfl ⟨by rw [HR.out]; rfl, R7.out.set _ _ _⟩
theorem read_rf4 (s : ByteArray) (w : World) :
    Calls Try.prog 37 #[.string s] w fun r w' => r = .returned (.tuple #[cellOf (rdc s.data.toList), .bool (rdc s.data.toList).isSome]) ∧ Below w.heap.size w w' := by
  by_cases h : s.size = 64
  · exact read_rf_64 s w h
  · exact read_rf_size s w h
set_option maxRecDepth 100000 in
theorem whole_rf (s : ByteArray) (e n : Nat) (w : World) :
    Calls Try.prog 36 #[.string s, .int .u64 (e : Int), .int .u64 (n : Int)] w fun r w' => r = .returned (.bool (whole s.data.toList e n)) ∧ Below w.heap.size w w' := by
  have RA := Lib.hid (fun w => read_rf4 s w)
  have hw : whole s.data.toList e n = match rdc s.data.toList with | some c => c.2.1 == e && c.2.2 == n | none => false := rfl
  rw [hw]
  cases hr : rdc s.data.toList with
  | none =>
    rw [hr] at RA
    clear hw hr
    simp only [cellOf, Option.isSome] at RA
    go_enter Try.func36, Try.ntmps36
    go_wp2_with fail
    (with_reducible refine (RA.out _).mono ?_)
    rintro r w1 ⟨rfl, b1⟩
    go_wp2
    go_ret
    exact ⟨rfl, b1.alloc b1.size _⟩
  | some c =>
    obtain ⟨p, f, m⟩ := c
    rw [hr] at RA
    clear hw hr
    simp only [cellOf, Option.isSome] at RA
    have d1 : ((f : Int) == (e : Int)) = (f == e) := by
      by_cases h : f = e
      · simp [h]
      · rw [beq_eq_false_iff_ne.2 h]; simp; omega
    have d2 : ((m : Int) == (n : Int)) = (m == n) := by
      by_cases h : m = n
      · simp [h]
      · rw [beq_eq_false_iff_ne.2 h]; simp; omega
    dsimp only
    generalize (f == e) = x at *
    generalize (m == n) = y at *
    go_enter Try.func36, Try.ntmps36
    go_wp2_with fail
    (with_reducible refine (RA.out _).mono ?_)
    rintro r w1 ⟨rfl, b1⟩
    have B1 := Lib.hid (b1.alloc b1.size (.cells #[.string (mkB p), .int .u64 (f : Int), .int .u64 (m : Int)] 80))
    clear b1 RA
    cases x <;> cases y
    all_goals
      go_wp2
      go_ret
      exact ⟨rfl, B1.out⟩
end Go.Proofs.Ytcbemjckcmcelaa
namespace Go.Proofs.Ytcbemjckcmcelaa
open Go.ChangeShapes Go.WideShapes Go.ChangeAt Go.RowKit Go.Joins
set_option maxRecDepth 100000
set_option linter.unusedVariables false
set_option linter.unusedSimpArgs false
def SmRel (w : World) (n : Nat) (g : Nat) (s5 : Value) (wx : World) : Prop := ∃ i : Nat, i + g = n ∧ s5 = .int .i64 (i : Int) ∧ ∃ q, wx = w.drewN q
theorem drewN_cell (w : World) (q : Nat) (a : Addr) : (w.drewN q).cell? a = w.cell? a := rfl
set_option maxRecDepth 100000 in
set_option maxHeartbeats 4000000 in
/-- rows of the same texts are the same -/
theorem same_rf (B C : Nat) (v u : Value) (ds : List (List UInt8)) (w : World) (hv : Strs B w v ds) (hu : Strs C w u ds) (hne : ds ≠ []) (hn : ds.length ≤ 100000) :
    Calls Try.prog 16 #[v, u] w fun r w' => r = .returned (.bool true) ∧ Below w.heap.size w w' := by
  obtain ⟨g, cap, rfl, -, -, hg⟩ := hv.cell hne
  obtain ⟨k, cap2, rfl, -, -, hk⟩ := hu.cell hne
  clear hv hu
  have HG := Lib.hid hg
  have HK := Lib.hid hk
  clear hg hk
  have n1 : ((ds.length : Int) != (ds.length : Int)) = false := by simp
  go_enter Try.func16, Try.ntmps16
  go_wp2
  go_loopg [5] (ds.length) (SmRel w ds.length)
  case atStart => exact ⟨0, by omega, rfl, 0, rfl⟩
  case round =>
    obtain ⟨i, hi, rfl, q, rfl⟩ := hrel
    rcases Nat.lt_or_ge i ds.length with hlt | hge
    · have c1 : w.cell? ⟨g, i, none⟩ = some (.string (mkB ds[i])) := HG.out i hlt
      have c2 : w.cell? ⟨k, i, none⟩ = some (.string (mkB ds[i])) := HK.out i hlt
      have il : (i : Int) < (ds.length : Int) := by omega
      have n2 : ((mkB ds[i]).toList != (mkB ds[i]).toList) = false := by simp
      generalize mkB ds[i] = X at *
      clear HG HK
      go_wp2_with fail
      go_region
      all_goals
        go_wp2
        go_roundg (gk - 1)
        case measure => omega
        case rel => exact ⟨i + 1, by omega, rfl, q + 1, rfl⟩
    · obtain rfl : i = ds.length := by omega
      go_wp2
      go_ret
      exact ⟨rfl, ⟨rfl, rfl, rfl, Nat.le_refl _, fun _ _ => rfl⟩⟩
end Go.Proofs.Ytcbemjckcmcelaa
