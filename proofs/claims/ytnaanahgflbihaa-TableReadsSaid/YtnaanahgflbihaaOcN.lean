/- next: the number that stands at a text's beginning. -/
import Derived.Test.YtnaanahgflbihaaOcW
import Derived.RegionTactic
namespace Go.Proofs.Ytnaanahgflbihaa.Oc
open Go.ChangeShapes Go.WideShapes Go.ChangeAt Go.RowKit Go.Joins
set_option maxRecDepth 100000
set_option linter.unusedVariables false
set_option linter.unusedSimpArgs false
/-- the byte of s at i -/
def byteAt (s : ByteArray) (i : Nat) : Nat := if h : i < s.size then s[i].toNat else 0
theorem byteAt_lt (s : ByteArray) (i : Nat) : byteAt s i < 256 := by
  unfold byteAt; split
  · exact UInt8.toNat_lt _
  · omega
theorem byteAt_eq {s : ByteArray} {i : Nat} (h : i < s.size) : s[i].toNat = byteAt s i := by unfold byteAt; rw [dif_pos h]
theorem list_size (s : ByteArray) : s.data.toList.length = s.size := by simp
theorem list_get {s : ByteArray} {i : Nat} (h : i < s.size) : s.data.toList[i]? = some (UInt8.ofNat (byteAt s i)) := by
  rw [← byteAt_eq h, List.getElem?_eq_getElem (by simpa using h)]
  simp
  rfl
theorem extract_list (s : ByteArray) (a b : Nat) : (s.extract a b).data.toList = (s.data.toList.take b).drop a := by
  rw [ByteArray.data_extract, Array.toList_extract]
  simp [List.extract, List.drop_take]
theorem below_drewN (w : World) (n : Nat) : Below w.heap.size w (w.drewN n) := ⟨rfl, rfl, rfl, Nat.le_refl _, fun _ _ => rfl⟩
def nextR (l : List UInt8) : Value := match dec l with
  | some (n, r) => .tuple #[.int .u64 (n : Int), .string (mkB r), .bool true]
  | none => .tuple #[.int .u64 0, .string ⟨#[]⟩, .bool false]
theorem nextR_none {l : List UInt8} (h : dec l = none) : nextR l = .tuple #[.int .u64 0, .string ⟨#[]⟩, .bool false] := by unfold nextR; rw [h]
theorem nextR_some {l : List UInt8} {n : Nat} {r : List UInt8} (h : dec l = some (n, r)) : nextR l = .tuple #[.int .u64 (n : Int), .string (mkB r), .bool true] := by unfold nextR; rw [h]
theorem or64 (x y : Nat) (h : x < 18446744073709551616) (k : y < 18446744073709551616) : bits .or .u64 (x : Int) (y : Int) = ((x ||| y : Nat) : Int) := u64_or_nat x y h k
theorem or_low {a b n : Nat} (h : b < 2 ^ n) : a * 2 ^ n ||| b = a * 2 ^ n + b := by
  rw [Nat.mul_comm]; exact (Nat.two_pow_add_eq_or_of_lt h a).symm
theorem join_byte {a b : Nat} (ha : a < 72057594037927936) (hb : b < 256) : bits .or .u64 ((a : Int) * 256) (b : Int) = ((a * 256 + b : Nat) : Int) := by
  have e := or64 (a * 256) b (by omega) (by omega)
  rw [show ((a * 256 : Nat) : Int) = (a : Int) * 256 by omega] at e
  rw [e, or_low (n := 8) hb]
def NxRel (k : Nat) (t : ByteArray) (w : World) (g : Nat) (s2 s4 s20 : Value) (wx : World) : Prop := ∃ i : Nat, i + g = k ∧ i ≤ t.size ∧ s2 = .int .u64 (val (t.data.toList.take i) : Int) ∧ s4 = .bool true ∧ s20 = .int .i64 (i : Int) ∧ (0 < i → t.data.toList.head? ≠ some 0) ∧ wx = w
set_option maxHeartbeats 1000000 in
set_option maxRecDepth 100000 in
theorem next_any (s : ByteArray) (w : World) (hs : s.size ≤ 1000000) :
    Calls Try.prog 84 #[.string s] w fun e w' => e = .returned (nextR s.data.toList) ∧ Below w.heap.size w w' := by
  by_cases h0 : s.size = 0
  · have e : s.data.toList = [] := List.eq_nil_of_length_eq_zero (by rw [list_size]; exact h0)
    have es : s = ⟨#[]⟩ := by rw [← mkB_of s, e]; rfl
    rw [nextR_none (by rw [e]; rfl)]
    subst es
    clear e h0
    go_enter Try.func84, Try.ntmps84
    go_wp2_with fail
    go_step3
    go_wp2
    simp only [Exit.noGoto]
    exact bodyPost_ret (v := .tuple #[.int .u64 0, .string ⟨#[]⟩, .bool false]) (by simp [results, Try.results84, go_sem]) rfl ⟨rfl, Below.refl _ _⟩
  · have l0 : 0 < s.size := by omega
    have b0 := byteAt_eq l0
    have t0 := byteAt_lt s 0
    generalize hk : byteAt s 0 = k at *
    have z0 : ¬ s.toList = [] := fun e => by rw [ByteArray.toList_eq] at e; have := list_size s; rw [e] at this; simp at this; omega
    have z1 : s.toList.isEmpty = false := by simpa using z0
    have z2 : (s.toList == []) = false := by simpa using z0
    have EL : Hid (s.data.toList = UInt8.ofNat k :: (s.extract 1 s.size).data.toList) := Lib.hid (by
      rw [extract_list, List.take_of_length_le (by simp)]
      have := list_get l0
      rw [hk] at this
      cases hl : s.data.toList with
      | nil => rw [hl] at this; simp at this
      | cons x y => rw [hl] at this; simp at this; simp [this])
    have ku : Hid ((UInt8.ofNat k).toNat = k) := Lib.hid (by rw [UInt8.toNat_ofNat']; omega)
    clear hk
    by_cases h8 : k ≤ 8
    · have st : (s.extract 1 s.size).size ≤ 1000000 := by rw [ByteArray.size_extract]; omega
      have i1 : (1 : Int) ≤ (s.size : Int) := by omega
      generalize ht : s.extract 1 s.size = t at *
      have HT := Lib.hid ht
      clear ht
      go_enter Try.func84, Try.ntmps84
      go_wp2_with fail
      go_step3
      go_wp2_with fail
      go_quiet (fail)
      go_wp2_with fail
      go_step3
      go_wp2_with fail
      rw [show decide ((8 : Int) < (k : Int)) = false by simp; omega, HT.out]
      have BW : Below w.heap.size w (w.drewN nq) := below_drewN _ _
      generalize w.drewN nq = w1 at *
      have H8 := Lib.hid h8
      clear z0 z1 z2 b0 HT i1 h0 l0 t0
      go_loopg [2, 4, 20] k (NxRel k t w1)
      case atStart => exact ⟨0, by omega, by omega, rfl, rfl, rfl, by omega, rfl⟩
      case round =>
        obtain ⟨i, hg, hit, rfl, rfl, rfl, hh, rfl⟩ := hrel
        have HH := Lib.hid hh
        clear hh
        rcases Nat.lt_or_ge i k with hlt | hge
        · rcases Nat.lt_or_ge i t.size with hl | hl
          · have c1 : ((i : Int) == (t.size : Int)) = false := by simp; omega
            have c1' : (i == t.size) = false := by simp; omega
            have bi := byteAt_eq hl
            have bl := byteAt_lt t i
            have hg := list_get hl
            have hv : val (t.data.toList.take i) < 72057594037927936 := by
              have := val_lt (t.data.toList.take i)
              have h2 : 256 ^ (t.data.toList.take i).length ≤ 256 ^ 7 := Nat.pow_le_pow_right (by omega) (by simp; omega)
              have h3 : (256 : Nat) ^ 7 = 72057594037927936 := by decide
              omega
            have SN : Hid (val (t.data.toList.take (i + 1)) = val (t.data.toList.take i) * 256 + byteAt t i) := Lib.hid (by
              rw [List.take_add_one, hg]
              simp only [Option.toList]
              rw [val_snoc, UInt8.toNat_ofNat']; omega)
            have HD : Hid (i = 0 → t.data.toList.head? = some (UInt8.ofNat (byteAt t i))) := Lib.hid (fun e => by subst e; rw [List.head?_eq_getElem?]; exact hg)
            clear hg
            generalize byteAt t i = c at *
            generalize val (t.data.toList.take i) = q at *
            have J := join_byte hv bl
            have m1 : (q : Int) * 256 % 18446744073709551616 = (q : Int) * 256 := by omega
            have m2 : (c : Int) % 18446744073709551616 = (c : Int) := by omega
            have J1 := Lib.hid J
            clear J
            by_cases hc0 : i = 0 ∧ c = 0
            · obtain ⟨rfl, rfl⟩ := hc0
              have NR := Lib.hid (nextR_none (l := s.data.toList) (by
                rw [EL.out, dec_cons, ku.out, if_neg]
                rintro ⟨-, -, h3⟩
                apply h3
                have := HD.out rfl
                cases hl : t.data.toList with
                | nil => rw [hl] at this; cases this
                | cons x y =>
                  rw [hl] at this
                  obtain ⟨k', rfl⟩ : ∃ k', k = k' + 1 := ⟨k - 1, by omega⟩
                  simpa using this))
              clear EL ku HD SN HH J1 m1 m2
              go_wp2
              simp only [Exit.noGoto]
              refine bodyPost_ret (v := .tuple #[.int .u64 0, .string ⟨#[]⟩, .bool false]) (by simp [results, Try.results84, go_sem]) rfl ⟨by rw [NR.out], BW⟩
            · have HC : Hid (t.data.toList.head? ≠ some 0) := Lib.hid (by
                rcases Nat.eq_zero_or_pos i with e | e
                · rw [HD.out e]
                  intro e2
                  have e3 : (UInt8.ofNat c).toNat = 0 := by rw [Option.some.inj e2]; rfl
                  rw [UInt8.toNat_ofNat'] at e3
                  exact hc0 ⟨e, by omega⟩
                · exact HH.out e)
              by_cases i0 : i = 0
              · subst i0
                have c2 : ((c : Int) == 0) = false := by simp; omega
                clear HH HD EL ku hc0
                go_wp2
                go_roundg (gk - 1)
                case measure => omega
                case rel => exact ⟨0 + 1, by omega, by omega, by rw [SN.out, ← J1.out], rfl, by go_num, fun _ => HC.out, rfl⟩
              · have c2 : ((i : Int) == 0) = false := by simp; omega
                clear HH HD EL ku hc0
                go_wp2
                go_roundg (gk - 1)
                case measure => omega
                case rel => exact ⟨i + 1, by omega, by omega, by rw [SN.out, ← J1.out], rfl, by go_num, fun _ => HC.out, rfl⟩
          · have e : i = t.size := by omega
            subst e
            have NR := Lib.hid (nextR_none (l := s.data.toList) (by
              rw [EL.out, dec_cons, ku.out, if_neg]
              rintro ⟨-, h2, -⟩
              rw [list_size] at h2
              omega))
            clear EL ku HH
            go_wp2
            simp only [Exit.noGoto]
            refine bodyPost_ret (v := .tuple #[.int .u64 0, .string ⟨#[]⟩, .bool false]) (by simp [results, Try.results84, go_sem]) rfl ⟨by rw [NR.out], BW⟩
        · have e : i = k := by omega
          subst e
          have ex : t.extract i t.size = mkB (t.data.toList.drop i) := mkB_ext (by rw [extract_list, List.take_of_length_le (by simp)])
          have NR := Lib.hid (nextR_some (l := s.data.toList) (n := val (t.data.toList.take i)) (r := t.data.toList.drop i) (by
            rw [EL.out, dec_cons, ku.out, if_pos]
            refine ⟨h8, by rw [list_size]; exact hit, ?_⟩
            rcases Nat.eq_zero_or_pos i with e | e
            · subst e; simp
            · have := HH.out e
              cases hl : t.data.toList with
              | nil => simp
              | cons x y =>
                obtain ⟨k', rfl⟩ : ∃ k', i = k' + 1 := ⟨i - 1, by omega⟩
                rw [hl] at this
                simpa using this))
          clear EL ku HH
          have i2 : (i : Int) ≤ (t.size : Int) := by omega
          go_wp2
          go_quiet (fail)
          go_wp2
          simp only [Exit.noGoto]
          refine bodyPost_ret (v := .tuple #[.int .u64 (val (t.data.toList.take i) : Int), .string (mkB (t.data.toList.drop i)), .bool true]) (by simp [results, Try.results84, go_sem]) rfl ⟨by rw [NR.out], BW.trans ((below_drewN _ _).mono BW.size)⟩
    · have h9 : 8 < k := by omega
      rw [nextR_none (by rw [EL.out, dec_cons, ku.out, if_neg (by omega)])]
      clear h8 EL ku
      go_enter Try.func84, Try.ntmps84
      go_wp2_with fail
      go_step3
      go_wp2
      simp only [Exit.noGoto]
      exact bodyPost_ret (v := .tuple #[.int .u64 0, .string ⟨#[]⟩, .bool false]) (by simp [results, Try.results84, go_sem]) rfl ⟨rfl, Below.refl _ _⟩
end Go.Proofs.Ytnaanahgflbihaa.Oc
