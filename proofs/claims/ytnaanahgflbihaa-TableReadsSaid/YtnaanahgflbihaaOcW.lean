/- The writer's methods. -/
import Derived.Test.YtnaanahgflbihaaOcB
import Derived.Deep.LoopGhost
import Derived.Deep.QuietTactic
import Derived.BigQuiet
import Derived.StillTailTactics
import Derived.Laws.BitsAll
import Derived.IntWalk
namespace Go.Proofs.Ytnaanahgflbihaa.Oc
open Go.ChangeShapes Go.WideShapes Go.ChangeAt Go.RowKit Go.Joins
set_option maxRecDepth 100000
set_option linter.unusedVariables false
set_option linter.unusedSimpArgs false
/-- a writer at block b, with its bytes -/
def Wr (B b : Nat) (l : List UInt8) (w : World) : Prop := ∃ p h, BAt B b p h l w ∧ ((p = .pointer none ∧ h = .pointer none ∧ l = []) ∨ (p = self b ∧ h = self b))
theorem szW : (Try.prog.info? 89).map (·.size) = some 3 := by kernel_rfl
theorem eql_nil (w : World) (a : Addr) : (binOp .eql 84 (.pointer none) (.pointer (some a))).run Try.prog w = .ok (.bool false) w := by
  have h : ∀ d : Nat, (Op.equalIn (d + 1) 84 (.pointer none) (.pointer (some a))).run Try.prog w = .ok false w := fun d => by
    simp [Op.equalIn, run_underlying Try.underlying84, sizeOf, typeInfo]
  simp only [binOp]
  simp [Op.equal, Op.maxDepth, h 9999]
set_option maxHeartbeats 1000000 in
set_option maxRecDepth 100000 in
theorem settle_any (B b : Nat) (l : List UInt8) (w : World) (k : Wr B b l w) (hlen : l.length ≤ 1000000) (hBw : B ≤ w.heap.size) :
    Calls Try.prog 86 #[self b] w fun e w' => e = .returned (.tuple #[]) ∧ BAt B b (self b) (self b) l w' ∧ Moved b w w' := by
  obtain ⟨p, h, k, hp⟩ := k
  obtain ⟨j, hj, _⟩ := Option.map_eq_some_iff.1 szW
  have k' := k
  obtain ⟨hB, v, hbk, -, -⟩ := k'
  have c2 : w.cell? ⟨b, 2, none⟩ = some h := by rw [Lib.cell_of_heap hbk]; rfl
  have K := Lib.hid k
  clear k hbk
  rcases hp with ⟨rfl, rfl, rfl⟩ | ⟨rfl, rfl⟩
  · have E := fun w => eql_nil w ⟨b, 0, none⟩
    go_enter Try.func86, Try.ntmps86
    go_wp2_with fail
    (with_reducible refine (string_any B b _ _ _ _ K.out (by simp)).mono ?_)
    rintro e w1 ⟨rfl, k1, m1⟩
    clear c2 K
    go_wp2_with fail
    (with_reducible refine (reset_any B b _ _ _ _ k1).mono ?_)
    rintro e w2 ⟨rfl, k2, m2⟩
    have s2 := (m1.trans m2).size
    go_wp2_with fail
    (with_reducible refine (writeString_any B b _ _ _ _ _ k2 (own_nil b) (by rw [mkB_size]; simp) (by omega)).mono ?_)
    rintro e w3 ⟨rfl, k3, m3⟩
    rw [mkB_data] at k3
    have m4 := (m1.trans m2).trans m3
    have k4 := k3.homed (self b)
    obtain ⟨hB, v, hbk, -, -⟩ := k3
    have c2 : w3.cell? ⟨b, 2, none⟩ = some (.pointer none) := by rw [Lib.cell_of_heap hbk]; rfl
    have f2 : w3.frozen? ⟨b, 2, none⟩ = false := Lib.frozen_of_heap hbk 2
    have FIN : Hid (BAt B b (self b) (self b) [] (w3.setCell ⟨b, 2, none⟩ (self b)) ∧ Moved b w (w3.setCell ⟨b, 2, none⟩ (self b))) := ⟨k4, m4.trans (Moved.set hbk 2 _ (by omega))⟩
    clear m1 m2 m3 m4 k1 k2 k4 hbk
    go_wp2
    go_end0
    exact ⟨rfl, FIN.out⟩
  · have E := fun w => run_eql_ptr_same w ⟨b, 0, none⟩ Try.underlying84 hj
    go_enter Try.func86, Try.ntmps86
    go_wp2
    try simp only [Exit.inBlock, Exit.then]
    exact bodyPost_ret (results_none rfl _ _ _) rfl ⟨rfl, K.out, Moved.refl _ _⟩
def SzRel (t : Nat) (w : World) (g : Nat) (s0 s3 : Value) (wx : World) : Prop := ∃ n k : Nat, g = n ∧ n < 18446744073709551616 ∧ s0 = .int .u64 (n : Int) ∧ s3 = .int .i64 (k : Int) ∧ k + (bytesOf n).length = t ∧ wx = w
theorem sizeOf_any (n : Nat) (w : World) (hn : n < 18446744073709551616) :
    Calls Try.prog 87 #[.int .u64 (n : Int)] w fun e w' => e = .returned (.int .i64 ((bytesOf n).length : Int)) ∧ w' = w := by
  have h8 := bytesOf_len8 hn
  go_enter Try.func87, Try.ntmps87
  go_wp2
  go_loopg [0, 3] n (SzRel (bytesOf n).length w)
  case atStart => exact ⟨n, 0, rfl, hn, rfl, rfl, by omega, rfl⟩
  case round =>
    obtain ⟨m, k, rfl, hm, rfl, rfl, ht, rfl⟩ := hrel
    have T := Lib.hid ht
    have hk : k ≤ 8 := by omega
    clear ht
    rcases Nat.eq_zero_or_pos gk with rfl | hpos
    · have T1 : Hid (k = (bytesOf n).length) := Lib.hid (by have := T.out; rwa [bytesOf_zero] at this)
      clear T
      go_wp2
      go_ret
      exact ⟨by rw [T1.out]; rfl, rfl⟩
    · have T1 : Hid (k + 1 + (bytesOf (gk / 256)).length = (bytesOf n).length) := Lib.hid (by have := T.out; rw [bytesOf_pos (by omega), List.length_append] at this; simp at this; omega)
      clear T
      go_wp2
      go_roundg (gk / 256)
      case measure => omega
      case rel => exact ⟨gk / 256, k + 1, rfl, by omega, by first | rfl | go_num, by go_num, T1.out, rfl⟩
def NumRel (B b : Nat) (n sz : Nat) (l : List UInt8) (w : World) (g : Nat) (s20 : Value) (wx : World) : Prop := ∃ i : Nat, i + g = sz ∧ s20 = .int .i64 (i : Int) ∧ BAt B b (self b) (self b) (l ++ (bytesOf n).take i) wx ∧ Moved b w wx
theorem bytesOf_get (n : Nat) : ∀ j (h : j < (bytesOf n).length), (bytesOf n)[j] = UInt8.ofNat (n / 2 ^ (8 * ((bytesOf n).length - 1 - j)) % 256) := by
  induction n using Nat.strongRecOn with
  | _ n ih =>
    intro j h
    by_cases h0 : n = 0
    · subst h0; simp only [bytesOf_zero] at h; simp at h
    · have e := bytesOf_pos h0
      have hl : (bytesOf n).length = (bytesOf (n / 256)).length + 1 := by rw [e]; simp
      rw [List.getElem_of_eq e, hl]
      by_cases hj : j < (bytesOf (n / 256)).length
      · rw [List.getElem_append_left hj, ih (n / 256) (by omega) j hj, Nat.div_div_eq_div_mul]
        congr 3
        rw [show 8 * ((bytesOf (n / 256)).length + 1 - 1 - j) = 8 + 8 * ((bytesOf (n / 256)).length - 1 - j) by omega, Nat.pow_add]
      · have : j = (bytesOf (n / 256)).length := by omega
        subst this
        rw [List.getElem_append_right (Nat.le_refl _)]
        simp
theorem byte_at {n i sz : Nat} (hsz : (bytesOf n).length = sz) (hi : i < sz) : (bytesOf n).take (i + 1) = (bytesOf n).take i ++ [UInt8.ofNat (n / 2 ^ (8 * (sz - 1 - i)) % 256)] := by
  subst hsz
  rw [List.take_succ_eq_append_getElem hi, bytesOf_get n i hi]
theorem Wr.of {B b : Nat} {l : List UInt8} {w : World} (k : BAt B b (self b) (self b) l w) : Wr B b l w := ⟨_, _, k, .inr ⟨rfl, rfl⟩⟩
set_option maxHeartbeats 1000000 in
set_option maxRecDepth 100000 in
theorem num_any (B b n : Nat) (l : List UInt8) (w : World) (k : Wr B b l w) (hn : n < 18446744073709551616) (hlen : l.length ≤ 900000) (hBw : B ≤ w.heap.size) :
    Calls Try.prog 74 #[self b, .int .u64 (n : Int)] w fun e w' => e = .returned (self b) ∧ Wr B b (l ++ enc n) w' ∧ Moved b w w' := by
  have ST := Lib.hid (settle_any B b l w k (by omega) hBw)
  have h8 := bytesOf_len8 hn
  clear k
  generalize hsz : (bytesOf n).length = sz at h8
  have SZ : Hid (∀ w : World, Calls Try.prog 87 #[.int .u64 (n : Int)] w fun e w' => e = .returned (.int .i64 (sz : Int)) ∧ w' = w) := Lib.hid (fun w => by have := sizeOf_any n w hn; rwa [hsz] at this)
  have HS := Lib.hid hsz
  clear hsz
  go_enter Try.func74, Try.ntmps74
  go_wp2_with fail
  (with_reducible refine ST.out.mono ?_)
  rintro e w1 ⟨rfl, k1, m1⟩
  clear ST
  go_wp2_with fail
  (with_reducible refine (SZ.out _).mono ?_)
  rintro e w2 ⟨rfl, rfl⟩
  clear SZ
  have hz := m1.size
  have hm : (sz : Int) % 256 = sz := by omega
  have hu : (UInt8.ofNat sz).toNat = sz := by rw [UInt8.toNat_ofNat']; omega
  have WB : Hid (Calls Try.prog 88 #[self b, .int .u8 (sz : Int)] w2 fun e w' => e = .returned .nilIface ∧ BAt B b (self b) (self b) (l ++ [UInt8.ofNat sz]) w' ∧ Moved b w2 w') := Lib.hid (by
    have := writeByte_any B b (self b) (self b) l (UInt8.ofNat sz) w2 k1 (own_self b) (by omega) (by omega)
    rw [hu] at this
    exact this)
  clear k1 hu
  go_wp2_with fail
  (with_reducible refine WB.out.mono ?_)
  rintro e w3 ⟨rfl, k3, m3⟩
  have m4 := m1.trans m3
  have K3 := Lib.hid (And.intro k3 m4)
  clear m1 m3 k3 m4 WB hm hz
  go_wp2_with fail
  go_loopg [20] sz (NumRel B b n sz (l ++ [UInt8.ofNat sz]) w)
  case atStart => exact ⟨0, by omega, rfl, by simpa using K3.out.1, K3.out.2⟩
  case round =>
    obtain ⟨i, hi, rfl, hk, hmv⟩ := hrel
    have K := Lib.hid (And.intro hk hmv)
    clear hk hmv K3
    rcases Nat.lt_or_ge i sz with hlt | hge
    · have x1 : IntKind.i64.wrap ((sz : Int) - 1) = (sz : Int) - 1 := IntWalk.i64_in _ (by omega)
      have x2 : IntKind.i64.wrap ((sz : Int) - 1 - (i : Int)) = ((sz - 1 - i : Nat) : Int) := by rw [IntWalk.i64_in _ (by omega)]; omega
      have x3 : IntKind.i64.wrap (8 * ((sz - 1 - i : Nat) : Int)) = ((8 * (sz - 1 - i) : Nat) : Int) := by rw [IntWalk.i64_in _ (by omega)]; omega
      go_wp2
      go_still_tail 11, (by kernel_rfl)
      change wpList _ _ _ _ _ wr.drew
      have hc : IntKind.u8.wrap ((n : Int) / 2 ^ (8 * ((sz - 1 - i : Nat) : Int)).toNat) = ((UInt8.ofNat (n / 2 ^ (8 * (sz - 1 - i)) % 256)).toNat : Int) := by
        rw [UInt8.toNat_ofNat', show (8 * ((sz - 1 - i : Nat) : Int)).toNat = 8 * (sz - 1 - i) by omega]
        rw [show ((n : Int) / 2 ^ (8 * (sz - 1 - i))) = ((n / 2 ^ (8 * (sz - 1 - i)) : Nat) : Int) by simp]
        generalize n / 2 ^ (8 * (sz - 1 - i)) = q
        simp [IntKind.wrap, IntKind.bits, IntKind.signed, IntKind.min]
      rw [hc]
      clear hc x1 x2 x3
      have hb := byte_at HS.out hlt
      have hz := K.out.2.size
      have hl : (l ++ [UInt8.ofNat sz] ++ (bytesOf n).take i).length ≤ 1000000 := by simp; omega
      have WB := Lib.hid (writeByte_any B b (self b) (self b) _ (UInt8.ofNat (n / 2 ^ (8 * (sz - 1 - i)) % 256)) wr.drew K.out.1.drew (own_self b) hl (by show B ≤ wr.heap.size; omega))
      rw [List.append_assoc, ← hb] at WB
      clear hb hl
      generalize UInt8.ofNat (n / 2 ^ (8 * (sz - 1 - i)) % 256) = c at *
      go_wp2_with fail
      (with_reducible refine WB.out.mono ?_)
      rintro e w4 ⟨rfl, k4, m4⟩
      have K4 : Hid (BAt B b (self b) (self b) (l ++ [UInt8.ofNat sz] ++ (bytesOf n).take (i + 1)) w4 ∧ Moved b w w4) := Lib.hid ⟨k4, K.out.2.drew.trans m4⟩
      clear k4 m4 WB hz K
      go_wp2
      go_roundg (gk - 1)
      case measure => omega
      case rel => exact ⟨i + 1, by omega, by go_num, K4.out⟩
    · have hz := HS.out
      have K4 : Hid (Wr B b (l ++ enc n) wr ∧ Moved b w wr) := Lib.hid ⟨Wr.of (by
        have := K.out.1
        rw [List.take_of_length_le (by omega), List.append_assoc] at this
        unfold enc; rw [hz]; exact this), K.out.2⟩
      clear K hz
      go_wp2
      go_ret
      exact ⟨rfl, K4.out⟩
theorem int_any (B b : Nat) (n : Int) (l : List UInt8) (w : World) (k : Wr B b l w) (hn : (Lit.int .i64 n).wf = true) (hlen : l.length ≤ 900000) (hBw : B ≤ w.heap.size) :
    Calls Try.prog 56 #[self b, .int .i64 n] w fun e w' => e = .returned (self b) ∧ Wr B b (l ++ encInt n) w' ∧ Moved b w w' := by
  have hb : -9223372036854775808 ≤ n ∧ n ≤ 9223372036854775807 := by
    simp [Lit.wf, IntKind.min, IntKind.max, IntKind.bits, IntKind.signed] at hn; omega
  have NA := Lib.hid (num_any B b n.toNat l w k (by omega) hlen hBw)
  clear k hn
  by_cases h0 : n < 0
  · rw [show (n.toNat : Int) = 0 by omega] at NA
    go_enter Try.func56, Try.ntmps56
    go_wp2_with fail
    (with_reducible refine NA.out.mono ?_)
    rintro e w1 ⟨rfl, hf⟩
    have H := Lib.hid hf
    clear hf NA
    go_wp2
    go_ret
    exact ⟨rfl, H.out⟩
  · have h1 : 0 ≤ n := by omega
    clear h0
    rw [show (n.toNat : Int) = n by omega] at NA
    go_enter Try.func56, Try.ntmps56
    go_wp2_with fail
    (with_reducible refine NA.out.mono ?_)
    rintro e w1 ⟨rfl, hf⟩
    have H := Lib.hid hf
    clear hf NA
    go_wp2
    go_ret
    exact ⟨rfl, H.out⟩
theorem int_len (B b n : Nat) (l : List UInt8) (w : World) (k : Wr B b l w) (hn : n < 1000000) (hlen : l.length ≤ 900000) (hBw : B ≤ w.heap.size) :
    Calls Try.prog 56 #[self b, .int .i64 (n : Int)] w fun e w' => e = .returned (self b) ∧ Wr B b (l ++ enc n) w' ∧ Moved b w w' :=
  int_any B b (n : Int) l w k (by simp [Lit.wf, IntKind.min, IntKind.max, IntKind.bits, IntKind.signed]; omega) hlen hBw
theorem Wr.bat {B b : Nat} {l : List UInt8} {w : World} (k : Wr B b l w) (hl : l ≠ []) : BAt B b (self b) (self b) l w := by
  obtain ⟨p, h, k, hp⟩ := k
  rcases hp with ⟨_, _, e⟩ | ⟨rfl, rfl⟩
  · exact absurd e hl
  · exact k
theorem flag_any (B b : Nat) (f : Bool) (l : List UInt8) (w : World) (k : Wr B b l w) (hlen : l.length ≤ 900000) (hBw : B ≤ w.heap.size) :
    Calls Try.prog 75 #[self b, .bool f] w fun e w' => e = .returned (self b) ∧ Wr B b (l ++ encFlag f) w' ∧ Moved b w w' := by
  have N1 : Hid (Calls Try.prog 74 #[self b, .int .u64 1] w fun e w' => e = .returned (self b) ∧ Wr B b (l ++ enc 1) w' ∧ Moved b w w') := Lib.hid (num_any B b 1 l w k (by omega) hlen hBw)
  have N0 : Hid (Calls Try.prog 74 #[self b, .int .u64 0] w fun e w' => e = .returned (self b) ∧ Wr B b (l ++ enc 0) w' ∧ Moved b w w') := Lib.hid (num_any B b 0 l w k (by omega) hlen hBw)
  clear k
  cases f
  · go_enter Try.func75, Try.ntmps75
    go_wp2_with fail
    (with_reducible refine N0.out.mono ?_)
    rintro e w1 ⟨rfl, hf⟩
    have H := Lib.hid hf
    clear hf N0 N1
    go_wp2
    go_ret
    exact ⟨rfl, H.out⟩
  · go_enter Try.func75, Try.ntmps75
    go_wp2_with fail
    (with_reducible refine N1.out.mono ?_)
    rintro e w1 ⟨rfl, hf⟩
    have H := Lib.hid hf
    clear hf N0 N1
    go_wp2
    go_ret
    exact ⟨rfl, H.out⟩
theorem wstring_any (B b : Nat) (l : List UInt8) (w : World) (k : Wr B b l w) (hlen : l.length ≤ 1000000) :
    Calls Try.prog 58 #[self b] w fun e w' => e = .returned (.string (mkB l)) ∧ Wr B b l w' ∧ Moved b w w' := by
  obtain ⟨p, h, k, hp⟩ := k
  have SA := Lib.hid (string_any B b p h l w k hlen)
  have HP := Lib.hid hp
  clear k hp
  go_enter Try.func58, Try.ntmps58
  go_wp2_with fail
  (with_reducible refine SA.out.mono ?_)
  rintro e w1 ⟨rfl, k1, m1⟩
  have H : Hid (Wr B b l w1 ∧ Moved b w w1) := Lib.hid ⟨⟨p, h, k1, HP.out⟩, m1⟩
  clear k1 m1 SA HP
  go_wp2
  go_ret
  exact ⟨rfl, H.out⟩
theorem fresh_wr (w : World) : Wr w.heap.size w.heap.size [] (w.alloc (.cells #[.pointer none, .slice none 0 0, .pointer none] 89)) :=
  ⟨_, _, ⟨Nat.le_refl _, .slice none 0 0, heap_alloc_new w _, World.ownsRowF_nil _ _ _ _, fun _ => rfl⟩, .inl ⟨rfl, rfl, rfl⟩⟩
theorem num_nil (n : Int) (w : World) :
    Calls Try.prog 74 #[.pointer none, .int .u64 n] w fun e w' => e = .returned (.pointer none) ∧ w' = w := by
  go_enter Try.func74, Try.ntmps74
  go_wp2
  go_ret
  exact ⟨rfl, rfl⟩
theorem int_nil (n : Int) (w : World) :
    Calls Try.prog 56 #[.pointer none, .int .i64 n] w fun e w' => e = .returned (.pointer none) ∧ w' = w := by
  have NN := Lib.hid num_nil
  by_cases h0 : n < 0
  · go_enter Try.func56, Try.ntmps56
    go_wp2_with ((with_reducible refine (NN.out _ _).mono ?_); rintro e w1 ⟨rfl, rfl⟩)
    go_ret
    exact ⟨rfl, rfl⟩
  · have h1 : 0 ≤ n := by omega
    clear h0
    go_enter Try.func56, Try.ntmps56
    go_wp2_with ((with_reducible refine (NN.out _ _).mono ?_); rintro e w1 ⟨rfl, rfl⟩)
    go_ret
    exact ⟨rfl, rfl⟩
theorem flag_nil (w : World) :
    Calls Try.prog 75 #[.pointer none, .bool true] w fun e w' => e = .returned (.pointer none) ∧ w' = w := by
  go_enter Try.func75, Try.ntmps75
  go_wp2_with fail
  (with_reducible refine (num_nil _ _).mono ?_)
  rintro e w1 ⟨rfl, rfl⟩
  go_wp2
  go_ret
  exact ⟨rfl, rfl⟩
theorem wstring_nil (w : World) :
    Calls Try.prog 58 #[.pointer none] w fun e w' => e = .returned (.string ⟨#[]⟩) ∧ w' = w := by
  go_enter Try.func58, Try.ntmps58
  go_wp2
  go_ret
  exact ⟨rfl, rfl⟩
end Go.Proofs.Ytnaanahgflbihaa.Oc
