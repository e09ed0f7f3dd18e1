/- A calm disk (none of its operations fails): what the laws need of it; x & 3. -/
import Derived.Test.YtcbemjckcmcelaaDkG
import Derived.Laws.Bits128
namespace Go.Proofs.Ytcbemjckcmcelaa.Dk
open Go.ChangeShapes Go.WideShapes Go.ChangeAt Go.RowKit Go.Joins
set_option maxRecDepth 100000
set_option linter.unusedVariables false
set_option linter.unusedSimpArgs false
def wroteS (s : DS) (a : Nat) (t : List UInt8) : DS := ⟨s.sec, s.opn ++ [(a, t)], 0, s.reads⟩
def readS (s : DS) : DS := ⟨s.sec, s.opn, 0, s.reads + 1⟩
def flushS (s : DS) : DS := ⟨flushedS s, [], 0, s.reads⟩
theorem wr_calm (B b : Nat) (s : DS) (a : Nat) (t : ByteArray) (w : World) (h : Dk B b s w) (ha : a < s.sec.length) (ht : t.size = 64) (hf : s.fail = 0) (hn : s.opn.length ≤ 900000) :
    Calls Try.prog 52 #[ptr b, .int .i64 (a : Int), .string t] w fun e w' => e = .returned (.int .i64 0) ∧ Dk B b (wroteS s a t.data.toList) w' ∧ Moved b w w' := by
  have := write_ok B b s a t w h ha ht (by omega) hn (by omega)
  rw [hf] at this
  exact this
theorem rd_calm (B b : Nat) (s : DS) (a : Nat) (w : World) (h : Dk B b s w) (ha : a < s.sec.length) (hf : s.fail = 0) (hn : s.opn.length ≤ 900000) (hr : s.reads ≤ 1000000000) :
    Calls Try.prog 46 #[ptr b, .int .i64 (a : Int)] w fun e w' => e = .returned (.tuple #[.string (mkB (newestOf s a)), .int .i64 0]) ∧ Dk B b (readS s) w' ∧ Moved b w w' := by
  have := read_any B b s (a : Int) w h hr (by omega) (by omega)
  rw [newest_read s (by omega) (by omega) (by omega), hf] at this
  exact this
theorem fl_calm (B b : Nat) (s : DS) (w : World) (h : Dk B b s w) (hf : s.fail = 0) (hn : s.opn.length ≤ 900000) :
    Calls Try.prog 53 #[ptr b] w fun e w' => e = .returned (.int .i64 0) ∧ Dk B b (flushS s) w' ∧ Moved b w w' := by
  have := flush_ok B b s w h (by omega) (by omega) (by omega)
  rw [hf] at this
  exact this
theorem newest_wrote (s : DS) (a k : Nat) (t : List UInt8) : newestOf (wroteS s a t) k = if a = k then t else newestOf s k := by
  unfold newestOf wroteS
  rw [lastOf_snoc]
  split <;> rfl
theorem newest_reads (s : DS) (k : Nat) : newestOf (readS s) k = newestOf s k := rfl
theorem laid_get {S : List (List UInt8)} {O : List (Nat × List UInt8)} (hS : ∀ x ∈ S, x.length = 64) (hO : ∀ p ∈ O, p.1 < S.length ∧ p.2.length = 64) {k : Nat} (hk : k < S.length) (i : Nat) (hi : i ≤ O.length) :
    (laid S O (fun _ => 64) i)[k]? = some ((lastOf (O.take i) k).getD S[k]) := by
  induction i with
  | zero => simp [laid, lastOf, hk]
  | succ i ih =>
    have hlt : i < O.length := by omega
    have ihh := ih (by omega)
    have hp := hO _ (List.getElem_mem hlt)
    have hk' : k < (laid S O (fun _ => 64) i).length := by rw [laid_length]; exact hk
    have e : (laid S O (fun _ => 64) i)[k] = (lastOf (O.take i) k).getD S[k] := by
      rw [List.getElem?_eq_getElem hk'] at ihh; exact Option.some.inj ihh
    rw [laid_succ hlt, putS_get _ _ _ _ _ hk', List.take_succ_eq_append_getElem hlt, lastOf_snoc]
    congr 1
    have hl : (laid S O (fun _ => 64) i)[k].length = 64 := laid_sec hS hO (fun _ => Nat.le_refl _) i _ (List.getElem_mem hk')
    split
    · rw [List.take_of_length_le (by omega), List.drop_eq_nil_of_le (by omega)]; simp
    · exact e
theorem newest_flushed {s : DS} (h : s.Ok) {k : Nat} (hk : k < s.sec.length) : newestOf (flushS s) k = newestOf s k := by
  unfold newestOf flushS
  show (lastOf [] k).getD ((flushedS s)[k]?.getD []) = _
  unfold flushedS
  rw [laid_get h.sec h.opn hk _ (Nat.le_refl _), List.take_length]
  simp [lastOf, hk]
theorem wroteS_len (s : DS) (a : Nat) (t : List UInt8) : (wroteS s a t).sec.length = s.sec.length := rfl
theorem flushS_len (s : DS) : (flushS s).sec.length = s.sec.length := by show (flushedS s).length = _; unfold flushedS; rw [laid_length]
theorem i64_and3 (n : Int) : bits .and .i64 n 3 = n % 4 := by
  have hm : (BitVec.ofInt 64 3).toNat = 2 ^ 2 - 1 := by decide
  have key : (BitVec.ofInt 64 n &&& BitVec.ofInt 64 3).toNat = (n % ((2 ^ 64 : Nat) : Int)).toNat % 2 ^ 2 := by
    rw [BitVec.toNat_and, BitVec.toNat_ofInt, hm, Nat.and_two_pow_sub_one_eq_mod]
  show IntKind.i64.wrap ((BitVec.ofInt 64 n &&& BitVec.ofInt 64 3).toNat : Nat) = n % 4
  rw [key, IntKind.wrap_i64]
  omega
theorem i64_and7 (n : Int) : bits .and .i64 n 7 = n % 8 := by
  have hm : (BitVec.ofInt 64 7).toNat = 2 ^ 3 - 1 := by decide
  have key : (BitVec.ofInt 64 n &&& BitVec.ofInt 64 7).toNat = (n % ((2 ^ 64 : Nat) : Int)).toNat % 2 ^ 3 := by
    rw [BitVec.toNat_and, BitVec.toNat_ofInt, hm, Nat.and_two_pow_sub_one_eq_mod]
  show IntKind.i64.wrap ((BitVec.ofInt 64 n &&& BitVec.ofInt 64 7).toNat : Nat) = n % 8
  rw [key, IntKind.wrap_i64]
  omega
/-- the place that a number names, of four -/
theorem four (n : Int) : ∃ a : Nat, bits .and .i64 n 3 = (a : Int) ∧ a < 4 := ⟨(n % 4).toNat, by rw [i64_and3]; omega, by omega⟩
theorem Dk.setOther {B b q o : Nat} {s : DS} {w : World} {v : Value} (h : Dk B b s w) (hq : ¬ Own w b q) : Dk B b s (w.setCell ⟨q, o, none⟩ v) := by
  obtain ⟨g, u, h⟩ := h
  exact ⟨g, u, h.of_blocks fun k hk => Below.heap_setCell _ _ _ _ (fun e => hq (by have e' : k = q := e; rw [← e']; exact hk))⟩
end Go.Proofs.Ytcbemjckcmcelaa.Dk
