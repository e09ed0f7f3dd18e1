/- Contracts of package disk's New, Read, Write and Flush. -/
import Derived.Test.YtcbemjckcmcelaaGnP
namespace Go.Proofs.Ytcbemjckcmcelaa.Dk
open Go.ChangeShapes Go.WideShapes Go.ChangeAt Go.RowKit Go.Joins
set_option maxRecDepth 100000
set_option linter.unusedVariables false
set_option linter.unusedSimpArgs false
theorem Dk.mono {A B b : Nat} {s : DS} {w : World} (h : Dk B b s w) (hA : A ≤ B) : Dk A b s w := by
  obtain ⟨g, v, h⟩ := h
  refine ⟨g, v, h.ok, Nat.le_trans hA h.hb, Nat.le_trans hA h.hg, h.blk, h.row, h.own.1, ?_⟩
  rcases h.own.2 with hn | ⟨g', cap, cur, e, hB, rest⟩
  · exact .inl hn
  · exact .inr ⟨g', cap, cur, e, Nat.le_trans hA hB, rest⟩
theorem made_rep (m k : Nat) (hm : 0 < m) : madeCells (Lib.byteCells (List.replicate m 0)).toArray k = (Lib.byteCells (List.replicate k 0)).toArray := by
  apply Array.ext
  · simp [size_madeCells, byteCells_len]
  · intro i h1 h2
    have : i % m < m := Nat.mod_lt _ hm
    simp [madeCells, Lib.byteCells, this]
theorem made_sec (n : Nat) : madeCells (Lib.byteCells (List.replicate 64 0)).toArray (n * 64) = (Lib.byteCells (newR n).sec.flatten).toArray := by
  rw [made_rep 64 _ (by omega)]
  unfold newR
  rw [List.flatten_replicate_replicate]
theorem infoS : (Try.prog.info? 84).map (fun i => (i.zero, i.size, i.bytes)) = some (some (.agg (Lib.byteCells (List.replicate 64 0)).toArray), 64, 64) := by kernel_rfl
theorem make_sec (n : Nat) (hn : n ≤ 1024) (w : World) : (Instr.makeSlice 59 (.int .i64 (n : Int)) (.int .i64 (n : Int))).run Try.prog w = .ok (.slice (some ⟨w.heap.size, 0, none⟩) n n) (w.alloc (.cells (Lib.byteCells (newR n).sec.flatten).toArray 84)) := by
  obtain ⟨i, hi, hzz⟩ := Option.map_eq_some_iff.1 infoS
  simp only [Prod.mk.injEq] at hzz
  obtain ⟨hz, hs, hb⟩ := hzz
  have := run_make (P := Try.prog) w 59 84 i _ Try.underlying59 hi hz .i64 .i64 n n (by omega) (Int.le_refl _) (by rw [hb]; omega) (by omega)
  rw [Int.toNat_natCast, hs] at this
  rw [this, ← made_sec]
  rfl
theorem new_no (n : Int) (w : World) (h : n < 1 ∨ 1024 < n) :
    Calls Try.prog 10 #[.int .i64 n] w fun e w' => e = .returned (.pointer none) ∧ w' = w := by
  rcases h with h | h
  · go_enter Try.func10, Try.ntmps10
    go_wp2
    go_ret
    exact ⟨rfl, rfl⟩
  · have h' : 1 ≤ n := by omega
    go_enter Try.func10, Try.ntmps10
    go_wp2
    go_ret
    exact ⟨rfl, rfl⟩
theorem new_yes (n : Nat) (w : World) (h0 : 1 ≤ n) (h1 : n ≤ 1024) :
    Calls Try.prog 10 #[.int .i64 (n : Int)] w fun e w' => e = .returned (ptr (w.heap.size + 1)) ∧ Dk w.heap.size (w.heap.size + 1) (newR n) w' ∧ Below w.heap.size w w' := by
  have mk := make_sec n h1
  have FIN : Hid (Dk w.heap.size (w.heap.size + 1) (newR n) ((w.alloc (.cells (Lib.byteCells (newR n).sec.flatten).toArray 84)).alloc (.cells #[.slice (some ⟨w.heap.size, 0, none⟩) n n, .slice none 0 0, .int .i64 0, .int .i64 0] 62)) ∧ Below w.heap.size w ((w.alloc (.cells (Lib.byteCells (newR n).sec.flatten).toArray 84)).alloc (.cells #[.slice (some ⟨w.heap.size, 0, none⟩) n n, .slice none 0 0, .int .i64 0, .int .i64 0] 62))) := by
    refine Lib.hid ⟨⟨w.heap.size, .slice none 0 0, newR_ok h1, by omega, Nat.le_refl _, ?_, ?_, World.ownsRow_nil _ _ _ _⟩, ((Below.refl _ _).alloc (Nat.le_refl _) _).alloc (by simp) _⟩
    · have := heap_alloc_new (w.alloc (.cells (Lib.byteCells (newR n).sec.flatten).toArray 84)) (.cells #[.slice (some ⟨w.heap.size, 0, none⟩) n n, .slice none 0 0, .int .i64 0, .int .i64 0] 62)
      simpa [newR] using this
    · exact (rowB_new w _ _).call ((Below.refl _ _).alloc (Nat.le_refl _) _)
  generalize (Lib.byteCells (newR n).sec.flatten).toArray = M at *
  go_enter Try.func10, Try.ntmps10
  go_wp2
  go_ret
  exact ⟨rfl, FIN.out⟩
theorem newest_read (s : DS) {a : Int} (h0 : 0 ≤ a) (h1 : a < s.sec.length) (hf : s.fail ≠ 1) : readR s a = (⟨s.sec, s.opn, s.fail - 1, s.reads + 1⟩, newestOf s a.toNat, 0) := by
  unfold readR; rw [if_pos ⟨h0, h1⟩, if_neg hf]
theorem io_read (s : DS) {a : Int} (h0 : 0 ≤ a) (h1 : a < s.sec.length) (hf : s.fail = 1) : readR s a = (⟨s.sec, s.opn, 0, s.reads + 1⟩, [], 18) := by
  unfold readR; rw [if_pos ⟨h0, h1⟩, if_pos hf]
theorem arg_read (s : DS) {a : Int} (h : ¬ (0 ≤ a ∧ a < s.sec.length)) : readR s a = (s, [], 1) := by
  unfold readR; rw [if_neg h]
set_option maxRecDepth 100000 in
set_option maxHeartbeats 1000000 in
theorem read_any (B b : Nat) (s : DS) (a : Int) (w : World) (h : Dk B b s w) (hr : s.reads ≤ 1000000000) (hn : s.opn.length ≤ 1000000) (hf : s.fail < 9223372036854775808) :
    Calls Try.prog 46 #[ptr b, .int .i64 a] w fun e w' => e = .returned (.tuple #[.string (mkB (readR s a).2.1), .int .i64 ((readR s a).2.2 : Int)]) ∧ Dk B b (readR s a).1 w' ∧ Moved b w w' := by
  by_cases hv : 0 ≤ a ∧ a < s.sec.length
  · obtain ⟨h0, h1⟩ := hv
    have HA := Lib.hid (has_yes B b s a w h h0 h1)
    obtain ⟨g, v, h⟩ := h
    have c3 := h.c3
    have f3 := h.fz 3
    have hk := h.setReads (x := (s.reads : Int) + 1) (f := s.reads + 1) (by omega)
    have mk := Lib.hid (movedReads h ((s.reads : Int) + 1))
    have HL := Lib.hid (newestOf_length (s := s) h.ok (a := a.toNat) (by omega))
    clear h
    by_cases hio : s.fail = 1
    · rw [io_read s h0 h1 hio]
      have OP := Lib.hid (operate_io B b _ _ ⟨g, v, hk⟩ hio)
      clear hk HL hio hf
      generalize hRR : (s.reads : Int) = R at *
      have hR : R ≤ 1000000000 := by omega
      have hR0 : 0 ≤ R := by omega
      clear hRR
      go_enter Try.func46, Try.ntmps46
      go_wp2_with fail
      (with_reducible refine HA.out.mono ?_)
      rintro e w1 ⟨rfl, rfl⟩
      go_wp2_with fail
      (with_reducible refine OP.out.mono ?_)
      rintro e w2 ⟨rfl, k2, m2⟩
      have FIN := Lib.hid (And.intro k2 (mk.out.trans m2))
      clear k2 m2 mk OP HA c3 f3
      go_wp2
      go_ret2
      exact ⟨rfl, FIN.out⟩
    · rw [newest_read s h0 h1 hio]
      have OP := Lib.hid (operate_ok B b _ _ ⟨g, v, hk⟩ hio hf)
      have NW := Lib.hid (fun w' (h' : Dk B b ⟨s.sec, s.opn, s.fail - 1, s.reads + 1⟩ w') => newest_any B b _ a.toNat w' h' (show a.toNat < s.sec.length by omega) hn)
      have e1 : newestOf ⟨s.sec, s.opn, s.fail - 1, s.reads + 1⟩ a.toNat = newestOf s a.toNat := rfl
      rw [e1, show ((a.toNat : Nat) : Int) = a by omega] at NW
      clear hk hio hf e1
      generalize newestOf s a.toNat = X at *
      generalize hRR : (s.reads : Int) = R at *
      have hR : R ≤ 1000000000 := by omega
      have hR0 : 0 ≤ R := by omega
      clear hRR
      go_enter Try.func46, Try.ntmps46
      go_wp2_with fail
      (with_reducible refine HA.out.mono ?_)
      rintro e w1 ⟨rfl, rfl⟩
      go_wp2_with fail
      (with_reducible refine OP.out.mono ?_)
      rintro e w2 ⟨rfl, k2, m2⟩
      have m3 := mk.out.trans m2
      clear m2 mk OP HA c3 f3
      go_wp2_with fail
      (with_reducible refine (NW.out _ k2).mono ?_)
      rintro e w3 ⟨rfl, b3⟩
      have k3 := k2.call b3
      have m4 := m3.trans (.of_below b3 k2.lt)
      have FIN := Lib.hid (And.intro (k3.call ((Below.refl _ _).alloc (Nat.le_refl _) (.cells (Lib.byteCells X).toArray 84))) (m4.alloc k3.lt (.cells (Lib.byteCells X).toArray 84)))
      have r4 := rowB_new w3 X 84
      have hcv := r4.text 0 64 64 (by rw [HL.out]; omega)
      rw [List.drop_zero, List.take_of_length_le (by rw [HL.out]; omega)] at hcv
      have z := zeroS.1
      have zs := byteA_size (show (List.replicate 64 (0 : UInt8)).length = 64 by simp)
      have xs := byteA_size HL.out
      have xo := Lib.hid (all_oneCell_toArray (byteCells_one X))
      have ss := sliceS
      clear k2 k3 m3 m4 b3 r4 NW
      generalize (Lib.byteCells (List.replicate 64 0)).toArray = M at *
      generalize (Lib.byteCells X).toArray = XC at *
      have ZS := Lib.hid zs
      have XS := Lib.hid xs
      clear zs xs
      go_wp2_with (refine wpList_store_new (c := M) (c' := XC) rfl rfl rfl rfl (by rw [XS.out]; exact zeroS.2) (by rw [ZS.out, XS.out]) xo.out ?_)
      go_ret2
      exact ⟨rfl, FIN.out⟩
  · have HA := Lib.hid (has_no B b s a w h hv)
    rw [arg_read s hv]
    have FIN := Lib.hid (And.intro h (Moved.refl b w))
    clear hv h
    go_enter Try.func46, Try.ntmps46
    go_wp2_with fail
    (with_reducible refine HA.out.mono ?_)
    rintro e w1 ⟨rfl, rfl⟩
    clear HA
    go_wp2
    go_ret2
    exact ⟨rfl, FIN.out⟩
theorem read_nil (a : Int) (w : World) :
    Calls Try.prog 46 #[.pointer none, .int .i64 a] w fun e w' => e = .returned (.tuple #[.string ⟨#[]⟩, .int .i64 1]) ∧ w' = w := by
  have HA := Lib.hid (has_nil a w)
  go_enter Try.func46, Try.ntmps46
  go_wp2_with fail
  (with_reducible refine HA.out.mono ?_)
  rintro e w1 ⟨rfl, rfl⟩
  clear HA
  go_wp2
  go_ret2
  exact ⟨rfl, rfl⟩
end Go.Proofs.Ytcbemjckcmcelaa.Dk
