/- Contract of package disk's Flush. -/
import Derived.Test.YtcbemjckcmcelaaDkW
namespace Go.Proofs.Ytcbemjckcmcelaa.Dk
open Go.ChangeShapes Go.WideShapes Go.ChangeAt Go.RowKit Go.Joins
set_option maxRecDepth 100000
set_option linter.unusedVariables false
set_option linter.unusedSimpArgs false
/-- no write is open -/
theorem DkAt.shut {B b g : Nat} {v : Value} {s : DS} {w : World} (h : DkAt B b g v s w) : DkAt B b g (.slice none 0 0) ⟨s.sec, [], s.fail, s.reads⟩ (w.setCell ⟨b, 1, none⟩ (.slice none 0 0)) ∧ Moved b w (w.setCell ⟨b, 1, none⟩ (.slice none 0 0)) := by
  refine ⟨⟨⟨h.ok.len, h.ok.sec, fun p hp => by cases hp⟩, h.hb, h.hg, by simp [World.setCell, Array.getElem?_modify, h.blk], h.row.of_block (Below.heap_setCell _ _ _ _ h.ne), World.ownsRow_nil _ _ _ _⟩, ?_⟩
  exact (Moved.refl b w).set h.c1 (fun k hk _ => by simp [Value.ownBlock] at hk)
def FlRel (B b g : Nat) (v : Value) (s : DS) (w : World) (m : Nat) (s18 : Value) (wx : World) : Prop :=
  ∃ i : Nat, i + m = s.opn.length ∧ s18 = .int .i64 (i : Int) ∧ DkAt B b g v ⟨laid s.sec s.opn (fun _ => 64) i, s.opn, s.fail, s.reads⟩ wx ∧ Moved b w wx
theorem DkAt.vform {B b g : Nat} {v : Value} {s : DS} {w : World} (h : DkAt B b g v s w) : ∃ p cap, v = .slice p s.opn.length cap ∧ s.opn.length ≤ cap ∧ (0 < s.opn.length → ∃ k, p = some ⟨k, 0, none⟩) := by
  rcases h.own.2 with ⟨rfl, h0⟩ | ⟨g', cap, cur, rfl, _, _, hc, _⟩
  · exact ⟨none, 0, by rw [h0], by omega, by omega⟩
  · exact ⟨_, cap, rfl, hc, fun _ => ⟨_, rfl⟩⟩
theorem laid_next {B b g : Nat} {v : Value} {s : DS} {w : World} {k : Nat → Nat} {i : Nat} (hi : i < s.opn.length) (h : DkAt B b g v ⟨putS (laid s.sec s.opn k i) s.opn[i].1 s.opn[i].2 (k i), s.opn, s.fail, s.reads⟩ w) : DkAt B b g v ⟨laid s.sec s.opn k (i + 1), s.opn, s.fail, s.reads⟩ w := by
  rw [laid_succ hi]; exact h
/-- what a round of a loop over the open writes needs: the write's cells, put ready -/
theorem put_round {B b g : Nat} {v : Value} {s : DS} {k : Nat → Nat} {i : Nat} {wr : World} (hk : DkAt B b g v ⟨laid s.sec s.opn k i, s.opn, s.fail, s.reads⟩ wr) (hok : s.Ok) (hi : i < s.opn.length) (h64 : k i ≤ 64) (o : Obj) :
    Calls Try.prog 39 #[ptr b, .agg (putCells s.opn[i]).toArray, .int .i64 (k i : Int)] (wr.alloc o) fun e w' => e = .returned (.tuple #[]) ∧ DkAt B b g v ⟨laid s.sec s.opn k (i + 1), s.opn, s.fail, s.reads⟩ w' ∧ Moved b wr w' := by
  have hp := hok.opn _ (List.getElem_mem hi)
  refine (put_any B b g v _ s.opn[i].1 s.opn[i].2 (k i) (wr.alloc o) (hk.alloc o) (by show _ < (laid _ _ _ _).length; rw [laid_length]; exact hp.1) hp.2 h64).mono ?_
  rintro e w' ⟨he, h1, m1⟩
  exact ⟨he, laid_next hi h1, ((Moved.refl b wr).alloc hk.lt o).trans m1⟩
set_option maxRecDepth 100000 in
set_option maxHeartbeats 1000000 in
theorem flush_ok (B b : Nat) (s : DS) (w : World) (h : Dk B b s w) (hio : s.fail ≠ 1) (hn : s.opn.length ≤ 1000000) (hf : s.fail < 9223372036854775808) :
    Calls Try.prog 53 #[ptr b] w fun e w' => e = .returned (.int .i64 0) ∧ Dk B b ⟨flushedS s, [], s.fail - 1, s.reads⟩ w' ∧ Moved b w w' := by
  have OP := Lib.hid (operate_ok B b s w h hio hf)
  have hl := h.ok.len
  clear h
  have EX : Hid (∀ w', Dk B b ⟨flushedS ⟨s.sec, s.opn, s.fail - 1, s.reads⟩, [], s.fail - 1, s.reads⟩ w' → Dk B b ⟨flushedS s, [], s.fail - 1, s.reads⟩ w') := Lib.hid (fun w' h => h)
  go_enter Try.func53, Try.ntmps53
  go_wp2_with fail
  (with_reducible refine OP.out.mono ?_)
  rintro e w1 ⟨rfl, ⟨g, v, k1⟩, m1⟩
  clear OP
  have EX2 : Hid (∀ w' u, DkAt B b g u ⟨flushedS ⟨s.sec, s.opn, s.fail - 1, s.reads⟩, [], (DS.mk s.sec s.opn (s.fail - 1) s.reads).fail, (DS.mk s.sec s.opn (s.fail - 1) s.reads).reads⟩ w' → Dk B b ⟨flushedS s, [], s.fail - 1, s.reads⟩ w') := Lib.hid (fun w' u h => EX.out w' ⟨g, u, h⟩)
  clear EX
  obtain ⟨s2, hs2⟩ : ∃ s2 : DS, s2 = ⟨s.sec, s.opn, s.fail - 1, s.reads⟩ := ⟨_, rfl⟩
  rw [← hs2] at k1 EX2
  have hn2 : s2.opn.length ≤ 1000000 := by rw [hs2]; exact hn
  clear hs2
  have c1 := k1.c1
  have OK := Lib.hid k1.ok
  obtain ⟨p, cap, rfl, hcap, hp⟩ := k1.vform
  have HP := Lib.hid hp
  have K1 := Lib.hid (And.intro k1 m1)
  clear k1 m1 hp
  generalize hL : s2.opn.length = L at *
  have HL := Lib.hid hL
  clear hL
  go_wp2
  clear c1
  go_loopg [18] L (FlRel B b g (.slice p L cap) s2 w)
  case atStart => exact ⟨0, by rw [HL.out]; omega, rfl, K1.out.1, K1.out.2⟩
  case round =>
    clear K1
    obtain ⟨i, hi, rfl, hk, hm⟩ := hrel
    have hl2 := HL.out
    rcases Nat.lt_or_ge i L with hlt | hge
    · have hlt' : i < s2.opn.length := by omega
      obtain ⟨k, rfl⟩ := HP.out (by omega)
      have R := Lib.hid (DkAt.put hk (show _ = Value.slice (some ⟨k, 0, none⟩) s2.opn.length cap by rw [hl2]) hlt')
      have PL := Lib.hid (putCells_len (OK.out.opn _ (List.getElem_mem hlt')).2)
      have PU : Hid (∀ o, Calls Try.prog 39 #[ptr b, .agg (putCells s2.opn[i]).toArray, .int .i64 64] (wr.alloc o) fun e w' => e = .returned (.tuple #[]) ∧ DkAt B b g (.slice (some ⟨k, 0, none⟩) L cap) ⟨laid s2.sec s2.opn (fun _ => 64) (i + 1), s2.opn, s2.fail, s2.reads⟩ w' ∧ Moved b wr w') := Lib.hid (fun o => put_round (k := fun _ => 64) hk OK.out hlt' (Nat.le_refl _) o)
      have M := Lib.hid hm
      have PO := Lib.hid (all_oneCell_toArray (putCells_one s2.opn[i]))
      have PS := Lib.hid (show (putCells s2.opn[i]).toArray.size = 65 by simp [PL.out])
      have R2 := Lib.hid (show (wr.alloc (.cells (putCells s2.opn[i]).toArray 86)).rangeAt wr.heap.size 0 (putCells s2.opn[i]) from fun j u hu => by
        rw [Nat.zero_add, Lib.cell_of_heap (heap_alloc_new _ _)]; simpa using hu)
      have z := zeroW.1
      have z1 := Lib.hid (putA_size (p := (0, List.replicate 64 0)) (by simp))
      have il : (i : Int) < (L : Int) := by omega
      have HI := Lib.hid hi
      have hg0 : 0 < gk := by omega
      clear hk hm hl2 HL hi
      generalize s2.opn[i] = pw at *
      clear hlt'
      generalize (putCells (0, List.replicate 64 0)).toArray = Z at *
      go_wp2_with (first
        | (refine wpList_load_mid rfl 86 (.tmp 20) rfl k (i * 65) rfl (putCells pw) _ R.out Try.underlying86 rfl (by rw [PL.out]; exact zeroW.2) ?_)
        | (refine wpList_store_new (c := Z) (c' := (putCells pw).toArray) rfl rfl rfl rfl (by rw [PS.out]; exact zeroW.2) (by rw [z1.out, PS.out]) PO.out ?_)
        | (refine wpList_load_mid rfl 86 (.tmp 5) rfl wr.heap.size 0 rfl (putCells pw) _ R2.out Try.underlying86 rfl (by rw [PL.out]; exact zeroW.2) ?_)
        | ((with_reducible refine (PU.out _).mono ?_); rintro e w3 ⟨rfl, k3, m3⟩; (have K3 := Lib.hid (And.intro k3 (M.out.trans m3))); clear k3 m3))
      go_roundg (gk - 1)
      case measure => omega
      case rel => exact ⟨i + 1, by have := HI.out; omega, by go_num, K3.out⟩
    · obtain rfl : i = L := by omega
      have c1 := hk.c1
      have f1 := hk.fz 1
      have FIN := Lib.hid (And.intro (EX2.out _ _ (by have := hk.shut.1; rw [← hl2] at this; exact this)) (hm.trans hk.shut.2))
      clear hk hm hl2 EX2
      go_wp2
      go_ret
      exact ⟨rfl, FIN.out⟩
theorem flush_io (B b : Nat) (s : DS) (w : World) (h : Dk B b s w) (hio : s.fail = 1) :
    Calls Try.prog 53 #[ptr b] w fun e w' => e = .returned (.int .i64 18) ∧ Dk B b ⟨s.sec, s.opn, 0, s.reads⟩ w' ∧ Moved b w w' := by
  have OP := Lib.hid (operate_io B b s w h hio)
  clear h hio
  go_enter Try.func53, Try.ntmps53
  go_wp2_with fail
  (with_reducible refine OP.out.mono ?_)
  rintro e w1 ⟨rfl, hk⟩
  have FIN := Lib.hid hk
  clear OP hk
  go_wp2
  go_ret
  exact ⟨rfl, FIN.out⟩
theorem flush_nil (w : World) :
    Calls Try.prog 53 #[.pointer none] w fun e w' => e = .returned (.int .i64 1) ∧ w' = w := by
  go_enter Try.func53, Try.ntmps53
  go_wp2
  go_ret
  exact ⟨rfl, rfl⟩
theorem flush_any (B b : Nat) (s : DS) (w : World) (h : Dk B b s w) (hn : s.opn.length ≤ 1000000) (hf : s.fail < 9223372036854775808) :
    Calls Try.prog 53 #[ptr b] w fun e w' => e = .returned (.int .i64 ((flushR s).2 : Int)) ∧ Dk B b (flushR s).1 w' ∧ Moved b w w' := by
  unfold flushR
  by_cases hio : s.fail = 1
  · rw [if_pos hio]; exact flush_io B b s w h hio
  · rw [if_neg hio]; exact flush_ok B b s w h hio hn hf
end Go.Proofs.Ytcbemjckcmcelaa.Dk
