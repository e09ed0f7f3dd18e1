/- Contract of package disk's Crash. The example stands: awake answers true. How the arguments of the statements of layer 5 are opened. A calm disk (none of its operations fails): what the laws need of it; x & 3. Two things in memory that share nothing; rows of fates that a law makes. -/
import Derived.Test.YtmccoejliaakoaaMDb
import Derived.ChangeOld
import Derived.ShutString
import Derived.ChangeMaps5
import Derived.ChangeSlices
import Derived.Deep.Grids
import Derived.Deep.Slices
import Derived.Laws.Bits128
namespace Go.Proofs.Ytmccoejliaakoaa.Dk
open Go.ChangeShapes Go.WideShapes Go.ChangeAt Go.RowKit Go.Joins
set_option maxRecDepth 100000
set_option linter.unusedVariables false
set_option linter.unusedSimpArgs false
def In64 (z : Int) : Prop := -9223372036854775808 ≤ z ∧ z ≤ 9223372036854775807
/-- a row of fates in memory -/
def Fats (ao : Option Addr) (fs : List (Int × Int)) (w : World) : Prop :=
  (∀ p ∈ fs, In64 p.1 ∧ In64 p.2) ∧ (0 < fs.length → ∃ b off, ao = some ⟨b, off, none⟩ ∧ b < w.heap.size ∧ ∀ i (h : i < fs.length), w.cell? ⟨b, off + i * 2, none⟩ = some (.int .i64 fs[i].1) ∧ w.cell? ⟨b, off + i * 2 + 1, none⟩ = some (.int .i64 fs[i].2))
theorem Fats.of_blocks {ao : Option Addr} {fs : List (Int × Int)} {w w' : World} (h : Fats ao fs w) (hs : w.heap.size ≤ w'.heap.size) (e : ∀ k off, ao = some ⟨k, off, none⟩ → k < w.heap.size → w'.heap[k]? = w.heap[k]?) : Fats ao fs w' := by
  refine ⟨h.1, fun h0 => ?_⟩
  obtain ⟨b, off, rfl, hb, hc⟩ := h.2 h0
  have eb := e b off rfl hb
  exact ⟨b, off, rfl, by omega, fun i hi => ⟨(World.cell?_of_block (w := w) eb).trans (hc i hi).1, (World.cell?_of_block (w := w) eb).trans (hc i hi).2⟩⟩
/-- none of its blocks is the disk's -/
def Off (ao : Option Addr) (b : Nat) (w : World) : Prop := ∀ k off, ao = some ⟨k, off, none⟩ → ¬ Own w b k
theorem Fats.moved {ao : Option Addr} {fs : List (Int × Int)} {b : Nat} {w w' : World} (h : Fats ao fs w) (m : Moved b w w') (ho : Off ao b w) : Fats ao fs w' :=
  h.of_blocks m.size fun k off e hk => m.block k hk (ho k off e)
theorem reset_blk {w : World} {b : Nat} {x0 x1 x2 x3 y0 y1 y2 y3 : Value} {T : TypeId} (h : w.heap[b]? = some (.cells #[x0, x1, x2, x3] T (0, 0))) :
    ((((w.setCell ⟨b, 0, none⟩ y0).setCell ⟨b, 1, none⟩ y1).setCell ⟨b, 2, none⟩ y2).setCell ⟨b, 3, none⟩ y3).heap[b]? = some (.cells #[y0, y1, y2, y3] T (0, 0)) := by
  simp [World.setCell, Array.getElem?_modify, h]
theorem reset_other {w : World} {b k : Nat} {y0 y1 y2 y3 : Value} (h : k ≠ b) : ((((w.setCell ⟨b, 0, none⟩ y0).setCell ⟨b, 1, none⟩ y1).setCell ⟨b, 2, none⟩ y2).setCell ⟨b, 3, none⟩ y3).heap[k]? = w.heap[k]? := by
  rw [Below.heap_setCell _ _ _ _ h, Below.heap_setCell _ _ _ _ h, Below.heap_setCell _ _ _ _ h, Below.heap_setCell _ _ _ _ h]
theorem DkAt.reset {B b g : Nat} {v : Value} {s : DS} {w : World} (h : DkAt B b g v s w) :
    DkAt B b g (.slice none 0 0) ⟨s.sec, [], 0, 0⟩ ((((w.setCell ⟨b, 0, none⟩ (.slice (some ⟨g, 0, none⟩) s.sec.length s.sec.length)).setCell ⟨b, 1, none⟩ (.slice none 0 0)).setCell ⟨b, 2, none⟩ (.int .i64 0)).setCell ⟨b, 3, none⟩ (.int .i64 0)) ∧
    Moved b w ((((w.setCell ⟨b, 0, none⟩ (.slice (some ⟨g, 0, none⟩) s.sec.length s.sec.length)).setCell ⟨b, 1, none⟩ (.slice none 0 0)).setCell ⟨b, 2, none⟩ (.int .i64 0)).setCell ⟨b, 3, none⟩ (.int .i64 0)) := by
  have d : DkAt B b g (.slice none 0 0) ⟨s.sec, [], 0, 0⟩ ((((w.setCell ⟨b, 0, none⟩ (.slice (some ⟨g, 0, none⟩) s.sec.length s.sec.length)).setCell ⟨b, 1, none⟩ (.slice none 0 0)).setCell ⟨b, 2, none⟩ (.int .i64 0)).setCell ⟨b, 3, none⟩ (.int .i64 0)) :=
    ⟨⟨h.ok.len, h.ok.sec, fun p hp => by cases hp⟩, h.hb, h.hg, reset_blk h.blk, h.row.of_block (reset_other h.ne), World.ownsRow_nil _ _ _ _⟩
  refine ⟨d, rfl, rfl, rfl, by simp [World.setCell], fun k hk hn => reset_other (fun e => hn (.inl e)), fun k hk => ?_⟩
  rcases d.owns.1 hk with e | e | e
  · exact .inl (.inl e)
  · exact .inl (h.owns.2 (.inr (.inl e)))
  · simp [Value.ownBlock] at e
def CrRel (B b g : Nat) (v : Value) (s : DS) (l : List (Int × Int)) (M : Nat) (w : World) (m : Nat) (s5 s30 : Value) (wx : World) : Prop :=
  ∃ i : Nat, i + m = M ∧ s30 = .int .i64 (i : Int) ∧ s5 = .int .i64 ((s.opn.length - (i - brokenTo l i) : Nat) : Int) ∧ DkAt B b g v ⟨laid s.sec s.opn (keptAt l) i, s.opn, s.fail, s.reads⟩ wx ∧ Moved b w wx
theorem slice_opn (p : Option Addr) (L cap m : Nat) (h : m ≤ cap) (w : World) : (Instr.sliceAt 50 (.slice p L cap) none (some (.int .i64 (m : Int))) none).run Try.prog w = .ok (.slice p m cap) w := by
  rw [run_sliceAt_slice w _ _ _ _ _ (by kernel_rfl), run_slice_h w _ _ _ _ (by kernel_rfl) _ _ (by omega) (by omega)]
  have e : (sizeOf (Try.prog.elem 50)).run Try.prog w = .ok 65 w := by kernel_rfl
  rw [e]
  simp only [Result.andThen, sliced]
  have : p.map (fun x => x.add (0 * 65)) = p := by cases p <;> simp [Addr.add]
  rw [this]
  simp
set_option maxRecDepth 100000 in
set_option maxHeartbeats 8000000 in
theorem crash_any (B b : Nat) (s : DS) (ao : Option Addr) (fs : List (Int × Int)) (fc : Nat) (w : World) (h : Dk B b s w) (hF : Fats ao fs w) (ho : 0 < fs.length → Off ao b w) (hn : s.opn.length ≤ 1000000) (hfl : fs.length ≤ 9223372036854775807) :
    Calls Try.prog 15 #[ptr b, .slice ao fs.length fc] w fun e w' => e = .returned (.int .i64 ((crashR s fs).2 : Int)) ∧ Dk B b (crashR s fs).1 w' ∧ Moved b w w' := by
  obtain ⟨g, v, h⟩ := h
  have hl := h.ok.len
  have OK := Lib.hid h.ok
  have c1 := h.c1
  obtain ⟨p, cap, rfl, hcap, hp⟩ := h.vform
  have HP := Lib.hid hp
  have H := Lib.hid h
  have HF := Lib.hid hF
  have HO := Lib.hid ho
  clear h hp hF ho
  have sl := slice_opn p s.opn.length cap (min fs.length s.opn.length) (by omega)
  have mn : ∀ w : World, (Builtin.min_ #[3, 3] 3 #[.int .i64 (fs.length : Int), .int .i64 (s.opn.length : Int)]).run Try.prog w = .ok (.int .i64 ((min fs.length s.opn.length : Nat) : Int)) w := by
    intro w
    simp [Builtin.min_, Builtin.min2]
    repeat' split
    all_goals first | (simp; omega) | omega | simp_all
  generalize hMM : min fs.length s.opn.length = M at *
  have hM1 : M ≤ fs.length := by omega
  have hM2 : M ≤ s.opn.length := by omega
  have HM := Lib.hid hMM
  clear hMM
  go_enter Try.func15, Try.ntmps15
  go_wp2_with fail
  go_step3
  go_wp2_with fail
  go_step3
  go_wp2_with fail
  go_quiet (fail)
  have HH := Lib.hid (show (w.drewN nq).heap = w.heap by simp)
  have K1 : Hid (DkAt B b g (.slice p s.opn.length cap) s (w.drewN nq) ∧ Moved b w (w.drewN nq)) := Lib.hid ⟨H.out.of_blocks (fun k _ => by rw [HH.out]), ⟨rfl, rfl, rfl, by rw [HH.out]; exact Nat.le_refl _, fun k _ _ => by rw [HH.out], fun k hk => .inl (hk.of_block (by rw [HH.out]))⟩⟩
  clear HH sl mn c1 H
  generalize w.drewN nq = W at *
  go_wp2_with fail
  go_loopg [5, 30] M (CrRel B b g (.slice p s.opn.length cap) s fs M w)
  case atStart => exact ⟨0, by omega, rfl, by simp [brokenTo], K1.out.1, K1.out.2⟩
  case round =>
    clear K1
    obtain ⟨i, hi, rfl, rfl, hk, hm⟩ := hrel
    rcases Nat.lt_or_ge i M with hlt | hge
    · have hlt' : i < s.opn.length := by omega
      have hif : i < fs.length := by omega
      have hFw := HF.out.moved hm (HO.out (by omega))
      have hin := hFw.1 _ (List.getElem_mem hif)
      obtain ⟨bf, off, rfl, -, hcf⟩ := hFw.2 (by omega)
      obtain ⟨cK, cA⟩ := hcf i hif
      obtain ⟨k, rfl⟩ := HP.out (by omega)
      have R := Lib.hid (DkAt.put hk rfl hlt')
      have PL := Lib.hid (putCells_len (OK.out.opn _ (List.getElem_mem hlt')).2)
      have PU := Lib.hid (fun o => put_round (k := keptAt fs) hk OK.out hlt' (keptAt_le _ _) o)
      have KA := keptAt_lt hif
      have ZP : Hid (keptAt fs i = 0 → ∀ o, DkAt B b g (.slice (some ⟨k, 0, none⟩) s.opn.length cap) ⟨laid s.sec s.opn (keptAt fs) (i + 1), s.opn, s.fail, s.reads⟩ (wr.alloc o)) := Lib.hid (fun h0 o => laid_next hlt' (by rw [h0, putS_zero]; exact hk.alloc o))
      have MA := Lib.hid (fun o => hm.alloc hk.lt o)
      have M0 := Lib.hid hm
      have BL := brokenTo_le fs i
      have PO := Lib.hid (all_oneCell_toArray (putCells_one s.opn[i]))
      have PS := Lib.hid (show (putCells s.opn[i]).toArray.size = 65 by simp [PL.out])
      have R2 := Lib.hid (show (wr.alloc (.cells (putCells s.opn[i]).toArray 69)).rangeAt wr.heap.size 0 (putCells s.opn[i]) from fun j u hu => by
        rw [Nat.zero_add, Lib.cell_of_heap (heap_alloc_new _ _)]; simpa using hu)
      have z := zeroW.1
      have z1 := Lib.hid (putA_size (p := (0, List.replicate 64 0)) (by simp))
      have RK := rest_any fs[i].1 3 (h0 := by omega) (h1 := by omega) (hn := hin.1.1) (hn2 := hin.1.2)
      have RA := rest_any fs[i].2 65 (h0 := by omega) (h1 := by omega) (hn := hin.2.1) (hn2 := hin.2.2)
      have cK2 : (wr.alloc (.cells (putCells s.opn[i]).toArray 69)).cell? ⟨bf, off + i * 2, none⟩ = some (.int .i64 fs[i].1) := by rw [World.cell?_alloc_lt _ _ _ (lt_of_cell cK)]; exact cK
      have cA2 : (wr.alloc (.cells (putCells s.opn[i]).toArray 69)).cell? ⟨bf, off + i * 2 + 1, none⟩ = some (.int .i64 fs[i].2) := by rw [World.cell?_alloc_lt _ _ _ (lt_of_cell cA)]; exact cA
      have il : (i : Int) < (M : Int) := by omega
      have il2 : (i : Int) < (fs.length : Int) := by omega
      have HI := Lib.hid hi
      have hg0 : 0 < gk := by omega
      have BX : Hid (∀ x : Nat, x = s.opn.length - (i - brokenTo fs i) → (keptAt fs i = 64 → ((x : Int) - 1) = ((s.opn.length - (i + 1 - brokenTo fs (i + 1)) : Nat) : Int)) ∧ (keptAt fs i ≠ 64 → x = s.opn.length - (i + 1 - brokenTo fs (i + 1)))) := Lib.hid (fun x hx => by
        constructor
        · intro e; rw [brokenTo, if_pos e]; omega
        · intro e; rw [brokenTo, if_neg e]; omega)
      have hX1 : 1 ≤ s.opn.length - (i - brokenTo fs i) := by omega
      have hX2 : s.opn.length - (i - brokenTo fs i) ≤ 1000000 := by omega
      have BX2 := Lib.hid (BX.out _ rfl)
      clear hk hm hi hcf hFw cK cA BX BL
      generalize s.opn.length - (i - brokenTo fs i) = X at *
      generalize s.opn[i] = pw at *
      generalize fs[i].1 = KK at *
      generalize fs[i].2 = AA at *
      clear hlt' hif hin
      generalize (putCells (0, List.replicate 64 0)).toArray = Z at *
      have h3 : KK % 3 = 0 ∨ KK % 3 = 1 ∨ KK % 3 = 2 := by omega
      have KL := keptAt_le fs i
      rcases h3 with h3 | h3 | h3
      · have E : Hid (keptAt fs i = 0) := Lib.hid (by rw [KA]; unfold keepOf; rw [if_pos h3])
        rw [h3] at RK
        replace RK := Lib.hid RK
        replace RA := Lib.hid RA
        have K3 := Lib.hid (And.intro (ZP.out E.out (.cells (putCells pw).toArray 69)) (MA.out (.cells (putCells pw).toArray 69)))
        have BB := Lib.hid (BX2.out.2 (by rw [E.out]; omega))
        clear KA h3 KL E ZP MA PU BX2
        go_wp2_with (first
          | (refine wpList_load_mid rfl 69 (.tmp 33) rfl k (i * 65) rfl (putCells pw) _ R.out Try.underlying69 rfl (by rw [PL.out]; exact zeroW.2) ?_)
          | (refine wpList_store_new (c := Z) (c' := (putCells pw).toArray) rfl rfl rfl rfl (by rw [PS.out]; exact zeroW.2) (by rw [z1.out, PS.out]) PO.out ?_)
          | (refine wpList_load_mid rfl 69 (.tmp 7) rfl wr.heap.size 0 rfl (putCells pw) _ R2.out Try.underlying69 rfl (by rw [PL.out]; exact zeroW.2) ?_)
          | ((with_reducible refine (RK.out _).mono ?_); rintro e w1 ⟨rfl, rfl⟩)
          | ((with_reducible refine (RA.out _).mono ?_); rintro e w1 ⟨rfl, rfl⟩)
          | ((with_reducible refine (PU.out _).mono ?_); rintro e w3 ⟨rfl, k3, m3⟩; (have K3 := Lib.hid (And.intro k3 (M0.out.trans m3))); clear k3 m3))
        go_roundg (gk - 1)
        case measure => omega
        case rel => exact ⟨i + 1, by have := HI.out; omega, by go_num, by rw [BB.out], K3.out⟩
      · have E : Hid (keptAt fs i = 64) := Lib.hid (by rw [KA]; unfold keepOf; rw [if_neg (by omega), if_pos h3])
        rw [h3] at RK
        replace RK := Lib.hid RK
        replace RA := Lib.hid RA
        have BB := Lib.hid (BX2.out.1 E.out)
        rw [E.out] at PU
        have e64 : ((64 : Nat) : Int) = 64 := rfl
        rw [e64] at PU
        clear KA h3 KL E ZP MA BX2 e64
        go_wp2_with (first
          | (refine wpList_load_mid rfl 69 (.tmp 33) rfl k (i * 65) rfl (putCells pw) _ R.out Try.underlying69 rfl (by rw [PL.out]; exact zeroW.2) ?_)
          | (refine wpList_store_new (c := Z) (c' := (putCells pw).toArray) rfl rfl rfl rfl (by rw [PS.out]; exact zeroW.2) (by rw [z1.out, PS.out]) PO.out ?_)
          | (refine wpList_load_mid rfl 69 (.tmp 7) rfl wr.heap.size 0 rfl (putCells pw) _ R2.out Try.underlying69 rfl (by rw [PL.out]; exact zeroW.2) ?_)
          | ((with_reducible refine (RK.out _).mono ?_); rintro e w1 ⟨rfl, rfl⟩)
          | ((with_reducible refine (RA.out _).mono ?_); rintro e w1 ⟨rfl, rfl⟩)
          | ((with_reducible refine (PU.out _).mono ?_); rintro e w3 ⟨rfl, k3, m3⟩; (have K3 := Lib.hid (And.intro k3 (M0.out.trans m3))); clear k3 m3))
        go_roundg (gk - 1)
        case measure => omega
        case rel => exact ⟨i + 1, by have := HI.out; omega, by go_num, by rw [← BB.out], K3.out⟩
      · have E : Hid (keptAt fs i = (AA % 65).toNat) := Lib.hid (by rw [KA]; unfold keepOf; rw [if_neg (by omega), if_neg (by omega)])
        have EI : AA % 65 = ((keptAt fs i : Nat) : Int) := by rw [E.out]; omega
        rw [h3] at RK
        rw [EI] at RA
        replace RK := Lib.hid RK
        replace RA := Lib.hid RA
        by_cases h64 : keptAt fs i = 64
        · have BB := Lib.hid (BX2.out.1 h64)
          rw [h64] at PU RA
          have e64 : ((64 : Nat) : Int) = 64 := rfl
          rw [e64] at PU RA
          clear KA h3 KL E ZP MA BX2 e64 h64 EI
          go_wp2_with (first
            | (refine wpList_load_mid rfl 69 (.tmp 33) rfl k (i * 65) rfl (putCells pw) _ R.out Try.underlying69 rfl (by rw [PL.out]; exact zeroW.2) ?_)
            | (refine wpList_store_new (c := Z) (c' := (putCells pw).toArray) rfl rfl rfl rfl (by rw [PS.out]; exact zeroW.2) (by rw [z1.out, PS.out]) PO.out ?_)
            | (refine wpList_load_mid rfl 69 (.tmp 7) rfl wr.heap.size 0 rfl (putCells pw) _ R2.out Try.underlying69 rfl (by rw [PL.out]; exact zeroW.2) ?_)
            | ((with_reducible refine (RK.out _).mono ?_); rintro e w1 ⟨rfl, rfl⟩)
            | ((with_reducible refine (RA.out _).mono ?_); rintro e w1 ⟨rfl, rfl⟩)
            | ((with_reducible refine (PU.out _).mono ?_); rintro e w3 ⟨rfl, k3, m3⟩; (have K3 := Lib.hid (And.intro k3 (M0.out.trans m3))); clear k3 m3))
          go_roundg (gk - 1)
          case measure => omega
          case rel => exact ⟨i + 1, by have := HI.out; omega, by go_num, by rw [← BB.out], K3.out⟩
        · have BB := Lib.hid (BX2.out.2 h64)
          have t6 : (((keptAt fs i : Nat) : Int) == 64) = false := by simp; omega
          clear KA h3 E ZP MA BX2 EI
          generalize keptAt fs i = q at *
          go_wp2_with (first
            | (refine wpList_load_mid rfl 69 (.tmp 33) rfl k (i * 65) rfl (putCells pw) _ R.out Try.underlying69 rfl (by rw [PL.out]; exact zeroW.2) ?_)
            | (refine wpList_store_new (c := Z) (c' := (putCells pw).toArray) rfl rfl rfl rfl (by rw [PS.out]; exact zeroW.2) (by rw [z1.out, PS.out]) PO.out ?_)
            | (refine wpList_load_mid rfl 69 (.tmp 7) rfl wr.heap.size 0 rfl (putCells pw) _ R2.out Try.underlying69 rfl (by rw [PL.out]; exact zeroW.2) ?_)
            | ((with_reducible refine (RK.out _).mono ?_); rintro e w1 ⟨rfl, rfl⟩)
            | ((with_reducible refine (RA.out _).mono ?_); rintro e w1 ⟨rfl, rfl⟩)
            | ((with_reducible refine (PU.out _).mono ?_); rintro e w3 ⟨rfl, k3, m3⟩; (have K3 := Lib.hid (And.intro k3 (M0.out.trans m3))); clear k3 m3))
          go_roundg (gk - 1)
          case measure => omega
          case rel => exact ⟨i + 1, by have := HI.out; omega, by go_num, by rw [BB.out], K3.out⟩
    · obtain rfl : i = M := by omega
      have ce := crash_end (S := s.sec) HM.out
      have c0 := hk.c0
      have FIN := Lib.hid (And.intro hk.reset.1 (hm.trans hk.reset.2))
      simp only [laid_length] at c0 FIN
      have z0 := hk.c0
      have z1 := hk.c1
      have z2 := hk.c2
      have z3 := hk.c3
      have f0 := hk.fz
      simp only [laid_length] at z0
      have BR := Lib.hid ce.2
      have SE := Lib.hid ce.1
      have FIN2 := Lib.hid (And.intro (show Dk B b (crashR s fs).1 _ from ⟨g, _, by unfold crashR crashedS; rw [SE.out]; exact FIN.out.1⟩) FIN.out.2)
      have RES : Hid ((crashR s fs).2 = s.opn.length - (i - brokenTo fs i)) := Lib.hid (by unfold crashR; exact BR.out)
      clear ce hk hm hi BR SE FIN
      go_wp2
      go_ret
      exact ⟨by rw [RES.out]; rfl, FIN2.out⟩
theorem crash_nil (ao : Option Addr) (n fc : Nat) (w : World) :
    Calls Try.prog 15 #[.pointer none, .slice ao n fc] w fun e w' => e = .returned (.int .i64 0) ∧ w' = w := by
  go_enter Try.func15, Try.ntmps15
  go_wp2_with fail
  go_step3
  go_wp2_with fail
  (try simp only [Exit.noGoto])
  go_ret
  exact ⟨rfl, rfl⟩
end Go.Proofs.Ytmccoejliaakoaa.Dk
namespace Go.Proofs.Ytmccoejliaakoaa.Dk
open Go.ChangeShapes Go.WideShapes Go.ChangeAt Go.RowKit Go.Joins
set_option maxRecDepth 100000
set_option linter.unusedVariables false
set_option linter.unusedSimpArgs false
def exA : List UInt8 := List.replicate 64 97
def exB : List UInt8 := List.replicate 64 98
def ex1 : DS := (writeR (newR 2) 0 exA).1
def ex2 : DS := (flushR ex1).1
def ex3 : DS := (writeR ex2 0 exB).1
def ex4 : DS := (crashR ex3 [(2, 3)]).1
theorem ex_r1 : (writeR (newR 2) 0 exA).2 = 0 := by decide +kernel
theorem ex_r2 : (flushR ex1).2 = 0 := by decide +kernel
theorem ex_r3 : (writeR ex2 0 exB).2 = 0 := by decide +kernel
theorem ex_r4 : (crashR ex3 [(2, 3)]).2 = 1 := by decide +kernel
theorem ex_r5 : (readR ex4 0).2 = ([98, 98, 98] ++ List.replicate 61 97, 0) := by decide +kernel
theorem ex_b1 : (newR 2).opn.length ≤ 900000 ∧ (newR 2).fail < 9223372036854775808 := by decide +kernel
theorem ex_b2 : ex1.opn.length ≤ 900000 ∧ ex1.fail < 9223372036854775808 := by decide +kernel
theorem ex_b3 : ex2.opn.length ≤ 900000 ∧ ex2.fail < 9223372036854775808 := by decide +kernel
theorem ex_b4 : ex3.opn.length ≤ 900000 ∧ ex3.fail < 9223372036854775808 := by decide +kernel
theorem ex_b5 : ex4.opn.length ≤ 900000 ∧ ex4.fail < 9223372036854775808 ∧ ex4.reads ≤ 1000000000 := by decide +kernel
theorem w_ok (B b : Nat) (s s' : DS) (a : Nat) (l : List UInt8) (r : Nat) (w : World) (h : Dk B b s w) (hn : s.opn.length ≤ 900000 ∧ s.fail < 9223372036854775808) (e : (writeR s a l).2 = r) (e1 : (writeR s a l).1 = s') :
    Calls Try.prog 59 #[ptr b, .int .i64 (a : Int), .string (mkB l)] w fun e w' => e = .returned (.int .i64 (r : Int)) ∧ Dk B b s' w' ∧ Moved b w w' := by
  have := write_any B b s (a : Int) (mkB l) w h hn.1 hn.2
  rw [mkB_data, e, e1] at this
  exact this
theorem fats_one (w : World) (k a : Int) (hk : In64 k) (ha : In64 a) : Fats (some ⟨w.heap.size, 0, none⟩) [(k, a)] (w.alloc (.cells #[.int .i64 k, .int .i64 a] 72)) := by
  refine ⟨fun p hp => by simp at hp; subst hp; exact ⟨hk, ha⟩, fun _ => ⟨w.heap.size, 0, rfl, by simp, fun i hi => ?_⟩⟩
  obtain rfl : i = 0 := by simpa using hi
  simp [go_sem]
theorem off_new {B b : Nat} {s : DS} {w : World} (h : Dk B b s w) (o : Obj) : Off (some ⟨w.heap.size, 0, none⟩) b (w.alloc o) := by
  intro k off e hk
  simp at e
  obtain ⟨rfl, rfl⟩ := e
  have := (h.ownLt (hk.of_block (Below.heap_alloc _ _ _ h.lt))).2
  omega
end Go.Proofs.Ytmccoejliaakoaa.Dk
namespace Go.Proofs.Ytmccoejliaakoaa.Dk
open Go.ChangeShapes Go.WideShapes Go.ChangeAt Go.RowKit Go.Joins
set_option maxRecDepth 100000
set_option linter.unusedVariables false
set_option linter.unusedSimpArgs false
theorem own : ownKnob Try.prog.godebug = none := by kernel_rfl
theorem laidOut : laidOutB Try.prog = true := by kernel_rfl
theorem in64_wf {n : Int} (h : (Lit.int .i64 n).wf = true) : In64 n := by
  simp [Lit.wf, IntKind.min, IntKind.max, IntKind.bits, IntKind.signed] at h; unfold In64; omega
/-- a row of values that came in -/
def Vals (ao : Option Addr) (len : Nat) (f : Nat → Value) (w : World) : Prop := 0 < len → ∃ b off, ao = some ⟨b, off, none⟩ ∧ b < w.heap.size ∧ ∀ i, i < len → w.cell? ⟨b, off + i, none⟩ = some (f i)
theorem Vals.below {ao : Option Addr} {len B : Nat} {f : Nat → Value} {w w' : World} (h : Vals ao len f w) (hb : Below w.heap.size w w') : Vals ao len f w' := fun h0 => by
  obtain ⟨b, off, e, hlt, hc⟩ := h h0
  exact ⟨b, off, e, Nat.lt_of_lt_of_le hlt hb.size, fun i hi => by rw [hb.cell (p := ⟨b, off + i, none⟩) hlt]; exact hc i hi⟩
theorem one_of {cs : List Value} {j : Nat} (h : j < cs.length) : (cs.drop j).take 1 = [cs[j]] := by
  rw [List.drop_eq_getElem_cons h]; rfl
/-- fates that came in, of a slice at whatever place -/
theorem fates_of {H : Type} {enc : TypeId × Value → H} {W : World} {base : Nat} {spare : Nat → Bool} {held : Bool} {ao : Option Addr} {len cap fuel : Nat} {x : DataW H × List MemPlace}
    (hf : DataW.trod enc Try.prog W base spare held fuel 33 [.slice ao len cap] = some x) :
    ∃ fs : List (Int × Int), fs.length = len ∧ len ≤ 9223372036854775807 ∧ Fats ao fs W := by
  rcases Go.Deep.open_slice Try.underlying33 hf with ⟨hcs, hx⟩ | ⟨a, len', cap', m, n, D, Pl, hcs, _, hl, hm, hmm, hx, hi⟩
  · simp at hcs
    obtain ⟨rfl, rfl, rfl⟩ := hcs
    exact ⟨[], rfl, by omega, fun p hp => (by cases hp), fun h => by simp at h⟩
  · simp at hcs
    obtain ⟨rfl, rfl, rfl⟩ := hcs
    have hml : len ≤ m := by rw [hmm]; split <;> omega
    have hC : Try.prog.cellsOf 72 = 2 := by kernel_rfl
    have c3 : Try.prog.cellsOf 3 = 1 := by kernel_rfl
    rw [hC] at hi
    have key : ∀ i, i < len → ∃ k q : Int, W.cell? (a.add (i * 2)) = some (.int .i64 k) ∧ W.cell? ((a.add (i * 2)).add 1) = some (.int .i64 q) ∧ In64 k ∧ In64 q := by
      intro i hil
      obtain ⟨cs, hc, ht⟩ := hi i (by omega)
      obtain ⟨_, hcl, hat⟩ := World.cells?_some hc
      obtain ⟨ys, n', hn', hy, hlen, hyl, hfd⟩ := DataW.trod_struct Try.underlying72 ht
      have g0 : DataW.trod enc Try.prog W base spare held n' 3 ((cs.drop 0).take (Try.prog.cellsOf 3)) = ys[0]? := hfd 0 _ rfl
      have g1 : DataW.trod enc Try.prog W base spare held n' 3 ((cs.drop 1).take (Try.prog.cellsOf 3)) = ys[1]? := hfd 1 _ rfl
      have hy4 : ys.length = 2 := by rw [hyl]; rfl
      rw [c3, one_of (j := 0) (by omega), List.getElem?_eq_getElem (by omega)] at g0
      rw [c3, one_of (j := 1) (by omega), List.getElem?_eq_getElem (by omega)] at g1
      obtain ⟨k, e0, -, wk⟩ := DataW.trod_int Try.underlying3 g0
      obtain ⟨q, e1, -, wq⟩ := DataW.trod_int Try.underlying3 g1
      have a0 := hat 0 (by omega)
      have a1 := hat 1 (by omega)
      rw [List.getElem?_eq_getElem (by omega)] at a0 a1
      have f0 : cs[0] = .int .i64 k := by simpa using e0
      have f1 : cs[1] = .int .i64 q := by simpa using e1
      rw [f0] at a0
      rw [f1] at a1
      exact ⟨k, q, by simpa [Addr.add] using a0, a1, in64_wf wk, in64_wf wq⟩
    have choice : ∃ f : Nat → Int × Int, ∀ i, i < len → W.cell? (a.add (i * 2)) = some (.int .i64 (f i).1) ∧ W.cell? ((a.add (i * 2)).add 1) = some (.int .i64 (f i).2) ∧ In64 (f i).1 ∧ In64 (f i).2 := by
      refine ⟨fun i => if h : i < len then (Classical.choose (key i h), Classical.choose (Classical.choose_spec (key i h))) else (0, 0), fun i h => ?_⟩
      simp only [dif_pos h]
      exact Classical.choose_spec (Classical.choose_spec (key i h))
    obtain ⟨f, hfc⟩ := choice
    refine ⟨(List.range len).map f, by simp, by unfold maxLen at hm; omega, fun p hp => ?_, fun h0 => ?_⟩
    · simp only [List.mem_map, List.mem_range] at hp
      obtain ⟨i, hi, rfl⟩ := hp
      exact (hfc i hi).2.2
    · simp at h0
      obtain ⟨b, off, spot⟩ := a
      have hspot : spot = none := by simpa [Addr.add] using World.cell?_spot (hfc 0 h0).1
      subst hspot
      refine ⟨b, off, rfl, World.block_lt_of_cell? _ _ (hfc 0 h0).1, fun i hi => ?_⟩
      simp at hi
      obtain ⟨h1, h2, _⟩ := hfc i hi
      rw [addr_add] at h1 h2
      rw [addr_add] at h2
      simp
      exact ⟨h1, h2⟩
theorem open_fates {H : Type} {enc : TypeId × Value → H} {W : World} {r : Reach} {b0 base : Nat} {spare : Nat → Bool} {held : Bool} {v : Value} {d : DataW H} {p : List MemPlace}
    (hok : Value.okWide Try.prog W r b0 33 v) (h : DataW.Trod enc Try.prog W base spare held 33 v d p) :
    ∃ (ao : Option Addr) (cap : Nat) (fs : List (Int × Int)), v = .slice ao fs.length cap ∧ fs.length ≤ 9223372036854775807 ∧ Fats ao fs W := by
  obtain ⟨ao, len, cap, rfl⟩ := okWide_slice Try.underlying33 hok
  obtain ⟨fuel, hf⟩ := h
  obtain ⟨fs, rfl, h1, h2⟩ := fates_of (by simpa [Value.cells] using hf)
  exact ⟨ao, cap, fs, rfl, h1, h2⟩
end Go.Proofs.Ytmccoejliaakoaa.Dk
namespace Go.Proofs.Ytmccoejliaakoaa.Dk
open Go.ChangeShapes Go.WideShapes Go.ChangeAt Go.RowKit Go.Joins
set_option maxRecDepth 100000
set_option linter.unusedVariables false
set_option linter.unusedSimpArgs false
def wroteS (s : DS) (a : Nat) (t : List UInt8) : DS := ⟨s.sec, s.opn ++ [(a, t)], 0, s.reads⟩
def readS (s : DS) : DS := ⟨s.sec, s.opn, 0, s.reads + 1⟩
def flushS (s : DS) : DS := ⟨flushedS s, [], 0, s.reads⟩
theorem wr_calm (B b : Nat) (s : DS) (a : Nat) (t : ByteArray) (w : World) (h : Dk B b s w) (ha : a < s.sec.length) (ht : t.size = 64) (hf : s.fail = 0) (hn : s.opn.length ≤ 900000) :
    Calls Try.prog 59 #[ptr b, .int .i64 (a : Int), .string t] w fun e w' => e = .returned (.int .i64 0) ∧ Dk B b (wroteS s a t.data.toList) w' ∧ Moved b w w' := by
  have := write_ok B b s a t w h ha ht (by omega) hn (by omega)
  rw [hf] at this
  exact this
theorem rd_calm (B b : Nat) (s : DS) (a : Nat) (w : World) (h : Dk B b s w) (ha : a < s.sec.length) (hf : s.fail = 0) (hn : s.opn.length ≤ 900000) (hr : s.reads ≤ 1000000000) :
    Calls Try.prog 52 #[ptr b, .int .i64 (a : Int)] w fun e w' => e = .returned (.tuple #[.string (mkB (newestOf s a)), .int .i64 0]) ∧ Dk B b (readS s) w' ∧ Moved b w w' := by
  have := read_any B b s (a : Int) w h hr (by omega) (by omega)
  rw [newest_read s (by omega) (by omega) (by omega), hf] at this
  exact this
theorem fl_calm (B b : Nat) (s : DS) (w : World) (h : Dk B b s w) (hf : s.fail = 0) (hn : s.opn.length ≤ 900000) :
    Calls Try.prog 33 #[ptr b] w fun e w' => e = .returned (.int .i64 0) ∧ Dk B b (flushS s) w' ∧ Moved b w w' := by
  have := flush_ok B b s w h (by omega) (by omega) (by omega)
  rw [hf] at this
  exact this
theorem newest_wrote (s : DS) (a k : Nat) (t : List UInt8) : newestOf (wroteS s a t) k = if a = k then t else newestOf s k := by
  unfold newestOf wroteS
  rw [lastOf_snoc]
  split <;> rfl
theorem newest_reads (s : DS) (k : Nat) : newestOf (readS s) k = newestOf s k := rfl
theorem laid_get {S : List (List UInt8)} {O : List (Nat × List UInt8)} (hS : ∀ x ∈ S, x.length = 64) (hO : ∀ p ∈ O, p.1 < S.length ∧ p.2.length = 64) {k : Nat} (hk : k < S.length) (i : Nat) (hi : i ≤ O.length) :
    (laid S O (fun _ => 64) i)[k]? = some ((lastOf (O.take i) k).getD S[k]) := by
  induction i with
  | zero => simp [laid, lastOf, hk]
  | succ i ih =>
    have hlt : i < O.length := by omega
    have ihh := ih (by omega)
    have hp := hO _ (List.getElem_mem hlt)
    have hk' : k < (laid S O (fun _ => 64) i).length := by rw [laid_length]; exact hk
    have e : (laid S O (fun _ => 64) i)[k] = (lastOf (O.take i) k).getD S[k] := by
      rw [List.getElem?_eq_getElem hk'] at ihh; exact Option.some.inj ihh
    rw [laid_succ hlt, putS_get _ _ _ _ _ hk', List.take_succ_eq_append_getElem hlt, lastOf_snoc]
    congr 1
    have hl : (laid S O (fun _ => 64) i)[k].length = 64 := laid_sec hS hO (fun _ => Nat.le_refl _) i _ (List.getElem_mem hk')
    split
    · rw [List.take_of_length_le (by omega), List.drop_eq_nil_of_le (by omega)]; simp
    · exact e
theorem newest_flushed {s : DS} (h : s.Ok) {k : Nat} (hk : k < s.sec.length) : newestOf (flushS s) k = newestOf s k := by
  unfold newestOf flushS
  show (lastOf [] k).getD ((flushedS s)[k]?.getD []) = _
  unfold flushedS
  rw [laid_get h.sec h.opn hk _ (Nat.le_refl _), List.take_length]
  simp [lastOf, hk]
theorem wroteS_len (s : DS) (a : Nat) (t : List UInt8) : (wroteS s a t).sec.length = s.sec.length := rfl
theorem flushS_len (s : DS) : (flushS s).sec.length = s.sec.length := by show (flushedS s).length = _; unfold flushedS; rw [laid_length]
theorem i64_and3 (n : Int) : bits .and .i64 n 3 = n % 4 := by
  have hm : (BitVec.ofInt 64 3).toNat = 2 ^ 2 - 1 := by decide
  have key : (BitVec.ofInt 64 n &&& BitVec.ofInt 64 3).toNat = (n % ((2 ^ 64 : Nat) : Int)).toNat % 2 ^ 2 := by
    rw [BitVec.toNat_and, BitVec.toNat_ofInt, hm, Nat.and_two_pow_sub_one_eq_mod]
  show IntKind.i64.wrap ((BitVec.ofInt 64 n &&& BitVec.ofInt 64 3).toNat : Nat) = n % 4
  rw [key, IntKind.wrap_i64]
  omega
theorem i64_and7 (n : Int) : bits .and .i64 n 7 = n % 8 := by
  have hm : (BitVec.ofInt 64 7).toNat = 2 ^ 3 - 1 := by decide
  have key : (BitVec.ofInt 64 n &&& BitVec.ofInt 64 7).toNat = (n % ((2 ^ 64 : Nat) : Int)).toNat % 2 ^ 3 := by
    rw [BitVec.toNat_and, BitVec.toNat_ofInt, hm, Nat.and_two_pow_sub_one_eq_mod]
  show IntKind.i64.wrap ((BitVec.ofInt 64 n &&& BitVec.ofInt 64 7).toNat : Nat) = n % 8
  rw [key, IntKind.wrap_i64]
  omega
/-- the place that a number names, of four -/
theorem four (n : Int) : ∃ a : Nat, bits .and .i64 n 3 = (a : Int) ∧ a < 4 := ⟨(n % 4).toNat, by rw [i64_and3]; omega, by omega⟩
theorem Dk.setOther {B b q o : Nat} {s : DS} {w : World} {v : Value} (h : Dk B b s w) (hq : ¬ Own w b q) : Dk B b s (w.setCell ⟨q, o, none⟩ v) := by
  obtain ⟨g, u, h⟩ := h
  exact ⟨g, u, h.of_blocks fun k hk => Below.heap_setCell _ _ _ _ (fun e => hq (by have e' : k = q := e; rw [← e']; exact hk))⟩
end Go.Proofs.Ytmccoejliaakoaa.Dk
namespace Go.Proofs.Ytmccoejliaakoaa.Dk
open Go.ChangeShapes Go.WideShapes Go.ChangeAt Go.RowKit Go.Joins
set_option maxRecDepth 100000
set_option linter.unusedVariables false
set_option linter.unusedSimpArgs false
def Apt (w : World) (a b : Nat) : Prop := ∀ k, Own w a k → ¬ Own w b k
theorem Apt.symm {w : World} {a b : Nat} (h : Apt w a b) : Apt w b a := fun k hb ha => h k ha hb
theorem Apt.moved {w w' : World} {a b : Nat} (h : Apt w a b) (m : Moved a w w') (hb : ∀ k, Own w b k → k < w.heap.size) : Apt w' a b := by
  have e : w'.heap[b]? = w.heap[b]? := m.block b (hb b (.inl rfl)) (fun e => h b e (.inl rfl))
  intro k ka kb
  have kb' := kb.of_block e
  rcases m.own k ka with ka | ka
  · exact h k ka kb'
  · have := hb k kb'; omega
theorem Apt.call {w w' : World} {a b : Nat} (h : Apt w a b) (hb : Below w.heap.size w w') (la : a < w.heap.size) (lb : b < w.heap.size) : Apt w' a b := fun k ka kb =>
  h k (ka.of_block (hb.block a la)) (kb.of_block (hb.block b lb))
/-- two disks -/
structure Two (B a b : Nat) (sa sb : DS) (w : World) : Prop where
  fst : Dk B a sa w
  snd : Dk B b sb w
  apt : Apt w a b
theorem Two.left {B a b : Nat} {sa sb sa' : DS} {w w' : World} (h : Two B a b sa sb w) (k : Dk B a sa' w') (m : Moved a w w') : Two B a b sa' sb w' :=
  ⟨k, h.snd.moved m (fun k hk hc => h.apt k hc hk), h.apt.moved m (fun k hk => (h.snd.ownLt hk).2)⟩
theorem Two.right {B a b : Nat} {sa sb sb' : DS} {w w' : World} (h : Two B a b sa sb w) (k : Dk B b sb' w') (m : Moved b w w') : Two B a b sa sb' w' :=
  ⟨h.fst.moved m h.apt, k, (h.apt.symm.moved m (fun k hk => (h.fst.ownLt hk).2)).symm⟩
theorem Two.call {B a b : Nat} {sa sb : DS} {w w' : World} (h : Two B a b sa sb w) (hb : Below w.heap.size w w') : Two B a b sa sb w' :=
  ⟨h.fst.call hb, h.snd.call hb, h.apt.call hb h.fst.lt h.snd.lt⟩
theorem two_new {B a b A : Nat} {sa sb : DS} {w w' : World} (ha : Dk B a sa w) (hb : Dk A b sb w') (hA : w.heap.size ≤ A) (hBA : B ≤ A) (h : Below w.heap.size w w') : Two B a b sa sb w' := by
  refine ⟨ha.call h, hb.mono hBA, fun k ka kb => ?_⟩
  have h1 := (ha.ownLt (ka.of_block (h.block a ha.lt))).2
  have h2 := (hb.ownLt kb).1
  omega
def fateCells (n : Nat) : List Value := (List.replicate n [Value.int .i64 1, Value.int .i64 0]).flatten
def FRow (B : Nat) (w : World) (v : Value) (n : Nat) : Prop := w.ownsRow B 72 2 v n (fateCells n)
theorem FRow.of_block {B : Nat} {w w' : World} {v : Value} {n : Nat} (h : FRow B w v n) (e : ∀ k, v.ownBlock = some k → w'.heap[k]? = w.heap[k]?) : FRow B w' v n := by
  refine ⟨h.1, ?_⟩
  rcases h.2 with hn | ⟨g, cap, cur, rfl, hB, hg, rest⟩
  · exact .inl hn
  · exact .inr ⟨g, cap, cur, rfl, hB, by rw [e g rfl]; exact hg, rest⟩
theorem FRow.block {B : Nat} {w : World} {v : Value} {n : Nat} (h : FRow B w v n) {k : Nat} (e : v.ownBlock = some k) : ∃ cur, w.heap[k]? = some (.cells cur 72 (0, 0)) := by
  rcases h.2 with ⟨rfl, _⟩ | ⟨g', cap, cur, rfl, _, hg, _⟩
  · simp [Value.ownBlock] at e
  · simp [Value.ownBlock] at e; subst e; exact ⟨cur, hg⟩
theorem FRow.call {B : Nat} {w w' : World} {v : Value} {n : Nat} (h : FRow B w v n) (hb : Below w.heap.size w w') : FRow B w' v n :=
  h.of_block fun k hk => hb.block k (h.lt k hk).2
theorem FRow.off {B b : Nat} {s : DS} {w : World} {v : Value} {n : Nat} (h : FRow B w v n) (d : Dk B b s w) {k : Nat} (e : v.ownBlock = some k) : ¬ Own w b k := by
  obtain ⟨g, u, d⟩ := d
  obtain ⟨cur, hc⟩ := h.block e
  exact d.keepT hc (by decide) (by decide) (by decide)
theorem FRow.disk {B b : Nat} {s : DS} {w w' : World} {v : Value} {n : Nat} (h : FRow B w v n) (d : Dk B b s w) (m : Moved b w w') : FRow B w' v n :=
  h.of_block fun k hk => m.block k (h.lt k hk).2 (h.off d hk)
theorem infoF : (Try.prog.info? 72).map (fun i => (i.zero, i.size, i.bytes)) = some (some (.agg #[.int .i64 0, .int .i64 0]), 2, 16) := by kernel_rfl
theorem frow_append (B : Nat) (w : World) (v : Value) (n : Nat) (h : FRow B w v n) (hn : n ≤ 1000000) (hB : B ≤ w.heap.size) :
    ∃ v' w', (Builtin.append_ #[33, 33] 33 #[v, .slice (some ⟨w.heap.size, 0, none⟩) 1 1]).run Try.prog (w.alloc (.cells #[.int .i64 1, .int .i64 0] 72)) = .ok v' w' ∧ FRow B w' v' (n + 1) ∧ (∀ k, k < w.heap.size → v.ownBlock ≠ some k → w'.heap[k]? = w.heap[k]?) ∧ Below B w w' ∧ w.heap.size ≤ w'.heap.size := by
  have h1 := h.call ((Below.refl _ w).alloc (Nat.le_refl _) (.cells #[.int .i64 1, .int .i64 0] 72))
  obtain ⟨g, cap, w', hr, ho, hg, -⟩ := append_one (P := Try.prog) (w.alloc (.cells #[.int .i64 1, .int .i64 0] 72)) B 33 33 72 _ 2 16 Try.underlying33 infoF rfl (by omega) (by omega) v n _ h1 ⟨w.heap.size, 0, none⟩ [.int .i64 1, .int .i64 0] rfl (fun j u hj => by
    rw [addr_add, Nat.zero_add, Lib.cell_of_heap (heap_alloc_new _ _)]; simpa using hj) (fun u hu => by simp at hu; rcases hu with rfl | rfl <;> rfl) hn (by simp; omega)
  refine ⟨_, w', hr, ?_, fun k hk hne => ?_, ?_, Nat.le_trans (by simp) hg.size⟩
  · unfold FRow fateCells
    rw [List.replicate_succ', List.flatten_append]
    simpa [fateCells] using ho
  · rw [hg.block k (by simp; omega) (fun e => hne e.symm), Below.heap_alloc _ _ _ hk]
  · exact ((Below.refl B w).alloc hB _).grown hg (by simp; omega) (fun k hk => (h1.lt k hk).1)
theorem FRow.fats {B : Nat} {w : World} {v : Value} {n : Nat} (h : FRow B w v n) : ∃ ao cap, v = .slice ao (List.replicate n ((1 : Int), (0 : Int))).length cap ∧ Fats ao (List.replicate n (1, 0)) w ∧ (∀ k off, ao = some ⟨k, off, none⟩ → v.ownBlock = some k) := by
  rcases h.2 with ⟨rfl, rfl⟩ | ⟨g, cap, cur, rfl, hB, hg, hc, hm, hs, ht⟩
  · exact ⟨none, 0, rfl, ⟨fun p hp => by simp at hp, fun h => by simp at h⟩, fun k off e => by cases e⟩
  · refine ⟨some ⟨g, 0, none⟩, cap, by simp, ⟨fun p hp => ?_, fun h0 => ⟨g, 0, rfl, lt_of_heap hg, fun i hi => ?_⟩⟩, fun k off e => by simp at e; simp [Value.ownBlock, e]⟩
    · simp at hp
      rw [hp.2]
      unfold In64
      omega
    · have hi' : i < n := by simpa using hi
      have key : ∀ j, j < 2 → w.cell? ⟨g, i * 2 + j, none⟩ = [Value.int .i64 1, Value.int .i64 0][j]? := by
        intro j hj
        have e := World.ownsRow.cellAt h (i * 2 + j) (by omega)
        rw [e]
        unfold fateCells
        have := flat_get (m := 2) (L := List.replicate n [Value.int .i64 1, Value.int .i64 0]) (by intro x hx; simp at hx; rw [hx.2]; rfl) (i := i) (j := j) (by simpa using hi') hj
        rw [show i * 2 + j = 2 * i + j by omega, this]
        simp
      have k0 := key 0 (by omega)
      have k1 := key 1 (by omega)
      rw [Nat.zero_add]
      simp only [Nat.add_zero] at k0
      exact ⟨by rw [k0]; simp, by rw [k1]; simp⟩
theorem laid_congr {S : List (List UInt8)} {O : List (Nat × List UInt8)} {k k' : Nat → Nat} (n : Nat) (h : ∀ j, j < n → k j = k' j) : laid S O k n = laid S O k' n := by
  induction n with
  | zero => rfl
  | succ n ih =>
    simp only [laid, ih (fun j hj => h j (by omega)), h n (by omega)]
theorem kept_ones {n j : Nat} (h : j < n) : keptAt (List.replicate n (1, 0)) j = 64 := by
  rw [keptAt_lt (by simpa using h)]
  simp [keepOf]
theorem broken_ones (n m : Nat) (h : m ≤ n) : brokenTo (List.replicate n (1, 0)) m = 0 := by
  induction m with
  | zero => rfl
  | succ m ih => rw [brokenTo, ih (by omega), kept_ones (by omega)]; rfl
theorem crash_ones (s : DS) : crashR s (List.replicate s.opn.length (1, 0)) = (⟨flushedS s, [], 0, 0⟩, 0) := by
  unfold crashR crashedS flushedS
  rw [broken_ones _ _ (Nat.le_refl _), laid_congr (k' := fun _ => 64) _ (fun j hj => kept_ones hj)]
theorem crash_none (s : DS) : crashR s [] = (⟨s.sec, [], 0, 0⟩, s.opn.length) := by
  unfold crashR crashedS
  have h := laid_rest (S := s.sec) (O := s.opn) (k := keptAt []) (m := 0) (fun j _ => keptAt_ge (by simp)) s.opn.length
  have h2 := brokenTo_rest (l := []) (m := 0) (fun j _ => keptAt_ge (by simp)) s.opn.length
  rw [Nat.zero_add] at h h2
  rw [h, h2]
  simp [laid, brokenTo]
theorem fats_nil (w : World) : Fats none [] w := ⟨fun p hp => (by cases hp), fun h => by simp at h⟩
theorem off_nil (b : Nat) (w : World) : Off none b w := fun k off e => by cases e
end Go.Proofs.Ytmccoejliaakoaa.Dk
