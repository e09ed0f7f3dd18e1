/- Contract of package disk's Crash. -/
import Derived.Test.YtcbemjckcmcelaaDkF
namespace Go.Proofs.Ytcbemjckcmcelaa.Dk
open Go.ChangeShapes Go.WideShapes Go.ChangeAt Go.RowKit Go.Joins
set_option maxRecDepth 100000
set_option linter.unusedVariables false
set_option linter.unusedSimpArgs false
def In64 (z : Int) : Prop := -9223372036854775808 ≤ z ∧ z ≤ 9223372036854775807
/-- a row of fates in memory -/
def Fats (ao : Option Addr) (fs : List (Int × Int)) (w : World) : Prop :=
  (∀ p ∈ fs, In64 p.1 ∧ In64 p.2) ∧ (0 < fs.length → ∃ b off, ao = some ⟨b, off, none⟩ ∧ b < w.heap.size ∧ ∀ i (h : i < fs.length), w.cell? ⟨b, off + i * 2, none⟩ = some (.int .i64 fs[i].1) ∧ w.cell? ⟨b, off + i * 2 + 1, none⟩ = some (.int .i64 fs[i].2))
theorem Fats.of_blocks {ao : Option Addr} {fs : List (Int × Int)} {w w' : World} (h : Fats ao fs w) (hs : w.heap.size ≤ w'.heap.size) (e : ∀ k off, ao = some ⟨k, off, none⟩ → k < w.heap.size → w'.heap[k]? = w.heap[k]?) : Fats ao fs w' := by
  refine ⟨h.1, fun h0 => ?_⟩
  obtain ⟨b, off, rfl, hb, hc⟩ := h.2 h0
  have eb := e b off rfl hb
  exact ⟨b, off, rfl, by omega, fun i hi => ⟨(World.cell?_of_block (w := w) eb).trans (hc i hi).1, (World.cell?_of_block (w := w) eb).trans (hc i hi).2⟩⟩
/-- none of its blocks is the disk's -/
def Off (ao : Option Addr) (b : Nat) (w : World) : Prop := ∀ k off, ao = some ⟨k, off, none⟩ → ¬ Own w b k
theorem Fats.moved {ao : Option Addr} {fs : List (Int × Int)} {b : Nat} {w w' : World} (h : Fats ao fs w) (m : Moved b w w') (ho : Off ao b w) : Fats ao fs w' :=
  h.of_blocks m.size fun k off e hk => m.block k hk (ho k off e)
theorem reset_blk {w : World} {b : Nat} {x0 x1 x2 x3 y0 y1 y2 y3 : Value} {T : TypeId} (h : w.heap[b]? = some (.cells #[x0, x1, x2, x3] T (0, 0))) :
    ((((w.setCell ⟨b, 0, none⟩ y0).setCell ⟨b, 1, none⟩ y1).setCell ⟨b, 2, none⟩ y2).setCell ⟨b, 3, none⟩ y3).heap[b]? = some (.cells #[y0, y1, y2, y3] T (0, 0)) := by
  simp [World.setCell, Array.getElem?_modify, h]
theorem reset_other {w : World} {b k : Nat} {y0 y1 y2 y3 : Value} (h : k ≠ b) : ((((w.setCell ⟨b, 0, none⟩ y0).setCell ⟨b, 1, none⟩ y1).setCell ⟨b, 2, none⟩ y2).setCell ⟨b, 3, none⟩ y3).heap[k]? = w.heap[k]? := by
  rw [Below.heap_setCell _ _ _ _ h, Below.heap_setCell _ _ _ _ h, Below.heap_setCell _ _ _ _ h, Below.heap_setCell _ _ _ _ h]
theorem DkAt.reset {B b g : Nat} {v : Value} {s : DS} {w : World} (h : DkAt B b g v s w) :
    DkAt B b g (.slice none 0 0) ⟨s.sec, [], 0, 0⟩ ((((w.setCell ⟨b, 0, none⟩ (.slice (some ⟨g, 0, none⟩) s.sec.length s.sec.length)).setCell ⟨b, 1, none⟩ (.slice none 0 0)).setCell ⟨b, 2, none⟩ (.int .i64 0)).setCell ⟨b, 3, none⟩ (.int .i64 0)) ∧
    Moved b w ((((w.setCell ⟨b, 0, none⟩ (.slice (some ⟨g, 0, none⟩) s.sec.length s.sec.length)).setCell ⟨b, 1, none⟩ (.slice none 0 0)).setCell ⟨b, 2, none⟩ (.int .i64 0)).setCell ⟨b, 3, none⟩ (.int .i64 0)) := by
  have d : DkAt B b g (.slice none 0 0) ⟨s.sec, [], 0, 0⟩ ((((w.setCell ⟨b, 0, none⟩ (.slice (some ⟨g, 0, none⟩) s.sec.length s.sec.length)).setCell ⟨b, 1, none⟩ (.slice none 0 0)).setCell ⟨b, 2, none⟩ (.int .i64 0)).setCell ⟨b, 3, none⟩ (.int .i64 0)) :=
    ⟨⟨h.ok.len, h.ok.sec, fun p hp => by cases hp⟩, h.hb, h.hg, reset_blk h.blk, h.row.of_block (reset_other h.ne), World.ownsRow_nil _ _ _ _⟩
  refine ⟨d, rfl, rfl, rfl, by simp [World.setCell], fun k hk hn => reset_other (fun e => hn (.inl e)), fun k hk => ?_⟩
  rcases d.owns.1 hk with e | e | e
  · exact .inl (.inl e)
  · exact .inl (h.owns.2 (.inr (.inl e)))
  · simp [Value.ownBlock] at e
def CrRel (B b g : Nat) (v : Value) (s : DS) (l : List (Int × Int)) (M : Nat) (w : World) (m : Nat) (s5 s30 : Value) (wx : World) : Prop :=
  ∃ i : Nat, i + m = M ∧ s30 = .int .i64 (i : Int) ∧ s5 = .int .i64 ((s.opn.length - (i - brokenTo l i) : Nat) : Int) ∧ DkAt B b g v ⟨laid s.sec s.opn (keptAt l) i, s.opn, s.fail, s.reads⟩ wx ∧ Moved b w wx
theorem slice_opn (p : Option Addr) (L cap m : Nat) (h : m ≤ cap) (w : World) : (Instr.sliceAt 60 (.slice p L cap) none (some (.int .i64 (m : Int))) none).run Try.prog w = .ok (.slice p m cap) w := by
  rw [run_sliceAt_slice w _ _ _ _ _ (by kernel_rfl), run_slice_h w _ _ _ _ (by kernel_rfl) _ _ (by omega) (by omega)]
  have e : (sizeOf (Try.prog.elem 60)).run Try.prog w = .ok 65 w := by kernel_rfl
  rw [e]
  simp only [Result.andThen, sliced]
  have : p.map (fun x => x.add (0 * 65)) = p := by cases p <;> simp [Addr.add]
  rw [this]
  simp
set_option maxRecDepth 100000 in
set_option maxHeartbeats 8000000 in
theorem crash_any (B b : Nat) (s : DS) (ao : Option Addr) (fs : List (Int × Int)) (fc : Nat) (w : World) (h : Dk B b s w) (hF : Fats ao fs w) (ho : 0 < fs.length → Off ao b w) (hn : s.opn.length ≤ 1000000) (hfl : fs.length ≤ 9223372036854775807) :
    Calls Try.prog 21 #[ptr b, .slice ao fs.length fc] w fun e w' => e = .returned (.int .i64 ((crashR s fs).2 : Int)) ∧ Dk B b (crashR s fs).1 w' ∧ Moved b w w' := by
  obtain ⟨g, v, h⟩ := h
  have hl := h.ok.len
  have OK := Lib.hid h.ok
  have c1 := h.c1
  obtain ⟨p, cap, rfl, hcap, hp⟩ := h.vform
  have HP := Lib.hid hp
  have H := Lib.hid h
  have HF := Lib.hid hF
  have HO := Lib.hid ho
  clear h hp hF ho
  have sl := slice_opn p s.opn.length cap (min fs.length s.opn.length) (by omega)
  have mn : ∀ w : World, (Builtin.min_ #[3, 3] 3 #[.int .i64 (fs.length : Int), .int .i64 (s.opn.length : Int)]).run Try.prog w = .ok (.int .i64 ((min fs.length s.opn.length : Nat) : Int)) w := by
    intro w
    simp [Builtin.min_, Builtin.min2]
    repeat' split
    all_goals first | (simp; omega) | omega | simp_all
  generalize hMM : min fs.length s.opn.length = M at *
  have hM1 : M ≤ fs.length := by omega
  have hM2 : M ≤ s.opn.length := by omega
  have HM := Lib.hid hMM
  clear hMM
  go_enter Try.func21, Try.ntmps21
  go_wp2_with fail
  go_step3
  go_wp2_with fail
  go_step3
  go_wp2_with fail
  go_quiet (fail)
  have HH := Lib.hid (show (w.drewN nq).heap = w.heap by simp)
  have K1 : Hid (DkAt B b g (.slice p s.opn.length cap) s (w.drewN nq) ∧ Moved b w (w.drewN nq)) := Lib.hid ⟨H.out.of_blocks (fun k _ => by rw [HH.out]), ⟨rfl, rfl, rfl, by rw [HH.out]; exact Nat.le_refl _, fun k _ _ => by rw [HH.out], fun k hk => .inl (hk.of_block (by rw [HH.out]))⟩⟩
  clear HH sl mn c1 H
  generalize w.drewN nq = W at *
  go_wp2_with fail
  go_loopg [5, 30] M (CrRel B b g (.slice p s.opn.length cap) s fs M w)
  case atStart => exact ⟨0, by omega, rfl, by simp [brokenTo], K1.out.1, K1.out.2⟩
  case round =>
    clear K1
    obtain ⟨i, hi, rfl, rfl, hk, hm⟩ := hrel
    rcases Nat.lt_or_ge i M with hlt | hge
    · have hlt' : i < s.opn.length := by omega
      have hif : i < fs.length := by omega
      have hFw := HF.out.moved hm (HO.out (by omega))
      have hin := hFw.1 _ (List.getElem_mem hif)
      obtain ⟨bf, off, rfl, -, hcf⟩ := hFw.2 (by omega)
      obtain ⟨cK, cA⟩ := hcf i hif
      obtain ⟨k, rfl⟩ := HP.out (by omega)
      have R := Lib.hid (DkAt.put hk rfl hlt')
      have PL := Lib.hid (putCells_len (OK.out.opn _ (List.getElem_mem hlt')).2)
      have PU := Lib.hid (fun o => put_round (k := keptAt fs) hk OK.out hlt' (keptAt_le _ _) o)
      have KA := keptAt_lt hif
      have ZP : Hid (keptAt fs i = 0 → ∀ o, DkAt B b g (.slice (some ⟨k, 0, none⟩) s.opn.length cap) ⟨laid s.sec s.opn (keptAt fs) (i + 1), s.opn, s.fail, s.reads⟩ (wr.alloc o)) := Lib.hid (fun h0 o => laid_next hlt' (by rw [h0, putS_zero]; exact hk.alloc o))
      have MA := Lib.hid (fun o => hm.alloc hk.lt o)
      have M0 := Lib.hid hm
      have BL := brokenTo_le fs i
      have PO := Lib.hid (all_oneCell_toArray (putCells_one s.opn[i]))
      have PS := Lib.hid (show (putCells s.opn[i]).toArray.size = 65 by simp [PL.out])
      have R2 := Lib.hid (show (wr.alloc (.cells (putCells s.opn[i]).toArray 86)).rangeAt wr.heap.size 0 (putCells s.opn[i]) from fun j u hu => by
        rw [Nat.zero_add, Lib.cell_of_heap (heap_alloc_new _ _)]; simpa using hu)
      have z := zeroW.1
      have z1 := Lib.hid (putA_size (p := (0, List.replicate 64 0)) (by simp))
      have RK := rest_any fs[i].1 3 (h0 := by omega) (h1 := by omega) (hn := hin.1.1) (hn2 := hin.1.2)
      have RA := rest_any fs[i].2 65 (h0 := by omega) (h1 := by omega) (hn := hin.2.1) (hn2 := hin.2.2)
      have cK2 : (wr.alloc (.cells (putCells s.opn[i]).toArray 86)).cell? ⟨bf, off + i * 2, none⟩ = some (.int .i64 fs[i].1) := by rw [World.cell?_alloc_lt _ _ _ (lt_of_cell cK)]; exact cK
      have cA2 : (wr.alloc (.cells (putCells s.opn[i]).toArray 86)).cell? ⟨bf, off + i * 2 + 1, none⟩ = some (.int .i64 fs[i].2) := by rw [World.cell?_alloc_lt _ _ _ (lt_of_cell cA)]; exact cA
      have il : (i : Int) < (M : Int) := by omega
      have il2 : (i : Int) < (fs.length : Int) := by omega
      have HI := Lib.hid hi
      have hg0 : 0 < gk := by omega
      have BX : Hid (∀ x : Nat, x = s.opn.length - (i - brokenTo fs i) → (keptAt fs i = 64 → ((x : Int) - 1) = ((s.opn.length - (i + 1 - brokenTo fs (i + 1)) : Nat) : Int)) ∧ (keptAt fs i ≠ 64 → x = s.opn.length - (i + 1 - brokenTo fs (i + 1)))) := Lib.hid (fun x hx => by
        constructor
        · intro e; rw [brokenTo, if_pos e]; omega
        · intro e; rw [brokenTo, if_neg e]; omega)
      have hX1 : 1 ≤ s.opn.length - (i - brokenTo fs i) := by omega
      have hX2 : s.opn.length - (i - brokenTo fs i) ≤ 1000000 := by omega
      have BX2 := Lib.hid (BX.out _ rfl)
      clear hk hm hi hcf hFw cK cA BX BL
      generalize s.opn.length - (i - brokenTo fs i) = X at *
      generalize s.opn[i] = pw at *
      generalize fs[i].1 = KK at *
      generalize fs[i].2 = AA at *
      clear hlt' hif hin
      generalize (putCells (0, List.replicate 64 0)).toArray = Z at *
      have h3 : KK % 3 = 0 ∨ KK % 3 = 1 ∨ KK % 3 = 2 := by omega
      have KL := keptAt_le fs i
      rcases h3 with h3 | h3 | h3
      · have E : Hid (keptAt fs i = 0) := Lib.hid (by rw [KA]; unfold keepOf; rw [if_pos h3])
        rw [h3] at RK
        replace RK := Lib.hid RK
        replace RA := Lib.hid RA
        have K3 := Lib.hid (And.intro (ZP.out E.out (.cells (putCells pw).toArray 86)) (MA.out (.cells (putCells pw).toArray 86)))
        have BB := Lib.hid (BX2.out.2 (by rw [E.out]; omega))
        clear KA h3 KL E ZP MA PU BX2
        go_wp2_with (first
          | (refine wpList_load_mid rfl 86 (.tmp 33) rfl k (i * 65) rfl (putCells pw) _ R.out Try.underlying86 rfl (by rw [PL.out]; exact zeroW.2) ?_)
          | (refine wpList_store_new (c := Z) (c' := (putCells pw).toArray) rfl rfl rfl rfl (by rw [PS.out]; exact zeroW.2) (by rw [z1.out, PS.out]) PO.out ?_)
          | (refine wpList_load_mid rfl 86 (.tmp 7) rfl wr.heap.size 0 rfl (putCells pw) _ R2.out Try.underlying86 rfl (by rw [PL.out]; exact zeroW.2) ?_)
          | ((with_reducible refine (RK.out _).mono ?_); rintro e w1 ⟨rfl, rfl⟩)
          | ((with_reducible refine (RA.out _).mono ?_); rintro e w1 ⟨rfl, rfl⟩)
          | ((with_reducible refine (PU.out _).mono ?_); rintro e w3 ⟨rfl, k3, m3⟩; (have K3 := Lib.hid (And.intro k3 (M0.out.trans m3))); clear k3 m3))
        go_roundg (gk - 1)
        case measure => omega
        case rel => exact ⟨i + 1, by have := HI.out; omega, by go_num, by rw [BB.out], K3.out⟩
      · have E : Hid (keptAt fs i = 64) := Lib.hid (by rw [KA]; unfold keepOf; rw [if_neg (by omega), if_pos h3])
        rw [h3] at RK
        replace RK := Lib.hid RK
        replace RA := Lib.hid RA
        have BB := Lib.hid (BX2.out.1 E.out)
        rw [E.out] at PU
        have e64 : ((64 : Nat) : Int) = 64 := rfl
        rw [e64] at PU
        clear KA h3 KL E ZP MA BX2 e64
        go_wp2_with (first
          | (refine wpList_load_mid rfl 86 (.tmp 33) rfl k (i * 65) rfl (putCells pw) _ R.out Try.underlying86 rfl (by rw [PL.out]; exact zeroW.2) ?_)
          | (refine wpList_store_new (c := Z) (c' := (putCells pw).toArray) rfl rfl rfl rfl (by rw [PS.out]; exact zeroW.2) (by rw [z1.out, PS.out]) PO.out ?_)
          | (refine wpList_load_mid rfl 86 (.tmp 7) rfl wr.heap.size 0 rfl (putCells pw) _ R2.out Try.underlying86 rfl (by rw [PL.out]; exact zeroW.2) ?_)
          | ((with_reducible refine (RK.out _).mono ?_); rintro e w1 ⟨rfl, rfl⟩)
          | ((with_reducible refine (RA.out _).mono ?_); rintro e w1 ⟨rfl, rfl⟩)
          | ((with_reducible refine (PU.out _).mono ?_); rintro e w3 ⟨rfl, k3, m3⟩; (have K3 := Lib.hid (And.intro k3 (M0.out.trans m3))); clear k3 m3))
        go_roundg (gk - 1)
        case measure => omega
        case rel => exact ⟨i + 1, by have := HI.out; omega, by go_num, by rw [← BB.out], K3.out⟩
      · have E : Hid (keptAt fs i = (AA % 65).toNat) := Lib.hid (by rw [KA]; unfold keepOf; rw [if_neg (by omega), if_neg (by omega)])
        have EI : AA % 65 = ((keptAt fs i : Nat) : Int) := by rw [E.out]; omega
        rw [h3] at RK
        rw [EI] at RA
        replace RK := Lib.hid RK
        replace RA := Lib.hid RA
        by_cases h64 : keptAt fs i = 64
        · have BB := Lib.hid (BX2.out.1 h64)
          rw [h64] at PU RA
          have e64 : ((64 : Nat) : Int) = 64 := rfl
          rw [e64] at PU RA
          clear KA h3 KL E ZP MA BX2 e64 h64 EI
          go_wp2_with (first
            | (refine wpList_load_mid rfl 86 (.tmp 33) rfl k (i * 65) rfl (putCells pw) _ R.out Try.underlying86 rfl (by rw [PL.out]; exact zeroW.2) ?_)
            | (refine wpList_store_new (c := Z) (c' := (putCells pw).toArray) rfl rfl rfl rfl (by rw [PS.out]; exact zeroW.2) (by rw [z1.out, PS.out]) PO.out ?_)
            | (refine wpList_load_mid rfl 86 (.tmp 7) rfl wr.heap.size 0 rfl (putCells pw) _ R2.out Try.underlying86 rfl (by rw [PL.out]; exact zeroW.2) ?_)
            | ((with_reducible refine (RK.out _).mono ?_); rintro e w1 ⟨rfl, rfl⟩)
            | ((with_reducible refine (RA.out _).mono ?_); rintro e w1 ⟨rfl, rfl⟩)
            | ((with_reducible refine (PU.out _).mono ?_); rintro e w3 ⟨rfl, k3, m3⟩; (have K3 := Lib.hid (And.intro k3 (M0.out.trans m3))); clear k3 m3))
          go_roundg (gk - 1)
          case measure => omega
          case rel => exact ⟨i + 1, by have := HI.out; omega, by go_num, by rw [← BB.out], K3.out⟩
        · have BB := Lib.hid (BX2.out.2 h64)
          have t6 : (((keptAt fs i : Nat) : Int) == 64) = false := by simp; omega
          clear KA h3 E ZP MA BX2 EI
          generalize keptAt fs i = q at *
          go_wp2_with (first
            | (refine wpList_load_mid rfl 86 (.tmp 33) rfl k (i * 65) rfl (putCells pw) _ R.out Try.underlying86 rfl (by rw [PL.out]; exact zeroW.2) ?_)
            | (refine wpList_store_new (c := Z) (c' := (putCells pw).toArray) rfl rfl rfl rfl (by rw [PS.out]; exact zeroW.2) (by rw [z1.out, PS.out]) PO.out ?_)
            | (refine wpList_load_mid rfl 86 (.tmp 7) rfl wr.heap.size 0 rfl (putCells pw) _ R2.out Try.underlying86 rfl (by rw [PL.out]; exact zeroW.2) ?_)
            | ((with_reducible refine (RK.out _).mono ?_); rintro e w1 ⟨rfl, rfl⟩)
            | ((with_reducible refine (RA.out _).mono ?_); rintro e w1 ⟨rfl, rfl⟩)
            | ((with_reducible refine (PU.out _).mono ?_); rintro e w3 ⟨rfl, k3, m3⟩; (have K3 := Lib.hid (And.intro k3 (M0.out.trans m3))); clear k3 m3))
          go_roundg (gk - 1)
          case measure => omega
          case rel => exact ⟨i + 1, by have := HI.out; omega, by go_num, by rw [BB.out], K3.out⟩
    · obtain rfl : i = M := by omega
      have ce := crash_end (S := s.sec) HM.out
      have c0 := hk.c0
      have FIN := Lib.hid (And.intro hk.reset.1 (hm.trans hk.reset.2))
      simp only [laid_length] at c0 FIN
      have z0 := hk.c0
      have z1 := hk.c1
      have z2 := hk.c2
      have z3 := hk.c3
      have f0 := hk.fz
      simp only [laid_length] at z0
      have BR := Lib.hid ce.2
      have SE := Lib.hid ce.1
      have FIN2 := Lib.hid (And.intro (show Dk B b (crashR s fs).1 _ from ⟨g, _, by unfold crashR crashedS; rw [SE.out]; exact FIN.out.1⟩) FIN.out.2)
      have RES : Hid ((crashR s fs).2 = s.opn.length - (i - brokenTo fs i)) := Lib.hid (by unfold crashR; exact BR.out)
      clear ce hk hm hi BR SE FIN
      go_wp2
      go_ret
      exact ⟨by rw [RES.out]; rfl, FIN2.out⟩
theorem crash_nil (ao : Option Addr) (n fc : Nat) (w : World) :
    Calls Try.prog 21 #[.pointer none, .slice ao n fc] w fun e w' => e = .returned (.int .i64 0) ∧ w' = w := by
  go_enter Try.func21, Try.ntmps21
  go_wp2_with fail
  go_step3
  go_wp2_with fail
  (try simp only [Exit.noGoto])
  go_ret
  exact ⟨rfl, rfl⟩
end Go.Proofs.Ytcbemjckcmcelaa.Dk
