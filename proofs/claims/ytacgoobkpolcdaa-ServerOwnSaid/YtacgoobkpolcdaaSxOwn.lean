/- horariumlaw19.ServerOwn answers true at every row of numbers: what is asked by one number does not wait by another one; those by which something waits rise. No condition. -/
import Derived.Test.YtacgoobkpolcdaaSvO
import Derived.Test.YtacgoobkpolcdaaGnH
namespace Go.Proofs.Ytacgoobkpolcdaa.serverOwn
open Go.ChangeShapes Go.WideShapes Go.ChangeAt Go.RowKit Go.Joins
set_option maxRecDepth 100000
set_option linter.unusedVariables false
set_option linter.unusedSimpArgs false
open Sv
/-- sixteen numbers in block b -/
structure A16 (b : Nat) (f : Nat → Int) (w : World) : Prop where
  blk : ∃ cs, w.heap[b]? = some (.cells cs 40 (0, 0))
  c : ∀ j : Nat, j < 16 → w.cell? ⟨b, j, none⟩ = some (.int .i64 (f j))
section
variable {b : Nat} {f f' : Nat → Int} {w w' : World}
theorem A16.lt (h : A16 b f w) : b < w.heap.size := by obtain ⟨cs, hb⟩ := h.blk; exact lt_of_heap hb
theorem A16.of_block (h : A16 b f w) (hb : w'.heap[b]? = w.heap[b]?) : A16 b f w' := by
  obtain ⟨cs, h2⟩ := h.blk
  exact ⟨⟨cs, hb.trans h2⟩, fun j hj => (World.cell?_of_block (by exact hb)).trans (h.c j hj)⟩
theorem A16.call (h : A16 b f w) (hb : Below w.heap.size w w') : A16 b f w' := h.of_block (hb.block b h.lt)
theorem A16.fz (h : A16 b f w) (o : Nat) : w.frozen? ⟨b, o, none⟩ = false := by obtain ⟨cs, hb⟩ := h.blk; exact Lib.frozen_of_heap hb o
theorem A16.set (h : A16 b f w) {i : Nat} {x : Int} (hv : ∀ j : Nat, f' j = if j = i then x else f j) : A16 b f' (w.setCell ⟨b, i, none⟩ (.int .i64 x)) := by
  obtain ⟨cs, hb⟩ := h.blk
  refine ⟨⟨cs.setIfInBounds i (.int .i64 x), by simp [World.setCell, Array.getElem?_modify, hb]⟩, fun j hj => ?_⟩
  rw [hv]
  by_cases hji : j = i
  · subst hji; simp [go_sem, h.c j hj]
  · have hij : ¬ i = j := fun e => hji e.symm
    rw [if_neg hji]
    simp [go_sem, hji, hij, h.c j hj]
theorem A16.out {B g : Nat} {a c : Option Nat} {L T : List Kn} (h : A16 b f w) (k : Pm B w g a c L T) : b ∉ ks g a c := by
  obtain ⟨cs, hb⟩ := h.blk
  exact k.out hb (by decide)
theorem a16_new (w : World) : A16 w.heap.size (fun j => vof [] (j : Int)) (w.alloc (.cells #[.int .i64 0, .int .i64 0, .int .i64 0, .int .i64 0, .int .i64 0, .int .i64 0, .int .i64 0, .int .i64 0, .int .i64 0, .int .i64 0, .int .i64 0, .int .i64 0, .int .i64 0, .int .i64 0, .int .i64 0, .int .i64 0] 40)) := by
  have hb : (w.alloc (.cells #[.int .i64 0, .int .i64 0, .int .i64 0, .int .i64 0, .int .i64 0, .int .i64 0, .int .i64 0, .int .i64 0, .int .i64 0, .int .i64 0, .int .i64 0, .int .i64 0, .int .i64 0, .int .i64 0, .int .i64 0, .int .i64 0] 40)).heap[w.heap.size]? = some (.cells #[.int .i64 0, .int .i64 0, .int .i64 0, .int .i64 0, .int .i64 0, .int .i64 0, .int .i64 0, .int .i64 0, .int .i64 0, .int .i64 0, .int .i64 0, .int .i64 0, .int .i64 0, .int .i64 0, .int .i64 0, .int .i64 0] 40 (0, 0)) := heap_alloc_new w _
  refine ⟨⟨_, hb⟩, fun j hj => ?_⟩
  rw [Lib.cell_of_heap hb]
  have key : j = 0 ∨ j = 1 ∨ j = 2 ∨ j = 3 ∨ j = 4 ∨ j = 5 ∨ j = 6 ∨ j = 7 ∨ j = 8 ∨ j = 9 ∨ j = 10 ∨ j = 11 ∨ j = 12 ∨ j = 13 ∨ j = 14 ∨ j = 15 := by omega
  rcases key with rfl | rfl | rfl | rfl | rfl | rfl | rfl | rfl | rfl | rfl | rfl | rfl | rfl | rfl | rfl | rfl <;> rfl
end
/-- i numbers were asked -/
def OwRel (n : Nat) (w : World) (g c : Nat) (m : Nat) (s6 : Value) (wr : World) : Prop :=
  ∃ (i : Nat) (a b : Option Nat) (L T : List Kn), i + m = n ∧ s6 = .int .i64 (i : Int) ∧ Pm w.heap.size wr g a b L T ∧ A16 c (fun j => vof L (j : Int)) wr ∧ Below w.heap.size w wr ∧ (∀ k ∈ L, k.id < 16) ∧ ∀ j : Int, vof L j ≤ 31 * (i : Int)
def OjRel (p : Nat → Bool) (W : World) (m : Nat) (s9 s10 : Value) (wr : World) : Prop := ∃ j : Nat, j + m = 16 ∧ s9 = .int .i64 ((upTo p j).length : Int) ∧ s10 = .int .i64 (j : Int) ∧ Qt W wr

set_option maxRecDepth 100000 in
set_option maxHeartbeats 16000000 in
theorem walk (l : List Int) (lo : Option Addr) (lc : Nat) (w : World) (hl : l.length ≤ 9223372036854775807) (hL : Ns lo l w) : Calls Try.prog 5 #[.slice lo l.length lc] w fun e w' => e = .returned (.bool true) ∧ Below w.heap.size w w' := by
  have AW := Lib.hid awake_any
  have NW := Lib.hid new_any
  have AS := Lib.hid (fun g a b L T i n W h hB => ask_any w.heap.size g a b L T i n W h hB)
  have TA := Lib.hid (fun g a b L T i m hi W h => take_any w.heap.size g a b L T i m hi W h)
  have BA := Lib.hid (fun g a b L T i hi W h => backlog_any w.heap.size g a b L T i hi W h)
  have TN := Lib.hid (fun g a b L T i hi W h => taken_any w.heap.size g a b L T i hi W h)
  have DR := Lib.hid (fun g a b L T i hi W h => drop_any w.heap.size g a b L T i hi W h)
  have WT := Lib.hid (fun g a b L T W h => waiting_any w.heap.size g a b L T W h)
  have NS := Lib.hid hL
  clear hL TA TN DR
  go_enter Try.func5, Try.ntmps5
  go_wp2_with fail
  (with_reducible refine (AW.out _).mono ?_)
  rintro e w1 ⟨rfl, b1⟩
  have B1 := Lib.hid b1
  clear b1 AW
  go_wp2_with fail
  (with_reducible refine (NW.out _).mono ?_)
  rintro e w2 ⟨rfl, rfl⟩
  have H0 := Lib.hid (pm_new w1)
  have B2 : Hid (Below w.heap.size w (w1.alloc (.cells #[.map none, .map none] 44))) := Lib.hid (B1.out.alloc B1.out.size _)
  have hB0 : w.heap.size ≤ w1.heap.size := B1.out.size
  generalize w1.alloc (.cells #[.map none, .map none] 44) = W1 at *
  have H1 := Lib.hid (H0.out.mono hB0)
  generalize w1.heap.size = g at *
  clear H0 B1 NW hB0
  have A0 : Hid (A16 W1.heap.size (fun j => vof [] (j : Int)) (W1.alloc (.cells #[.int .i64 0, .int .i64 0, .int .i64 0, .int .i64 0, .int .i64 0, .int .i64 0, .int .i64 0, .int .i64 0, .int .i64 0, .int .i64 0, .int .i64 0, .int .i64 0, .int .i64 0, .int .i64 0, .int .i64 0, .int .i64 0] 40))) := Lib.hid (a16_new W1)
  have G0 : Hid (Pm w.heap.size (W1.alloc (.cells #[.int .i64 0, .int .i64 0, .int .i64 0, .int .i64 0, .int .i64 0, .int .i64 0, .int .i64 0, .int .i64 0, .int .i64 0, .int .i64 0, .int .i64 0, .int .i64 0, .int .i64 0, .int .i64 0, .int .i64 0, .int .i64 0] 40)) g none none [] []) := Lib.hid (H1.out.call ((Below.refl _ W1).alloc (Nat.le_refl _) _))
  have B3 : Hid (Below w.heap.size w (W1.alloc (.cells #[.int .i64 0, .int .i64 0, .int .i64 0, .int .i64 0, .int .i64 0, .int .i64 0, .int .i64 0, .int .i64 0, .int .i64 0, .int .i64 0, .int .i64 0, .int .i64 0, .int .i64 0, .int .i64 0, .int .i64 0, .int .i64 0] 40))) := Lib.hid (B2.out.alloc B2.out.size _)
  have HS : w.heap.size ≤ W1.heap.size := B2.out.size
  clear H1 B2
  go_wp2_with fail
  generalize W1.alloc (.cells #[.int .i64 0, .int .i64 0, .int .i64 0, .int .i64 0, .int .i64 0, .int .i64 0, .int .i64 0, .int .i64 0, .int .i64 0, .int .i64 0, .int .i64 0, .int .i64 0, .int .i64 0, .int .i64 0, .int .i64 0, .int .i64 0] 40) = W2 at *
  have HC : Hid (w.heap.size ≤ W1.heap.size) := Lib.hid HS
  clear HS
  generalize W1.heap.size = c at *
  obtain ⟨n, hn⟩ : ∃ n, n = min l.length 30 := ⟨_, rfl⟩
  have HN := Lib.hid hn
  clear hn
  go_loopg [6] n (OwRel n w g c)
  case atStart => exact ⟨0, none, none, [], [], by omega, rfl, G0.out, A0.out, B3.out, by simp, fun j => by simp [vof, lookK]⟩
  case round =>
    obtain ⟨i, a, b, L, T, hi, rfl, hpm, har, hb, hid, hbd⟩ := hrel
    have HG := Lib.hid hpm
    have HA := Lib.hid har
    have HB := Lib.hid hb
    clear G0 A0 B3 hpm har hb
    by_cases hlt : i < n
    · have hil : i < l.length := by have := HN.out; omega
      have hi30 : i < 30 := by have := HN.out; omega
      obtain ⟨gl, off, rfl, hg, hat⟩ := (NS.out.below HB.out (Nat.le_refl _)) (by omega)
      obtain ⟨x, hx⟩ : ∃ x, l[i]? = some x := ⟨_, List.getElem?_eq_getElem hil⟩
      have cx := hat i x hx
      have hil1 : (i : Int) < (l.length : Int) := by omega
      have hi31 : (i : Int) < 30 := by omega
      have hiw : IntKind.i64.wrap (i : Int) = (i : Int) := IntWalk.i64_in _ (by omega)
      have hi1w : IntKind.i64.wrap ((i : Int) + 1) = (i : Int) + 1 := IntWalk.i64_in _ (by omega)
      obtain ⟨u, hu, hu16⟩ : ∃ u : Nat, bits .and .i64 x 15 = (u : Int) ∧ u < 16 := ⟨(x % 16).toNat, by rw [and_pow x 15 4 (by decide) (by decide)]; omega, by omega⟩
      have huw : IntKind.i64.wrap (u : Int) = (u : Int) := IntWalk.i64_in _ (by omega)
      have hu0 : (0 : Int) ≤ (u : Int) := by omega
      have hu1 : (u : Int) < 16 := by omega
      have hbn := HG.out.ok.bnd (u : Int)
      have hbu := hbd (u : Int)
      obtain ⟨V, hV⟩ : ∃ V, vof L (u : Int) = V := ⟨_, rfl⟩
      rw [hV] at hbn hbu
      obtain ⟨Y, hY⟩ : ∃ Y, V + ((i : Int) + 1) = Y := ⟨_, rfl⟩
      have hYw : IntKind.i64.wrap (V + ((i : Int) + 1)) = Y := by rw [hY]; exact IntWalk.i64_in _ (by omega)
      have hm : mayA (u : Int) ((i : Int) + 1) = true := decide_eq_true (by omega)
      have hfl : ¬ 1099511627776 < vof L (u : Int) + ((i : Int) + 1) := by rw [hV]; omega
      have eA : askA L (u : Int) ((i : Int) + 1) = 0 := by unfold askA; rw [hm, if_neg hfl]; rfl
      obtain ⟨L1, hL1⟩ : ∃ L1, askL L (u : Int) ((i : Int) + 1) = L1 := ⟨_, rfl⟩
      have xv : ∀ j : Int, vof L1 j = if j = (u : Int) then Y else vof L j := fun j => by rw [← hL1, ask_val hm hfl, hV, hY]
      have xid : ∀ k ∈ L1, k.id < 16 := fun k hk => by
        rw [← hL1] at hk
        unfold askL at hk
        rw [hm, if_neg (by simp), if_neg hfl] at hk
        rcases mem_ins.1 hk with rfl | hk
        · exact hu1
        · exact hid k (mem_cut.1 hk).1
      have xbd : ∀ j : Int, vof L1 j ≤ 31 * ((i : Int) + 1) := fun j => by
        rw [xv]
        split
        · omega
        · have := hbd j; omega
      have cw := HA.out.c u hu16
      simp only [hV] at cw
      have HI := Lib.hid hi
      have HLT := Lib.hid hlt
      have HE := Lib.hid (And.intro eA (And.intro hL1 (And.intro xid xbd)))
      have HX : Hid (∀ j : Nat, (fun j : Nat => vof L1 (j : Int)) j = if j = u then Y else (fun j : Nat => vof L (j : Int)) j) := Lib.hid (fun j => by
        show vof L1 (j : Int) = if j = u then Y else vof L (j : Int)
        rw [xv]
        by_cases e : j = u
        · rw [if_pos e, if_pos (by omega)]
        · rw [if_neg e, if_neg (by omega)])
      clear hat hx hi hlt hid hbd hbn hbu hV hY hm hfl eA hL1 xv xid xbd
      go_wp2_with fail
      (with_reducible refine (AS.out g a b L T (u : Int) ((i : Int) + 1) _ HG.out HB.out.size).mono ?_)
      rintro e w3 ⟨rfl, a2, b2, h3, m3, -⟩
      rw [HE.out.2.1] at h3
      rw [HE.out.1]
      have A3 := Lib.hid (HA.out.of_block (m3.block c HA.out.lt (HA.out.out HG.out)))
      have B3 := Lib.hid (m3.below HG.out HB.out)
      have hcl : w.heap.size ≤ c ∨ True := .inr trivial
      have cw3 : w3.cell? ⟨c, u, none⟩ = some (.int .i64 V) := by
        rw [World.cell?_of_block (w := wr) (a := ⟨c, u, none⟩) (m3.block c HA.out.lt (HA.out.out HG.out))]; exact cw
      have fw3 := A3.out.fz u
      have P4 : Hid (Pm w.heap.size (w3.setCell ⟨c, u, none⟩ (.int .i64 Y)) g a2 b2 L1 T) := Lib.hid (h3.of_blocks fun k hk => Below.heap_setCell _ _ _ _ (by rintro rfl; exact A3.out.out h3 hk))
      have A4 : Hid (A16 c (fun j => vof L1 (j : Int)) (w3.setCell ⟨c, u, none⟩ (.int .i64 Y))) := Lib.hid (A3.out.set HX.out)
      have B4 : Hid (Below w.heap.size w (w3.setCell ⟨c, u, none⟩ (.int .i64 Y))) := Lib.hid (B3.out.setCell HC.out _)
      clear h3 m3 HG HB HA A3 B3 cw hcl
      go_wp2_with fail
      (with_reducible refine (WT.out g a2 b2 L1 T _ P4.out).mono ?_)
      rintro e w5 ⟨v, rfl, rv, b5⟩
      have P5 := Lib.hid (P4.out.call b5)
      have A5 := Lib.hid (A4.out.call b5)
      have B5 := Lib.hid (B4.out.trans (b5.mono B4.out.size))
      obtain ⟨ao, cap, rfl, -, hns⟩ := rv.form
      have hif := ids_filter P5.out.ok (N := 16) (fun k hk => HE.out.2.2.1 k hk)
      obtain ⟨p, hp⟩ : ∃ p : Nat → Bool, p = fun j : Nat => decide (0 < vof L1 (j : Int)) := ⟨_, rfl⟩
      have hif2 : ids L1 = upTo p 16 := by rw [hp]; exact hif
      rw [hif2] at hns
      rw [hif2]
      have NV := Lib.hid hns
      have HP := Lib.hid hp
      clear rv b5 hns hif hif2 P4 A4 B4 hp cw3 fw3 HX
      obtain ⟨q, hq⟩ : ∃ q, (upTo p 16).length = q := ⟨_, rfl⟩
      rw [hq]
      have HQ := Lib.hid hq
      clear hq
      go_wp2_with fail
      go_loopg [9, 10] 16 (OjRel p w5)
      case atStart => exact ⟨0, by omega, rfl, rfl, Qt.refl _⟩
      case round =>
        obtain ⟨j, hj, rfl, rfl, hqt⟩ := hrel
        have Q := Lib.hid hqt
        by_cases hj16 : j < 16
        · have PD := Lib.hid (P5.out.call ((hqt.trans (Qt.drew wr)).below _))
          have AD := A5.out.call ((hqt.trans (Qt.drew wr)).below _)
          have cS : wr.drew.cell? ⟨c, j, none⟩ = some (.int .i64 (vof L1 (j : Int))) := AD.c j hj16
          have QD : Hid (Qt w5 wr.drew) := Lib.hid (hqt.trans (Qt.drew wr))
          have ND := Lib.hid (NV.out.call (QD.out.below _))
          have hj1 : (j : Int) < 16 := by omega
          have hj0 : (0 : Int) ≤ (j : Int) := by omega
          have hjw : IntKind.i64.wrap (j : Int) = (j : Int) := IntWalk.i64_in _ (by omega)
          have hjw1 : IntKind.i64.wrap ((j : Int) + 1) = (j : Int) + 1 := IntWalk.i64_in _ (by omega)
          have hul := upTo_len p j
          obtain ⟨z, hz⟩ : ∃ z, (upTo p j).length = z := ⟨_, rfl⟩
          rw [hz] at hul
          have hzw : IntKind.i64.wrap (z : Int) = (z : Int) := IntWalk.i64_in _ (by omega)
          have hzw1 : IntKind.i64.wrap ((z : Int) + 1) = (z : Int) + 1 := IntWalk.i64_in _ (by omega)
          have hpj : p j = decide (0 < vof L1 (j : Int)) := by rw [HP.out]
          have HZ := Lib.hid hz
          have HPJ := Lib.hid hpj
          have HJ := Lib.hid hj
          have hgj : 0 < gk := by omega
          have BF := Lib.hid (BA.out g a2 b2 L1 T (j : Int) (by unfold I64; omega) _ PD.out)
          have eyy : ∀ y : Int, (y != y) = false := fun y => by simp
          rw [hz]
          generalize vof L1 (j : Int) = y at *
          clear hqt Q hj hpj hz AD
          go_wp2_with fail
          refine wp_region_held_drew (S := (fun W' => W'.cell? ⟨c, j, none⟩ = some (.int .i64 y))) (by kernel_rfl) (cS) (fun hHeld => ?_)
          refine Gh.tk 0 ?_
          refine Gh.tk 1 ?_
          refine Gh.tk 3 ?_
          refine Gh.tk 4 ?_
          refine Gh.tk 5 ?_
          refine Gh.rd 2 (fun K hK => ?_)
          go_simp
          (with_reducible refine BF.out.mono ?_)
          rintro e _ ⟨rfl, rfl⟩
          clear BF
          go_simp
          refine hK.out _ _ (cS) (fun hHeld => ?_)
          clear hK K
          refine Gh.pt ?_
          refine Gh.tk 6 ?_
          refine wpAnyH_done (by kernel_rfl) ?_ _
          clear hHeld
          have hyy := eyy y
          have hjj := eyy (j : Int)
          clear eyy
          by_cases hp0 : 0 < y
          · have hpt : p j = true := by rw [HPJ.out]; exact decide_eq_true hp0
            have hat2 := upTo_at hpt hj16
            have hzl : z < q := by rw [← HQ.out, ← HZ.out]; exact (List.getElem?_eq_some_iff.1 hat2).1
            obtain ⟨vb, vo, rfl, -, hvc⟩ := ND.out (by rw [HQ.out]; omega)
            have cz := hvc _ _ hat2
            rw [HZ.out] at cz
            have hzq : (z : Int) < (q : Int) := by omega
            have hz0 : (0 : Int) ≤ (z : Int) := by omega
            have EZ := Lib.hid (show (upTo p (j + 1)).length = z + 1 by rw [upTo_yes hpt, List.length_append, HZ.out]; rfl)
            clear hat2 hpt ND hvc
            go_wp2
            go_roundg (gk - 1)
            case measure => omega
            case rel => exact ⟨j + 1, by have := HJ.out; omega, by rw [EZ.out]; go_num, by go_num, QD.out⟩
          · have hpt : p j = false := by rw [HPJ.out]; exact decide_eq_false hp0
            have EZ := Lib.hid (show (upTo p (j + 1)).length = z by rw [upTo_no hpt, HZ.out])
            have hd0 : decide (0 < y) = false := decide_eq_false hp0
            clear hpt ND
            go_wp2
            go_roundg (gk - 1)
            case measure => omega
            case rel => exact ⟨j + 1, by have := HJ.out; omega, by rw [EZ.out], by go_num, QD.out⟩
        · have e : j = 16 := by omega
          subst e
          have P7 := Lib.hid (P5.out.call (hqt.below _))
          have A7 := Lib.hid (A5.out.call (hqt.below _))
          have B7 := Lib.hid (B5.out.trans ((hqt.below _).mono B5.out.size))
          rw [HQ.out]
          have eqq : ((q : Int) != (q : Int)) = false := by simp
          clear hqt Q hj hj16 P5 A5 B5 NV
          go_wp2
          go_roundg (n - (i + 1))
          case measure => have := HI.out; have := HLT.out; omega
          case rel => exact ⟨i + 1, a2, b2, L1, T, by have := HLT.out; omega, by go_num, P7.out, A7.out, B7.out, HE.out.2.2.1, fun j => by have := HE.out.2.2.2 j; omega⟩
    · have FN := Lib.hid HB.out
      have hno : ¬ (i < l.length ∧ i < 30) := by have := HN.out; omega
      clear HG HB HA hi hlt HN hid hbd
      by_cases h1 : i < l.length
      · have h1i : (i : Int) < (l.length : Int) := by omega
        have h2i : (30 : Int) ≤ (i : Int) := by omega
        clear hno
        go_wp2
        go_ret
        exact ⟨rfl, FN.out⟩
      · have h1d : decide (i < l.length) = false := decide_eq_false h1
        have h1i : (l.length : Int) ≤ (i : Int) := by omega
        clear hno h1
        go_wp2
        go_ret
        exact ⟨rfl, FN.out⟩

set_option maxRecDepth 100000 in
set_option maxHeartbeats 1600000 in
theorem lifted (os : Os) (started : os.Started) (H : Type) (enc : TypeId × Value → H) :
    ReturnsInHanded {} Try.checked os 5 .any (Rows.serverOwnSpec.pre6 enc Try.prog Try.f5 Rows.serverOwnRow.domain false) (Rows.serverOwnSpec.post enc Try.prog Try.f5 false true false false) := by
  refine returnsInHanded_of_change (C := Try.checked) own started (by kernel_rfl) Try.func5
    (ChangeSpec.witness6 (enc := enc) (C := Try.checked) false ⟨#[], #[.slice none 0 0], []⟩ 8 (by kernel_rfl) (by kernel_rfl) (by kernel_rfl) (by kernel_rfl)) ?_
  intro W base args ds gs before hval0 hW hcnd _
  have hval : ∀ (j : Nat) t v, Try.f5.params[j]? = some t → args[j]? = some v → Value.okWide Try.prog W .any base t v := hval0
  have hW' := hW
  obtain ⟨p, q, hA0, hV, rfl, hfz, hnd⟩ := hW
  have hA : DataW.TrodAll enc Try.prog W 0 (fun _ => true) true Try.f5.params.toList args.toList ds p := hA0
  rw [Try.params5] at hA hval
  obtain ⟨v0, vs0, d0, ds0, p0, q0, hargs, rfl, rfl, h0, r0⟩ := trodAll_cons hA
  obtain ⟨rfl, rfl, rfl⟩ := trodAll_nil r0
  obtain rfl : args = #[v0] := by cases args; simp_all
  obtain ⟨rfl, rfl⟩ := trodVars_none hV
  have lt0 : ∀ x ∈ p0, x.block < W.heap.size := by obtain ⟨m, hm⟩ := h0; exact DataW.trod_lt m _ _ _ hm
  obtain ⟨lo, l, lc, rfl, ll, ls⟩ := open_nums (hval 0 37 v0 rfl rfl) h0
  clear hA0 hval0
  refine (walk l lo lc W ll ls).mono fun e W' ⟨he, bel⟩ => ?_
  subst he
  exact ⟨_, rfl, _, _, _, [], _, [], hW', trodAll_mk1 (shut_bool Try.underlying4 _), (trodAll_cons_mk (Below.trod laidOut (by kernel_rfl) (of_decide_eq_true (by kernel_rfl)) h0 bel lt0) trodAll_mk0), rfl, bel.frame _, fun h => by cases h⟩

theorem proved : Rows.ServerOwnSaid :=
  OpenClaim.holds_of_wide 5 Try.f5 rfl rfl rfl rfl rfl rfl rfl ⟨rfl, rfl, rfl, rfl, rfl⟩ rfl rfl rfl rfl rfl (by kernel_rfl) Try.func5 (by kernel_rfl)
    (of_decide_eq_true (by kernel_rfl)) (by unfold Func.isWrapper; first | (rw [if_pos (by decide +kernel)]; kernel_rfl) | (rw [if_neg (by decide +kernel)]; exact ⟨rfl, rfl⟩))
    (fun os started H enc _ => lifted os started H enc)
#print axioms proved
end Go.Proofs.Ytacgoobkpolcdaa.serverOwn
