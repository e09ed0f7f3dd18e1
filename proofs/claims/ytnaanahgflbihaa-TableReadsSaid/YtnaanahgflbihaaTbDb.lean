/- The document's Bytes of a table. -/
import Derived.Test.YtnaanahgflbihaaTbN
import Derived.Test.YtnaanahgflbihaaTbC
import Derived.Test.YtnaanahgflbihaaOpH
namespace Go.Proofs.Ytnaanahgflbihaa.Tb
open Go.ChangeShapes Go.WideShapes Go.ChangeAt Go.RowKit Go.Joins
open Pm (Tk chk chk_iff)
open Ge (El Seen Row)
open Oc (mkB mkB_size enc encInt encFlag flag_rf)
open Ox (rint_c rnum_c sz9 szF mkB_app)
set_option maxRecDepth 100000
set_option maxRecDepth 100000
set_option linter.unusedVariables false
set_option linter.unusedSimpArgs false
theorem add_big (a b c : ByteArray) (ha : a.size ≤ 1000) (hb : b.size ≤ 1000) (h : a ++ b = c) (w : World) : (Op.stringOp .add a b).run Try.prog w = .ok (.string c) w := by
  rw [run_string_add_sum w a b (by omega), h]
def RbRel (t : Tb) (L : List (Nat × Array Value × Nat)) (w : World) (g : Nat) (s5 s6 : Value) (wx : World) : Prop :=
  ∃ i : Nat, i + g = t.rows.length ∧ s5 = .string (mkB (encInt t.mode ++ encInt (t.rows.length : Int) ++ encWs (t.rows.take i))) ∧ s6 = .int .i64 (i : Int) ∧ Bos L w wx
theorem rbytes_no (t : Tb) (ao : Option Addr) (cap : Nat) (w : World) (hS : Seen Rw.cs 6 ao t.rows w) (hl : t.rows.length ≤ 1000) (hc : chkT t = false) :
    Calls Try.prog 20 #[tv ao t.rows.length cap t.mode] w fun e w' => e = .returned (.tuple #[.string ⟨#[]⟩, .int .i64 1]) ∧ Below w.heap.size w w' := by
  have CK : Hid (∀ W, Below w.heap.size w W → Calls Try.prog 32 #[tv ao t.rows.length cap t.mode] W fun e w' => e = .returned (.bool false) ∧ Below W.heap.size W w') := Lib.hid (fun W hb => by
    have := rcheck_any t ao cap W (hS.below hb (Nat.le_refl _)) hl
    rw [hc] at this
    exact this)
  have H0 := Lib.hid ((bos_nil w).new #[.slice ao t.rows.length cap, .int .i64 t.mode] 24)
  generalize t.rows.length = n at *
  generalize t.mode = m at *
  clear hS hc hl
  unfold tv at *
  obtain ⟨t0, t1⟩ := cell2 (H0.out.cell 0 rfl)
  go_enter Try.func20, Try.ntmps20
  go_wp2_with fail
  (with_reducible refine (CK.out _ H0.out.bl).mono ?_)
  rintro e w1 ⟨rfl, b1⟩
  have Z := Lib.hid (H0.out.call b1).bl
  clear b1 CK H0 t0 t1
  go_wp2
  exact bodyPost_ret (v := .tuple #[.string ⟨#[]⟩, .int .i64 1]) (by simp [results, Try.results20, go_sem]) rfl ⟨rfl, Z.out⟩
set_option maxHeartbeats 8000000 in
theorem rbytes_yes (t : Tb) (ao : Option Addr) (cap : Nat) (w : World) (hS : Seen Rw.cs 6 ao t.rows w) (hc : chkT t = true) :
    Calls Try.prog 20 #[tv ao t.rows.length cap t.mode] w fun e w' => e = .returned (.tuple #[.string (mkB (encT t)), .int .i64 0]) ∧ Below w.heap.size w w' := by
  obtain ⟨c1, c2, c3, c4, c5⟩ := chkT_iff.1 hc
  have CK : Hid (∀ W, Below w.heap.size w W → Calls Try.prog 32 #[tv ao t.rows.length cap t.mode] W fun e w' => e = .returned (.bool true) ∧ Below W.heap.size W w') := Lib.hid (fun W hb => by
    have := rcheck_any t ao cap W (hS.below hb (Nat.le_refl _)) (by omega)
    rw [hc] at this
    exact this)
  have OK : Hid (∀ r ∈ t.rows, chk r.t = true) := Lib.hid (fun r hr => (okW_iff.1 (c1 r hr)).1)
  have S := Lib.hid hS
  have LN := Lib.hid c3
  have CM := Lib.hid (rint_c t.mode ⟨by omega, by omega⟩)
  have CL := Lib.hid (rint_c (t.rows.length : Int) ⟨by omega, by omega⟩)
  have H0 := Lib.hid ((bos_nil w).new #[.slice ao t.rows.length cap, .int .i64 t.mode] 24)
  have zm : (mkB (encInt t.mode)).size ≤ 9 := sz9 (by omega)
  have zl : (mkB (encInt (t.rows.length : Int))).size ≤ 9 := sz9 (by omega)
  have zh : (encInt t.mode ++ encInt (t.rows.length : Int)).length ≤ 18 := by rw [mkB_size] at *; rw [List.length_append]; omega
  have ZH := Lib.hid zh
  have ap0 : mkB (encInt t.mode) ++ mkB (encInt (t.rows.length : Int)) = mkB (encInt t.mode ++ encInt (t.rows.length : Int)) := mkB_app _ _
  have ET : Hid (encT t = encInt t.mode ++ encInt (t.rows.length : Int) ++ encWs t.rows) := Lib.hid rfl
  rw [ET.out]
  obtain ⟨l, m⟩ := t
  unfold tv at *
  simp only at *
  have AD0 : ∀ w, (Op.stringOp .add (mkB (encInt m)) (mkB (encInt (l.length : Int)))).run Try.prog w = .ok (.string (mkB (encInt m ++ encInt (l.length : Int)))) w := fun w => add_big _ _ _ (by omega) (by omega) ap0 w
  have hl16 : l.length ≤ 16 := c3
  generalize hen : mkB (encInt m ++ encInt (l.length : Int) ++ encWs l) = EN
  have EN2 := Lib.hid hen
  clear hen
  clear hS hc c1 c2 c3 c4 c5 ap0 zm zl zh ET
  obtain ⟨t0, t1⟩ := cell2 (H0.out.cell 0 rfl)
  go_enter Try.func20, Try.ntmps20
  go_wp2_with fail
  (with_reducible refine (CK.out _ H0.out.bl).mono ?_)
  rintro e w1 ⟨rfl, b1⟩
  have HX := Lib.hid (H0.out.call b1).drew
  clear b1 CK H0 t0 t1
  go_wp2_with fail
  refine wp_region_held_drew (S := (fun W' => W'.cell? ⟨w.heap.size, 0, none⟩ = some (.slice ao l.length cap) ∧ W'.cell? ⟨w.heap.size, 1, none⟩ = some (.int .i64 m))) (by kernel_rfl) (cell2 (HX.out.cell 0 rfl)) (fun hHeld => ?_)
  refine wpAnyH_take (i := 0) (v := ?_) rfl (by kernel_rfl) (by kernel_rfl) (by kernel_rfl) (fun _ _ _ h => h) (Or.inl ⟨by rfl, ?_⟩) (by assumption) ?_
  rotate_left
  · (intro wS hSw; (try dsimp only at hSw); go_simp; try with_reducible rfl)
  (try simp only [Act.put, List.getElem_toArray, List.getElem_cons_succ, List.getElem_cons_zero, List.setIfInBounds_toArray, List.set_cons_zero, List.set_cons_succ])
  refine wpAnyH_take (i := 1) (v := ?_) rfl (by kernel_rfl) (by kernel_rfl) (by kernel_rfl) (fun _ _ _ h => h) (Or.inl ⟨by rfl, ?_⟩) (by assumption) ?_
  rotate_left
  · (intro wS hSw; (try dsimp only at hSw); go_simp; try with_reducible rfl)
  (try simp only [Act.put, List.getElem_toArray, List.getElem_cons_succ, List.getElem_cons_zero, List.setIfInBounds_toArray, List.set_cons_zero, List.set_cons_succ])
  refine wpAnyH_take (i := 3) (v := ?_) rfl (by kernel_rfl) (by kernel_rfl) (by kernel_rfl) (fun _ _ _ h => h) (Or.inl ⟨by rfl, ?_⟩) (by assumption) ?_
  rotate_left
  · (intro wS hSw; (try dsimp only at hSw); go_simp; try with_reducible rfl)
  (try simp only [Act.put, List.getElem_toArray, List.getElem_cons_succ, List.getElem_cons_zero, List.setIfInBounds_toArray, List.set_cons_zero, List.set_cons_succ])
  refine wpAnyH_take (i := 4) (v := ?_) rfl (by kernel_rfl) (by kernel_rfl) (by kernel_rfl) (fun _ _ _ h => h) (Or.inl ⟨by rfl, ?_⟩) (by assumption) ?_
  rotate_left
  · (intro wS hSw; (try dsimp only at hSw); go_simp; try with_reducible rfl)
  (try simp only [Act.put, List.getElem_toArray, List.getElem_cons_succ, List.getElem_cons_zero, List.setIfInBounds_toArray, List.set_cons_zero, List.set_cons_succ])
  refine wpAnyH_take (i := 5) (v := ?_) rfl (by kernel_rfl) (by kernel_rfl) (by kernel_rfl) (fun _ _ _ h => h) (Or.inl ⟨by rfl, ?_⟩) (by assumption) ?_
  rotate_left
  · (intro wS hSw; (try dsimp only at hSw); go_simp; try with_reducible rfl)
  (try simp only [Act.put, List.getElem_toArray, List.getElem_cons_succ, List.getElem_cons_zero, List.setIfInBounds_toArray, List.set_cons_zero, List.set_cons_succ])
  refine wpAnyH_ready (rs := [2]) (by kernel_rfl) (by simp) ?_
  refine AllReadyH.cons rfl (fun K hK => ?_) ?_
  · go_simp
    (with_reducible refine (CM.out _).mono ?_)
    rintro e x1 ⟨rfl, b1⟩
    have HX := Lib.hid (HX.out.call b1)
    clear b1
    go_simp
    refine hK.out _ _ (cell2 (HX.out.cell 0 rfl)) (fun hHeld => ?_)
    clear hK K
    (try simp only [Act.put, List.getElem_toArray, List.getElem_cons_succ, List.getElem_cons_zero, List.setIfInBounds_toArray, List.set_cons_zero, List.set_cons_succ])
    refine wpAnyH_ready (rs := [6]) (by kernel_rfl) (by simp) ?_
    refine AllReadyH.cons rfl (fun K hK => ?_) ?_
    · go_simp
      (with_reducible refine (CL.out _).mono ?_)
      rintro e x2 ⟨rfl, b1⟩
      have HX := Lib.hid (HX.out.call b1)
      clear b1
      go_simp
      refine hK.out _ _ (cell2 (HX.out.cell 0 rfl)) (fun hHeld => ?_)
      clear hK K
      (try simp only [Act.put, List.getElem_toArray, List.getElem_cons_succ, List.getElem_cons_zero, List.setIfInBounds_toArray, List.set_cons_zero, List.set_cons_succ])
      refine wpAnyH_take (i := 7) (v := ?_) rfl (by kernel_rfl) (by kernel_rfl) (by kernel_rfl) (fun _ _ _ h => h) (Or.inl ⟨by rfl, ?_⟩) (by assumption) ?_
      rotate_left
      · (intro wS hSw; (try dsimp only at hSw); go_simp; try with_reducible rfl)
      (try simp only [Act.put, List.getElem_toArray, List.getElem_cons_succ, List.getElem_cons_zero, List.setIfInBounds_toArray, List.set_cons_zero, List.set_cons_succ])
      refine wpAnyH_take (i := 8) (v := ?_) rfl (by kernel_rfl) (by kernel_rfl) (by kernel_rfl) (fun _ _ _ h => h) (Or.inl ⟨by rfl, ?_⟩) (by assumption) ?_
      rotate_left
      · (intro wS hSw; (try dsimp only at hSw); go_simp; try with_reducible rfl)
      (try simp only [Act.put, List.getElem_toArray, List.getElem_cons_succ, List.getElem_cons_zero, List.setIfInBounds_toArray, List.set_cons_zero, List.set_cons_succ])
      refine wpAnyH_done (by kernel_rfl) ?_ _
      obtain ⟨t0, t1⟩ := cell2 (HX.out.cell 0 rfl)
      go_wp2_with fail
      go_loopg [5, 6] l.length (RbRel ⟨l, m⟩ [(w.heap.size, #[.slice ao l.length cap, .int .i64 m], 24)] w)
      case atStart => exact ⟨0, by simp, by simp [encWs], rfl, HX.out⟩
      case round =>
        obtain ⟨i, hi, rfl, rfl, hB⟩ := hrel
        have HB := Lib.hid hB
        have HI := Lib.hid hi
        clear HX hB AD0 CM CL
        obtain ⟨t0, t1⟩ := cell2 (HB.out.cell 0 rfl)
        (try simp only at hi)
        by_cases hlt : i < l.length
        · have SW := S.out.below HB.out.bl (Nat.le_refl _)
          obtain ⟨b, off, rfl, hb, hat⟩ := SW (by omega)
          have hx := row_cells hat (List.getElem?_eq_getElem hlt)
          have hlt' : (i : Int) < (l.length : Int) := by omega
          have hg0 : 0 < gk := by omega
          have TK := Lib.hid (encWs_take hlt)
          have SEEN : Hid (∀ W, Below w.heap.size w W → W.cell? ⟨b, off + i * 6 + 5, none⟩ = some (.bool l[i].s)) := Lib.hid (fun W hW => by
            obtain ⟨b', off', e, hb', hat'⟩ := (S.out.below hW (Nat.le_refl _)) (by omega)
            cases e
            exact (row_cells hat' (List.getElem?_eq_getElem hlt)).2.2.2.2.2)
          have hck := OK.out _ (List.getElem_mem hlt)
          have wl : (encWs (l.take i)).length ≤ 352 := by
            have h1 := encWs_len (l := l.take i) (fun r hr => OK.out r (List.mem_of_mem_take hr))
            have h2 : (l.take i).length ≤ 16 := by rw [List.length_take]; omega
            omega
          (try simp only at TK)
          generalize hnx : encWs (l.take (i + 1)) = nx at *
          have NX := Lib.hid hnx
          clear hnx
          generalize encWs (l.take i) = pw at *
          generalize l[i] = x at *
          obtain ⟨⟨xi, xc, xd, xt, xm⟩, xs⟩ := x
          have hk := chk_iff.1 hck
          have EW : encW ⟨⟨xi, xc, xd, xt, xm⟩, xs⟩ = encInt xi ++ enc xc.toNat ++ enc xd.toNat ++ enc xt.toNat ++ encInt xm ++ encFlag xs := rfl
          rw [EW] at TK
          simp only at hx hk
          obtain ⟨q1, q2, q3, q4, q5, q6, q7, q8⟩ := hk
          obtain ⟨r0, r1, r2, r3, r4, r5⟩ := hx
          have C1 := Lib.hid (rint_c xi ⟨by omega, by omega⟩)
          have C2 := Lib.hid (rnum_c xc ⟨by omega, by omega⟩)
          have C3 := Lib.hid (rnum_c xd ⟨by omega, by omega⟩)
          have C4 := Lib.hid (rnum_c xt ⟨by omega, by omega⟩)
          have C5 := Lib.hid (rint_c xm ⟨by omega, by omega⟩)
          have C6 := Lib.hid (flag_rf xs)
          have z1 : (mkB (encInt xi)).size ≤ 9 := sz9 (by omega)
          have z2 : (mkB (enc xc.toNat)).size ≤ 9 := sz9 (by omega)
          have z3 : (mkB (enc xd.toNat)).size ≤ 9 := sz9 (by omega)
          have z4 : (mkB (enc xt.toNat)).size ≤ 9 := sz9 (by omega)
          have z5 : (mkB (encInt xm)).size ≤ 9 := sz9 (by omega)
          have z6 : (mkB (encFlag xs)).size ≤ 9 := szF xs
          have u1 : IntKind.u64.wrap xc = xc := IntWalk.u64_in _ (by omega)
          have u2 : IntKind.u64.wrap xd = xd := IntWalk.u64_in _ (by omega)
          have u3 : IntKind.u64.wrap xt = xt := IntWalk.u64_in _ (by omega)
          have v1 : xc % 18446744073709551616 = xc := by omega
          have v2 : xd % 18446744073709551616 = xd := by omega
          have v3 : xt % 18446744073709551616 = xt := by omega
          have ha : (mkB (encInt m ++ encInt (l.length : Int) ++ pw)).size ≤ 400 := by
            have := ZH.out
            rw [mkB_size, List.length_append]; omega
          have FIN : Hid (mkB (encInt m ++ encInt (l.length : Int) ++ nx) = mkB (encInt m ++ encInt (l.length : Int) ++ pw) ++ mkB (encInt xi) ++ mkB (enc xc.toNat) ++ mkB (enc xd.toNat) ++ mkB (enc xt.toNat) ++ mkB (encInt xm) ++ mkB (encFlag xs)) := Lib.hid (by
            rw [TK.out]
            simp only [mkB_app, List.append_assoc])
          obtain ⟨E, EEq⟩ : ∃ E, E = mkB (encInt m ++ encInt (l.length : Int) ++ nx) := ⟨_, rfl⟩
          have EE : Hid (Value.string E = .string (mkB (encInt m ++ encInt (l.length : Int) ++ nx))) := Lib.hid (by rw [EEq])
          rw [← EEq] at FIN
          clear EEq
          generalize mkB (encInt m ++ encInt (l.length : Int) ++ pw) = A at *
          generalize mkB (encInt xi) = s1 at *
          generalize mkB (enc xc.toNat) = s2 at *
          generalize mkB (enc xd.toNat) = s3 at *
          generalize mkB (enc xt.toNat) = s4 at *
          generalize mkB (encInt xm) = s5 at *
          generalize mkB (encFlag xs) = s6 at *
          obtain ⟨g1, e1⟩ : ∃ g, g = A ++ s1 := ⟨_, rfl⟩
          obtain ⟨g2, e2⟩ : ∃ g, g = g1 ++ s2 := ⟨_, rfl⟩
          obtain ⟨g3, e3⟩ : ∃ g, g = g2 ++ s3 := ⟨_, rfl⟩
          obtain ⟨g4, e4⟩ : ∃ g, g = g3 ++ s4 := ⟨_, rfl⟩
          obtain ⟨g5, e5⟩ : ∃ g, g = g4 ++ s5 := ⟨_, rfl⟩
          have e6 : E = g5 ++ s6 := by rw [FIN.out, e5, e4, e3, e2, e1]
          have y1 : g1.size ≤ 410 := by rw [e1, ByteArray.size_append]; omega
          have y2 : g2.size ≤ 420 := by rw [e2, ByteArray.size_append]; omega
          have y3 : g3.size ≤ 430 := by rw [e3, ByteArray.size_append]; omega
          have y4 : g4.size ≤ 440 := by rw [e4, ByteArray.size_append]; omega
          have y5 : g5.size ≤ 450 := by rw [e5, ByteArray.size_append]; omega
          have AD1 := fun w => add_big A s1 g1 (by omega) (by omega) e1.symm w
          have AD2 := fun w => add_big g1 s2 g2 (by omega) (by omega) e2.symm w
          have AD3 := fun w => add_big g2 s3 g3 (by omega) (by omega) e3.symm w
          have AD4 := fun w => add_big g3 s4 g4 (by omega) (by omega) e4.symm w
          have AD5 := fun w => add_big g4 s5 g5 (by omega) (by omega) e5.symm w
          have AD6 := fun w => add_big g5 s6 E (by omega) (by omega) e6.symm w
          have HX := Lib.hid (HB.out.new #[.int .i64 xi, .int .i64 xc, .int .i64 xd, .int .i64 xt, .int .i64 xm] 27).drew
          clear TK EW hck q1 q2 q3 q4 q5 q6 q7 q8 z1 z2 z3 z4 z5 z6 y1 y2 y3 y4 y5 e1 e2 e3 e4 e5 e6 FIN ha wl hat SW HB hi hlt hb
          go_wp2_with fail
          refine wp_region_held_drew (S := (fun W' => ((W'.cell? ⟨wr.heap.size, 0, none⟩ = some (.int .i64 xi) ∧ W'.cell? ⟨wr.heap.size, 1, none⟩ = some (.int .i64 xc) ∧ W'.cell? ⟨wr.heap.size, 2, none⟩ = some (.int .i64 xd) ∧ W'.cell? ⟨wr.heap.size, 3, none⟩ = some (.int .i64 xt) ∧ W'.cell? ⟨wr.heap.size, 4, none⟩ = some (.int .i64 xm)) ∧ (W'.cell? ⟨w.heap.size, 0, none⟩ = some (.slice (some ⟨b, off, none⟩) l.length cap) ∧ W'.cell? ⟨w.heap.size, 1, none⟩ = some (.int .i64 m))) ∧ W'.cell? ⟨b, off + i * 6 + 5, none⟩ = some (.bool xs))) (by kernel_rfl) (And.intro (And.intro (cell5 (HX.out.cell 0 rfl)) (cell2 (HX.out.cell 1 rfl))) (SEEN.out _ HX.out.bl)) (fun hHeld => ?_)
          refine wpAnyH_take (i := 0) (v := ?_) rfl (by kernel_rfl) (by kernel_rfl) (by kernel_rfl) (fun _ _ _ h => h) (Or.inl ⟨by rfl, ?_⟩) (by assumption) ?_
          rotate_left
          · (intro wS hSw; (try dsimp only at hSw); go_simp; try with_reducible rfl)
          (try simp only [Act.put, List.getElem_toArray, List.getElem_cons_succ, List.getElem_cons_zero, List.setIfInBounds_toArray, List.set_cons_zero, List.set_cons_succ])
          refine wpAnyH_take (i := 1) (v := ?_) rfl (by kernel_rfl) (by kernel_rfl) (by kernel_rfl) (fun _ _ _ h => h) (Or.inl ⟨by rfl, ?_⟩) (by assumption) ?_
          rotate_left
          · (intro wS hSw; (try dsimp only at hSw); go_simp; try with_reducible rfl)
          (try simp only [Act.put, List.getElem_toArray, List.getElem_cons_succ, List.getElem_cons_zero, List.setIfInBounds_toArray, List.set_cons_zero, List.set_cons_succ])
          refine wpAnyH_take (i := 2) (v := ?_) rfl (by kernel_rfl) (by kernel_rfl) (by kernel_rfl) (fun _ _ _ h => h) (Or.inl ⟨by rfl, ?_⟩) (by assumption) ?_
          rotate_left
          · (intro wS hSw; (try dsimp only at hSw); go_simp; try with_reducible rfl)
          (try simp only [Act.put, List.getElem_toArray, List.getElem_cons_succ, List.getElem_cons_zero, List.setIfInBounds_toArray, List.set_cons_zero, List.set_cons_succ])
          refine wpAnyH_take (i := 5) (v := ?_) rfl (by kernel_rfl) (by kernel_rfl) (by kernel_rfl) (fun _ _ _ h => h) (Or.inl ⟨by rfl, ?_⟩) (by assumption) ?_
          rotate_left
          · (intro wS hSw; (try dsimp only at hSw); go_simp; try with_reducible rfl)
          (try simp only [Act.put, List.getElem_toArray, List.getElem_cons_succ, List.getElem_cons_zero, List.setIfInBounds_toArray, List.set_cons_zero, List.set_cons_succ])
          refine wpAnyH_take (i := 6) (v := ?_) rfl (by kernel_rfl) (by kernel_rfl) (by kernel_rfl) (fun _ _ _ h => h) (Or.inl ⟨by rfl, ?_⟩) (by assumption) ?_
          rotate_left
          · (intro wS hSw; (try dsimp only at hSw); go_simp; try with_reducible rfl)
          (try simp only [Act.put, List.getElem_toArray, List.getElem_cons_succ, List.getElem_cons_zero, List.setIfInBounds_toArray, List.set_cons_zero, List.set_cons_succ])
          refine wpAnyH_take (i := 7) (v := ?_) rfl (by kernel_rfl) (by kernel_rfl) (by kernel_rfl) (fun _ _ _ h => h) (Or.inl ⟨by rfl, ?_⟩) (by assumption) ?_
          rotate_left
          · (intro wS hSw; (try dsimp only at hSw); go_simp; try with_reducible rfl)
          (try simp only [Act.put, List.getElem_toArray, List.getElem_cons_succ, List.getElem_cons_zero, List.setIfInBounds_toArray, List.set_cons_zero, List.set_cons_succ])
          refine wpAnyH_take (i := 10) (v := ?_) rfl (by kernel_rfl) (by kernel_rfl) (by kernel_rfl) (fun _ _ _ h => h) (Or.inl ⟨by rfl, ?_⟩) (by assumption) ?_
          rotate_left
          · (intro wS hSw; (try dsimp only at hSw); go_simp; try with_reducible rfl)
          (try simp only [Act.put, List.getElem_toArray, List.getElem_cons_succ, List.getElem_cons_zero, List.setIfInBounds_toArray, List.set_cons_zero, List.set_cons_succ])
          refine wpAnyH_take (i := 11) (v := ?_) rfl (by kernel_rfl) (by kernel_rfl) (by kernel_rfl) (fun _ _ _ h => h) (Or.inl ⟨by rfl, ?_⟩) (by assumption) ?_
          rotate_left
          · (intro wS hSw; (try dsimp only at hSw); go_simp; try with_reducible rfl)
          (try simp only [Act.put, List.getElem_toArray, List.getElem_cons_succ, List.getElem_cons_zero, List.setIfInBounds_toArray, List.set_cons_zero, List.set_cons_succ])
          refine wpAnyH_take (i := 12) (v := ?_) rfl (by kernel_rfl) (by kernel_rfl) (by kernel_rfl) (fun _ _ _ h => h) (Or.inl ⟨by rfl, ?_⟩) (by assumption) ?_
          rotate_left
          · (intro wS hSw; (try dsimp only at hSw); go_simp; try with_reducible rfl)
          (try simp only [Act.put, List.getElem_toArray, List.getElem_cons_succ, List.getElem_cons_zero, List.setIfInBounds_toArray, List.set_cons_zero, List.set_cons_succ])
          refine wpAnyH_take (i := 15) (v := ?_) rfl (by kernel_rfl) (by kernel_rfl) (by kernel_rfl) (fun _ _ _ h => h) (Or.inl ⟨by rfl, ?_⟩) (by assumption) ?_
          rotate_left
          · (intro wS hSw; (try dsimp only at hSw); go_simp; try with_reducible rfl)
          (try simp only [Act.put, List.getElem_toArray, List.getElem_cons_succ, List.getElem_cons_zero, List.setIfInBounds_toArray, List.set_cons_zero, List.set_cons_succ])
          refine wpAnyH_take (i := 16) (v := ?_) rfl (by kernel_rfl) (by kernel_rfl) (by kernel_rfl) (fun _ _ _ h => h) (Or.inl ⟨by rfl, ?_⟩) (by assumption) ?_
          rotate_left
          · (intro wS hSw; (try dsimp only at hSw); go_simp; try with_reducible rfl)
          (try simp only [Act.put, List.getElem_toArray, List.getElem_cons_succ, List.getElem_cons_zero, List.setIfInBounds_toArray, List.set_cons_zero, List.set_cons_succ])
          refine wpAnyH_take (i := 17) (v := ?_) rfl (by kernel_rfl) (by kernel_rfl) (by kernel_rfl) (fun _ _ _ h => h) (Or.inl ⟨by rfl, ?_⟩) (by assumption) ?_
          rotate_left
          · (intro wS hSw; (try dsimp only at hSw); go_simp; try with_reducible rfl)
          (try simp only [Act.put, List.getElem_toArray, List.getElem_cons_succ, List.getElem_cons_zero, List.setIfInBounds_toArray, List.set_cons_zero, List.set_cons_succ])
          refine wpAnyH_take (i := 20) (v := ?_) rfl (by kernel_rfl) (by kernel_rfl) (by kernel_rfl) (fun _ _ _ h => h) (Or.inl ⟨by rfl, ?_⟩) (by assumption) ?_
          rotate_left
          · (intro wS hSw; (try dsimp only at hSw); go_simp; try with_reducible rfl)
          (try simp only [Act.put, List.getElem_toArray, List.getElem_cons_succ, List.getElem_cons_zero, List.setIfInBounds_toArray, List.set_cons_zero, List.set_cons_succ])
          refine wpAnyH_take (i := 21) (v := ?_) rfl (by kernel_rfl) (by kernel_rfl) (by kernel_rfl) (fun _ _ _ h => h) (Or.inl ⟨by rfl, ?_⟩) (by assumption) ?_
          rotate_left
          · (intro wS hSw; (try dsimp only at hSw); go_simp; try with_reducible rfl)
          (try simp only [Act.put, List.getElem_toArray, List.getElem_cons_succ, List.getElem_cons_zero, List.setIfInBounds_toArray, List.set_cons_zero, List.set_cons_succ])
          refine wpAnyH_take (i := 24) (v := ?_) rfl (by kernel_rfl) (by kernel_rfl) (by kernel_rfl) (fun _ _ _ h => h) (Or.inl ⟨by rfl, ?_⟩) (by assumption) ?_
          rotate_left
          · (intro wS hSw; (try dsimp only at hSw); go_simp; try with_reducible rfl)
          (try simp only [Act.put, List.getElem_toArray, List.getElem_cons_succ, List.getElem_cons_zero, List.setIfInBounds_toArray, List.set_cons_zero, List.set_cons_succ])
          refine wpAnyH_take (i := 25) (v := ?_) rfl (by kernel_rfl) (by kernel_rfl) (by kernel_rfl) (fun _ _ _ h => h) (Or.inl ⟨by rfl, ?_⟩) (by assumption) ?_
          rotate_left
          · (intro wS hSw; (try dsimp only at hSw); go_simp; try with_reducible rfl)
          (try simp only [Act.put, List.getElem_toArray, List.getElem_cons_succ, List.getElem_cons_zero, List.setIfInBounds_toArray, List.set_cons_zero, List.set_cons_succ])
          refine wpAnyH_take (i := 26) (v := ?_) rfl (by kernel_rfl) (by kernel_rfl) (by kernel_rfl) (fun _ _ _ h => h) (Or.inl ⟨by rfl, ?_⟩) (by assumption) ?_
          rotate_left
          · (intro wS hSw; (try dsimp only at hSw); go_simp; try with_reducible rfl)
          (try simp only [Act.put, List.getElem_toArray, List.getElem_cons_succ, List.getElem_cons_zero, List.setIfInBounds_toArray, List.set_cons_zero, List.set_cons_succ])
          refine wpAnyH_take (i := 27) (v := ?_) rfl (by kernel_rfl) (by kernel_rfl) (by kernel_rfl) (fun _ _ _ h => h) (Or.inl ⟨by rfl, ?_⟩) (by assumption) ?_
          rotate_left
          · (intro wS hSw; (try dsimp only at hSw); go_simp; try with_reducible rfl)
          (try simp only [Act.put, List.getElem_toArray, List.getElem_cons_succ, List.getElem_cons_zero, List.setIfInBounds_toArray, List.set_cons_zero, List.set_cons_succ])
          refine wpAnyH_take (i := 28) (v := ?_) rfl (by kernel_rfl) (by kernel_rfl) (by kernel_rfl) (fun _ _ _ h => h) (Or.inl ⟨by rfl, ?_⟩) (by assumption) ?_
          rotate_left
          · (intro wS hSw; (try dsimp only at hSw); go_simp; try with_reducible rfl)
          (try simp only [Act.put, List.getElem_toArray, List.getElem_cons_succ, List.getElem_cons_zero, List.setIfInBounds_toArray, List.set_cons_zero, List.set_cons_succ])
          refine wpAnyH_take (i := 29) (v := ?_) rfl (by kernel_rfl) (by kernel_rfl) (by kernel_rfl) (fun _ _ _ h => h) (Or.inl ⟨by rfl, ?_⟩) (by assumption) ?_
          rotate_left
          · (intro wS hSw; (try dsimp only at hSw); go_simp; try with_reducible rfl)
          (try simp only [Act.put, List.getElem_toArray, List.getElem_cons_succ, List.getElem_cons_zero, List.setIfInBounds_toArray, List.set_cons_zero, List.set_cons_succ])
          refine wpAnyH_ready (rs := [3]) (by kernel_rfl) (by simp) ?_
          refine AllReadyH.cons rfl (fun K hK => ?_) ?_
          · go_simp
            (with_reducible refine (C1.out _).mono ?_)
            rintro e x1 ⟨rfl, b1⟩
            have HX := Lib.hid (HX.out.call b1)
            clear b1
            go_simp
            refine hK.out _ _ (And.intro (And.intro (cell5 (HX.out.cell 0 rfl)) (cell2 (HX.out.cell 1 rfl))) (SEEN.out _ HX.out.bl)) (fun hHeld => ?_)
            clear hK K
            (try simp only [Act.put, List.getElem_toArray, List.getElem_cons_succ, List.getElem_cons_zero, List.setIfInBounds_toArray, List.set_cons_zero, List.set_cons_succ])
            refine wpAnyH_take (i := 4) (v := ?_) rfl (by kernel_rfl) (by kernel_rfl) (by kernel_rfl) (fun _ _ _ h => h) (Or.inl ⟨by rfl, ?_⟩) (by assumption) ?_
            rotate_left
            · (intro wS hSw; (try dsimp only at hSw); go_simp; try with_reducible rfl)
            (try simp only [Act.put, List.getElem_toArray, List.getElem_cons_succ, List.getElem_cons_zero, List.setIfInBounds_toArray, List.set_cons_zero, List.set_cons_succ])
            refine wpAnyH_ready (rs := [8]) (by kernel_rfl) (by simp) ?_
            refine AllReadyH.cons rfl (fun K hK => ?_) ?_
            · go_simp
              (with_reducible refine (C2.out _).mono ?_)
              rintro e x2 ⟨rfl, b1⟩
              have HX := Lib.hid (HX.out.call b1)
              clear b1
              go_simp
              refine hK.out _ _ (And.intro (And.intro (cell5 (HX.out.cell 0 rfl)) (cell2 (HX.out.cell 1 rfl))) (SEEN.out _ HX.out.bl)) (fun hHeld => ?_)
              clear hK K
              (try simp only [Act.put, List.getElem_toArray, List.getElem_cons_succ, List.getElem_cons_zero, List.setIfInBounds_toArray, List.set_cons_zero, List.set_cons_succ])
              refine wpAnyH_take (i := 9) (v := ?_) rfl (by kernel_rfl) (by kernel_rfl) (by kernel_rfl) (fun _ _ _ h => h) (Or.inl ⟨by rfl, ?_⟩) (by assumption) ?_
              rotate_left
              · (intro wS hSw; (try dsimp only at hSw); go_simp; try with_reducible rfl)
              (try simp only [Act.put, List.getElem_toArray, List.getElem_cons_succ, List.getElem_cons_zero, List.setIfInBounds_toArray, List.set_cons_zero, List.set_cons_succ])
              refine wpAnyH_ready (rs := [13]) (by kernel_rfl) (by simp) ?_
              refine AllReadyH.cons rfl (fun K hK => ?_) ?_
              · go_simp
                (with_reducible refine (C3.out _).mono ?_)
                rintro e x3 ⟨rfl, b1⟩
                have HX := Lib.hid (HX.out.call b1)
                clear b1
                go_simp
                refine hK.out _ _ (And.intro (And.intro (cell5 (HX.out.cell 0 rfl)) (cell2 (HX.out.cell 1 rfl))) (SEEN.out _ HX.out.bl)) (fun hHeld => ?_)
                clear hK K
                (try simp only [Act.put, List.getElem_toArray, List.getElem_cons_succ, List.getElem_cons_zero, List.setIfInBounds_toArray, List.set_cons_zero, List.set_cons_succ])
                refine wpAnyH_take (i := 14) (v := ?_) rfl (by kernel_rfl) (by kernel_rfl) (by kernel_rfl) (fun _ _ _ h => h) (Or.inl ⟨by rfl, ?_⟩) (by assumption) ?_
                rotate_left
                · (intro wS hSw; (try dsimp only at hSw); go_simp; try with_reducible rfl)
                (try simp only [Act.put, List.getElem_toArray, List.getElem_cons_succ, List.getElem_cons_zero, List.setIfInBounds_toArray, List.set_cons_zero, List.set_cons_succ])
                refine wpAnyH_ready (rs := [18]) (by kernel_rfl) (by simp) ?_
                refine AllReadyH.cons rfl (fun K hK => ?_) ?_
                · go_simp
                  (with_reducible refine (C4.out _).mono ?_)
                  rintro e x4 ⟨rfl, b1⟩
                  have HX := Lib.hid (HX.out.call b1)
                  clear b1
                  go_simp
                  refine hK.out _ _ (And.intro (And.intro (cell5 (HX.out.cell 0 rfl)) (cell2 (HX.out.cell 1 rfl))) (SEEN.out _ HX.out.bl)) (fun hHeld => ?_)
                  clear hK K
                  (try simp only [Act.put, List.getElem_toArray, List.getElem_cons_succ, List.getElem_cons_zero, List.setIfInBounds_toArray, List.set_cons_zero, List.set_cons_succ])
                  refine wpAnyH_take (i := 19) (v := ?_) rfl (by kernel_rfl) (by kernel_rfl) (by kernel_rfl) (fun _ _ _ h => h) (Or.inl ⟨by rfl, ?_⟩) (by assumption) ?_
                  rotate_left
                  · (intro wS hSw; (try dsimp only at hSw); go_simp; try with_reducible rfl)
                  (try simp only [Act.put, List.getElem_toArray, List.getElem_cons_succ, List.getElem_cons_zero, List.setIfInBounds_toArray, List.set_cons_zero, List.set_cons_succ])
                  refine wpAnyH_ready (rs := [22]) (by kernel_rfl) (by simp) ?_
                  refine AllReadyH.cons rfl (fun K hK => ?_) ?_
                  · go_simp
                    (with_reducible refine (C5.out _).mono ?_)
                    rintro e x5 ⟨rfl, b1⟩
                    have HX := Lib.hid (HX.out.call b1)
                    clear b1
                    go_simp
                    refine hK.out _ _ (And.intro (And.intro (cell5 (HX.out.cell 0 rfl)) (cell2 (HX.out.cell 1 rfl))) (SEEN.out _ HX.out.bl)) (fun hHeld => ?_)
                    clear hK K
                    (try simp only [Act.put, List.getElem_toArray, List.getElem_cons_succ, List.getElem_cons_zero, List.setIfInBounds_toArray, List.set_cons_zero, List.set_cons_succ])
                    refine wpAnyH_take (i := 23) (v := ?_) rfl (by kernel_rfl) (by kernel_rfl) (by kernel_rfl) (fun _ _ _ h => h) (Or.inl ⟨by rfl, ?_⟩) (by assumption) ?_
                    rotate_left
                    · (intro wS hSw; (try dsimp only at hSw); go_simp; try with_reducible rfl)
                    (try simp only [Act.put, List.getElem_toArray, List.getElem_cons_succ, List.getElem_cons_zero, List.setIfInBounds_toArray, List.set_cons_zero, List.set_cons_succ])
                    refine wpAnyH_ready (rs := [30]) (by kernel_rfl) (by simp) ?_
                    refine AllReadyH.cons rfl (fun K hK => ?_) ?_
                    · go_simp
                      (with_reducible refine (C6.out _).mono ?_)
                      rintro e x6 ⟨rfl, b1⟩
                      have HX := Lib.hid (HX.out.call b1)
                      clear b1
                      go_simp
                      refine hK.out _ _ (And.intro (And.intro (cell5 (HX.out.cell 0 rfl)) (cell2 (HX.out.cell 1 rfl))) (SEEN.out _ HX.out.bl)) (fun hHeld => ?_)
                      clear hK K
                      (try simp only [Act.put, List.getElem_toArray, List.getElem_cons_succ, List.getElem_cons_zero, List.setIfInBounds_toArray, List.set_cons_zero, List.set_cons_succ])
                      refine wpAnyH_take (i := 31) (v := ?_) rfl (by kernel_rfl) (by kernel_rfl) (by kernel_rfl) (fun _ _ _ h => h) (Or.inl ⟨by rfl, ?_⟩) (by assumption) ?_
                      rotate_left
                      · (intro wS hSw; (try dsimp only at hSw); go_simp; try with_reducible rfl)
                      (try simp only [Act.put, List.getElem_toArray, List.getElem_cons_succ, List.getElem_cons_zero, List.setIfInBounds_toArray, List.set_cons_zero, List.set_cons_succ])
                      refine wpAnyH_take (i := 32) (v := ?_) rfl (by kernel_rfl) (by kernel_rfl) (by kernel_rfl) (fun _ _ _ h => h) (Or.inl ⟨by rfl, ?_⟩) (by assumption) ?_
                      rotate_left
                      · (intro wS hSw; (try dsimp only at hSw); go_simp; try with_reducible rfl)
                      (try simp only [Act.put, List.getElem_toArray, List.getElem_cons_succ, List.getElem_cons_zero, List.setIfInBounds_toArray, List.set_cons_zero, List.set_cons_succ])
                      refine wpAnyH_done (by kernel_rfl) ?_ _
                      clear AD1 AD2 AD3 AD4 AD5 AD6 SEEN r0 r1 r2 r3 r4 r5 t0 t1
                      go_wp2
                      go_roundg (gk - 1)
                      case measure => omega
                      case rel => exact ⟨i + 1, by have := HI.out; simp only at this ⊢; omega, EE.out.trans (by simp only [NX.out]), by go_num, HX.out.sub (List.sublist_cons_self _ _)⟩
                    exact AllReadyH.nil
                  exact AllReadyH.nil
                exact AllReadyH.nil
              exact AllReadyH.nil
            exact AllReadyH.nil
          exact AllReadyH.nil
        · have hge : (l.length : Int) ≤ (i : Int) := by omega
          obtain rfl : i = l.length := by omega
          rw [List.take_length, EN2.out]
          have Z := Lib.hid HB.out.bl
          clear hi hlt
          go_wp2
          exact bodyPost_ret (v := .tuple #[.string EN, .int .i64 0]) (by simp [results, Try.results20, go_sem]) rfl ⟨rfl, Z.out⟩
    exact AllReadyH.nil
  exact AllReadyH.nil
theorem rbytest_any (t : Tb) (ao : Option Addr) (cap : Nat) (w : World) (hS : Seen Rw.cs 6 ao t.rows w) (hl : t.rows.length ≤ 1000) :
    Calls Try.prog 20 #[tv ao t.rows.length cap t.mode] w fun e w' => e = .returned (.tuple #[.string (bytesT t).1, .int .i64 (bytesT t).2]) ∧ Below w.heap.size w w' := by
  unfold bytesT
  cases h : chkT t with
  | false => exact rbytes_no t ao cap w hS hl h
  | true => exact rbytes_yes t ao cap w hS h
end Go.Proofs.Ytnaanahgflbihaa.Tb
