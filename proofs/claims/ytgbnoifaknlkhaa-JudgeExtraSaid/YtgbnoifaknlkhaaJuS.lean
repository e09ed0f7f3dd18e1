/- The statements' function tells of layer 15. -/
import Derived.Test.YtgbnoifaknlkhaaJuR
import Derived.Test.YtgbnoifaknlkhaaMTt
import Derived.Test.YtgbnoifaknlkhaaTbL
namespace Go.Proofs.Ytgbnoifaknlkhaa.Ju
open Go.ChangeShapes Go.WideShapes Go.ChangeAt Go.RowKit Go.Joins
open Pm (Tk chk chk_iff I64)
open Ge (El Seen Row)
open Ox (Od chkR chkR_iff tk0)
open Tb
set_option maxRecDepth 100000
set_option maxRecDepth 100000
set_option linter.unusedVariables false
set_option linter.unusedSimpArgs false
theorem same_self (t : Tb.Tb) : sameT t t = true := by unfold sameT; simp
/-- the boxes of a table and of an op that came -/
theorem to2_new (w : World) (a : Value) (m : Int) (cs : Array Value) : Bos [(w.heap.size + 1, cs, 34), (w.heap.size, #[a, .int .i64 m], 29)] w ((w.alloc (.cells #[a, .int .i64 m] 29)).alloc (.cells cs 34)) := by
  have := ((bos_nil w).new #[a, .int .i64 m] 29).new cs 34
  rw [World.size_alloc] at this
  exact this
set_option maxHeartbeats 16000000 in
theorem tells_any (t : Tb.Tb) (o : Od) (ex : List Tk) (ao : Option Addr) (cap : Nat) (eo : Option Addr) (ec : Nat) (w : World) (hS : Sl (.slice ao t.rows.length cap) t.rows w ao cap) (hl : t.rows.length ≤ 1000) (hE : Seen tcs 5 eo ex w) (he : ex.length ≤ 1000) :
    Calls Try.prog 9 #[tv ao t.rows.length cap t.mode, o.v, .slice eo ex.length ec] w fun e w' => e = .returned (.bool true) ∧ Below w.heap.size w w' := by
  have SA : Hid (∀ W, Below w.heap.size w W → Seen Rw.cs 6 ao t.rows W) := Lib.hid (fun W hb => hS.seen.below hb (Nat.le_refl _))
  have MA : Hid (∀ W, Below w.heap.size w W → Calls Try.prog 13 #[tv ao t.rows.length cap t.mode, o.v, .slice eo ex.length ec] W fun e w' => ∃ v, e = .returned (.tuple #[v, .int .i64 (mayR t o ex).2]) ∧ Tb.Told v (mayR t o ex).1 w' ∧ Below W.heap.size W w') := Lib.hid (fun W hb => may_any t o ex ao cap eo ec W (hS.call hb) hl (hE.call hb) he)
  have RM : Hid (∀ W, Below w.heap.size w W → Calls Try.prog 22 #[tv ao t.rows.length cap t.mode, o.v, .slice eo ex.length ec] W fun e w' => ∃ v, e = .returned (.tuple #[v, .int .i64 (mayR t o ex).2]) ∧ Tb.Told v (mayR t o ex).1 w' ∧ Below W.heap.size W w') := Lib.hid (fun W hb => rmay_any t o ex ao cap eo ec W (hS.call hb) hl (hE.call hb) he)
  have FR : Hid (∀ W, Below w.heap.size w W → Calls Try.prog 24 #[tv ao t.rows.length cap t.mode] W fun e w' => e = .returned (.tuple #[.int .i64 (firstR t).1, .int .i64 (firstR t).2]) ∧ Below W.heap.size W w') := Lib.hid (fun W hb => first_any t ao cap W (hS.seen.call hb) hl)
  have RF : Hid (∀ W, Below w.heap.size w W → Calls Try.prog 25 #[tv ao t.rows.length cap t.mode] W fun e w' => e = .returned (.agg #[.int .i64 (firstR t).1, .int .i64 (firstR t).2]) ∧ Below W.heap.size W w') := Lib.hid (fun W hb => rof_any t ao cap W (hS.seen.call hb) hl)
  have FT : Hid (∀ W, Below w.heap.size w W → Calls Try.prog 17 #[tv ao t.rows.length cap t.mode] W fun e w' => e = .returned (.int .i64 (fitsR t)) ∧ Below W.heap.size W w') := Lib.hid (fun W hb => fits_any t ao cap W (hS.seen.call hb) hl)
  have RT : Hid (∀ W, Below w.heap.size w W → Calls Try.prog 28 #[tv ao t.rows.length cap t.mode] W fun e w' => e = .returned (.int .i64 (fitsR t)) ∧ Below W.heap.size W w') := Lib.hid (fun W hb => rfits_any t ao cap W (hS.seen.call hb) hl)
  have WI : Hid (∀ W, Below w.heap.size w W → Calls Try.prog 29 #[tv ao t.rows.length cap t.mode, .slice eo ex.length ec] W fun e w' => e = .returned (.int .i64 (withR t ex)) ∧ Below W.heap.size W w') := Lib.hid (fun W hb => with_any t ex ao cap eo ec W (hS.seen.call hb) hl (hE.call hb) he)
  have RW : Hid (∀ W, Below w.heap.size w W → Calls Try.prog 30 #[tv ao t.rows.length cap t.mode, .slice eo ex.length ec] W fun e w' => e = .returned (.int .i64 (withR t ex)) ∧ Below W.heap.size W w') := Lib.hid (fun W hb => rwith_any t ex ao cap eo ec W (hS.seen.call hb) hl (hE.call hb) he)
  have RA : Hid (∀ W, Below w.heap.size w W → Calls Try.prog 20 #[tv ao t.rows.length cap t.mode, o.v] W fun e w' => ∃ v, e = .returned (.tuple #[v, .int .i64 (applyR t o).2]) ∧ Tb.Told v (applyR t o).1 w' ∧ Below W.heap.size W w') := Lib.hid (fun W hb => rapply_any t o ao cap W (hS.call hb) hl)
  have GO : Hid (∀ W a c, Below w.heap.size w W → Seen Rw.cs 6 a (applyR t o).1.rows W → Calls Try.prog 18 #[tv ao t.rows.length cap t.mode, tv a (applyR t o).1.rows.length c (applyR t o).1.mode] W fun e w' => ∃ o' c', e = .returned (.slice o' (goneR t (applyR t o).1).length c') ∧ Seen tcs 5 o' (goneR t (applyR t o).1) w' ∧ Below W.heap.size W w') := Lib.hid (fun W a c hb h => (gone_any t _ ao cap a c W (hS.seen.call hb) h hl (by have := apply_len t o; omega)).mono fun e w' ⟨v, he, hr, hb⟩ => by
    obtain ⟨o', c', rfl, -, hs, -⟩ := Row.form tcs_len hr
    exact ⟨o', c', he, hs, hb⟩)
  have RG : Hid (∀ W a c, Below w.heap.size w W → Seen Rw.cs 6 a (applyR t o).1.rows W → Calls Try.prog 27 #[tv ao t.rows.length cap t.mode, tv a (applyR t o).1.rows.length c (applyR t o).1.mode] W fun e w' => ∃ o' c', e = .returned (.slice o' (goneR t (applyR t o).1).length c') ∧ Seen tcs 5 o' (goneR t (applyR t o).1) w' ∧ Below W.heap.size W w') := Lib.hid (fun W a c hb h => (rgone_any t _ ao cap a c W (hS.seen.call hb) h hl (by have := apply_len t o; omega)).mono fun e w' ⟨v, he, hr, hb⟩ => by
    obtain ⟨o', c', rfl, -, hs, -⟩ := Row.form tcs_len hr
    exact ⟨o', c', he, hs, hb⟩)
  have GL : (goneR t (applyR t o).1).length ≤ 1000 := by
    unfold goneR
    split
    · exact Nat.le_trans (goneL_len _ _ _ _) hl
    · simp
  have SG : Hid (∀ W p q c d, Seen tcs 5 p (goneR t (applyR t o).1) W → Seen tcs 5 q (goneR t (applyR t o).1) W → Calls Try.prog 26 #[.slice p (goneR t (applyR t o).1).length c, .slice q (goneR t (applyR t o).1).length d] W fun e w' => e = .returned (.bool true) ∧ Below W.heap.size W w') := Lib.hid (fun W p q c d h1 h2 => rsame9_self _ p q c d W h1 h2 GL)
  have LM := may_len t o ex
  have H0 := Lib.hid (to2_new w (.slice ao t.rows.length cap) t.mode o.cs)
  have SM : Hid (∀ a1 c1 a2 c2 W, Seen Rw.cs 6 a1 (mayR t o ex).1.rows W → Seen Rw.cs 6 a2 (mayR t o ex).1.rows W → Calls Try.prog 23 #[tv a1 (mayR t o ex).1.rows.length c1 (mayR t o ex).1.mode, tv a2 (mayR t o ex).1.rows.length c2 (mayR t o ex).1.mode] W fun e w' => e = .returned (.bool true) ∧ Below W.heap.size W w') := Lib.hid (fun a1 c1 a2 c2 W h1 h2 => by
    have := rsame_any _ _ a1 a2 c1 c2 W h1 h2 (by omega) (by omega)
    rw [same_self] at this
    exact this)
  generalize mayR t o ex = M at *
  generalize (goneR t (applyR t o).1).length = gn at *
  generalize (goneR t (applyR t o).1) = gR at *
  generalize applyR t o = R at *
  generalize firstR t = F at *
  generalize fitsR t = ft at *
  generalize withR t ex = wi at *
  obtain ⟨M1, M2⟩ := M
  obtain ⟨R1, R2⟩ := R
  obtain ⟨F1, F2⟩ := F
  obtain ⟨l, m⟩ := t
  obtain ⟨k, ⟨i, c, d, tt, tm⟩, s, oi, oc, om⟩ := o
  unfold tv Od.v Od.cs at *
  simp only at *
  generalize l.length = n at *
  generalize ex.length = en at *
  clear hS hE SA
  obtain ⟨t0, t1⟩ := cell2 (H0.out.cell 1 rfl)
  obtain ⟨o0, o1, o2, o3, o4, o5, o6, o7, o8, o9⟩ := cell10 (H0.out.cell 0 rfl)
  go_enter Try.func9, Try.ntmps9
  go_wp2_with fail
  (with_reducible refine (MA.out _ H0.out.bl).mono ?_)
  rintro e w1 ⟨v, rfl, ⟨a1, c1, rfl, s1⟩, b1⟩
  unfold tv at *
  have H1 := Lib.hid ((H0.out.call b1).new #[.slice a1 M1.rows.length c1, .int .i64 M1.mode] 29)
  have S1 := Lib.hid (s1.seen.call ((Below.refl _ _).alloc (Nat.le_refl _) (.cells #[.slice a1 M1.rows.length c1, .int .i64 M1.mode] 29)))
  clear b1 s1 MA H0 t0 t1 o0 o1 o2 o3 o4 o5 o6 o7 o8 o9
  obtain ⟨t0, t1⟩ := cell2 (H1.out.cell 2 rfl)
  obtain ⟨o0, o1, o2, o3, o4, o5, o6, o7, o8, o9⟩ := cell10 (H1.out.cell 1 rfl)
  go_wp2_with fail
  (with_reducible refine (RM.out _ H1.out.bl).mono ?_)
  rintro e w2 ⟨v, rfl, ⟨a2, c2, rfl, s2⟩, b2⟩
  unfold tv at *
  have H2 := Lib.hid ((H1.out.call b2).new #[.slice a2 M1.rows.length c2, .int .i64 M1.mode] 29)
  have bz : Below w2.heap.size w2 (w2.alloc (.cells #[.slice a2 M1.rows.length c2, .int .i64 M1.mode] 29)) := (Below.refl _ _).alloc (Nat.le_refl _) _
  have SC := Lib.hid (SM.out a1 c1 a2 c2 _ ((S1.out.call b2).call bz) (s2.seen.call bz))
  clear b2 s2 bz RM H1 S1 SM t0 t1 o0 o1 o2 o3 o4 o5 o6 o7 o8 o9
  obtain ⟨y0, y1⟩ := cell2 (H2.out.cell 0 rfl)
  obtain ⟨x0, x1⟩ := cell2 (H2.out.cell 1 rfl)
  go_wp2_with fail
  (with_reducible refine SC.out.mono ?_)
  rintro e w3 ⟨rfl, b3⟩
  have H3 := Lib.hid (((H2.out.call b3).sub (List.sublist_cons_self _ _)).sub (List.sublist_cons_self _ _))
  clear b3 SC H2 x0 x1 y0 y1
  obtain ⟨t0, t1⟩ := cell2 (H3.out.cell 1 rfl)
  go_wp2_with fail
  (with_reducible refine (FR.out _ H3.out.bl).mono ?_)
  rintro e w4 ⟨rfl, b4⟩
  have H4 := Lib.hid (H3.out.call b4)
  clear b4 FR H3 t0 t1
  obtain ⟨t0, t1⟩ := cell2 (H4.out.cell 1 rfl)
  go_wp2_with fail
  (with_reducible refine (RF.out _ H4.out.bl).mono ?_)
  rintro e w5 ⟨rfl, b5⟩
  have H5 := Lib.hid ((H4.out.call b5).new #[.int .i64 F1, .int .i64 F2] 61)
  clear b5 RF H4 t0 t1
  obtain ⟨t0, t1⟩ := cell2 (H5.out.cell 2 rfl)
  obtain ⟨o0, o1, o2, o3, o4, o5, o6, o7, o8, o9⟩ := cell10 (H5.out.cell 1 rfl)
  go_wp2_with fail
  (with_reducible refine (RA.out _ H5.out.bl).mono ?_)
  rintro e w6 ⟨v, rfl, ⟨a6, c6, rfl, s6⟩, b6⟩
  unfold tv at *
  have HX := Lib.hid ((H5.out.call b6).new #[.slice a6 R1.rows.length c6, .int .i64 R1.mode] 29).drew
  have SX := Lib.hid (s6.seen.call ((Below.refl _ _).alloc (Nat.le_refl _) (.cells #[.slice a6 R1.rows.length c6, .int .i64 R1.mode] 29)).drew)
  clear b6 s6 RA H5 t0 t1 o0 o1 o2 o3 o4 o5 o6 o7 o8 o9
  go_wp2_with fail
  refine wp_region_held_drew (S := (fun W' => (W'.cell? ⟨w.heap.size, 0, none⟩ = some (.slice ao n cap) ∧ W'.cell? ⟨w.heap.size, 1, none⟩ = some (.int .i64 m)) ∧ (W'.cell? ⟨w6.heap.size, 0, none⟩ = some (.slice a6 R1.rows.length c6) ∧ W'.cell? ⟨w6.heap.size, 1, none⟩ = some (.int .i64 R1.mode)))) (by kernel_rfl) (And.intro (cell2 (HX.out.cell 3 rfl)) (cell2 (HX.out.cell 0 rfl))) (fun hHeld => ?_)
  refine Gh.tk 0 ?_
  refine Gh.tk 1 ?_
  refine Gh.tk 3 ?_
  refine Gh.tk 4 ?_
  refine Gh.rd 2 (fun K hK => ?_)
  go_simp
  (with_reducible refine (GO.out _ _ _ HX.out.bl SX.out).mono ?_)
  rintro e x1 ⟨p1, d1, rfl, sp, b1⟩
  have HX := Lib.hid (HX.out.call b1)
  have SX := Lib.hid (SX.out.call b1)
  have SP := Lib.hid sp
  clear b1 sp
  go_simp
  refine hK.out _ _ (And.intro (cell2 (HX.out.cell 3 rfl)) (cell2 (HX.out.cell 0 rfl))) (fun hHeld => ?_)
  clear hK K
  refine Gh.pt ?_
  refine Gh.rd 5 (fun K hK => ?_)
  go_simp
  (with_reducible refine (RG.out _ _ _ HX.out.bl SX.out).mono ?_)
  rintro e x2 ⟨p2, d2, rfl, sq, b1⟩
  have HX := Lib.hid (HX.out.call b1)
  have SX := Lib.hid (SX.out.call b1)
  have SP := Lib.hid (SP.out.call b1)
  have SQ := Lib.hid sq
  clear b1 sq
  go_simp
  refine hK.out _ _ (And.intro (cell2 (HX.out.cell 3 rfl)) (cell2 (HX.out.cell 0 rfl))) (fun hHeld => ?_)
  clear hK K
  refine Gh.pt ?_
  refine Gh.rd 6 (fun K hK => ?_)
  go_simp
  (with_reducible refine (SG.out _ _ _ _ _ SP.out SQ.out).mono ?_)
  rintro e x3 ⟨rfl, b1⟩
  have HX := Lib.hid (HX.out.call b1)
  clear b1 SP SQ
  go_simp
  refine hK.out _ _ (And.intro (cell2 (HX.out.cell 3 rfl)) (cell2 (HX.out.cell 0 rfl))) (fun hHeld => ?_)
  clear hK K
  refine Gh.pt ?_
  refine Gh.tk 7 ?_
  refine wpAnyH_done (by kernel_rfl) ?_ _
  clear GO RG SG SX
  have HX := Lib.hid HX.out.drew
  go_wp2_with fail
  refine wp_region_held_drew (S := (fun W' => (W'.cell? ⟨w.heap.size, 0, none⟩ = some (.slice ao n cap) ∧ W'.cell? ⟨w.heap.size, 1, none⟩ = some (.int .i64 m)) ∧ (W'.cell? ⟨w5.heap.size, 0, none⟩ = some (.int .i64 F1) ∧ W'.cell? ⟨w5.heap.size, 1, none⟩ = some (.int .i64 F2)))) (by kernel_rfl) (And.intro (cell2 (HX.out.cell 3 rfl)) (cell2 (HX.out.cell 1 rfl))) (fun hHeld => ?_)
  refine Gh.tk 0 ?_
  refine Gh.tk 1 ?_
  refine Gh.tk 2 ?_
  refine Gh.tk 3 ?_
  refine Gh.tk 4 ?_
  refine Gh.tk 5 ?_
  refine Gh.tk 6 ?_
  refine Gh.tk 7 ?_
  refine Gh.tk 8 ?_
  refine Gh.tk 9 ?_
  refine Gh.tk 10 ?_
  refine Gh.tk 11 ?_
  refine Gh.tk 12 ?_
  refine Gh.tk 13 ?_
  refine Gh.tk 14 ?_
  refine Gh.tk 15 ?_
  refine Gh.tk 16 ?_
  refine Gh.tk 17 ?_
  refine Gh.tk 18 ?_
  refine Gh.tk 19 ?_
  refine Gh.tk 21 ?_
  refine Gh.rd 20 (fun K hK => ?_)
  go_simp
  (with_reducible refine (FT.out _ HX.out.bl).mono ?_)
  rintro e z1 ⟨rfl, b1⟩
  have HX := Lib.hid (HX.out.call b1)
  clear b1
  go_simp
  refine hK.out _ _ (And.intro (cell2 (HX.out.cell 3 rfl)) (cell2 (HX.out.cell 1 rfl))) (fun hHeld => ?_)
  clear hK K
  refine Gh.pt ?_
  refine Gh.rd 22 (fun K hK => ?_)
  go_simp
  (with_reducible refine (RT.out _ HX.out.bl).mono ?_)
  rintro e z2 ⟨rfl, b1⟩
  have HX := Lib.hid (HX.out.call b1)
  clear b1
  go_simp
  refine hK.out _ _ (And.intro (cell2 (HX.out.cell 3 rfl)) (cell2 (HX.out.cell 1 rfl))) (fun hHeld => ?_)
  clear hK K
  refine Gh.pt ?_
  refine Gh.tk 23 ?_
  refine Gh.tk 24 ?_
  refine Gh.tk 25 ?_
  refine Gh.tk 26 ?_
  refine Gh.tk 27 ?_
  refine Gh.tk 29 ?_
  refine Gh.tk 30 ?_
  refine Gh.rd 28 (fun K hK => ?_)
  go_simp
  (with_reducible refine (WI.out _ HX.out.bl).mono ?_)
  rintro e z3 ⟨rfl, b1⟩
  have HX := Lib.hid (HX.out.call b1)
  clear b1
  go_simp
  refine hK.out _ _ (And.intro (cell2 (HX.out.cell 3 rfl)) (cell2 (HX.out.cell 1 rfl))) (fun hHeld => ?_)
  clear hK K
  refine Gh.pt ?_
  refine Gh.rd 31 (fun K hK => ?_)
  go_simp
  (with_reducible refine (RW.out _ HX.out.bl).mono ?_)
  rintro e z4 ⟨rfl, b1⟩
  have HX := Lib.hid (HX.out.call b1)
  clear b1
  go_simp
  refine hK.out _ _ (And.intro (cell2 (HX.out.cell 3 rfl)) (cell2 (HX.out.cell 1 rfl))) (fun hHeld => ?_)
  clear hK K
  refine Gh.pt ?_
  refine Gh.tk 32 ?_
  refine Gh.tk 33 ?_
  refine Gh.tk 34 ?_
  refine Gh.tk 35 ?_
  refine Gh.tk 36 ?_
  refine Gh.tk 37 ?_
  refine wpAnyH_done (by kernel_rfl) ?_ _
  go_wp2
  go_ret
  exact ⟨rfl, HX.out.bl⟩
end Go.Proofs.Ytgbnoifaknlkhaa.Ju
