/- horariumlaw06.SlotsState answers true at every number: what was not read is not written; behind a fault it must be read again. No condition. -/
import Derived.Test.YtgfpnjidpdjpaaaSlR
import Derived.Test.YtgfpnjidpdjpaaaDkG
import Derived.Deep.DeepCutAuto
import Derived.Deep.RegionHeld3
import Derived.BigQuiet
namespace Go.Proofs.Ytgfpnjidpdjpaaa.slotsState
open Go.ChangeShapes Go.WideShapes Go.ChangeAt Go.RowKit Go.Joins
set_option maxRecDepth 100000
set_option linter.unusedVariables false
set_option linter.unusedSimpArgs false
open Dk (own laidOut in64_wf ptr DS)
open Sl (Lw Few snapV InvD gotR newR SS)
/-- a Write that fails, of a disk of whose operations the f-th is told to -/
theorem write_fault (B b q : Nat) (t : SS) (s : DS) (told : Option (Nat × List UInt8)) (data : List UInt8) (f : Nat) (w0 w : World) (h : Lw B b q t ⟨s.sec, s.opn, f, s.reads⟩ w0 w) (fw : Few t s) (hi : InvD s t.at_ t.k t.nx t.nw told) (hr : t.rd = true) (hw : t.nw + 1 < 256) (hd : data.length ≤ 1000) (hd2 : data.length ≤ 43 * t.k) (hf1 : 1 ≤ f) (hf2 : f ≤ t.k + 1) :
    Calls Try.prog 13 #[ptr q, .string (mkB data)] w fun e w' => e = .returned (.tuple #[.int .u64 0, .int .i64 18]) ∧ Lw B b q ⟨t.at_, t.k, false, t.nw + 1, t.nx⟩ ⟨s.sec, s.opn ++ Sl.wrs (t.at_ + t.nx * t.k) data (t.nw + 1) (f - 1), 0, s.reads⟩ w0 w' := by
  have := Sl.write_any B b q t ⟨s.sec, s.opn, f, s.reads⟩ data w h.dk h.sl fw.k1 fw.k2 hi.x1 (Sl.rooms hi.x1 fw.room).1 hr (by omega) hd hd2 fw.opn (by show f < _; have := fw.k2; omega)
  have e : Sl.putR ⟨s.sec, s.opn, f, s.reads⟩ (t.at_ + t.nx * t.k) t.k data (t.nw + 1) = (⟨s.sec, s.opn ++ Sl.wrs (t.at_ + t.nx * t.k) data (t.nw + 1) (f - 1), 0, s.reads⟩, false) := by
    unfold Sl.putR
    rw [if_pos ⟨hf1, hf2⟩]
  rw [e] at this
  refine this.mono ?_
  rintro e w' ⟨rfl, k, l, m⟩
  exact ⟨rfl, h.go k l m⟩
theorem few_of {t t' : SS} {s s' : DS} (f : Few t s) (h1 : t'.k = t.k) (h2 : t'.at_ = t.at_) (h3 : s'.sec.length = s.sec.length) (h4 : s'.opn.length ≤ 800000) (h5 : s'.reads ≤ 800000000) (h6 : s'.fail = 0) : Few t' s' := ⟨by rw [h1]; exact f.k1, by rw [h1]; exact f.k2, by rw [h1, h2, h3]; exact f.room, h4, h5, h6⟩

set_option maxRecDepth 100000 in
set_option maxHeartbeats 8000000 in
theorem walk (n : Int) (w : World) (hn : Dk.In64 n) :
    Calls Try.prog 5 #[.int .i64 n] w fun e w' => e = .returned (.bool true) ∧ Below w.heap.size w w' := by
  have t1 := Int.lt_tmod_of_pos n (show (0 : Int) < 3 by omega)
  have t2 := Int.tmod_lt_of_pos n (show (0 : Int) < 3 by omega)
  obtain ⟨f, hm⟩ : ∃ m : Nat, 1 + n.tmod 3 % 3 = (m : Int) := ⟨(1 + n.tmod 3 % 3).toNat, by omega⟩
  have m1 : 1 ≤ f := by omega
  have m2 : f ≤ 3 := by omega
  have AW := Lib.hid (fun w => Sl.awake_any w)
  have ND := Lib.hid (fun w => Sl.disk4 w)
  go_enter Try.func5, Try.ntmps5
  go_wp2_with fail
  (with_reducible refine (AW.out _).mono ?_)
  rintro e w1 ⟨rfl, b1⟩
  clear AW
  go_wp2_with fail
  (with_reducible refine (ND.out _).mono ?_)
  rintro e w2 ⟨rfl, d2, b2⟩
  have l2 := Lib.hid (b1.trans (b2.mono b1.size))
  have D2 := Lib.hid (d2.mono b1.size)
  clear ND d2 b1 b2
  generalize w1.heap.size + 1 = b at *
  have NS := Lib.hid (Sl.slots02 w.heap.size b (Dk.newR 4) w2 D2.out (by simp [Dk.newR]))
  go_wp2_with fail
  (with_reducible refine NS.out.mono ?_)
  rintro e w3 ⟨rfl, s3, b3⟩
  have L3 := Lib.hid (Sl.lw_new D2.out l2.out s3 b3)
  clear NS D2 l2 s3 b3
  generalize w2.heap.size = q at *
  have f3 := Sl.newS_few 4 2 (by omega) (by omega) (by omega) false 0 0
  have i3 : InvD (Dk.newR 4) 0 2 0 0 none := Sl.invD_new 4 0 2 (by omega) (by omega)
  have W1 := Lib.hid (Sl.write_state q b _ ⟨#[120]⟩ w3 L3.out.sl (by show 1 ≤ 2; omega) (by show 2 ≤ 64; omega) (by decide) rfl)
  go_wp2_with fail
  (with_reducible refine W1.out.mono ?_)
  rintro e w4 ⟨rfl, rfl⟩
  clear W1
  have RD := Lib.hid (Sl.read_t w.heap.size b q _ _ 0 0 none w w4 L3.out f3 i3)
  go_wp2_with fail
  (with_reducible refine RD.out.mono ?_)
  rintro e w5 ⟨rfl, L5, _⟩
  rw [Sl.newR_zero (k := 2) rfl rfl (by omega) (by omega)] at L5
  clear RD L3
  have FA := Lib.hid (Dk.fail_any w.heap.size b _ (f : Int) w5 L5.dk (by omega))
  have ok5 := L5.dk.ok
  go_wp2_with fail
  (with_reducible refine FA.out.mono ?_)
  rintro e w6 ⟨rfl, d6, m6⟩
  have L6 : Lw w.heap.size b q ⟨0, 2, true, 0, 0⟩ ⟨(gotR (Dk.newR 4) 2).sec, (gotR (Dk.newR 4) 2).opn, f, (gotR (Dk.newR 4) 2).reads⟩ w w6 := L5.disk (by have := d6; unfold Dk.failR at this; rw [Int.toNat_natCast] at this; exact this) m6
  clear FA d6 m6 L5
  have f6 : Few ⟨0, 2, true, 0, 0⟩ (gotR (Dk.newR 4) 2) := few_of f3 rfl rfl (by simp [gotR]) (by simp [gotR, Dk.newR]) (by simp [gotR, Dk.newR]) rfl
  have WF := Lib.hid (write_fault w.heap.size b q _ (gotR (Dk.newR 4) 2) none [121] f w w6 L6 f6 (i3.got 2) rfl (by show 0 + 1 < 256; omega) (by simp) (by simp) m1 (by show f ≤ 2 + 1; omega))
  have HA : (mkB [121] : ByteArray) = ⟨#[121]⟩ := rfl
  rw [HA] at WF
  go_wp2_with fail
  (with_reducible refine WF.out.mono ?_)
  rintro e w7 ⟨rfl, L7⟩
  clear WF L6 HA
  have i7 := (i3.got 2).fault (E := 1) (m := f - 1) (data := [121]) ok5 (by omega) (by omega) (by simp [gotR, Dk.newR]) (by omega) (by omega) (by simp) (by omega) 0 (gotR (Dk.newR 4) 2).reads
  have L7' : Lw w.heap.size b q ⟨0, 2, false, 1, 0⟩ ⟨(gotR (Dk.newR 4) 2).sec, (gotR (Dk.newR 4) 2).opn ++ Sl.wrs (0 + 0 * 2) [121] 1 (f - 1), 0, (gotR (Dk.newR 4) 2).reads⟩ w w7 := L7
  have f7 : Few ⟨0, 2, false, 1, 0⟩ ⟨(gotR (Dk.newR 4) 2).sec, (gotR (Dk.newR 4) 2).opn ++ Sl.wrs (0 + 0 * 2) [121] 1 (f - 1), 0, (gotR (Dk.newR 4) 2).reads⟩ := few_of f3 rfl rfl (by simp [gotR]) (by simp [gotR, Dk.newR, Sl.wrs_length]; omega) (by simp [gotR, Dk.newR]) rfl
  obtain ⟨nx, told, i8⟩ : ∃ nx told, InvD ⟨(gotR (Dk.newR 4) 2).sec, (gotR (Dk.newR 4) 2).opn ++ Sl.wrs (0 + 0 * 2) [121] 1 (f - 1), 0, (gotR (Dk.newR 4) 2).reads⟩ 0 2 nx 1 told := by
    rcases i7 with h | h
    · exact ⟨_, _, h⟩
    · exact ⟨_, _, h⟩
  clear L7 i7 i3 ok5
  have r7 : (DS.mk (gotR (Dk.newR 4) 2).sec ((gotR (Dk.newR 4) 2).opn ++ Sl.wrs (0 + 0 * 2) [121] 1 (f - 1)) 0 (gotR (Dk.newR 4) 2).reads).reads ≤ 100 := by simp [gotR, Dk.newR]
  have o7 : (DS.mk (gotR (Dk.newR 4) 2).sec ((gotR (Dk.newR 4) 2).opn ++ Sl.wrs (0 + 0 * 2) [121] 1 (f - 1)) 0 (gotR (Dk.newR 4) 2).reads).opn.length ≤ 100 := by simp [gotR, Dk.newR, Sl.wrs_length]; omega
  generalize (DS.mk (gotR (Dk.newR 4) 2).sec ((gotR (Dk.newR 4) 2).opn ++ Sl.wrs (0 + 0 * 2) [121] 1 (f - 1)) 0 (gotR (Dk.newR 4) 2).reads) = s7 at *
  have W8 := Lib.hid (Sl.write_state q b _ ⟨#[122]⟩ w7 L7'.sl (by show 1 ≤ 2; omega) (by show 2 ≤ 64; omega) (by decide) rfl)
  have RD := Lib.hid (Sl.read_t w.heap.size b q _ _ nx 1 told w w7 L7' f7 i8)
  have NW := i8.newest (t := ⟨0, 2, false, 1, 0⟩)
  clear L7'
  generalize newR ⟨0, 2, false, 1, 0⟩ s7 = M at *
  go_wp2_with fail
  (with_reducible refine W8.out.mono ?_)
  rintro e w8 ⟨rfl, rfl⟩
  clear W8
  go_wp2_with fail
  (with_reducible refine RD.out.mono ?_)
  rintro e w9 ⟨rfl, L9, _⟩
  have L9' := Lib.hid (fun o => L9.call ((Below.refl _ _).alloc (Nat.le_refl _) o))
  have ok9 := L9.dk.ok
  clear L9 RD
  have f9 : Few ⟨0, 2, true, M, nx⟩ (gotR s7 2) := few_of f7 rfl rfl rfl (by show s7.opn.length ≤ _; omega) (by show s7.reads + 2 * 2 ≤ _; omega) (by show s7.fail - 2 * 2 = 0; rw [f7.fail])
  have i9 : InvD (gotR s7 2) 0 2 nx M told := NW.1.got 2
  have WZ := Lib.hid (fun o => Sl.write_t w.heap.size b q _ _ 0 told [122] w _ (L9'.out o) f9 i9 rfl (by show M + 1 < 256; omega) (by simp) (by simp))
  have iA := i9.put (t := ⟨0, 2, true, M, nx⟩) (data := [122]) ok9 f9 (by show M + 1 < 256; omega) (by simp)
  have lA := Sl.putS_len ⟨0, 2, true, M, nx⟩ (gotR s7 2) [122]
  have fA : Few ⟨0, 2, true, M + 1, 1 - nx⟩ (Sl.putS ⟨0, 2, true, M, nx⟩ (gotR s7 2) [122]) := few_of f9 rfl rfl lA (by simp [Sl.putS]) (by show s7.reads + 2 * 2 ≤ _; omega) rfl
  have HA : (mkB [122] : ByteArray) = ⟨#[122]⟩ := rfl
  rw [HA] at WZ
  have sv : snapV told = .agg #[.int .u64 ((told.getD (0, [])).1 : Int), .string (mkB (told.getD (0, [])).2)] := rfl
  rw [sv]
  generalize ((told.getD (0, [])).1 : Int) = TE at *
  generalize mkB (told.getD (0, [])).2 = TD at *
  have cM : (1 : Int) ≤ ((M + 1 : Nat) : Int) := by omega
  have MU : ((M + 1 : Nat) : Int) ≤ 3 := by omega
  clear sv HA lA
  go_wp2_with fail
  (with_reducible refine (WZ.out _).mono ?_)
  rintro e wA ⟨rfl, LA, _⟩
  clear WZ L9'
  have RD := Lib.hid (Sl.read_t w.heap.size b q _ _ _ _ _ w wA LA fA iA)
  clear LA
  have sv : snapV (some (M + 1, [122])) = .agg #[.int .u64 ((M + 1 : Nat) : Int), .string ⟨#[122]⟩] := rfl
  rw [sv] at RD
  generalize ((M + 1 : Nat) : Int) = ME at *
  go_wp2_with fail
  (with_reducible refine RD.out.mono ?_)
  rintro e wB ⟨rfl, LB, _⟩
  have FIN := Lib.hid (LB.call ((Below.refl _ _).alloc (Nat.le_refl _) (.cells #[.int .u64 ME, .string ⟨#[122]⟩] 33))).bel
  clear RD LB
  go_wp2
  go_ret
  exact ⟨rfl, FIN.out⟩

set_option maxRecDepth 100000 in
set_option maxHeartbeats 1600000 in
theorem lifted (os : Os) (started : os.Started) (H : Type) (enc : TypeId × Value → H) :
    ReturnsInHanded {} Try.checked os 5 .any (Rows.slotsStateSpec.pre6 enc Try.prog Try.f5 Rows.slotsStateRow.domain false) (Rows.slotsStateSpec.post enc Try.prog Try.f5 false true false false) := by
  refine returnsInHanded_of_change (C := Try.checked) own started (by kernel_rfl) Try.func5
    (ChangeSpec.witness6 (enc := enc) (C := Try.checked) false ⟨#[], #[.int .i64 0], []⟩ 8 (by kernel_rfl) (by kernel_rfl) (by kernel_rfl) (by kernel_rfl)) ?_
  intro W base args ds gs before hval0 hW hcnd _
  have hval : ∀ (j : Nat) t v, Try.f5.params[j]? = some t → args[j]? = some v → Value.okWide Try.prog W .any base t v := hval0
  have hW' := hW
  obtain ⟨p, q, hA0, hV, rfl, hfz, hnd⟩ := hW
  have hA : DataW.TrodAll enc Try.prog W 0 (fun _ => true) true Try.f5.params.toList args.toList ds p := hA0
  rw [Try.params5] at hA hval
  obtain ⟨v0, vs0, d0, ds0, p0, q0, hargs, rfl, rfl, h0, r0⟩ := trodAll_cons hA
  obtain ⟨rfl, rfl, rfl⟩ := trodAll_nil r0
  obtain rfl : args = #[v0] := by cases args; simp_all
  obtain ⟨rfl, rfl⟩ := trodVars_none hV
  have lt0 : ∀ x ∈ p0, x.block < W.heap.size := by obtain ⟨m, hm⟩ := h0; exact DataW.trod_lt m _ _ _ hm
  obtain ⟨n, e0, -, -, wfn⟩ := open_int Try.underlying3 (hval 0 3 v0 rfl rfl) h0
  subst e0
  clear hA0 hval0
  refine (walk n W (in64_wf wfn)).mono fun e W' ⟨he, bel⟩ => ?_
  subst he
  exact ⟨_, rfl, _, _, _, [], _, [], hW', trodAll_mk1 (shut_bool Try.underlying4 _), (trodAll_cons_mk (Below.trod laidOut (by kernel_rfl) (of_decide_eq_true (by kernel_rfl)) h0 bel lt0) trodAll_mk0), rfl, bel.frame _, fun h => by cases h⟩

theorem proved : Rows.SlotsStateSaid :=
  OpenClaim.holds_of_wide 5 Try.f5 rfl rfl rfl rfl rfl rfl rfl ⟨rfl, rfl, rfl, rfl, rfl⟩ rfl rfl rfl rfl rfl (by kernel_rfl) Try.func5 (by kernel_rfl)
    (of_decide_eq_true (by kernel_rfl)) (by unfold Func.isWrapper; first | (rw [if_pos (by decide +kernel)]; kernel_rfl) | (rw [if_neg (by decide +kernel)]; exact ⟨rfl, rfl⟩))
    (fun os started H enc _ => lifted os started H enc)
#print axioms proved
end Go.Proofs.Ytgfpnjidpdjpaaa.slotsState
