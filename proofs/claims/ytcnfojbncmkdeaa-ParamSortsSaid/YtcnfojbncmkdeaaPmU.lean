/- Contracts of slices.Clone over tasks, and of package param's Sort, of tasks that may be. -/
import Derived.Test.YtcnfojbncmkdeaaPmS
import Derived.Laws.Cover3
namespace Go.Proofs.Ytcnfojbncmkdeaa.Pm
open Go.ChangeShapes Go.WideShapes Go.ChangeAt Go.RowKit Go.Joins
open List (Perm)
set_option maxRecDepth 100000
set_option maxRecDepth 100000
set_option linter.unusedVariables false
set_option linter.unusedSimpArgs false
theorem run_eql_none {P : Program} (w : World) (t e : TypeId) (a : Option Addr) (l c : Nat) (h : P.underlying t = some (.slice e)) : (binOp .eql t (.slice a l c) (.slice none 0 0)).run P w = .ok (.bool a.isNone) w := by
  simp only [binOp]
  simp [run_equal_slice_nil w t e a l c h]
theorem clone_any (l : List Tk) (ao : Option Addr) (cap : Nat) (w : World) (hT : Ts ao l w) (hl : l.length ≤ 1000) :
    Calls Try.prog 29 #[.slice ao l.length cap] w fun e w' => ∃ v, e = .returned v ∧ TRow w.heap.size w' v l ∧ Below w.heap.size w w' := by
  cases ao with
  | none =>
    have h0 : l.length = 0 := by
      rcases Nat.eq_zero_or_pos l.length with h0 | h0
      · exact h0
      · obtain ⟨g, o, e, -⟩ := hT h0; cases e
    obtain rfl : l = [] := List.eq_nil_of_length_eq_zero h0
    clear hT h0 hl
    have q : (binOp .eql 22 (.slice none 0 cap) (.slice none 0 0)).run Try.prog w = .ok (.bool true) w := run_eql_none w _ _ _ _ _ Try.underlying22
    show Calls Try.prog 29 #[.slice none 0 cap] w _
    go_enter Try.func29, Try.ntmps29
    go_wp2
    go_ret
    exact ⟨_, rfl, trow_nil _ _, Below.refl _ _⟩
  | some a =>
    have b0 : TRow w.heap.size (w.alloc (.cells #[] 36)) (.slice (some ⟨w.heap.size, 0, none⟩) 0 0) [] :=
      ⟨rfl, .inr ⟨w.heap.size, 0, #[], rfl, Nat.le_refl _, heap_alloc_new _ _, Nat.le_refl _, by simp [maxLen], rfl, rfl⟩⟩
    obtain ⟨v2, w2, hap, t2, bb, -⟩ := trow_all w.heap.size (w.alloc (.cells #[] 36)) _ [] l (some a) cap b0 (hT.call ((Below.refl _ _).alloc (Nat.le_refl _) _)) (by simp) (by simp; omega)
    rw [List.nil_append] at t2
    have T2 := Lib.hid t2
    have BB := Lib.hid (((Below.refl w.heap.size w).alloc (Nat.le_refl _) _).trans bb)
    clear hT t2 bb b0
    have q : (binOp .eql 22 (.slice (some a) l.length cap) (.slice none 0 0)).run Try.prog w = .ok (.bool false) w := run_eql_none w _ _ _ _ _ Try.underlying22
    go_enter Try.func29, Try.ntmps29
    go_wp2_with (at_builtin; refine Lib.wpList_append_run _ rfl _ _ _ _ rfl _ _ rfl rfl _ _ hap ?_)
    go_ret
    exact ⟨_, rfl, T2.out, BB.out⟩
/-- i tasks were taken -/
def So1 (l : List Tk) (w : World) (m : Nat) (s t : Value) (wx : World) : Prop :=
  ∃ (i : Nat) (v : Value), i + m = l.length ∧ v = s ∧ t = .int .i64 (i : Int) ∧ TRow w.heap.size wx v (l.take i) ∧ Below w.heap.size w wx
/-- what is left of a row behind its first k tasks -/
def Left (g k m : Nat) (v : Value) : Prop := ∃ ao c, v = .slice ao m c ∧ m ≤ c ∧ (0 < m → ao = some ⟨g, k * 5, none⟩)
theorem left_next {g k m c : Nat} (hm : 0 < m) (hc : m ≤ c) : ∃ v', Left g (k + 1) (m - 1) v' ∧ ∀ w : World, (Instr.sliceAt 22 (.slice (some ⟨g, k * 5, none⟩) m c) (some (.int .i64 1)) none none).run Try.prog w = .ok v' w := by
  have es : ∀ w, (sizeOf (Try.prog.elem 22)).run Try.prog w = .ok 5 w := fun w => by kernel_rfl
  refine ⟨sliced (some ⟨g, k * 5, none⟩) 1 m c 5, ?_, fun w => ?_⟩
  · unfold sliced
    refine ⟨_, _, rfl, by omega, fun h => ?_⟩
    rw [if_neg (by omega), Option.map_some, addr_add]
    simp
    try omega
  · rw [run_sliceAt_slice w _ _ _ _ _ (by kernel_rfl), run_slice_l w _ _ _ _ (by kernel_rfl) _ _ (by omega) (by omega), es]
    rfl
/-- k tasks were laid -/
def So2 (l H : List Tk) (vs : Value) (gh ch : Nat) (w : World) (m : Nat) (s t : Value) (wx : World) : Prop :=
  ∃ (k : Nat) (v : Value), k + m = l.length ∧ v = s ∧ t = .int .i64 (k : Int) ∧ Left gh k m v ∧ TRow w.heap.size wx vs (H.take k ++ l.drop k) ∧ (0 < l.length → TRow w.heap.size wx (.slice (some ⟨gh, 0, none⟩) l.length ch) H) ∧ Below w.heap.size w wx
theorem lay_next {H l : List Tk} {k : Nat} (hk : k < l.length) (hk2 : k < H.length) : (H.take k ++ l.drop k).set k H[k] = H.take (k + 1) ++ l.drop (k + 1) := by
  have h1 : (H.take k).length = k := by rw [List.length_take]; omega
  rw [List.set_append_right _ _ (by omega), h1, Nat.sub_self, List.drop_eq_getElem_cons hk, List.set_cons_zero, List.take_succ_eq_append_getElem hk2, List.append_assoc]
  rfl
set_option maxHeartbeats 2000000 in
theorem sort_any (l : List Tk) (ao : Option Addr) (cap : Nat) (w : World) (hT : Ts ao l w) (hl : l.length ≤ 16) (hck : ∀ x ∈ l, chk x = true) :
    Calls Try.prog 17 #[.slice ao l.length cap] w fun e w' => ∃ v H, e = .returned v ∧ H.Perm l ∧ SortedTo H l.length ∧ TRow w.heap.size w' v H ∧ Below w.heap.size w w' := by
  have T := Lib.hid hT
  have CK := Lib.hid hck
  have CL := Lib.hid (fun w h => clone_any l ao cap w h (by omega))
  clear hT hck
  go_enter Try.func17, Try.ntmps17
  go_wp2_with fail
  go_loopg [3, 11] l.length (So1 l w)
  case atStart => exact ⟨0, _, by omega, rfl, rfl, trow_nil _ _, Below.refl _ _⟩
  case round =>
    obtain ⟨i, v, hi, rfl, rfl, hr, hB⟩ := hrel
    have TQ := T.out.below hB (Nat.le_refl _)
    by_cases hlt : i < l.length
    · obtain ⟨b, off, rfl, hb, hat⟩ := TQ (by omega)
      have hx := hat i l[i] (List.getElem?_eq_getElem hlt)
      have CX : Hid (∀ w, Calls Try.prog 19 #[l[i].v] w fun e w' => e = .returned (.bool true) ∧ Below w.heap.size w w') := Lib.hid (fun w => by
        have := chk_any l[i] w
        rw [CK.out _ (List.getElem_mem hlt)] at this
        exact this)
      have hi' : (i : Int) < (l.length : Int) := by omega
      have hg0 : 0 < gk := by omega
      have AP := Lib.hid (fun W (h : TRow w.heap.size W v (l.take i)) hB => trow_append w.heap.size W v (l.take i) l[i] h hB (by rw [List.length_take]; omega))
      have TK := Lib.hid (List.take_succ_eq_append_getElem hlt)
      have HI := Lib.hid hi
      have KB := Lib.hid (fun o => hB.alloc hB.size o)
      have HR := Lib.hid (fun o => hr.call ((Below.refl _ _).alloc (Nat.le_refl _) o))
      clear hat hi TQ hB hr CL
      generalize l[i] = x at *
      obtain ⟨c0, c1, c2, c3, c4⟩ := hx
      obtain ⟨xi, xc, xd, xt, xm⟩ := x
      unfold Tk.v at CX
      simp only [Tk.cs] at CX c0 c1 c2 c3 c4 AP
      go_wp2_with fail
      (with_reducible refine (CX.out _).mono ?_)
      rintro e w1 ⟨rfl, b1⟩
      have d0 := carry b1 (p := ⟨wr.heap.size, 0, none⟩) (v := .int .i64 xi) (by simp [go_sem])
      have d1 := carry b1 (p := ⟨wr.heap.size, 1, none⟩) (v := .int .i64 xc) (by simp [go_sem])
      have d2 := carry b1 (p := ⟨wr.heap.size, 2, none⟩) (v := .int .i64 xd) (by simp [go_sem])
      have d3 := carry b1 (p := ⟨wr.heap.size, 3, none⟩) (v := .int .i64 xt) (by simp [go_sem])
      have d4 := carry b1 (p := ⟨wr.heap.size, 4, none⟩) (v := .int .i64 xm) (by simp [go_sem])
      have K1 := Lib.hid ((KB.out _).trans (b1.mono (KB.out _).size))
      obtain ⟨v2, w2, hap, tr2, bb2⟩ := AP.out w1 ((HR.out _).call b1) K1.out.size
      have T2 := Lib.hid tr2
      have K2 := Lib.hid (K1.out.trans bb2)
      clear b1 tr2 bb2 AP HR KB K1 CX c0 c1 c2 c3 c4
      go_wp2_with (at_builtin; refine Lib.wpList_append_run _ rfl _ _ _ _ rfl _ _ rfl rfl _ _ hap ?_)
      go_roundg (gk - 1)
      case measure => omega
      case rel => exact ⟨i + 1, _, by have := HI.out; omega, rfl, by go_num, by rw [TK.out]; exact T2.out, K2.out⟩
    · have hge : (l.length : Int) ≤ (i : Int) := by omega
      have hdec : decide (i < l.length) = false := decide_eq_false hlt
      rw [List.take_of_length_le (by omega)] at hr
      have SO := Lib.hid (sortStable_any w.heap.size v l wr hr (by omega))
      unfold cmpV at SO
      have KB := Lib.hid hB
      clear hr TQ hB hlt hi
      go_wp2_with fail
      (with_reducible refine (SO.out).mono ?_)
      rintro e w1 ⟨rfl, H, hperm, hsort, hrow, hbel⟩
      have K1 := Lib.hid (KB.out.trans (hbel w.heap.size (Nat.le_refl _) KB.out.size))
      have T1 := T.out.below K1.out (Nat.le_refl _)
      have HS := Lib.hid hsort
      have HP := Lib.hid hperm
      have HR := Lib.hid hrow
      have hlen := hperm.length_eq
      clear SO hbel hsort hperm hrow KB
      go_wp2_with fail
      (with_reducible refine (CL.out _ T1).mono ?_)
      rintro e w2 ⟨vs, rfl, trs, b2⟩
      have K2 := Lib.hid (K1.out.trans (b2.mono K1.out.size))
      have RS := Lib.hid (trs.mono K1.out.size)
      have RH := Lib.hid (HR.out.call b2)
      have SEP : Hid (∀ gs gh, vs.ownBlock = some gs → v.ownBlock = some gh → gs ≠ gh) := Lib.hid (fun gs gh h1 h2 => by
        have := (trs.lt gs h1).1
        have := (HR.out.lt gh h2).2
        omega)
      clear K1 HR T1 trs b2 CL
      obtain ⟨asl, cs, rfl, -, -⟩ := RS.out.form
      obtain ⟨ah, ch, hvh, hch, -⟩ := RH.out.form
      rw [hlen] at hvh
      have GH : Hid (∃ gh, (0 < l.length → ah = some ⟨gh, 0, none⟩)) := Lib.hid (by
        rcases RH.out.2 with ⟨hv, h0⟩ | ⟨g, cap, cur, hv, -⟩
        · exact ⟨0, fun h => by omega⟩
        · rw [hvh] at hv
          simp only [Value.slice.injEq] at hv
          exact ⟨g, fun _ => hv.1⟩)
      obtain ⟨gh, hgh⟩ := GH.out
      have RH2 : Hid (0 < l.length → TRow w.heap.size w2 (.slice (some ⟨gh, 0, none⟩) l.length ch) H) := Lib.hid (fun h => by
        have := RH.out
        rw [hvh, hgh h] at this
        exact this)
      have LF : Hid (Left gh 0 l.length v) := Lib.hid ⟨ah, ch, hvh, by omega, fun h => by rw [hgh h]⟩
      have SEP2 : Hid (∀ gs, 0 < l.length → asl = some ⟨gs, 0, none⟩ → gs ≠ gh) := Lib.hid (fun gs h h1 => SEP.out gs gh (by rw [h1]; rfl) (by rw [hvh, hgh h]; rfl))
      clear hvh hgh GH SEP RH hch
      go_wp2_with fail
      clear hge hdec
      go_loopg [3, 28] l.length (So2 l H (.slice asl l.length cs) gh ch w)
      case atStart => exact ⟨0, v, by omega, rfl, rfl, LF.out, by simpa using RS.out, RH2.out, K2.out⟩
      case round =>
        obtain ⟨k, v2, hk, rfl, rfl, hlf, hrs, hrh, hB⟩ := hrel
        have TQ := T.out.below hB (Nat.le_refl _)
        clear LF RS RH2 K2
        by_cases hlt : k < l.length
        · obtain ⟨b, off, rfl, hb, hat⟩ := TQ (by omega)
          have hx := hat k l[k] (List.getElem?_eq_getElem hlt)
          have CX : Hid (∀ w, Calls Try.prog 19 #[l[k].v] w fun e w' => e = .returned (.bool true) ∧ Below w.heap.size w w') := Lib.hid (fun w => by
            have := chk_any l[k] w
            rw [CK.out _ (List.getElem_mem hlt)] at this
            exact this)
          have hg0 : 0 < gk := by omega
          have hkH : k < H.length := by omega
          obtain ⟨al, c2, rfl, hcl, hal⟩ := hlf
          obtain rfl := hal hg0
          obtain ⟨gs, rfl⟩ : ∃ gs, asl = some ⟨gs, 0, none⟩ := by
            rcases hrs.2 with ⟨hv, h0⟩ | ⟨g, cap, cur, hv, -⟩
            · simp at h0; omega
            · simp only [Value.slice.injEq] at hv
              exact ⟨g, hv.1⟩
          have hne := SEP2.out gs (by omega) rfl
          obtain ⟨v3, lf3, sl⟩ := left_next (g := gh) (k := k) hg0 hcl
          have LF3 := Lib.hid lf3
          have RS := Lib.hid hrs
          have RH := Lib.hid (hrh (by omega))
          have KB := Lib.hid (fun o => hB.alloc hB.size o)
          have hki : (k : Int) < (l.length : Int) := by omega
          have hgi : (0 : Int) < (gk : Int) := by omega
          have hold : (H.take k ++ l.drop k)[k]? = some l[k] := by
            rw [List.getElem?_append_right (by rw [List.length_take]; omega), List.length_take, show k - min k H.length = 0 by omega, List.getElem?_drop]
            simp [hlt]
          have LN := Lib.hid (lay_next hlt hkH)
          have hlen2 : k < (H.take k ++ l.drop k).length := by simp; omega
          have HH := List.getElem?_eq_getElem hkH
          generalize H[k] = y at *
          have SETT := Lib.hid (fun W (h : TRow w.heap.size W (.slice (some ⟨gs, 0, none⟩) l.length cs) (H.take k ++ l.drop k)) => h.set' k hlen2 y)
          have gsB : Hid (w.heap.size ≤ gs) := Lib.hid ((RS.out.lt gs rfl).1)
          have HOLD := Lib.hid hold
          have HHH := Lib.hid HH
          have HK := Lib.hid hk
          clear hat hk TQ hB lf3 hrs hrh hold HH hlen2
          generalize l[k] = x at *
          obtain ⟨c0, c1, c2', c3, c4⟩ := hx
          obtain ⟨xi, xc, xd, xt, xm⟩ := x
          unfold Tk.v at CX
          simp only at CX c0 c1 c2' c3 c4
          go_wp2_with fail
          (with_reducible refine (CX.out _).mono ?_)
          rintro e w4 ⟨rfl, b4⟩
          have K4 := Lib.hid ((KB.out _).trans (b4.mono (KB.out _).size))
          have bb : Below wr.heap.size wr w4 := ((Below.refl wr.heap.size wr).alloc (Nat.le_refl _) _).trans (b4.mono (by simp))
          have RS4 := Lib.hid (RS.out.call bb)
          have RH4 := Lib.hid (RH.out.call bb)
          clear b4 bb KB RS RH CX c0 c1 c2' c3 c4
          obtain ⟨y0, y1, y2, y3, y4⟩ := RH4.out.at HHH.out
          obtain ⟨z0, z1, z2, z3, z4⟩ := RS4.out.at HOLD.out
          obtain ⟨yi, yc, yd, yt, ym⟩ := y
          simp only at y0 y1 y2 y3 y4 z0 z1 z2 z3 z4
          have f0 := RS4.out.free (k * 5)
          have f1 := RS4.out.free (k * 5 + 1)
          have f2 := RS4.out.free (k * 5 + 2)
          have f3 := RS4.out.free (k * 5 + 3)
          have f4 := RS4.out.free (k * 5 + 4)
          have hgl := World.block_lt_of_cell? _ _ z0
          have NX : Hid (TRow w.heap.size (put5 w4 gs (k * 5) ⟨yi, yc, yd, yt, ym⟩).drew (.slice (some ⟨gs, 0, none⟩) l.length cs) (H.take (k + 1) ++ l.drop (k + 1)) ∧ TRow w.heap.size (put5 w4 gs (k * 5) ⟨yi, yc, yd, yt, ym⟩).drew (.slice (some ⟨gh, 0, none⟩) l.length ch) H ∧ Below w.heap.size w (put5 w4 gs (k * 5) ⟨yi, yc, yd, yt, ym⟩).drew) := Lib.hid (by
            refine ⟨?_, ?_, (put5_below K4.out gsB.out).drew⟩
            · rw [← LN.out]; exact (SETT.out _ RS4.out).call ((Below.refl _ _).drew)
            · exact (RH4.out.of_blocks (fun g hg => put5_other _ _ _ _ _ (fun e => hne (by cases hg; exact e.symm)))).call ((Below.refl _ _).drew))
          clear RS4 RH4 K4 SETT LN HOLD gsB hne
          go_wp2_with fail
          go_region
          all_goals
            go_wp2
            go_roundg (gk - 1)
            case measure => omega
            case rel => exact ⟨k + 1, _, by have := HK.out; omega, rfl, by go_num, LF3.out, NX.out.1, fun _ => NX.out.2.1, NX.out.2.2⟩
        · have hge : (l.length : Int) ≤ (k : Int) := by omega
          rw [List.take_of_length_le (by omega), List.drop_eq_nil_of_le (by omega), List.append_nil] at hrs
          have R := Lib.hid hrs
          have KB := Lib.hid hB
          clear hrs hrh hB hlf TQ hlt hk
          go_wp2
          go_ret
          exact ⟨_, H, rfl, HP.out, HS.out, R.out, KB.out⟩
end Go.Proofs.Ytcnfojbncmkdeaa.Pm
