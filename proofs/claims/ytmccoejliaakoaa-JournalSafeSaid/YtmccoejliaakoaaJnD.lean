/- Contracts of package journal's Append and Snapshot. -/
import Derived.Test.YtmccoejliaakoaaJnC
import Derived.StillTailTactics
import Derived.BigQuiet
namespace Go.Proofs.Ytmccoejliaakoaa.Jn
open Go.ChangeShapes Go.WideShapes Go.ChangeAt Go.RowKit Go.Joins
open Dk (Dk DS Own Moved ptr)
open Sl (Mv SS below_drewN)
open Wl (WS)
set_option maxRecDepth 100000
set_option linter.unusedVariables false
set_option linter.unusedSimpArgs false
section
variable {w w' : World} {p : Nat} {v : Value} {T : TypeId}
theorem bxAt_new (w : World) (v : Value) (T : TypeId) : BxAt (w.alloc (.cells #[v] T)) w.heap.size v T := heap_alloc_new _ _
end
theorem append_nil (op : ByteArray) (w : World) :
    Calls Try.prog 14 #[.pointer none, .string op] w fun r w' => r = .returned (.int .i64 1) ∧ Below w.heap.size w w' := by
  have NO := Lib.hid (fun w => none_nil w)
  have FIN := Lib.hid (((Below.refl w.heap.size w).alloc (Nat.le_refl _) (.cells #[.pointer none] 26)).alloc (by simp) (.cells #[.string op] 9))
  go_enter Try.func14, Try.ntmps14
  go_wp2_with fail
  (with_reducible refine (NO.out _).mono ?_)
  rintro r w1 ⟨rfl, rfl⟩
  clear NO
  go_wp2
  go_ret
  exact ⟨rfl, FIN.out⟩
theorem snapshot_nil (op : ByteArray) (w : World) :
    Calls Try.prog 13 #[.pointer none, .string op] w fun r w' => r = .returned (.int .i64 1) ∧ Below w.heap.size w w' := by
  have b2 := (((Below.refl w.heap.size w).alloc (Nat.le_refl _) (.cells #[.pointer none] 26)).alloc (by simp) (.cells #[.string op] 9))
  have x0 : ((w.alloc (.cells #[.pointer none] 26)).alloc (.cells #[.string op] 9)).cell? ⟨w.heap.size, 0, none⟩ = some (.pointer none) := by go_simp
  have NO := Lib.hid (fun n => none_nil (((w.alloc (.cells #[.pointer none] 26)).alloc (.cells #[.string op] 9)).drewN n))
  have B2 := Lib.hid b2
  clear b2
  generalize hc : w.heap.size = c at *
  generalize hW : (w.alloc (.cells #[.pointer none] 26)).alloc (.cells #[.string op] 9) = W at *
  go_enter Try.func13, Try.ntmps13
  go_wp2_with fail
  (try rw [hW])
  (try rw [hc])
  go_quiet ((first | (go_at_call 25; exact Calls.quiet_of_same (NO.out _)) | fail))
  have FIN := Lib.hid (B2.out.trans ((below_drewN W nq).mono (by have := B2.out.size; omega)))
  clear NO x0 B2 hW
  go_wp2
  go_ret
  exact ⟨rfl, FIN.out⟩
set_option maxHeartbeats 1000000 in
theorem app_cl (B b j l q : Nat) (tl : WS) (ts : SS) (e : Nat) (g : Bool) (s : DS) (p : List UInt8) (cj cp : Nat) (w0 w : World) (h : Jn B b j l q tl ts e g s w0 w) (xj : BxAt w cj (ptr j) 26) (xp : BxAt w cp (.string (mkB p)) 9) (ft : tl.Fit s.sec.length) (hp : p.length ≤ 100000) (ho : s.opn.length ≤ 800000) (hf : s.fail < 9223372036854775808) :
    Calls Try.prog 29 #[ptr cj, ptr cp] w fun r w' => r = .returned (.int .i64 ((Wl.appR s tl p).2.2 : Int)) ∧ Jn B b j l q ⟨tl.at_, tl.n, (Wl.appR s tl p).2.1⟩ ts e g (Wl.appR s tl p).1 w0 w' ∧ Kp w w' := by
  have P1 := Lib.hid (And.intro (h.call (Below.refl _ _).drew) (Kp.drew (w := w)))
  have AP := Lib.hid (Wl.append_any p w.drew P1.out.1.wl P1.out.1.dk ft hp ho hf)
  have c0 := h.jn.c0
  have x0 := xj.c0
  have x1 := xp.c0
  clear h xj xp
  generalize mkB p = PB at *
  go_enter Try.func29, Try.ntmps29
  go_wp2_with fail
  go_still_tail 6, (by kernel_rfl)
  change wpList _ _ _ _ _ w.drew
  clear c0 x0 x1
  generalize w.drew = W at *
  go_wp2_with fail
  (with_reducible refine AP.out.mono ?_)
  rintro r w1 ⟨rfl, d1, l1, m1⟩
  have FIN := Lib.hid (And.intro (P1.out.1.goL d1 l1 m1) (P1.out.2.trans (.mvL P1.out.1.dk P1.out.1.wl m1)))
  clear AP P1 d1 l1 m1
  go_wp2
  go_ret
  exact ⟨rfl, FIN.out⟩
set_option maxHeartbeats 1000000 in
theorem append_any (B b j l q : Nat) (tl : WS) (ts : SS) (e : Nat) (s : DS) (p : List UInt8) (w0 w : World) (h : Jn B b j l q tl ts e true s w0 w) (ft : tl.Fit s.sec.length) (hp : p.length ≤ 43) (ho : s.opn.length ≤ 800000) (hf : s.fail < 9223372036854775808) :
    Calls Try.prog 14 #[ptr j, .string (mkB p)] w fun r w' => r = .returned (.int .i64 ((Wl.appR s tl p).2.2 : Int)) ∧ Jn B b j l q ⟨tl.at_, tl.n, (Wl.appR s tl p).2.1⟩ ts e (((Wl.appR s tl p).2.2 : Int) != 18) (Wl.appR s tl p).1 w0 w' ∧ Kp w w' := by
  have b1 := (Below.refl w.heap.size w).alloc (Nat.le_refl _) (.cells #[ptr j] 26)
  have b2 := b1.alloc (by simp) (.cells #[.string (mkB p)] 9)
  have sz : (w.alloc (.cells #[ptr j] 26)).heap.size = w.heap.size + 1 := by simp
  have b21 := (Below.refl (w.alloc (.cells #[ptr j] 26)).heap.size (w.alloc (.cells #[ptr j] 26))).alloc (Nat.le_refl _) (.cells #[.string (mkB p)] 9)
  have bx1 := bxAt_new (w.alloc (.cells #[ptr j] 26)) (.string (mkB p)) 9
  rw [sz] at bx1
  have P1 := Lib.hid (And.intro (h.call b2) (And.intro (Kp.below b2) (And.intro (show BxAt ((w.alloc (.cells #[ptr j] 26)).alloc (.cells #[.string (mkB p)] 9)) w.heap.size (ptr j) 26 from (b21.block w.heap.size (by rw [sz]; omega)).trans (bxAt_new w (ptr j) 26)) bx1)))
  have hz : ((mkB p).size : Int) ≤ 43 := by rw [mkB_size]; omega
  have hp2 : p.length ≤ 100000 := by omega
  have NO := Lib.hid (none_any _ P1.out.1.jn)
  have AT := Lib.hid (attempt_app B b j l q tl ⟨tl.at_, tl.n, (Wl.appR s tl p).2.1⟩ ts ts e e s (Wl.appR s tl p).1 ((Wl.appR s tl p).2.2 : Int) #[ptr w.heap.size, ptr (w.heap.size + 1)] w0 _ P1.out.1 (fun w1 j1 k1 => app_cl B b j l q tl ts e true s p w.heap.size (w.heap.size + 1) w0 w1 j1 (P1.out.2.2.1.kp k1 (by decide)) (P1.out.2.2.2.kp k1 (by decide)) ft hp2 ho hf))
  have x0 := P1.out.2.2.1.c0
  have x1 := P1.out.2.2.2.c0
  clear h b1 b2 b21 bx1 sz ft ho hf hp hp2
  generalize mkB p = PB at *
  generalize hW : (w.alloc (.cells #[ptr j] 26)).alloc (.cells #[.string PB] 9) = W at *
  go_enter Try.func14, Try.ntmps14
  go_wp2_with fail
  (try rw [hW])
  (with_reducible refine NO.out.mono ?_)
  rintro r w1 ⟨rfl, rfl⟩
  clear NO
  go_wp2_with fail
  (with_reducible refine AT.out.mono ?_)
  rintro r w2 ⟨rfl, j2, k2⟩
  have FIN := Lib.hid (And.intro j2 (P1.out.2.1.trans k2))
  clear AT P1 j2 k2 x0 x1 hW
  go_wp2
  go_ret
  exact ⟨rfl, FIN.out⟩
set_option maxHeartbeats 1000000 in
theorem snap_cl_ok (B b j l q : Nat) (tl : WS) (ts : SS) (e : Nat) (g : Bool) (s s' : DS) (data : List UInt8) (cj cp : Nat) (w0 w : World) (h : Jn B b j l q tl ts e g s w0 w) (xj : BxAt w cj (ptr j) 26) (xp : BxAt w cp (.string (mkB data)) 9) (k1 : 1 ≤ ts.k) (k2 : ts.k ≤ 64) (hx : ts.nx ≤ 1) (ha : ts.at_ + ts.nx * ts.k + ts.k ≤ s.sec.length) (hr : ts.rd = true) (hnw : ts.nw < 18446744073709551615) (hd : data.length ≤ 1000) (hd2 : data.length ≤ 43 * ts.k) (hn : s.opn.length ≤ 800000) (hf : s.fail < 9223372036854775808) (n1 : 1 ≤ tl.n)
    (hP : Sl.putR s (ts.at_ + ts.nx * ts.k) ts.k data (ts.nw + 1) = (s', true)) :
    Calls Try.prog 28 #[ptr cj, ptr cp] w fun r w' => r = .returned (.int .i64 0) ∧ Jn B b j l q ⟨tl.at_, tl.n, some (ts.nw + 1, 0)⟩ ⟨ts.at_, ts.k, true, ts.nw + 1, 1 - ts.nx⟩ (ts.nw + 1) g s' w0 w' ∧ Kp w w' := by
  have P1 := Lib.hid (And.intro (h.call (Below.refl _ _).drew) (Kp.drew (w := w)))
  have RN := Lib.hid (renew_ok B b j l q tl ts e g s s' data w0 w.drew P1.out.1 k1 k2 hx ha hr hnw hd hd2 hn hf n1 hP)
  have x0 := xj.c0
  have x1 := xp.c0
  clear h xj xp hP
  generalize mkB data = PB at *
  go_enter Try.func28, Try.ntmps28
  go_wp2_with fail
  go_still_tail 4, (by kernel_rfl)
  change wpList _ _ _ _ _ w.drew
  clear x0 x1
  generalize w.drew = W at *
  go_wp2_with fail
  (with_reducible refine RN.out.mono ?_)
  rintro r w1 ⟨rfl, j1, k1⟩
  have FIN := Lib.hid (And.intro j1 (P1.out.2.trans k1))
  clear RN P1 j1 k1
  go_wp2
  go_ret
  exact ⟨rfl, FIN.out⟩
set_option maxHeartbeats 1000000 in
theorem snap_cl_io (B b j l q : Nat) (tl : WS) (ts : SS) (e : Nat) (g : Bool) (s s' : DS) (data : List UInt8) (cj cp : Nat) (w0 w : World) (h : Jn B b j l q tl ts e g s w0 w) (xj : BxAt w cj (ptr j) 26) (xp : BxAt w cp (.string (mkB data)) 9) (k1 : 1 ≤ ts.k) (k2 : ts.k ≤ 64) (hx : ts.nx ≤ 1) (ha : ts.at_ + ts.nx * ts.k + ts.k ≤ s.sec.length) (hr : ts.rd = true) (hnw : ts.nw < 18446744073709551615) (hd : data.length ≤ 1000) (hd2 : data.length ≤ 43 * ts.k) (hn : s.opn.length ≤ 800000) (hf : s.fail < 9223372036854775808)
    (hP : Sl.putR s (ts.at_ + ts.nx * ts.k) ts.k data (ts.nw + 1) = (s', false)) :
    Calls Try.prog 28 #[ptr cj, ptr cp] w fun r w' => r = .returned (.int .i64 18) ∧ Jn B b j l q tl ⟨ts.at_, ts.k, false, ts.nw + 1, ts.nx⟩ e g s' w0 w' ∧ Kp w w' := by
  have P1 := Lib.hid (And.intro (h.call (Below.refl _ _).drew) (Kp.drew (w := w)))
  have RN := Lib.hid (renew_io B b j l q tl ts e g s s' data w0 w.drew P1.out.1 k1 k2 hx ha hr hnw hd hd2 hn hf hP)
  have x0 := xj.c0
  have x1 := xp.c0
  clear h xj xp hP
  generalize mkB data = PB at *
  go_enter Try.func28, Try.ntmps28
  go_wp2_with fail
  go_still_tail 4, (by kernel_rfl)
  change wpList _ _ _ _ _ w.drew
  clear x0 x1
  generalize w.drew = W at *
  go_wp2_with fail
  (with_reducible refine RN.out.mono ?_)
  rintro r w1 ⟨rfl, j1, k1⟩
  have FIN := Lib.hid (And.intro j1 (P1.out.2.trans k1))
  clear RN P1 j1 k1
  go_wp2
  go_ret
  exact ⟨rfl, FIN.out⟩
set_option maxHeartbeats 2000000 in
/-- a Snapshot, by what its closure does -/
theorem snapshot_by (B b j l q : Nat) (tl tl' : WS) (ts ts' : SS) (e e' : Nat) (s s' : DS) (x : Int) (data : List UInt8) (w0 w : World) (h : Jn B b j l q tl ts e true s w0 w) (hk : ts.k ≤ 64) (hd : data.length ≤ 43 * ts.k)
    (H : ∀ (w1 : World) (cj cp : Nat), Jn B b j l q tl ts e true s w0 w1 → BxAt w1 cj (ptr j) 26 → BxAt w1 cp (.string (mkB data)) 9 → Calls Try.prog 28 #[ptr cj, ptr cp] w1 fun r w' => r = .returned (.int .i64 x) ∧ Jn B b j l q tl' ts' e' true s' w0 w' ∧ Kp w1 w') :
    Calls Try.prog 13 #[ptr j, .string (mkB data)] w fun r w' => r = .returned (.int .i64 x) ∧ Jn B b j l q tl' ts' e' (x != 18) s' w0 w' ∧ Kp w w' := by
  have b1 := (Below.refl w.heap.size w).alloc (Nat.le_refl _) (.cells #[ptr j] 26)
  have b2 := b1.alloc (by simp) (.cells #[.string (mkB data)] 9)
  have sz : (w.alloc (.cells #[ptr j] 26)).heap.size = w.heap.size + 1 := by simp
  have b21 := (Below.refl (w.alloc (.cells #[ptr j] 26)).heap.size (w.alloc (.cells #[ptr j] 26))).alloc (Nat.le_refl _) (.cells #[.string (mkB data)] 9)
  have bx1 := bxAt_new (w.alloc (.cells #[ptr j] 26)) (.string (mkB data)) 9
  rw [sz] at bx1
  have P1 := Lib.hid (And.intro (h.call b2) (And.intro (Kp.below b2) (And.intro (show BxAt ((w.alloc (.cells #[ptr j] 26)).alloc (.cells #[.string (mkB data)] 9)) w.heap.size (ptr j) 26 from (b21.block w.heap.size (by rw [sz]; omega)).trans (bxAt_new w (ptr j) 26)) bx1)))
  have hz : ((mkB data).size : Int) ≤ 43 * (ts.k : Int) := by rw [mkB_size]; omega
  have hz2 : 43 * (ts.k : Int) ≤ 2752 := by omega
  generalize hW : (w.alloc (.cells #[ptr j] 26)).alloc (.cells #[.string (mkB data)] 9) = W at *
  have PN := Lib.hid (fun n => show Jn B b j l q tl ts e true s w0 (W.drewN n) ∧ Kp w (W.drewN n) ∧ BxAt (W.drewN n) w.heap.size (ptr j) 26 ∧ BxAt (W.drewN n) (w.heap.size + 1) (.string (mkB data)) 9 from by
    have k := Kp.below (below_drewN W n)
    exact ⟨P1.out.1.call (below_drewN W n), P1.out.2.1.trans k, P1.out.2.2.1.kp k (by decide), P1.out.2.2.2.kp k (by decide)⟩)
  have NO := Lib.hid (fun n => none_any (W.drewN n) (PN.out n).1.jn)
  have RM := Lib.hid (fun n => Sl.room_any (W.drewN n) (PN.out n).1.sl hk)
  have AT := Lib.hid (fun n => attempt_snap B b j l q tl tl' ts ts' e e' s s' x #[ptr w.heap.size, ptr (w.heap.size + 1)] w0 (W.drewN n) (PN.out n).1 (fun w1 j1 k1 => H w1 w.heap.size (w.heap.size + 1) j1 ((PN.out n).2.2.1.kp k1 (by decide)) ((PN.out n).2.2.2.kp k1 (by decide))))
  have x0 := P1.out.2.2.1.c0
  have x1 := P1.out.2.2.2.c0
  have c1 := P1.out.1.jn.c1
  clear h b1 b2 b21 bx1 sz H hd hk
  generalize mkB data = PB at *
  generalize 43 * (ts.k : Int) = RMK at *
  go_enter Try.func13, Try.ntmps13
  go_wp2_with fail
  (try rw [hW])
  clear hW P1
  generalize w.heap.size + 1 = cp at *
  go_quiet ((first | (go_at_call 25; exact Calls.quiet_of_same (NO.out _)) | (go_at_call 26; exact Calls.quiet_of_same (RM.out _)) | fail))
  have P2 := Lib.hid (PN.out nq)
  have AT2 := Lib.hid (AT.out nq)
  clear NO RM AT PN x0 x1 c1
  have x0 := P2.out.2.2.1.c0
  generalize W.drewN nq = W2 at *
  go_wp2_with fail
  (with_reducible refine AT2.out.mono ?_)
  rintro r w2 ⟨rfl, j2, k2⟩
  have FIN := Lib.hid (And.intro j2 (P2.out.2.1.trans k2))
  clear AT2 P2 j2 k2 x0
  go_wp2
  go_ret
  exact ⟨rfl, FIN.out⟩
theorem snapshot_ok (B b j l q : Nat) (tl : WS) (ts : SS) (e : Nat) (s s' : DS) (data : List UInt8) (w0 w : World) (h : Jn B b j l q tl ts e true s w0 w) (k1 : 1 ≤ ts.k) (k2 : ts.k ≤ 64) (hx : ts.nx ≤ 1) (ha : ts.at_ + ts.nx * ts.k + ts.k ≤ s.sec.length) (hr : ts.rd = true) (hnw : ts.nw < 18446744073709551615) (hd : data.length ≤ 1000) (hd2 : data.length ≤ 43 * ts.k) (hn : s.opn.length ≤ 800000) (hf : s.fail < 9223372036854775808) (n1 : 1 ≤ tl.n)
    (hP : Sl.putR s (ts.at_ + ts.nx * ts.k) ts.k data (ts.nw + 1) = (s', true)) :
    Calls Try.prog 13 #[ptr j, .string (mkB data)] w fun r w' => r = .returned (.int .i64 0) ∧ Jn B b j l q ⟨tl.at_, tl.n, some (ts.nw + 1, 0)⟩ ⟨ts.at_, ts.k, true, ts.nw + 1, 1 - ts.nx⟩ (ts.nw + 1) true s' w0 w' ∧ Kp w w' :=
  snapshot_by B b j l q tl _ ts _ e _ s s' 0 data w0 w h k2 hd2 (fun w1 cj cp j1 xj xp => snap_cl_ok B b j l q tl ts e true s s' data cj cp w0 w1 j1 xj xp k1 k2 hx ha hr hnw hd hd2 hn hf n1 hP)
theorem snapshot_io (B b j l q : Nat) (tl : WS) (ts : SS) (e : Nat) (s s' : DS) (data : List UInt8) (w0 w : World) (h : Jn B b j l q tl ts e true s w0 w) (k1 : 1 ≤ ts.k) (k2 : ts.k ≤ 64) (hx : ts.nx ≤ 1) (ha : ts.at_ + ts.nx * ts.k + ts.k ≤ s.sec.length) (hr : ts.rd = true) (hnw : ts.nw < 18446744073709551615) (hd : data.length ≤ 1000) (hd2 : data.length ≤ 43 * ts.k) (hn : s.opn.length ≤ 800000) (hf : s.fail < 9223372036854775808)
    (hP : Sl.putR s (ts.at_ + ts.nx * ts.k) ts.k data (ts.nw + 1) = (s', false)) :
    Calls Try.prog 13 #[ptr j, .string (mkB data)] w fun r w' => r = .returned (.int .i64 18) ∧ Jn B b j l q tl ⟨ts.at_, ts.k, false, ts.nw + 1, ts.nx⟩ e false s' w0 w' ∧ Kp w w' :=
  snapshot_by B b j l q tl _ ts _ e _ s s' 18 data w0 w h k2 hd2 (fun w1 cj cp j1 xj xp => snap_cl_io B b j l q tl ts e true s s' data cj cp w0 w1 j1 xj xp k1 k2 hx ha hr hnw hd hd2 hn hf hP)
end Go.Proofs.Ytmccoejliaakoaa.Jn
