/- Package wal's reader: a sector that can be read. -/
import Derived.Test.YtcbemjckcmcelaaWlC
import Derived.StillTailTactics
import Derived.Deep.DeepCutAuto
import Derived.Deep.RegionHeld3
namespace Go.Proofs.Ytcbemjckcmcelaa.Wl
open Go.ChangeShapes Go.WideShapes Go.ChangeAt Go.RowKit Go.Joins
open Dk (Dk DS Own Moved ptr)
open Sl (Mv below_drewN rowOf)
set_option maxRecDepth 100000
set_option linter.unusedVariables false
set_option linter.unusedSimpArgs false
def wholeC (c : Option Cl) (e i : Nat) : Bool := match c with | some c => c.2.1 == e && c.2.2 == i | none => false
theorem whole_c (x : List UInt8) (e i : Nat) : whole x e i = wholeC (rdc x) e i := rfl
set_option maxHeartbeats 2000000 in
theorem next_no {B b q p e i : Nat} {t : WS} {d : DS} {w0 : World} (w : World) (h : Nx B b q p t e i d w0 w) (hi : i < t.n) (ht : t.at_ + t.n ≤ 1024) (hl : t.at_ + t.n ≤ d.sec.length) (hr : d.reads ≤ 1000000000) (ho : d.opn.length ≤ 1000000) (hf : d.fail ≠ 1) (hf2 : d.fail < 9223372036854775808) (hw : whole (Dk.newestOf d (t.at_ + i)) e i = false) :
    Calls Try.prog 45 #[ptr (p + 2), ptr p, ptr (p + 1)] w fun r w' => r = .returned (.tuple #[.string ⟨#[]⟩, .bool false, .int .i64 0]) ∧ Nx B b q p t e i (Dk.readR d ((t.at_ + i : Nat) : Int)).1 w0 w' ∧ Tx w w' := by
  have cq := h.cq
  have ci := h.ci
  have c0 := h.wl.c0
  have c1 := h.wl.c1
  have c2 := h.wl.c2
  have NX := Lib.hid h
  have HS : ((t.at_ + i : Nat) : Int) = (t.at_ : Int) + (i : Int) := by push_cast; rfl
  have k1 : ((i : Int) == (t.n : Int)) = false := by simp; omega
  have w1 : IntKind.i64.wrap ((t.at_ : Int) + (i : Int)) = (t.at_ : Int) + (i : Int) := IntWalk.i64_in _ (by omega)
  have s1 : (t.at_ : Int) + (i : Int) ≤ 1024 := by omega
  have s0 : 0 ≤ (t.at_ : Int) + (i : Int) := by omega
  have u1 : IntKind.u64.wrap (i : Int) = (i : Int) := IntWalk.u64_in _ (by omega)
  have u2 : (i : Int) % 18446744073709551616 = (i : Int) := by omega
  have EI : Hid (((i : Int) + 1) = ((i + 1 : Nat) : Int)) := Lib.hid (by omega)
  have i1 : (i : Int) ≤ 1024 := by omega
  have i0 : 0 ≤ (i : Int) := by omega
  have RDE := Lib.hid (fun j => Dk.read_any B b d ((t.at_ + i : Nat) : Int) (w.drewN j).drew ((h.call (below_drewN w j)).drew.dk) hr ho (by omega))
  have E := Dk.newest_read d (a := ((t.at_ + i : Nat) : Int)) (by omega) (by omega) hf
  have EN : ((t.at_ + i : Nat) : Int).toNat = t.at_ + i := by omega
  rw [EN] at E
  rw [E] at RDE ⊢
  rw [HS] at RDE
  generalize hD1 : DS.mk d.sec d.opn (d.fail - 1) (d.reads + 1) = D1 at *
  have FR := Lib.hid (fun w => read_any (mkB (Dk.newestOf d (t.at_ + i))) w)
  rw [mkB_data] at FR
  have HW := Lib.hid hw
  clear hw EN
  have NXJ := Lib.hid (fun j => NX.out.call (below_drewN w j))
  clear h HS E hD1 cq ci c0 c1 c2
  have cq := NX.out.cq
  have ci := NX.out.ci
  have c2 := NX.out.wl.c2
  obtain ⟨p2, hp2⟩ : ∃ p2, p2 = p + 2 := ⟨_, rfl⟩
  have HP2 := Lib.hid hp2
  rw [← hp2] at ci ⊢
  clear hp2
  go_enter Try.func45, Try.ntmps45
  go_wp2_with fail
  go_quiet (fail)
  have NX2 := Lib.hid (NXJ.out nq)
  have RD := Lib.hid (RDE.out nq)
  go_wp2_with fail
  clear RDE NXJ NX cq ci c2
  have T0 := Lib.hid (Tx.of_below (below_drewN w nq))
  generalize w.drewN nq = w at *
  have cq := NX2.out.cq
  have ci := NX2.out.ci
  have c0 := NX2.out.wl.c0
  have c1 := NX2.out.wl.c1
  have KD : Hid (∀ w3, Dk B b D1 w3 → Moved b w.drew w3 → w3.cell? ⟨p + 2, 0, none⟩ = some (.int .i64 (i : Int)) ∧ w3.cell? ⟨p, 0, none⟩ = some (ptr q) ∧ w3.cell? ⟨q, 0, none⟩ = some (ptr b) ∧ w3.cell? ⟨q, 1, none⟩ = some (.int .i64 (t.at_ : Int))) := Lib.hid (fun w3 k3 m3 => by
    have n3 := NX2.out.drew.disk k3 m3
    exact ⟨n3.ci, n3.cq, n3.wl.c0, n3.wl.c1⟩)
  have KS : Hid (w.drew.cell? ⟨p + 2, 0, none⟩ = some (.int .i64 (i : Int)) ∧ w.drew.cell? ⟨p, 0, none⟩ = some (ptr q) ∧ w.drew.cell? ⟨q, 0, none⟩ = some (ptr b) ∧ w.drew.cell? ⟨q, 1, none⟩ = some (.int .i64 (t.at_ : Int))) := Lib.hid ⟨ci, cq, c0, c1⟩
  rw [← HP2.out] at KD KS ci
  generalize (t.n : Int) = K at *
  generalize (t.at_ : Int) = A at *
  generalize hI : (i : Int) = I at *
  have HI := Lib.hid hI
  clear hI
  generalize Dk.newestOf d (t.at_ + i) = X at *
  have ne : (((0 : Nat) : Int) != 0) = false := by decide
  go_region_held3 (fun w' => w'.cell? ⟨p2, 0, none⟩ = some (.int .i64 I) ∧ w'.cell? ⟨p, 0, none⟩ = some (ptr q) ∧ w'.cell? ⟨q, 0, none⟩ = some (ptr b) ∧ w'.cell? ⟨q, 1, none⟩ = some (.int .i64 A)) (first | exact KS.out | assumption | fail) (first | (go_at_call 46; (with_reducible refine RD.out.mono ?_); rintro e1 w3 ⟨rfl, k3, m3⟩; (have kn := KD.out w3 k3 m3)) | fail)
  have N3 := Lib.hid (NX2.out.drew.disk k3 m3)
  have T3 := Lib.hid (T0.out.trans ((Tx.of_below (Below.refl w.heap.size w).drew).trans (Tx.of_moved NX2.out.drew.dk m3)))
  clear KD KS RD NX2 kn k3 m3 cq ci c0 c1
  go_wp2_with fail
  (with_reducible refine (FR.out _).mono ?_)
  rintro e1 w4 ⟨rfl, b4⟩
  have N4 := Lib.hid (N3.out.call b4)
  have T4 := Lib.hid (T3.out.trans (Tx.of_below b4))
  clear FR N3 b4 T3 T0
  have cN := N4.out
  rw [whole_c] at HW
  generalize rdc X = c at *
  clear cN
  cases c with
  | none =>
    have FIN := Lib.hid (And.intro (N4.out.call ((Below.refl _ _).alloc (Nat.le_refl _) (.cells #[.string ⟨#[]⟩, .int .u64 0, .int .u64 0] 80))) (T4.out.trans (Tx.of_below ((Below.refl _ _).alloc (Nat.le_refl _) (.cells #[.string ⟨#[]⟩, .int .u64 0, .int .u64 0] 80)))))
    have EV : cellOf none = .agg #[.string ⟨#[]⟩, .int .u64 0, .int .u64 0] := rfl
    have EB : (none : Option Cl).isSome = false := rfl
    rw [EV, EB]
    clear N4 EV EB
    go_wp2
    go_ret3
    exact ⟨rfl, FIN.out⟩
  | some c =>
    obtain ⟨P, f, m⟩ := c
    have FIN := Lib.hid (And.intro (N4.out.call ((Below.refl _ _).alloc (Nat.le_refl _) (.cells #[.string (mkB P), .int .u64 (f : Int), .int .u64 (m : Int)] 80))) (T4.out.trans (Tx.of_below ((Below.refl _ _).alloc (Nat.le_refl _) (.cells #[.string (mkB P), .int .u64 (f : Int), .int .u64 (m : Int)] 80)))))
    have EV : cellOf (some (P, f, m)) = .agg #[.string (mkB P), .int .u64 (f : Int), .int .u64 (m : Int)] := rfl
    have EB : (some (P, f, m) : Option Cl).isSome = true := rfl
    rw [EV, EB]
    clear EV EB
    have ce := N4.out.ce
    have ci := N4.out.ci
    rw [HI.out, ← HP2.out] at ci
    obtain ⟨p1, hp1⟩ : ∃ p1, p1 = p + 1 := ⟨_, rfl⟩
    rw [← hp1] at ce ⊢
    have l1 : p1 < w4.heap.size := by rw [hp1]; exact Dk.lt_of_heap N4.out.be
    have l2 : p2 < w4.heap.size := by rw [HP2.out]; exact Dk.lt_of_heap N4.out.bi
    have n1 : p1 ≠ w4.heap.size := by omega
    have n2 : p2 ≠ w4.heap.size := by omega
    clear hp1 N4
    have HWc := HW.out
    unfold wholeC at HWc
    clear HW
    have HIo := HI.out
    by_cases hfe : f = e
    · have hmi : m ≠ i := fun hh => by simp [hfe, hh] at HWc
      have x1 : ((f : Int) != (e : Int)) = false := by simp [hfe]
      have x2 : ((m : Int) != I) = true := by rw [← HIo]; simp; omega
      have x3 : ((m : Int) == I) = false := by rw [← HIo]; simp; omega
      have x4 : ((f : Int) == (e : Int)) = true := by simp [hfe]
      clear HWc HIo hmi hfe HI
      generalize (f : Int) = FF at *
      generalize (m : Int) = MM at *
      generalize (e : Int) = EE at *
      generalize mkB P = PP at *
      go_wp2
      go_ret3
      exact ⟨rfl, FIN.out⟩
    · have x1 : ((f : Int) != (e : Int)) = true := by simp; omega
      have x4 : ((f : Int) == (e : Int)) = false := by simp; omega
      clear HWc HIo hfe HI
      generalize (f : Int) = FF at *
      generalize (m : Int) = MM at *
      generalize (e : Int) = EE at *
      generalize mkB P = PP at *
      go_wp2
      go_ret3
      exact ⟨rfl, FIN.out⟩
set_option maxHeartbeats 2000000 in
theorem next_yes {B b q p e i : Nat} {t : WS} {d : DS} {w0 : World} (w : World) (h : Nx B b q p t e i d w0 w) (hi : i < t.n) (ht : t.at_ + t.n ≤ 1024) (hl : t.at_ + t.n ≤ d.sec.length) (hr : d.reads ≤ 1000000000) (ho : d.opn.length ≤ 1000000) (hf : d.fail ≠ 1) (hf2 : d.fail < 9223372036854775808) (hw : whole (Dk.newestOf d (t.at_ + i)) e i = true) :
    Calls Try.prog 45 #[ptr (p + 2), ptr p, ptr (p + 1)] w fun r w' => r = .returned (.tuple #[.string (mkB (payOf (Dk.newestOf d (t.at_ + i)))), .bool true, .int .i64 0]) ∧ Nx B b q p t e (i + 1) (Dk.readR d ((t.at_ + i : Nat) : Int)).1 w0 w' ∧ Tx w w' := by
  have cq := h.cq
  have ci := h.ci
  have c0 := h.wl.c0
  have c1 := h.wl.c1
  have c2 := h.wl.c2
  have NX := Lib.hid h
  have HS : ((t.at_ + i : Nat) : Int) = (t.at_ : Int) + (i : Int) := by push_cast; rfl
  have k1 : ((i : Int) == (t.n : Int)) = false := by simp; omega
  have w1 : IntKind.i64.wrap ((t.at_ : Int) + (i : Int)) = (t.at_ : Int) + (i : Int) := IntWalk.i64_in _ (by omega)
  have s1 : (t.at_ : Int) + (i : Int) ≤ 1024 := by omega
  have s0 : 0 ≤ (t.at_ : Int) + (i : Int) := by omega
  have u1 : IntKind.u64.wrap (i : Int) = (i : Int) := IntWalk.u64_in _ (by omega)
  have u2 : (i : Int) % 18446744073709551616 = (i : Int) := by omega
  have EI : Hid (((i : Int) + 1) = ((i + 1 : Nat) : Int)) := Lib.hid (by omega)
  have i1 : (i : Int) ≤ 1024 := by omega
  have i0 : 0 ≤ (i : Int) := by omega
  have RDE := Lib.hid (fun j => Dk.read_any B b d ((t.at_ + i : Nat) : Int) (w.drewN j).drew ((h.call (below_drewN w j)).drew.dk) hr ho (by omega))
  have E := Dk.newest_read d (a := ((t.at_ + i : Nat) : Int)) (by omega) (by omega) hf
  have EN : ((t.at_ + i : Nat) : Int).toNat = t.at_ + i := by omega
  rw [EN] at E
  rw [E] at RDE ⊢
  rw [HS] at RDE
  generalize hD1 : DS.mk d.sec d.opn (d.fail - 1) (d.reads + 1) = D1 at *
  have FR := Lib.hid (fun w => read_any (mkB (Dk.newestOf d (t.at_ + i))) w)
  rw [mkB_data] at FR
  have HW := Lib.hid hw
  clear hw EN
  generalize Dk.newestOf d (t.at_ + i) = X at *
  generalize hP : payOf X = P at *
  have HP := Lib.hid hP
  clear hP
  have NXJ := Lib.hid (fun j => NX.out.call (below_drewN w j))
  clear h HS E hD1 cq ci c0 c1 c2
  have cq := NX.out.cq
  have ci := NX.out.ci
  have c2 := NX.out.wl.c2
  obtain ⟨p2, hp2⟩ : ∃ p2, p2 = p + 2 := ⟨_, rfl⟩
  have HP2 := Lib.hid hp2
  rw [← hp2] at ci ⊢
  clear hp2
  go_enter Try.func45, Try.ntmps45
  go_wp2_with fail
  go_quiet (fail)
  have NX2 := Lib.hid (NXJ.out nq)
  have RD := Lib.hid (RDE.out nq)
  go_wp2_with fail
  clear RDE NXJ NX cq ci c2
  have T0 := Lib.hid (Tx.of_below (below_drewN w nq))
  generalize w.drewN nq = w at *
  have cq := NX2.out.cq
  have ci := NX2.out.ci
  have c0 := NX2.out.wl.c0
  have c1 := NX2.out.wl.c1
  have KD : Hid (∀ w3, Dk B b D1 w3 → Moved b w.drew w3 → w3.cell? ⟨p + 2, 0, none⟩ = some (.int .i64 (i : Int)) ∧ w3.cell? ⟨p, 0, none⟩ = some (ptr q) ∧ w3.cell? ⟨q, 0, none⟩ = some (ptr b) ∧ w3.cell? ⟨q, 1, none⟩ = some (.int .i64 (t.at_ : Int))) := Lib.hid (fun w3 k3 m3 => by
    have n3 := NX2.out.drew.disk k3 m3
    exact ⟨n3.ci, n3.cq, n3.wl.c0, n3.wl.c1⟩)
  have KS : Hid (w.drew.cell? ⟨p + 2, 0, none⟩ = some (.int .i64 (i : Int)) ∧ w.drew.cell? ⟨p, 0, none⟩ = some (ptr q) ∧ w.drew.cell? ⟨q, 0, none⟩ = some (ptr b) ∧ w.drew.cell? ⟨q, 1, none⟩ = some (.int .i64 (t.at_ : Int))) := Lib.hid ⟨ci, cq, c0, c1⟩
  rw [← HP2.out] at KD KS ci
  generalize (t.n : Int) = K at *
  generalize (t.at_ : Int) = A at *
  generalize hI : (i : Int) = I at *
  have HI := Lib.hid hI
  clear hI
  have ne : (((0 : Nat) : Int) != 0) = false := by decide
  go_region_held3 (fun w' => w'.cell? ⟨p2, 0, none⟩ = some (.int .i64 I) ∧ w'.cell? ⟨p, 0, none⟩ = some (ptr q) ∧ w'.cell? ⟨q, 0, none⟩ = some (ptr b) ∧ w'.cell? ⟨q, 1, none⟩ = some (.int .i64 A)) (first | exact KS.out | assumption | fail) (first | (go_at_call 46; (with_reducible refine RD.out.mono ?_); rintro e1 w3 ⟨rfl, k3, m3⟩; (have kn := KD.out w3 k3 m3)) | fail)
  have N3 := Lib.hid (NX2.out.drew.disk k3 m3)
  have T3 := Lib.hid (T0.out.trans ((Tx.of_below (Below.refl w.heap.size w).drew).trans (Tx.of_moved NX2.out.drew.dk m3)))
  clear KD KS RD NX2 kn k3 m3 cq ci c0 c1
  go_wp2_with fail
  (with_reducible refine (FR.out _).mono ?_)
  rintro e1 w4 ⟨rfl, b4⟩
  have N4 := Lib.hid (N3.out.call b4)
  have T4 := Lib.hid (T3.out.trans (Tx.of_below b4))
  clear FR N3 b4 T3 T0
  have cN := N4.out
  have HR := Sl.whole_rdc HW.out
  rw [HP.out] at HR
  rw [HR]
  clear cN HR HW HP
  have FIN := Lib.hid (And.intro ((N4.out.next EI.out).call ((Below.refl _ _).alloc (Nat.le_refl _) (.cells #[.string (mkB P), .int .u64 (e : Int), .int .u64 (i : Int)] 80))) (T4.out.trans ((Tx.set (o := 0) (x := .int .i64 (I + 1)) N4.out.bi (by decide)).trans (Tx.of_below ((Below.refl _ _).alloc (Nat.le_refl _) (.cells #[.string (mkB P), .int .u64 (e : Int), .int .u64 (i : Int)] 80))))))
  have EV : cellOf (some (P, e, i)) = .agg #[.string (mkB P), .int .u64 (e : Int), .int .u64 (i : Int)] := rfl
  have EB : (some (P, e, i) : Option Cl).isSome = true := rfl
  rw [EV, EB]
  rw [HI.out] at FIN ⊢
  clear EV EB EI
  have ce := N4.out.ce
  have ci := N4.out.ci
  have fi := N4.out.fi
  rw [HI.out, ← HP2.out] at ci
  rw [← HP2.out] at fi FIN
  obtain ⟨p1, hp1⟩ : ∃ p1, p1 = p + 1 := ⟨_, rfl⟩
  rw [← hp1] at ce ⊢
  have l1 : p1 < w4.heap.size := by rw [hp1]; exact Dk.lt_of_heap N4.out.be
  have l2 : p2 < w4.heap.size := by rw [HP2.out]; exact Dk.lt_of_heap N4.out.bi
  have n1 : p1 ≠ w4.heap.size := by omega
  have n2 : p2 ≠ w4.heap.size := by omega
  clear hp1 N4 HI
  generalize (e : Int) = EE at *
  go_wp2
  go_ret3
  exact ⟨rfl, FIN.out⟩
end Go.Proofs.Ytcbemjckcmcelaa.Wl
