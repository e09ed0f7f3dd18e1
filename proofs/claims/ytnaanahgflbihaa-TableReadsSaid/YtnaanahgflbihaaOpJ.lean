/- Package ops' Read. -/
import Derived.Test.YtnaanahgflbihaaOpI
namespace Go.Proofs.Ytnaanahgflbihaa.Ox
open Go.ChangeShapes Go.WideShapes Go.ChangeAt Go.RowKit Go.Joins
open Oc
open Pm (Tk chk chk_iff)
set_option maxRecDepth 100000
set_option maxRecDepth 100000
set_option linter.unusedVariables false
set_option linter.unusedSimpArgs false
/-- what is told of bytes: the op that has them, or none -/
def readO (l : List UInt8) : Od × Int := match readR l with
  | some o => (o, 0)
  | none => (od0, 10)
theorem readO_yes {l : List UInt8} (h : ended (takeR (some l)).2 = true) (hc : chkR (opR (takeR (some l)).1) = true) : readO l = (opR (takeR (some l)).1, 0) := by
  have e := take_read (some l)
  have h1 : (readM (some l)).1 = opR (takeR (some l)).1 := by rw [← e]
  have h2 : (readM (some l)).2 = some [] := by rw [← e]; simpa [ended] using h
  unfold readO
  rw [readR_of h2 (by rw [h1]; exact hc), h1]
theorem readO_no {l : List UInt8} (h : ¬ (ended (takeR (some l)).2 = true ∧ chkR (opR (takeR (some l)).1) = true)) : readO l = (od0, 10) := by
  have e := take_read (some l)
  have h1 : (readM (some l)).1 = opR (takeR (some l)).1 := by rw [← e]
  have h2 : (readM (some l)).2 = (takeR (some l)).2 := by rw [← e]
  unfold readO
  rw [readR_not (fun k => h ⟨by rw [← h2, k.1]; rfl, by rw [← h1]; exact k.2⟩)]
theorem cf_admit (v : Value) (w : World) : (callFunc 110 #[v]).run Try.prog w = .ok (.enter 110 #[v]) w := by kernel_rfl
theorem cf_remove (v : Value) (w : World) : (callFunc 111 #[v]).run Try.prog w = .ok (.enter 111 #[v]) w := by kernel_rfl
theorem cf_resize (v : Value) (w : World) : (callFunc 112 #[v]).run Try.prog w = .ok (.enter 112 #[v]) w := by kernel_rfl
theorem cf_mode (v : Value) (w : World) : (callFunc 113 #[v]).run Try.prog w = .ok (.enter 113 #[v]) w := by kernel_rfl
theorem cf_unknown (v : Value) (w : World) : (callFunc 114 #[v]).run Try.prog w = .ok (.enter 114 #[v]) w := by kernel_rfl
/-- an interface's value of ops of one kind, and its method -/
theorem fd_op (f : Fd) : ∃ T v fn, f.v = .iface T v ∧ (∀ w, (method 251 T v "horarium/ops.op").run Try.prog w = .ok (fn, v) w) ∧ (∀ w, (callFunc fn #[v]).run Try.prog w = .ok (.enter fn #[v]) w) ∧ ∀ w, Calls Try.prog fn #[v] w fun e w' => e = .returned (opR f).v ∧ Below w.heap.size w w' := by
  cases f with
  | admit t s => exact ⟨_, _, _, rfl, m_admit _, cf_admit _, op_admit t s⟩
  | remove i => exact ⟨_, _, _, rfl, m_remove _, cf_remove _, op_remove i⟩
  | resize i c => exact ⟨_, _, _, rfl, m_resize _, cf_resize _, op_resize i c⟩
  | mode m => exact ⟨_, _, _, rfl, m_mode _, cf_mode _, op_mode m⟩
  | unknown k => exact ⟨_, _, _, rfl, m_unknown _, cf_unknown _, op_unknown k⟩
theorem read_env {st : St} {s : ByteArray} {w w2 w3 : World} {o : Od} (k2 : Rd RC (w.heap.size + 1) st w2) (a2 : Apart (w.heap.size + 1) ((w.alloc (.cells od0.cs 29)).alloc (.cells #[.string s, .bool false] RC)) w2) (b3 : Below w2.heap.size w2 w3) :
    Rd RC (w.heap.size + 1) st (w3.alloc (.cells o.cs 29)) ∧ w.heap.size ≠ w3.heap.size ∧ ∀ w5, Below (w3.alloc (.cells o.cs 29)).heap.size (w3.alloc (.cells o.cs 29)) w5 → At w5 w.heap.size od0 ∧ At w5 w3.heap.size o ∧ Below w.heap.size w w5 := by
  have b4 : Below w3.heap.size w3 (w3.alloc (.cells o.cs 29)) := (Below.refl _ _).alloc (Nat.le_refl _) _
  have p0 : At ((w.alloc (.cells od0.cs 29)).alloc (.cells #[.string s, .bool false] RC)) w.heap.size od0 := (at_new w od0).call ((Below.refl _ _).alloc (Nat.le_refl _) _)
  have p2 : At w2 w.heap.size od0 := (a2.block w.heap.size (by simp; omega) (by omega)).trans p0
  have p4 := (p2.call b3).call b4
  have s2 := a2.size
  simp only [World.size_alloc] at s2
  have s3 := b3.size
  refine ⟨(k2.call b3).call b4, by omega, fun w5 h5 => ⟨p4.call h5, (at_new w3 o).call h5, ?_⟩⟩
  have c1 : Below w.heap.size w ((w.alloc (.cells od0.cs 29)).alloc (.cells #[.string s, .bool false] RC)) := ((Below.refl _ _).alloc (Nat.le_refl _) _).alloc (by simp) _
  have c2 := c1.trans (a2.below (by omega) (by simp; omega))
  have c3 := c2.trans (b3.mono c2.size)
  have c4 := c3.trans (b4.mono c3.size)
  exact c4.trans (h5.mono c4.size)
set_option maxHeartbeats 4000000 in
theorem read_at (l : List UInt8) (w : World) (hl : l.length ≤ 1000000) :
    Calls Try.prog 54 #[.string (mkB l)] w fun e w' => e = .returned (.tuple #[(readO l).1.v, .int .i64 (readO l).2]) ∧ Below w.heap.size w w' := by
  have RR := Lib.hid (read_any (mkB l) (w.alloc (.cells od0.cs 29)))
  have K1 : Rd RC (w.alloc (.cells od0.cs 29)).heap.size (some l) ((w.alloc (.cells od0.cs 29)).alloc (.cells #[.string (mkB l), .bool false] RC)) := heap_alloc_new _ _
  have TK := Lib.hid (take_any _ K1 hl)
  have RY := readO_yes (l := l)
  have RN := readO_no (l := l)
  clear K1 hl
  generalize takeR (some l) = x at *
  obtain ⟨f, st⟩ := x
  simp only at TK RY RN
  obtain ⟨T, v, fn, ef, MT, CF, OP⟩ := fd_op f
  have OPC := Lib.hid OP
  clear OP
  rw [ef] at TK
  clear ef
  generalize opR f = o at *
  have CK := Lib.hid (check_any o)
  have HZ := Lib.hid (fun w2 w3 k2 a2 b3 => read_env (st := st) (s := mkB l) (w := w) (w2 := w2) (w3 := w3) (o := o) k2 a2 b3)
  have BC := Lib.hid (fun W => box_cells W o)
  rw [World.size_alloc] at TK RR
  generalize mkB l = s at *
  cases he : ended st with
  | false =>
    rw [RN (by rw [he]; simp)]
    clear RY RN
    have EN : Hid (∀ W, Rd RC (w.heap.size + 1) st W → Calls Try.prog 47 #[self (w.heap.size + 1)] W fun e w' => e = .returned (.bool false) ∧ w' = W) := Lib.hid (fun W k => by have := end_rd _ st W k; rw [he] at this; exact this)
    clear he CK
    obtain ⟨k, ⟨i, c, d, t, m⟩, sv, id, cc, mo⟩ := o
    simp only [Od.v, Od.cs, od0, tk0] at *
    go_enter Try.func54, Try.ntmps54
    go_wp2_with fail
    (with_reducible refine RR.out.mono ?_)
    rintro e w1 ⟨rfl, rfl⟩
    clear RR
    go_wp2_with fail
    (with_reducible refine TK.out.mono ?_)
    rintro e w2 ⟨rfl, k2, a2⟩
    have A2 := Lib.hid (And.intro k2 a2)
    clear TK k2 a2
    go_wp2_with fail
    (with_reducible refine (OPC.out _).mono ?_)
    rintro e w3 ⟨rfl, b3⟩
    obtain ⟨k4, ne, h5⟩ := HZ.out w2 w3 A2.out.1 A2.out.2 b3
    have K4 := Lib.hid k4
    obtain ⟨z0, z1, z2⟩ := h5 _ (Below.refl _ _)
    have Z2 := Lib.hid z2
    obtain ⟨c0, c1, c2, c3, c4, c5, c6, c7, c8, c9⟩ := z0.cells
    have f0 := z0.fz
    have ne' := Ne.symm ne
    clear A2 b3 HZ k4 h5 OPC z2 z0 z1
    go_wp2_with fail
    (with_reducible refine (EN.out _ K4.out).mono ?_)
    rintro e w5 ⟨rfl, rfl⟩
    clear EN
    go_wp2
    refine bodyPost_ret (v := .tuple #[Od.v od0, .int .i64 10]) (by simp [results, Try.results54, go_sem, Od.v, Od.cs, od0, tk0, c0, c1, c2, c3, c4, c5, c6, c7, c8, c9]) rfl ⟨rfl, ?_⟩
    exact setOp_below Z2.out (Nat.le_refl _) od0
  | true =>
    have EN : Hid (∀ W, Rd RC (w.heap.size + 1) st W → Calls Try.prog 47 #[self (w.heap.size + 1)] W fun e w' => e = .returned (.bool true) ∧ w' = W) := Lib.hid (fun W k => by have := end_rd _ st W k; rw [he] at this; exact this)
    cases hc : chkR o with
    | false =>
      rw [RN (by rw [hc]; simp)]
      rw [hc] at CK
      clear RY RN he hc
      obtain ⟨k, ⟨i, c, d, t, m⟩, sv, id, cc, mo⟩ := o
      simp only [Od.v, Od.cs, od0, tk0] at *
      go_enter Try.func54, Try.ntmps54
      go_wp2_with fail
      (with_reducible refine RR.out.mono ?_)
      rintro e w1 ⟨rfl, rfl⟩
      clear RR
      go_wp2_with fail
      (with_reducible refine TK.out.mono ?_)
      rintro e w2 ⟨rfl, k2, a2⟩
      have A2 := Lib.hid (And.intro k2 a2)
      clear TK k2 a2
      go_wp2_with fail
      (with_reducible refine (OPC.out _).mono ?_)
      rintro e w3 ⟨rfl, b3⟩
      obtain ⟨k4, ne, h5⟩ := HZ.out w2 w3 A2.out.1 A2.out.2 b3
      have K4 := Lib.hid k4
      have H5 := Lib.hid h5
      obtain ⟨a0, a1, a2, a3, a4, a5, a6, a7, a8, a9⟩ := BC.out w3
      have ne' := Ne.symm ne
      clear A2 b3 HZ k4 h5 OPC BC
      go_wp2_with fail
      (with_reducible refine (EN.out _ K4.out).mono ?_)
      rintro e w5 ⟨rfl, rfl⟩
      clear EN K4
      go_wp2_with fail
      (with_reducible refine (CK.out _).mono ?_)
      rintro e w6 ⟨rfl, b6⟩
      obtain ⟨z0, z1, z2⟩ := H5.out w6 b6
      have Z2 := Lib.hid z2
      obtain ⟨c0, c1, c2, c3, c4, c5, c6, c7, c8, c9⟩ := z0.cells
      have f0 := z0.fz
      clear b6 H5 CK z0 z1 z2 a0 a1 a2 a3 a4 a5 a6 a7 a8 a9
      go_wp2
      refine bodyPost_ret (v := .tuple #[Od.v od0, .int .i64 10]) (by simp [results, Try.results54, go_sem, Od.v, Od.cs, od0, tk0, c0, c1, c2, c3, c4, c5, c6, c7, c8, c9]) rfl ⟨rfl, ?_⟩
      exact setOp_below Z2.out (Nat.le_refl _) od0
    | true =>
      rw [RY he hc]
      rw [hc] at CK
      clear RY RN he hc
      obtain ⟨k, ⟨i, c, d, t, m⟩, sv, id, cc, mo⟩ := o
      simp only [Od.v, Od.cs, od0, tk0] at *
      go_enter Try.func54, Try.ntmps54
      go_wp2_with fail
      (with_reducible refine RR.out.mono ?_)
      rintro e w1 ⟨rfl, rfl⟩
      clear RR
      go_wp2_with fail
      (with_reducible refine TK.out.mono ?_)
      rintro e w2 ⟨rfl, k2, a2⟩
      have A2 := Lib.hid (And.intro k2 a2)
      clear TK k2 a2
      go_wp2_with fail
      (with_reducible refine (OPC.out _).mono ?_)
      rintro e w3 ⟨rfl, b3⟩
      obtain ⟨k4, ne, h5⟩ := HZ.out w2 w3 A2.out.1 A2.out.2 b3
      have K4 := Lib.hid k4
      have H5 := Lib.hid h5
      obtain ⟨a0, a1, a2, a3, a4, a5, a6, a7, a8, a9⟩ := BC.out w3
      have ne' := Ne.symm ne
      clear A2 b3 HZ k4 h5 OPC BC
      go_wp2_with fail
      (with_reducible refine (EN.out _ K4.out).mono ?_)
      rintro e w5 ⟨rfl, rfl⟩
      clear EN K4
      go_wp2_with fail
      (with_reducible refine (CK.out _).mono ?_)
      rintro e w6 ⟨rfl, b6⟩
      obtain ⟨z0, z1, z2⟩ := H5.out w6 b6
      have Z2 := Lib.hid z2
      obtain ⟨c0, c1, c2, c3, c4, c5, c6, c7, c8, c9⟩ := z0.cells
      obtain ⟨d0, d1, d2, d3, d4, d5, d6, d7, d8, d9⟩ := z1.cells
      have f0 := z0.fz
      clear b6 H5 CK z0 z1 z2 a0 a1 a2 a3 a4 a5 a6 a7 a8 a9
      go_wp2
      refine bodyPost_ret (v := .tuple #[Od.v ⟨k, ⟨i, c, d, t, m⟩, sv, id, cc, mo⟩, .int .i64 0]) (by simp [results, Try.results54, go_sem, Od.v, Od.cs, c0, c1, c2, c3, c4, c5, c6, c7, c8, c9]) rfl ⟨rfl, ?_⟩
      exact setOp_below Z2.out (Nat.le_refl _) ⟨k, ⟨i, c, d, t, m⟩, sv, id, cc, mo⟩
end Go.Proofs.Ytnaanahgflbihaa.Ox
