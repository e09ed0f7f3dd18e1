/- The statements' function awake of layer 19; how their arguments are opened; the document's Same of layer 16; masks. -/
import Derived.Test.YtacgoobkpolcdaaSvQ
import Derived.ChangeOld
import Derived.ChangeMaps5
import Derived.ChangeSlices
import Derived.Deep.Slices
import Derived.Deep.QuietTactic
import Derived.Deep.LoopGhost
import Derived.ShutString
namespace Go.Proofs.Ytacgoobkpolcdaa.Sv
open Go.ChangeShapes Go.WideShapes Go.ChangeAt Go.RowKit Go.Joins
set_option maxRecDepth 100000
set_option maxRecDepth 100000
set_option linter.unusedVariables false
set_option linter.unusedSimpArgs false
theorem own : ownKnob Try.prog.godebug = none := by kernel_rfl
theorem laidOut : laidOutB Try.prog = true := by kernel_rfl
theorem open_nums {H : Type} {enc : TypeId × Value → H} {W : World} {r : Reach} {b0 base : Nat} {spare : Nat → Bool} {held : Bool} {v : Value} {d : DataW H} {p : List MemPlace}
    (hok : Value.okWide Try.prog W r b0 37 v) (h : DataW.Trod enc Try.prog W base spare held 37 v d p) :
    ∃ (ao : Option Addr) (l : List Int) (cap : Nat), v = .slice ao l.length cap ∧ l.length ≤ 9223372036854775807 ∧ Ns ao l W := by
  obtain ⟨ao, len, cap, rfl⟩ := okWide_slice Try.underlying37 hok
  obtain ⟨fuel, hf⟩ := h
  rcases Go.ChangeShapes.open_ints Try.underlying37 Try.underlying3 (by kernel_rfl) hf with ⟨hcs, hx⟩ | ⟨a, len', cap', zs, hcs, _, hl, hm, hz, hx, hcell, hwz⟩
  · simp [Value.cells] at hcs
    obtain ⟨rfl, rfl, rfl⟩ := hcs
    exact ⟨none, [], 0, rfl, by simp, ns_nil _ _⟩
  · simp [Value.cells] at hcs
    obtain ⟨rfl, rfl, rfl⟩ := hcs
    have hzl : len ≤ zs.length := by rw [hz]; split <;> omega
    have e : (zs.take len).length = len := by rw [List.length_take]; omega
    refine ⟨some a, zs.take len, cap, by rw [e], by rw [e]; unfold maxLen at hm; omega, fun h0 => ?_⟩
    rw [e] at h0
    obtain ⟨b, off, spot⟩ := a
    have hspot : spot = none := by simpa [Addr.add] using World.cell?_spot (hcell 0 (by omega))
    subst hspot
    refine ⟨b, off, rfl, World.block_lt_of_cell? _ _ (hcell 0 (by omega)), fun i x hi => ?_⟩
    have hil := (List.getElem?_eq_some_iff.1 hi).1
    rw [e] at hil
    rw [List.getElem?_take_of_lt hil] at hi
    rw [← addr_add, hcell i (by omega)]
    have hi2 := hi
    simp [hi2]
theorem qt_drewN {w w' : World} (h : Qt w w') (n : Nat) : Qt w (w'.drewN n) := h.trans ⟨by simp [World.drewN], by simp [World.drewN], by simp [World.drewN], by simp [World.drewN]⟩
def SaRel (l : List Int) (W : World) (g : Nat) (t : Value) (wx : World) : Prop := ∃ i : Nat, i + g = l.length ∧ t = .int .i64 (i : Int) ∧ Qt W wx
theorem same_any (l : List Int) (pa qa : Option Addr) (pc qc : Nat) (w : World) (hp : Ns pa l w) (hq : Ns qa l w) (hl : l.length ≤ 4000000) :
    Calls Try.prog 14 #[.slice pa l.length pc, .slice qa l.length qc] w fun e w' => e = .returned (.bool true) ∧ Qt w w' := by
  have P := Lib.hid hp
  have Q := Lib.hid hq
  have e0 : ((l.length : Int) != (l.length : Int)) = false := by simp
  clear hp hq
  go_enter Try.func14, Try.ntmps14
  go_wp2_with fail
  go_loopg [5] l.length (SaRel l w)
  case atStart => exact ⟨0, by omega, rfl, Qt.refl _⟩
  case round =>
    obtain ⟨i, hi, rfl, hB⟩ := hrel
    have KB := Lib.hid hB
    have NP := P.out.call (hB.below _)
    have NQ := Q.out.call (hB.below _)
    clear hB
    by_cases hlt : i < l.length
    · obtain ⟨b, off, rfl, hb, hat⟩ := NP (by omega)
      obtain ⟨b', off', rfl, hb', hat'⟩ := NQ (by omega)
      obtain ⟨p, hp⟩ : ∃ p, l[i]? = some p := ⟨_, List.getElem?_eq_getElem hlt⟩
      have hx := hat i p hp
      have hy := hat' i p hp
      have hlt' : (i : Int) < (l.length : Int) := by omega
      have HI := Lib.hid hi
      have hg0 : 0 < gk := by omega
      clear hat hat' NP NQ hi hp
      have e1 : (p != p) = false := by simp
      go_wp2_with fail
      go_quiet (fail)
      have K2 := Lib.hid (qt_drewN KB.out nq)
      go_wp2
      go_roundg (gk - 1)
      case measure => omega
      case rel => exact ⟨i + 1, by have := HI.out; omega, by go_num, K2.out⟩
    · have hge : (l.length : Int) ≤ (i : Int) := by omega
      have hdec : decide (i < l.length) = false := decide_eq_false hlt
      clear hi hlt NP NQ
      go_wp2
      go_ret
      exact ⟨rfl, KB.out⟩
theorem and_pow (n m : Int) (k : Nat) (hk : k ≤ 62) (hm : (BitVec.ofInt 64 m).toNat = 2 ^ k - 1) : bits .and .i64 n m = n % ((2 ^ k : Nat) : Int) := by
  have key : (BitVec.ofInt 64 n &&& BitVec.ofInt 64 m).toNat = (n % ((2 ^ 64 : Nat) : Int)).toNat % 2 ^ k := by
    rw [BitVec.toNat_and, BitVec.toNat_ofInt, hm, Nat.and_two_pow_sub_one_eq_mod]
  show IntKind.i64.wrap ((BitVec.ofInt 64 n &&& BitVec.ofInt 64 m).toNat : Nat) = n % ((2 ^ k : Nat) : Int)
  rw [key, IntKind.wrap_i64]
  have h2 : 2 ^ k ∣ 2 ^ 64 := Nat.pow_dvd_pow 2 (by omega)
  have h3 : 2 ^ k ≤ 2 ^ 62 := Nat.pow_le_pow_right (by omega) hk
  have h4 : 0 < 2 ^ k := Nat.pow_pos (by omega)
  generalize 2 ^ k = p at *
  have e : n % (p : Int) = (((n % ((2 ^ 64 : Nat) : Int)).toNat % p : Nat) : Int) := by
    rw [Int.natCast_emod, Int.toNat_of_nonneg (Int.emod_nonneg _ (by decide))]
    rw [Int.emod_emod_of_dvd]
    exact Int.natCast_dvd_natCast.2 h2
  rw [e]
  have := Nat.mod_lt (n % ((2 ^ 64 : Nat) : Int)).toNat h4
  omega
theorem wf_in {a : Int} (h : (Lit.int .i64 a).wf = true) : -9223372036854775808 ≤ a ∧ a ≤ 9223372036854775807 := by
  simp only [Lit.wf, Bool.and_eq_true, decide_eq_true_eq] at h
  exact ⟨Int.le_trans (by decide) h.1, Int.le_trans h.2 (by decide)⟩
set_option maxHeartbeats 4000000 in
theorem awake_any (w : World) : Calls Try.prog 6 #[] w fun e w' => e = .returned (.bool true) ∧ Below w.heap.size w w' := by
  have NW := Lib.hid new_any
  have H0 := Lib.hid (pm_new w)
  have B0 := Lib.hid ((Below.refl w.heap.size w).alloc (Nat.le_refl _) (.cells #[.map none, .map none] 44))
  have RE := Lib.hid (fun a b L T i n W h hB => ask_any w.heap.size w.heap.size a b L T i n W h hB)
  have TA := Lib.hid (fun a b L T i m hi W h => take_any w.heap.size w.heap.size a b L T i m hi W h)
  have BA := Lib.hid (fun a b L T i hi W h => backlog_any w.heap.size w.heap.size a b L T i hi W h)
  have i3 : I64 3 := by unfold I64; omega
  go_enter Try.func6, Try.ntmps6
  go_wp2_with fail
  (with_reducible refine (NW.out _).mono ?_)
  rintro e w1 ⟨rfl, rfl⟩
  generalize w.alloc (.cells #[.map none, .map none] 44) = W1 at *
  clear NW
  go_wp2_with fail
  (with_reducible refine (RE.out none none [] [] 3 10 _ H0.out B0.out.size).mono ?_)
  rintro e w2 ⟨rfl, a2, b2, h2, m2, -⟩
  have H2 := Lib.hid h2
  have B2 := Lib.hid (m2.below H0.out B0.out)
  clear h2 m2 H0 B0
  go_wp2_with fail
  (with_reducible refine (TA.out a2 b2 _ _ 3 4 i3 _ H2.out).mono ?_)
  rintro e w3 ⟨rfl, h3, m3⟩
  have H3 := Lib.hid h3
  have B3 := Lib.hid (m3.below H2.out B2.out)
  clear h3 m3 H2 B2
  have e1 : askA [] 3 10 = 0 := by decide
  have e2 : took (askL [] 3 10) 3 4 = 4 := by decide
  have e3 : vof (takL (askL [] 3 10) 3 4) 3 = 6 := by decide
  have E3 := Lib.hid e3
  clear e3
  rw [e1, e2]
  go_wp2_with fail
  (with_reducible refine (BA.out a2 b2 _ _ 3 i3 _ H3.out).mono ?_)
  rintro e w4 ⟨rfl, rfl⟩
  rw [E3.out]
  go_wp2
  go_ret
  exact ⟨rfl, B3.out⟩
end Go.Proofs.Ytacgoobkpolcdaa.Sv
