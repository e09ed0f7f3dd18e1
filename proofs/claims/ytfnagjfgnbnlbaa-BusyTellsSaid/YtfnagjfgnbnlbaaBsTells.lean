/- horariumlaw11.BusyTells answers true at every row of tasks, every row of three numbers and every time: work is told as the document tells it. No condition. -/
import Derived.Test.YtfnagjfgnbnlbaaBsT
import Derived.Deep.DeepCutAuto
import Derived.BigQuiet
namespace Go.Proofs.Ytfnagjfgnbnlbaa.busyTells
open Go.ChangeShapes Go.WideShapes Go.ChangeAt Go.RowKit Go.Joins
set_option maxRecDepth 100000
set_option linter.unusedVariables false
set_option linter.unusedSimpArgs false
open Pm Bs

theorem and_pow (n m : Int) (k : Nat) (hk : k ≤ 62) (hm : (BitVec.ofInt 64 m).toNat = 2 ^ k - 1) : bits .and .i64 n m = n % ((2 ^ k : Nat) : Int) := by
  have key : (BitVec.ofInt 64 n &&& BitVec.ofInt 64 m).toNat = (n % ((2 ^ 64 : Nat) : Int)).toNat % 2 ^ k := by
    rw [BitVec.toNat_and, BitVec.toNat_ofInt, hm, Nat.and_two_pow_sub_one_eq_mod]
  show IntKind.i64.wrap ((BitVec.ofInt 64 n &&& BitVec.ofInt 64 m).toNat : Nat) = n % ((2 ^ k : Nat) : Int)
  rw [key, IntKind.wrap_i64]
  have h2 : 2 ^ k ∣ 2 ^ 64 := Nat.pow_dvd_pow 2 (by omega)
  have h3 : 2 ^ k ≤ 2 ^ 62 := Nat.pow_le_pow_right (by omega) hk
  have h4 : 0 < 2 ^ k := Nat.pow_pos (by omega)
  generalize 2 ^ k = p at *
  have e : n % (p : Int) = (((n % ((2 ^ 64 : Nat) : Int)).toNat % p : Nat) : Int) := by
    rw [Int.natCast_emod, Int.toNat_of_nonneg (Int.emod_nonneg _ (by decide))]
    rw [Int.emod_emod_of_dvd]
    exact Int.natCast_dvd_natCast.2 h2
  rw [e]
  have := Nat.mod_lt (n % ((2 ^ 64 : Nat) : Int)).toNat h4
  omega
set_option maxRecDepth 100000 in
set_option maxHeartbeats 8000000 in
theorem walk (ar : Option Addr) (r : List Tk) (cr : Nat) (ao : Option Addr) (l : List Tri) (cap : Nat) (x : Int) (w : World) (hR : Ts ar r w) (hr : r.length ≤ 9223372036854775807) (hrc : r.length ≤ cr) (hT : Tris ao l w) (hl : l.length ≤ 9223372036854775807) (hok : ∀ x ∈ l, x.Ok) :
    Calls Try.prog 3 #[.slice ar r.length cr, .slice ao l.length cap, .int .i64 x] w fun e w' => e = .returned (.bool true) ∧ Below w.heap.size w w' := by
  have AW := Lib.hid awake_any
  have FE := Lib.hid (fun w => few_any r ar cr w hr hrc)
  have TE := Lib.hid (fun w h => tells_any (r.take 3) ar cr x w h (by rw [List.length_take]; omega))
  have RT := Lib.hid (hR.take 3)
  have MA := Lib.hid (fun w h => made_any l ao cap w h hl hok)
  have TI := Lib.hid hT
  obtain ⟨y, hy⟩ : ∃ y, bits .and .i64 x 255 = y := ⟨_, rfl⟩
  have TM := Lib.hid (fun am cm x w h => tells_any (made8 l) am cm x w h (by rw [made8_len]; omega))
  clear hR hT hok hrc
  generalize r.take 3 = r2 at *
  go_enter Try.func3, Try.ntmps3
  go_wp2_with fail
  (with_reducible refine (AW.out _).mono ?_)
  rintro e w1 ⟨rfl, b1⟩
  have K1 := Lib.hid b1
  have R1 := Lib.hid (RT.out.call b1)
  clear b1 AW RT
  go_wp2_with fail
  (with_reducible refine (FE.out _).mono ?_)
  rintro e w2 ⟨rfl, rfl⟩
  go_wp2_with fail
  (with_reducible refine (TE.out _ R1.out).mono ?_)
  rintro e w3 ⟨rfl, b3⟩
  have K3 := Lib.hid (K1.out.trans (b3.mono K1.out.size))
  clear b3 K1 R1 FE TE
  have M4 := Lib.hid (MA.out _ (TI.out.below K3.out (Nat.le_refl _)))
  go_wp2_with fail
  (with_reducible refine (M4.out).mono ?_)
  rintro e w4 ⟨v, rfl, tr, b4⟩
  obtain ⟨am4, cm4, rfl, -, hts⟩ := tr.form
  have K4 := Lib.hid (K3.out.trans (b4.mono K3.out.size))
  have T5 := Lib.hid (TM.out am4 cm4 x _ hts)
  clear tr hts b4 K3 M4
  go_wp2_with fail
  (with_reducible refine (T5.out).mono ?_)
  rintro e w5 ⟨rfl, b5⟩
  have K5 := Lib.hid (K4.out.trans (b5.mono K4.out.size))
  clear b5 K4 T5
  have M6 := Lib.hid (MA.out _ (TI.out.below K5.out (Nat.le_refl _)))
  go_wp2_with fail
  (with_reducible refine (M6.out).mono ?_)
  rintro e w6 ⟨v, rfl, tr, b6⟩
  obtain ⟨am6, cm6, rfl, -, hts⟩ := tr.form
  have K6 := Lib.hid (K5.out.trans (b6.mono K5.out.size))
  have T7 := Lib.hid (TM.out am6 cm6 y _ hts)
  clear tr hts b6 K5 M6
  go_wp2_with fail
  (with_reducible refine (T7.out).mono ?_)
  rintro e w7 ⟨rfl, b7⟩
  have K7 := Lib.hid (K6.out.trans (b7.mono K6.out.size))
  clear b7 K6 T7
  go_wp2
  go_ret
  exact ⟨rfl, K7.out⟩

set_option maxRecDepth 100000 in
set_option maxHeartbeats 1600000 in
theorem lifted (os : Os) (started : os.Started) (H : Type) (enc : TypeId × Value → H) :
    ReturnsInHanded {} Try.checked os 3 .any (Rows.busyTellsSpec.pre6 enc Try.prog Try.f3 Rows.busyTellsRow.domain false) (Rows.busyTellsSpec.post enc Try.prog Try.f3 false true false false) := by
  refine returnsInHanded_of_change (C := Try.checked) own started (by kernel_rfl) Try.func3
    (ChangeSpec.witness6 (enc := enc) (C := Try.checked) false ⟨#[], #[.slice none 0 0, .slice none 0 0, .int .i64 0], []⟩ 8 (by kernel_rfl) (by kernel_rfl) (by kernel_rfl) (by kernel_rfl)) ?_
  intro W base args ds gs before hval0 hW hcnd _
  have hval : ∀ (j : Nat) t v, Try.f3.params[j]? = some t → args[j]? = some v → Value.okWide Try.prog W .any base t v := hval0
  have hW' := hW
  obtain ⟨p, q, hA0, hV, rfl, hfz, hnd⟩ := hW
  have hA : DataW.TrodAll enc Try.prog W 0 (fun _ => true) true Try.f3.params.toList args.toList ds p := hA0
  rw [Try.params3] at hA hval
  obtain ⟨v0, vs0, d0, ds0, p0, q0, hargs, rfl, rfl, h0, r0⟩ := trodAll_cons hA
  obtain ⟨v1, vs1, d1, ds1, p1, q1, rfl, rfl, rfl, h1, r1⟩ := trodAll_cons r0
  obtain ⟨v2, vs2, d2, ds2, p2, q2, rfl, rfl, rfl, h2, r2⟩ := trodAll_cons r1
  obtain ⟨rfl, rfl, rfl⟩ := trodAll_nil r2
  obtain rfl : args = #[v0, v1, v2] := by cases args; simp_all
  obtain ⟨rfl, rfl⟩ := trodVars_none hV
  have lt0 : ∀ x ∈ p0, x.block < W.heap.size := by obtain ⟨m, hm⟩ := h0; exact DataW.trod_lt m _ _ _ hm
  obtain ⟨aor, lr, capr, rfl, ler, lcr, var, okr⟩ := open_tasks (hval 0 22 v0 rfl rfl) h0
  have lt1 : ∀ x ∈ p1, x.block < W.heap.size := by obtain ⟨m, hm⟩ := h1; exact DataW.trod_lt m _ _ _ hm
  obtain ⟨aol, ll, capl, rfl, lel, val, okl⟩ := open_tris (hval 1 23 v1 rfl rfl) h1
  have lt2 : ∀ x ∈ p2, x.block < W.heap.size := by obtain ⟨m, hm⟩ := h2; exact DataW.trod_lt m _ _ _ hm
  obtain ⟨x, e2, -, -, wfx⟩ := open_int Try.underlying2 (hval 2 2 v2 rfl rfl) h2
  subst e2
  clear hA0 hval0
  refine (walk aor lr capr aol ll capl x W var ler lcr val lel okl).mono fun e W' ⟨he, bel⟩ => ?_
  subst he
  exact ⟨_, rfl, _, _, _, [], _, [], hW', trodAll_mk1 (shut_bool Try.underlying4 _), (trodAll_cons_mk (Below.trod laidOut (by kernel_rfl) (of_decide_eq_true (by kernel_rfl)) h0 bel lt0) (trodAll_cons_mk (Below.trod laidOut (by kernel_rfl) (of_decide_eq_true (by kernel_rfl)) h1 bel lt1) (trodAll_cons_mk (Below.trod laidOut (by kernel_rfl) (of_decide_eq_true (by kernel_rfl)) h2 bel lt2) trodAll_mk0))), rfl, bel.frame _, fun h => by cases h⟩

theorem proved : Rows.BusyTellsSaid :=
  OpenClaim.holds_of_wide 3 Try.f3 rfl rfl rfl rfl rfl rfl rfl ⟨rfl, rfl, rfl, rfl, rfl⟩ rfl rfl rfl rfl rfl (by kernel_rfl) Try.func3 (by kernel_rfl)
    (of_decide_eq_true (by kernel_rfl)) (by unfold Func.isWrapper; first | (rw [if_pos (by decide +kernel)]; kernel_rfl) | (rw [if_neg (by decide +kernel)]; exact ⟨rfl, rfl⟩))
    (fun os started H enc _ => lifted os started H enc)
#print axioms proved
end Go.Proofs.Ytfnagjfgnbnlbaa.busyTells
