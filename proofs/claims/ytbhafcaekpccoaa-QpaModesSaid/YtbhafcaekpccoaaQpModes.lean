/- horariumlaw12.QpaModes answers true at every row of three numbers: each mode's answer is that of its tasks, and of tasks that are in all modes each is the whole row's. No condition. -/
import Derived.Test.YtbhafcaekpccoaaQpK
import Derived.Test.YtbhafcaekpccoaaQpH
import Derived.Test.YtbhafcaekpccoaaQpR
import Derived.Deep.DeepCutAuto
import Derived.Deep.RegionHeld3
import Derived.BigQuiet
namespace Go.Proofs.Ytbhafcaekpccoaa.qpaModes
open Go.ChangeShapes Go.WideShapes Go.ChangeAt Go.RowKit Go.Joins
set_option maxRecDepth 100000
set_option linter.unusedVariables false
set_option linter.unusedSimpArgs false
open Pm Qp

def m15 (t : Tk) : Tk := { t with m := 15 }
theorem bt15 (t : Tk) {k : Nat} (h : k < 4) : bt (k : Int) (m15 t) = true := by
  have : k = 0 ∨ k = 1 ∨ k = 2 ∨ k = 3 := by omega
  rcases this with rfl | rfl | rfl | rfl <;> (unfold bt m15; simp only; decide)
theorem row15 {T : List Tk} (h : rowB T = true) : rowB (T.map m15) = true := rowB_yes (by rw [List.length_map]; exact rowB_len h) (fun t ht => by
  obtain ⟨u, hu, rfl⟩ := List.mem_map.1 ht
  have := chk_iff.1 (rowB_all h u hu)
  rw [chk_iff]; unfold m15; simp only; omega)
theorem md15 {T : List Tk} (h : rowB T = true) {k : Nat} (hk : k < 4) : mdR (T.map m15) k = testR (T.map m15) := by
  unfold mdR
  rw [if_pos (row15 h)]
  congr 1
  unfold inL
  rw [List.filter_eq_self]
  intro t ht
  obtain ⟨u, -, rfl⟩ := List.mem_map.1 ht
  exact bt15 u hk
theorem md_cell (w : World) (T : List Tk) (k : Nat) (h : k < 4) : (w.alloc (.cells #[.int .i64 (mdR T 0), .int .i64 (mdR T 1), .int .i64 (mdR T 2), .int .i64 (mdR T 3)] 47)).cell? ⟨w.heap.size, k, none⟩ = some (.int .i64 (mdR T k)) := by
  have : k = 0 ∨ k = 1 ∨ k = 2 ∨ k = 3 := by omega
  rcases this with rfl | rfl | rfl | rfl <;> simp [go_sem]
/-- while the answers are looked at: B the block of the array -/
structure Ma (T : List Tk) (B : Nat) (am : Option Addr) (cm : Nat) (w wx : World) : Prop where
  md : ∀ k, k < 4 → wx.cell? ⟨B, k, none⟩ = some (.int .i64 (mdR T k))
  row : TRow w.heap.size wx (.slice am T.length cm) T
  bel : Below w.heap.size w wx
theorem Ma.call {T : List Tk} {B : Nat} {am : Option Addr} {cm : Nat} {w wx wy : World} (h : Ma T B am cm w wx) (b : Below wx.heap.size wx wy) : Ma T B am cm w wy := ⟨fun k hk => carry b (h.md k hk), h.row.call b, h.bel.trans (b.mono h.bel.size)⟩
def MaRel (T : List Tk) (B : Nat) (am : Option Addr) (cm : Nat) (w : World) (g : Nat) (s : Value) (wx : World) : Prop := ∃ i : Nat, i + g = 4 ∧ s = .int .i64 (i : Int) ∧ Ma T B am cm w wx
def MbRel (T : List Tk) (am : Option Addr) (cm : Nat) (w : World) (g : Nat) (s : Value) (wx : World) : Prop := ∃ i : Nat, i + g = T.length ∧ s = .int .i64 (i : Int) ∧ TRow w.heap.size wx (.slice am T.length cm) (mixF m15 T i) ∧ Below w.heap.size w wx
theorem TRow.tsn {B : Nat} {w : World} {am : Option Addr} {cm n : Nat} {l : List Tk} (h : TRow B w (.slice am n cm) l) (hn : n = l.length) : Ts am l w := by
  obtain ⟨ao, cap', hv, -, hts⟩ := h.form
  cases hv; exact hts
set_option maxRecDepth 100000 in
set_option maxHeartbeats 8000000 in
theorem walk (l : List Tri) (ao : Option Addr) (cap : Nat) (w : World) (hT : Tris ao l w) (hl : l.length ≤ 9223372036854775807) (hok : ∀ x ∈ l, x.Ok) :
    Calls Try.prog 9 #[.slice ao l.length cap] w fun e w' => e = .returned (.bool true) ∧ Below w.heap.size w w' := by
  have AW := Lib.hid awake_any
  have MA := Lib.hid (fun w h => made_any l ao cap w h hl hok)
  have TI := Lib.hid hT
  have hrow := made12_row l
  have hlen : (made12 l).length ≤ 8 := by rw [made12_len]; omega
  have MO := Lib.hid (fun am cm w h => modes_any (made12 l) am cm w h (by omega))
  have OF := Lib.hid (fun am cm (k : Nat) (hk : k < 4) w h => rof12_any (made12 l) am cm (k : Int) w h (by omega) (by omega) (by omega))
  have RT := Lib.hid (fun (k : Nat) am cm w h => rtest_any (inL (k : Int) (made12 l)) am cm w h (by have := inL_len (k : Int) (made12 l); omega))
  have MD : Hid (∀ k : Nat, testR (inL (k : Int) (made12 l)) = mdR (made12 l) k) := Lib.hid (fun k => by unfold mdR; rw [if_pos hrow])
  have M5 : Hid (∀ am cm w, Ts am ((made12 l).map m15) w → Calls Try.prog 25 #[.slice am (made12 l).length cm] w fun e w' => e = .returned (.agg #[.int .i64 (testR ((made12 l).map m15)), .int .i64 (testR ((made12 l).map m15)), .int .i64 (testR ((made12 l).map m15)), .int .i64 (testR ((made12 l).map m15))]) ∧ Below w.heap.size w w') := Lib.hid (fun am cm w h => by
    have := modes_any ((made12 l).map m15) am cm w h (by rw [List.length_map]; omega)
    rw [List.length_map, md15 hrow (by decide), md15 hrow (by decide), md15 hrow (by decide), md15 hrow (by decide)] at this
    exact this)
  have T5 : Hid (∀ am cm w, Ts am ((made12 l).map m15) w → Calls Try.prog 18 #[.slice am (made12 l).length cm] w fun e w' => e = .returned (.int .i64 (testR ((made12 l).map m15))) ∧ Below w.heap.size w w') := Lib.hid (fun am cm w h => by
    have := test_any ((made12 l).map m15) am cm w h (by rw [List.length_map]; omega)
    rw [List.length_map] at this
    exact this)
  clear hT hok hrow
  generalize made12 l = T at *
  generalize testR (T.map m15) = te at *
  go_enter Try.func9, Try.ntmps9
  go_wp2_with fail
  (with_reducible refine (AW.out _).mono ?_)
  rintro e w1 ⟨rfl, b1⟩
  have K1 := Lib.hid b1
  clear b1 AW
  go_wp2_with fail
  (with_reducible refine (MA.out _ (TI.out.below K1.out (Nat.le_refl _))).mono ?_)
  rintro e w2 ⟨v, rfl, tr, b2⟩
  have K2 := Lib.hid (K1.out.trans (b2.mono K1.out.size))
  obtain ⟨am, cm, rfl, hcm, hts⟩ := tr.form
  have R2 := Lib.hid (tr.mono K1.out.size)
  have T2 := Lib.hid (MO.out am cm _ hts)
  clear b2 tr hcm hts MA TI K1
  go_wp2_with fail
  (with_reducible refine (T2.out).mono ?_)
  rintro e w3 ⟨rfl, b3⟩
  have K3 := Lib.hid (K2.out.trans (b3.mono K2.out.size))
  have R3 := Lib.hid (R2.out.call b3)
  clear b3 T2 R2 K2
  have KA := Lib.hid (K3.out.alloc K3.out.size (.cells #[.int .i64 (mdR T 0), .int .i64 (mdR T 1), .int .i64 (mdR T 2), .int .i64 (mdR T 3)] 47))
  have S0 : Hid (MaRel T w3.heap.size am cm w 4 (.int .i64 0) (w3.alloc (.cells #[.int .i64 (mdR T 0), .int .i64 (mdR T 1), .int .i64 (mdR T 2), .int .i64 (mdR T 3)] 47))) := Lib.hid ⟨0, rfl, rfl, ⟨md_cell w3 T, R3.out.call ((Below.refl _ _).alloc (Nat.le_refl _) _), KA.out⟩⟩
  clear R3 MO K3
  go_wp2_with fail
  generalize (w3.alloc (.cells #[.int .i64 (mdR T 0), .int .i64 (mdR T 1), .int .i64 (mdR T 2), .int .i64 (mdR T 3)] 47)) = W3 at *
  generalize w3.heap.size = B at *
  clear KA
  go_loopg [6] 4 (MaRel T B am cm w)
  case atStart => exact S0.out
  case round =>
    obtain ⟨i, hi, rfl, hM⟩ := hrel
    by_cases hlt : i < 4
    · have x0 := hM.md i hlt
      have HM := Lib.hid hM
      have HI := Lib.hid hi
      have hi4 : (i : Int) < 4 := by omega
      have hg0 : 0 < gk := by omega
      have OF2 := Lib.hid (OF.out am cm i hlt)
      have RT2 := Lib.hid (RT.out i)
      rw [MD.out] at RT2
      have F0 : Hid (wr.cell? ⟨B, i, none⟩ = some (.int .i64 (mdR T i)) ∧ Ma T B am cm w wr) := Lib.hid ⟨x0, hM⟩
      have F1 : Hid (wr.drew.cell? ⟨B, i, none⟩ = some (.int .i64 (mdR T i)) ∧ Ma T B am cm w wr.drew) := Lib.hid ⟨x0, hM.call (Below.refl _ _).drew⟩
      have e0 : (mdR T i != mdR T i) = false := by simp
      have e1 : (mdR T i == mdR T i) = true := by simp
      clear hM hi S0 OF RT MD M5 T5 HM
      generalize mdR T i = x at *
      go_wp2_with fail
      go_region_held3 (fun w' => w'.cell? ⟨B, i, none⟩ = some (.int .i64 x) ∧ Ma T B am cm w w') (first | exact F0.out | exact F1.out | assumption) (first
        | (go_at_call 26; (with_reducible refine (OF2.out _ (TRow.tsn F1.out.2.row rfl)).mono ?_); rintro e w4 ⟨v4, rfl, tr4, b4⟩; (obtain ⟨a4, c4, rfl, -, ts4⟩ := tr4.form); (have f4 : w4.cell? ⟨B, i, none⟩ = some (.int .i64 x) ∧ Ma T B am cm w w4 := ⟨carry b4 F1.out.1, F1.out.2.call b4⟩))
        | (go_at_call 23; (with_reducible refine (RT2.out _ _ _ ts4).mono ?_); rintro e w5 ⟨rfl, b5⟩; (have f5 : w5.cell? ⟨B, i, none⟩ = some (.int .i64 x) ∧ Ma T B am cm w w5 := ⟨carry b5 f4.1, f4.2.call b5⟩))
        | fail)
      all_goals
        have H5 := Lib.hid f5.2
        clear f5 F0 F1 f4 OF2 RT2
        go_wp2
        go_roundg (gk - 1)
        case measure => omega
        case rel => exact ⟨i + 1, by have := HI.out; omega, by go_num, H5.out⟩
    · obtain rfl : i = 4 := by omega
      have R1 := Lib.hid hM.row
      have K1 := Lib.hid hM.bel
      have z0 : Hid (MbRel T am cm w T.length (.int .i64 0) wr) := Lib.hid ⟨0, by omega, rfl, by rw [mixF_zero]; exact hM.row, hM.bel⟩
      clear hM hi hlt OF RT MD S0 R1 K1
      go_wp2_with fail
      go_loopg [7] T.length (MbRel T am cm w)
      case atStart => exact z0.out
      case round =>
        obtain ⟨i, hi, rfl, hR, hB⟩ := hrel
        by_cases hlt : i < T.length
        · obtain ⟨g, cap2, hv, -, -⟩ := World.ownsRow.form hR (by rw [mixF_len]; omega)
          rw [mixF_len] at hv
          cases hv
          have hi1 : (i : Int) < (T.length : Int) := by omega
          have HI := Lib.hid hi
          have hg0 : 0 < gk := by omega
          obtain ⟨f0, r0, g0⟩ := trow_f hR (mixF_len m15 T i).symm (mixF_get hlt) (j := 4) (by decide) (.int .i64 15) (m15 T[i]) rfl
          rw [mixF_set hlt] at r0
          obtain ⟨b', off, e, -, hat⟩ := TRow.tsn hR (mixF_len m15 T i).symm (by rw [mixF_len]; omega)
          cases e
          have c0 := (hat i _ (mixF_get hlt)).c4
          simp only [Nat.zero_add] at c0
          have RR := Lib.hid r0
          have KB := Lib.hid (hB.setCell (p := ⟨g, i * 5 + 4, none⟩) g0 (.int .i64 15))
          clear hR hB r0 hi hat z0 M5 T5
          go_wp2
          go_roundg (gk - 1)
          case measure => omega
          case rel => exact ⟨i + 1, by have := HI.out; omega, by go_num, RR.out, KB.out⟩
        · obtain rfl : i = T.length := by omega
          rw [mixF_all] at hR
          have R5 := Lib.hid hR
          have K5 := Lib.hid hB
          have hge : (T.length : Int) ≤ (T.length : Int) := by omega
          have hdec : decide (T.length < T.length) = false := by simp
          have M6 := Lib.hid (M5.out am cm _ (TRow.tsn hR (by rw [List.length_map])))
          clear hR hB hi z0 M5 hlt
          go_wp2_with fail
          (with_reducible refine M6.out.mono ?_)
          rintro e w6 ⟨rfl, b6⟩
          have R6 := Lib.hid ((R5.out.call b6).call ((Below.refl _ _).alloc (Nat.le_refl _) (.cells #[.int .i64 te, .int .i64 te, .int .i64 te, .int .i64 te] 47)))
          have K6 := Lib.hid ((K5.out.trans (b6.mono K5.out.size)).alloc (K5.out.trans (b6.mono K5.out.size)).size (.cells #[.int .i64 te, .int .i64 te, .int .i64 te, .int .i64 te] 47))
          have x0 : (w6.alloc (.cells #[.int .i64 te, .int .i64 te, .int .i64 te, .int .i64 te] 47)).cell? ⟨w6.heap.size, 0, none⟩ = some (.int .i64 te) := by simp [go_sem]
          have x1 : (w6.alloc (.cells #[.int .i64 te, .int .i64 te, .int .i64 te, .int .i64 te] 47)).cell? ⟨w6.heap.size, 1, none⟩ = some (.int .i64 te) := by simp [go_sem]
          have x2 : (w6.alloc (.cells #[.int .i64 te, .int .i64 te, .int .i64 te, .int .i64 te] 47)).cell? ⟨w6.heap.size, 2, none⟩ = some (.int .i64 te) := by simp [go_sem]
          have x3 : (w6.alloc (.cells #[.int .i64 te, .int .i64 te, .int .i64 te, .int .i64 te] 47)).cell? ⟨w6.heap.size, 3, none⟩ = some (.int .i64 te) := by simp [go_sem]
          clear b6 M6 R5 K5
          go_wp2_with fail
          generalize (w6.alloc (.cells #[.int .i64 te, .int .i64 te, .int .i64 te, .int .i64 te] 47)) = W6 at *
          (with_reducible refine (T5.out am cm _ (TRow.tsn R6.out (by rw [List.length_map]))).mono ?_)
          rintro e w7 ⟨rfl, b7⟩
          have y0 := carry b7 x0
          have y1 := carry b7 x1
          have y2 := carry b7 x2
          have y3 := carry b7 x3
          have K7 := Lib.hid (K6.out.trans (b7.mono K6.out.size))
          have ee : (te == te) = true := by simp
          clear b7 x0 x1 x2 x3 K6 R6 T5
          go_wp2
          go_ret
          exact ⟨rfl, K7.out⟩

set_option maxRecDepth 100000 in
set_option maxHeartbeats 1600000 in
theorem lifted (os : Os) (started : os.Started) (H : Type) (enc : TypeId × Value → H) :
    ReturnsInHanded {} Try.checked os 9 .any (Rows.qpaModesSpec.pre6 enc Try.prog Try.f9 Rows.qpaModesRow.domain false) (Rows.qpaModesSpec.post enc Try.prog Try.f9 false true false false) := by
  refine returnsInHanded_of_change (C := Try.checked) own started (by kernel_rfl) Try.func9
    (ChangeSpec.witness6 (enc := enc) (C := Try.checked) false ⟨#[], #[.slice none 0 0], []⟩ 8 (by kernel_rfl) (by kernel_rfl) (by kernel_rfl) (by kernel_rfl)) ?_
  intro W base args ds gs before hval0 hW hcnd _
  have hval : ∀ (j : Nat) t v, Try.f9.params[j]? = some t → args[j]? = some v → Value.okWide Try.prog W .any base t v := hval0
  have hW' := hW
  obtain ⟨p, q, hA0, hV, rfl, hfz, hnd⟩ := hW
  have hA : DataW.TrodAll enc Try.prog W 0 (fun _ => true) true Try.f9.params.toList args.toList ds p := hA0
  rw [Try.params9] at hA hval
  obtain ⟨v0, vs0, d0, ds0, p0, q0, hargs, rfl, rfl, h0, r0⟩ := trodAll_cons hA
  obtain ⟨rfl, rfl, rfl⟩ := trodAll_nil r0
  obtain rfl : args = #[v0] := by cases args; simp_all
  obtain ⟨rfl, rfl⟩ := trodVars_none hV
  have lt0 : ∀ x ∈ p0, x.block < W.heap.size := by obtain ⟨m, hm⟩ := h0; exact DataW.trod_lt m _ _ _ hm
  obtain ⟨aol, ll, capl, rfl, lel, val, okl⟩ := open_tris (hval 0 23 v0 rfl rfl) h0
  clear hA0 hval0
  refine (walk ll aol capl W val lel okl).mono fun e W' ⟨he, bel⟩ => ?_
  subst he
  exact ⟨_, rfl, _, _, _, [], _, [], hW', trodAll_mk1 (shut_bool Try.underlying4 _), (trodAll_cons_mk (Below.trod laidOut (by kernel_rfl) (of_decide_eq_true (by kernel_rfl)) h0 bel lt0) trodAll_mk0), rfl, bel.frame _, fun h => by cases h⟩

theorem proved : Rows.QpaModesSaid :=
  OpenClaim.holds_of_wide 9 Try.f9 rfl rfl rfl rfl rfl rfl rfl ⟨rfl, rfl, rfl, rfl, rfl⟩ rfl rfl rfl rfl rfl (by kernel_rfl) Try.func9 (by kernel_rfl)
    (of_decide_eq_true (by kernel_rfl)) (by unfold Func.isWrapper; first | (rw [if_pos (by decide +kernel)]; kernel_rfl) | (rw [if_neg (by decide +kernel)]; exact ⟨rfl, rfl⟩))
    (fun os started H enc _ => lifted os started H enc)
#print axioms proved
end Go.Proofs.Ytbhafcaekpccoaa.qpaModes
