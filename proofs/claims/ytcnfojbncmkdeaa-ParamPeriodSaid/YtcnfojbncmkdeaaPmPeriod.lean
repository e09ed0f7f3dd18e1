/- horariumlaw09.ParamPeriod answers true at every row of three numbers: each period divides that of all, and no less number does so. No condition. -/
import Derived.Test.YtcnfojbncmkdeaaPmN
import Derived.Deep.DeepCutAuto
import Derived.Deep.RegionHeld3
import Derived.BigQuiet
namespace Go.Proofs.Ytcnfojbncmkdeaa.paramPeriod
open Go.ChangeShapes Go.WideShapes Go.ChangeAt Go.RowKit Go.Joins
set_option maxRecDepth 100000
set_option linter.unusedVariables false
set_option linter.unusedSimpArgs false
open Pm

theorem pers_least {l : List Tk} : ∀ {p q m : Nat}, pers l p = some q → p ∣ m → (∀ x ∈ l, x.t.toNat ∣ m) → q ∣ m := by
  induction l with
  | nil => intro p q m h hp _; simp [pers] at h; subst h; exact hp
  | cons x l ih =>
    intro p q m h hp hl
    rw [pers] at h
    split at h
    · cases h
    · exact ih h (Nat.lcm_dvd hp (hl x (by simp))) (fun y hy => hl y (by simp [hy]))
theorem pers_none {l : List Tk} : ∀ {p : Nat}, pers l p = none → (∀ x ∈ l, x.t.toNat ≤ 24) → 1048576 < p * 24 ^ l.length := by
  induction l with
  | nil => intro p h; simp [pers] at h
  | cons x l ih =>
    intro p h hl
    have h1 : Nat.lcm p x.t.toNat ≤ p * 24 := Nat.le_trans (Nat.div_le_self _ _) (Nat.mul_le_mul_left p (hl x (by simp)))
    rw [List.length_cons, Nat.pow_succ]
    have h2 : 1 ≤ 24 ^ l.length := Nat.pow_pos (by omega)
    have h3 : p * 24 * 1 ≤ p * 24 * 24 ^ l.length := Nat.mul_le_mul_left _ h2
    have h4 : p * (24 ^ l.length * 24) = p * 24 * 24 ^ l.length := by rw [Nat.mul_comm (24 ^ l.length), Nat.mul_assoc]
    rw [h4]
    rw [pers] at h
    split at h
    · omega
    · have := ih h (fun y hy => hl y (by simp [hy]))
      have h5 := Nat.mul_le_mul_right (24 ^ l.length) h1
      omega
theorem pers_many {l : List Tk} (h : pers l 1 = none) (hl : ∀ x ∈ l, x.t.toNat ≤ 24) : 3 < l.length := by
  have h1 := pers_none h hl
  rcases Nat.lt_or_ge 3 l.length with h2 | h2
  · exact h2
  · exfalso
    have := Nat.pow_le_pow_right (show 0 < 24 by omega) h2
    omega
theorem no_less {l : List Tk} {p : Nat} {k : Int} (h : pers l 1 = some p) (hp : 0 < p) (hk : 2 ≤ k) (h0 : (p : Int) % k = 0) (hl : ∀ x ∈ l, 0 < x.t) (ha : ∀ x ∈ l, ((p : Int) / k) % x.t = 0) : False := by
  have e := Int.mul_ediv_add_emod (p : Int) k
  rw [h0, Int.add_zero] at e
  have hm0 : 0 ≤ (p : Int) / k := Int.ediv_nonneg (by omega) (by omega)
  obtain ⟨m, hm⟩ : ∃ m : Nat, (p : Int) / k = (m : Int) := ⟨((p : Int) / k).toNat, by omega⟩
  rw [hm] at e ha
  have hd : p ∣ m := pers_least h (Nat.one_dvd _) (fun x hx => by
    have h1 := ha x hx
    have h2 := hl x hx
    have h3 : x.t = ((x.t.toNat : Nat) : Int) := by omega
    rw [h3] at h1
    have : ((m % x.t.toNat : Nat) : Int) = 0 := by rw [Int.natCast_emod]; exact h1
    exact Nat.dvd_of_mod_eq_zero (by omega))
  have hmpos : 0 < m := by
    rcases Nat.eq_zero_or_pos m with h1 | h1
    · subst h1; simp at e; omega
    · exact h1
  have h5 := Nat.le_of_dvd hmpos hd
  have h6 : 2 * (m : Int) ≤ k * (m : Int) := Int.mul_le_mul_of_nonneg_right hk (by omega)
  omega
/-- what stands of the tasks behind the cut -/
def CutRel (T : List Tk) (B : Nat) (w : World) (s : Value) (wx : World) : Prop := ∃ ao cap, s = .slice ao T.length cap ∧ Ts ao T wx ∧ Below B w wx
def L1Rel (T : List Tk) (W : World) (g : Nat) (s : Value) (wx : World) : Prop := ∃ i : Nat, i + g = T.length ∧ s = .int .i64 (i : Int) ∧ wx = W
def L2Rel (an : Option Addr) (T : List Tk) (B : Nat) (W : World) (g : Nat) (s : Value) (wx : World) : Prop := ∃ k : Int, k + g = 24 ∧ 2 ≤ k ∧ s = .int .i64 k ∧ Ts an T wx ∧ Below B W wx
def L3Rel (an : Option Addr) (T : List Tk) (p k : Int) (B : Nat) (W : World) (g : Nat) (s9 s10 : Value) (wx : World) : Prop :=
  ∃ (i : Nat) (all : Bool), i + g = T.length ∧ s9 = .bool all ∧ s10 = .int .i64 (i : Int) ∧ (all = true → p % k = 0 ∧ ∀ x ∈ T.take i, (p / k) % x.t = 0) ∧ Ts an T wx ∧ Below B W wx
theorem all_next {T : List Tk} {i : Nat} (h : i < T.length) {q : Int} (h1 : ∀ x ∈ T.take i, q % x.t = 0) (h2 : q % T[i].t = 0) : ∀ x ∈ T.take (i + 1), q % x.t = 0 := by
  intro x hx
  rw [List.take_succ_eq_append_getElem h] at hx
  rcases List.mem_append.1 hx with hx | hx
  · exact h1 x hx
  · obtain rfl : x = T[i] := by simpa using hx
    exact h2
set_option maxRecDepth 100000 in
set_option maxHeartbeats 8000000 in
theorem walk (l : List Tri) (ao : Option Addr) (cap : Nat) (w : World) (hT : Tris ao l w) (hl : l.length ≤ 9223372036854775807) (hok : ∀ x ∈ l, x.Ok) :
    Calls Try.prog 5 #[.slice ao l.length cap] w fun e w' => e = .returned (.bool true) ∧ Below w.heap.size w w' := by
  have AW := Lib.hid awake_any
  have MA := Lib.hid (fun w h => made_any l ao cap w h hl hok)
  have TI := Lib.hid hT
  have CKA : Hid (∀ x ∈ madeL l, chk x = true ∧ x.t.toNat ≤ 24 ∧ 0 < x.t ∧ x.t ≤ 24) := Lib.hid (fun x hx => by
    obtain ⟨i, hi⟩ := List.mem_iff_getElem?.1 hx
    have hlen := madeL_len l
    have hi2 := (List.getElem?_eq_some_iff.1 hi).1
    obtain ⟨y, rfl⟩ := madeL_get hi
    have := mkT_in i y
    exact ⟨mkT_chk (by omega) y, by omega, by omega, by omega⟩)
  clear hT hok
  go_enter Try.func5, Try.ntmps5
  go_wp2_with fail
  (with_reducible refine (AW.out _).mono ?_)
  rintro e w1 ⟨rfl, b1⟩
  have M1 := Lib.hid (MA.out _ (TI.out.below b1 (Nat.le_refl _)))
  have K1 := Lib.hid b1
  clear b1 MA AW TI
  go_wp2_with fail
  (with_reducible refine (M1.out).mono ?_)
  rintro e w2 ⟨v, rfl, tr, b2⟩
  obtain ⟨am, cm, rfl, hcm, hts⟩ := tr.form
  have TS := Lib.hid hts
  have K2 := Lib.hid (K1.out.trans (b2.mono K1.out.size))
  have hml := madeL_len l
  have CK : Hid (∀ x ∈ (madeL l).take 6, chk x = true ∧ x.t.toNat ≤ 24 ∧ 0 < x.t ∧ x.t ≤ 24) := Lib.hid (fun x hx => CKA.out x (List.mem_of_mem_take hx))
  have T6 : Hid (Ts am ((madeL l).take 6) w2) := Lib.hid (TS.out.take 6)
  have LN : Hid (((madeL l).take 6).length ≤ 6) := Lib.hid (by rw [List.length_take]; omega)
  have LE : Hid ((madeL l).length ≤ 6 → (madeL l).length = ((madeL l).take 6).length) := Lib.hid (fun h => by rw [List.length_take]; omega)
  have LF : Hid (6 < (madeL l).length → 6 = ((madeL l).take 6).length) := Lib.hid (fun h => by rw [List.length_take]; omega)
  generalize (madeL l).take 6 = T at *
  clear tr hts b2 K1 M1 TS CKA
  generalize (madeL l).length = m at *
  have hm : m ≤ 16 := by omega
  clear hml
  go_upto_if 16 with (fail)
  go_cut [4] (CutRel T w.heap.size w)
  case first =>
    by_cases h6 : 6 < m
    · have h1 : (6 : Int) < (m : Int) := by omega
      have hc2 : 6 ≤ cm := by omega
      have e := LF.out h6
      have sl : (Instr.sliceAt 22 (.slice am m cm) none (some (.int .i64 6)) none).run Try.prog w2 = .ok (.slice am 6 cm) w2 := by
        rw [run_sliceAt_slice w2 _ _ _ _ _ (by kernel_rfl), run_slice_h w2 _ _ _ _ (by kernel_rfl) _ _ (by omega) (by omega)]
        have e : (sizeOf (Try.prog.elem 22)).run Try.prog w2 = .ok 5 w2 := by kernel_rfl
        rw [e]
        simp only [Result.andThen, sliced]
        have : am.map (fun x => x.add (0 * 5)) = am := by cases am <;> simp [Addr.add]
        rw [this]
        simp
      have EE := Lib.hid e
      clear h6 e
      go_wp2_with fail
      go_meet
      exact ⟨am, cm, by rw [← EE.out], T6.out, K2.out⟩
    · have h1 : (m : Int) ≤ 6 := by omega
      have EE := Lib.hid (LE.out (by omega))
      clear h6
      go_wp2_with fail
      go_meet
      exact ⟨am, cm, by rw [← EE.out], T6.out, K2.out⟩
  case rest =>
    obtain ⟨an, cn, rfl, hts, hB⟩ := hcut
    have hlen := LN.out
    have PE := Lib.hid (period_any T an cn wc hts (by omega))
    have ROW : rowB T = true := rowB_yes (by omega) (fun x hx => (CK.out x hx).1)
    have TS := Lib.hid hts
    have KB := Lib.hid hB
    clear T6 K2 LE LF hts hB
    cases hp : pers T 1 with
    | none =>
      have hmany := pers_many hp (fun x hx => (CK.out x hx).2.1)
      have E : periodR T = (0, 16) := by unfold periodR; rw [if_pos ROW, hp]
      rw [E] at PE
      simp only at PE
      have h3 : (3 : Int) < (T.length : Int) := by omega
      clear E hp hmany ROW
      go_wp2_with fail
      (with_reducible refine (PE.out).mono ?_)
      rintro e w3 ⟨rfl, b3⟩
      have K3 := Lib.hid (KB.out.trans (b3.mono KB.out.size))
      clear b3
      go_wp2
      go_ret
      exact ⟨rfl, K3.out⟩
    | some p =>
      obtain ⟨hp0, hp1, -, hdv⟩ := pers_pos (by omega) (by omega) (rowB_all ROW) hp
      have E : periodR T = ((p : Int), 0) := by unfold periodR; rw [if_pos ROW, hp]
      rw [E] at PE
      simp only at PE
      have NL := Lib.hid (fun k h1 h2 h3 => no_less (k := k) hp hp0 h1 h2 (fun x hx => (CK.out x hx).2.2.1) h3)
      have DV : Hid (∀ i (h : i < T.length), (p : Int) % T[i].t = 0) := Lib.hid (fun i h => by
        have h1 := hdv _ (List.getElem_mem h)
        have h2 := (CK.out _ (List.getElem_mem h)).2.2.1
        have h3 : T[i].t = ((T[i].t.toNat : Nat) : Int) := by omega
        have h4 := Nat.mod_eq_zero_of_dvd h1
        rw [h3, ← Int.natCast_emod, h4]; rfl)
      clear E hp hdv ROW
      have hp2 : (1 : Int) ≤ (p : Int) := by omega
      have hp3 : (p : Int) ≤ 1048576 := by omega
      go_wp2_with fail
      (with_reducible refine (PE.out).mono ?_)
      rintro e w3 ⟨rfl, b3⟩
      have K3 := Lib.hid (KB.out.trans (b3.mono KB.out.size))
      have T3 := Lib.hid (TS.out.call b3)
      clear b3 PE TS KB
      go_wp2_with fail
      go_loopg [7] T.length (L1Rel T w3)
      case atStart => exact ⟨0, by omega, rfl, rfl⟩
      case round =>
        obtain ⟨i, hi, rfl, rfl⟩ := hrel
        by_cases hlt : i < T.length
        · obtain ⟨b, off, rfl, hb, hat⟩ := T3.out (by omega)
          have hx := hat i T[i] (List.getElem?_eq_getElem hlt)
          have hd := DV.out i hlt
          have ht := (CK.out _ (List.getElem_mem hlt)).2.2
          generalize T[i] = x at *
          obtain ⟨c0, c1, c2, c3, c4⟩ := hx
          obtain ⟨xi, xc, xd, xt, xm⟩ := x
          simp only at *
          obtain ⟨ht1, ht2⟩ := ht
          have z1 : (xt == 0) = false := by simp; omega
          have z2 : ¬ xt = 0 := by omega
          have hi' : (i : Int) < (T.length : Int) := by omega
          have hg0 : 0 < gk := by omega
          have HI := Lib.hid hi
          clear hat hi
          go_wp2
          go_roundg (gk - 1)
          case measure => omega
          case rel => exact ⟨i + 1, by have := HI.out; omega, by go_num, rfl⟩
        · have hge : (T.length : Int) ≤ (i : Int) := by omega
          have hdec : decide (i < T.length) = false := decide_eq_false hlt
          clear hlt hi
          go_wp2_with fail
          clear hge hdec
          go_loopg [8] 22 (L2Rel an T w.heap.size w)
          case atStart => exact ⟨2, by omega, by omega, rfl, T3.out, K3.out⟩
          case round =>
            obtain ⟨k, hk, hk2, rfl, hts, hB⟩ := hrel
            have KB := Lib.hid hB
            have TQ := Lib.hid hts
            clear hB hts T3 K3
            by_cases h24 : k < 24
            · have k1 : (k == 0) = false := by simp; omega
              have k2 : ¬ k = 0 := by omega
              have rk0 := Int.emod_nonneg (p : Int) k2
              have NLk := Lib.hid (NL.out k hk2)
              obtain ⟨al, hal, hal2⟩ : ∃ al : Bool, ((p : Int) % k == 0) = al ∧ (al = true → (p : Int) % k = 0) := ⟨_, rfl, fun h => by simpa using h⟩
              have AL := Lib.hid hal2
              clear hal2
              go_wp2_with fail
              go_loopg [9, 10] T.length (L3Rel an T (p : Int) k w.heap.size w)
              case atStart => exact ⟨0, al, by omega, rfl, rfl, fun h => ⟨AL.out h, by simp⟩, TQ.out, KB.out⟩
              case round =>
                obtain ⟨i, all, hi, rfl, rfl, hall, hts, hB⟩ := hrel
                have KC := Lib.hid hB
                have TC := Lib.hid hts
                have HA := Lib.hid hall
                clear hB hall AL TQ KB hts
                by_cases hlt : i < T.length
                · have hi' : (i : Int) < (T.length : Int) := by omega
                  cases all
                  · have hkk := hk
                    clear hlt
                    go_wp2
                    go_roundg (23 - k).toNat
                    case measure => omega
                    case rel => exact ⟨k + 1, by omega, by omega, by go_num, TC.out, KC.out⟩
                  · obtain ⟨b, off, rfl, hb, hat⟩ := TC.out (by omega)
                    have hx := hat i T[i] (List.getElem?_eq_getElem hlt)
                    have ht := (CK.out _ (List.getElem_mem hlt)).2.2
                    have NX := Lib.hid (fun (h : ((p : Int) / k) % T[i].t = 0) => all_next hlt (HA.out rfl).2 h)
                    have HP := Lib.hid (HA.out rfl).1
                    have hg0 : 0 < gk := by omega
                    have HI := Lib.hid hi
                    clear hat hi HA
                    generalize T[i] = x at *
                    obtain ⟨c0, c1, c2, c3, c4⟩ := hx
                    obtain ⟨xi, xc, xd, xt, xm⟩ := x
                    simp only at *
                    obtain ⟨ht1, ht2⟩ := ht
                    have z1 : (xt == 0) = false := by simp; omega
                    have z2 : ¬ xt = 0 := by omega
                    have e1 : (p : Int).tdiv k = (p : Int) / k := Int.tdiv_eq_ediv_of_nonneg (by omega)
                    have d0 : 0 ≤ (p : Int) / k := Int.ediv_nonneg (by omega) (by omega)
                    have d1 : (p : Int) / k ≤ (p : Int) := Int.ediv_le_self _ (by omega)
                    generalize hD : (p : Int) / k = D at *
                    have HDD := Lib.hid hD
                    have e2 : IntKind.i64.wrap D = D := wrap_in (by omega) (by omega)
                    have e3 : D.tmod xt = D % xt := Int.tmod_eq_emod_of_nonneg (by omega)
                    have r0 := Int.emod_nonneg D z2
                    have r1 := Int.emod_lt_of_pos D ht1
                    generalize hR : D % xt = R at *
                    have e4 : IntKind.i64.wrap R = R := wrap_in (by omega) (by omega)
                    obtain ⟨al2, hb1, hb2⟩ : ∃ al2 : Bool, (R == 0) = al2 ∧ (al2 = true → R = 0) := ⟨_, rfl, fun h => by simpa using h⟩
                    have HB2 := Lib.hid hb2
                    clear hb2
                    go_wp2_with fail
                    go_quiet (fail)
                    have KD := Lib.hid (KC.out.trans ((below_drewN _ nq).mono KC.out.size))
                    have TD := Lib.hid (TC.out.call (below_drewN _ nq))
                    go_wp2
                    go_roundg (gk - 1)
                    case measure => omega
                    case rel => exact ⟨i + 1, al2, by have := HI.out; omega, rfl, by go_num, fun h => ⟨HP.out, by rw [HDD.out]; exact NX.out (HB2.out h)⟩, TD.out, KD.out⟩
                · have hge : (T.length : Int) ≤ (i : Int) := by omega
                  cases all
                  · clear hlt
                    go_wp2
                    go_roundg (23 - k).toNat
                    case measure => omega
                    case rel => exact ⟨k + 1, by omega, by omega, by go_num, TC.out, KC.out⟩
                  · exfalso
                    have := HA.out rfl
                    rw [List.take_of_length_le (by omega)] at this
                    exact NLk.out this.1 this.2
            · have h24' : 24 ≤ k := by omega
              clear h24
              go_wp2
              go_ret
              exact ⟨rfl, KB.out⟩

set_option maxRecDepth 100000 in
set_option maxHeartbeats 1600000 in
theorem lifted (os : Os) (started : os.Started) (H : Type) (enc : TypeId × Value → H) :
    ReturnsInHanded {} Try.checked os 5 .any (Rows.paramPeriodSpec.pre6 enc Try.prog Try.f5 Rows.paramPeriodRow.domain false) (Rows.paramPeriodSpec.post enc Try.prog Try.f5 false true false false) := by
  refine returnsInHanded_of_change (C := Try.checked) own started (by kernel_rfl) Try.func5
    (ChangeSpec.witness6 (enc := enc) (C := Try.checked) false ⟨#[], #[.slice none 0 0], []⟩ 8 (by kernel_rfl) (by kernel_rfl) (by kernel_rfl) (by kernel_rfl)) ?_
  intro W base args ds gs before hval0 hW hcnd _
  have hval : ∀ (j : Nat) t v, Try.f5.params[j]? = some t → args[j]? = some v → Value.okWide Try.prog W .any base t v := hval0
  have hW' := hW
  obtain ⟨p, q, hA0, hV, rfl, hfz, hnd⟩ := hW
  have hA : DataW.TrodAll enc Try.prog W 0 (fun _ => true) true Try.f5.params.toList args.toList ds p := hA0
  rw [Try.params5] at hA hval
  obtain ⟨v0, vs0, d0, ds0, p0, q0, hargs, rfl, rfl, h0, r0⟩ := trodAll_cons hA
  obtain ⟨rfl, rfl, rfl⟩ := trodAll_nil r0
  obtain rfl : args = #[v0] := by cases args; simp_all
  obtain ⟨rfl, rfl⟩ := trodVars_none hV
  have lt0 : ∀ x ∈ p0, x.block < W.heap.size := by obtain ⟨m, hm⟩ := h0; exact DataW.trod_lt m _ _ _ hm
  obtain ⟨aol, ll, capl, rfl, lel, val, okl⟩ := open_tris (hval 0 23 v0 rfl rfl) h0
  clear hA0 hval0
  refine (walk ll aol capl W val lel okl).mono fun e W' ⟨he, bel⟩ => ?_
  subst he
  exact ⟨_, rfl, _, _, _, [], _, [], hW', trodAll_mk1 (shut_bool Try.underlying4 _), (trodAll_cons_mk (Below.trod laidOut (by kernel_rfl) (of_decide_eq_true (by kernel_rfl)) h0 bel lt0) trodAll_mk0), rfl, bel.frame _, fun h => by cases h⟩

theorem proved : Rows.ParamPeriodSaid :=
  OpenClaim.holds_of_wide 5 Try.f5 rfl rfl rfl rfl rfl rfl rfl ⟨rfl, rfl, rfl, rfl, rfl⟩ rfl rfl rfl rfl rfl (by kernel_rfl) Try.func5 (by kernel_rfl)
    (of_decide_eq_true (by kernel_rfl)) (by unfold Func.isWrapper; first | (rw [if_pos (by decide +kernel)]; kernel_rfl) | (rw [if_neg (by decide +kernel)]; exact ⟨rfl, rfl⟩))
    (fun os started H enc _ => lifted os started H enc)
#print axioms proved
end Go.Proofs.Ytcnfojbncmkdeaa.paramPeriod
