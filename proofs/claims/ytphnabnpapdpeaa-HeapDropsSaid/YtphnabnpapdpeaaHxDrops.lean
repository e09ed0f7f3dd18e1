/- horariumlaw16.HeapDrops answers true at every row of numbers: what is dropped is there no more, all else is. No condition. -/
import Derived.Test.YtphnabnpapdpeaaHpT
namespace Go.Proofs.Ytphnabnpapdpeaa.heapDrops
open Go.ChangeShapes Go.WideShapes Go.ChangeAt Go.RowKit Go.Joins
set_option maxRecDepth 100000
set_option linter.unusedVariables false
set_option linter.unusedSimpArgs false
open Hp
/-- those that are not even -/
def oddS (l : List Int) : List Int := l.filter (fun x => !evenI x)
/-- i numbers were put -/
def DrRel (l : List Int) (w : World) (B : Nat) (m : Nat) (s6 s7 s8 : Value) (wr : World) : Prop :=
  ∃ (i : Nat) (r q : Option Nat), i + m = min l.length 40 ∧ s6 = .int .i64 ((oddS (l.take i)).length : Int) ∧ s7 = .int .i64 (i : Int) ∧ s8 = .int .i64 (i : Int) ∧ Tw B wr B (B + 1) r q (sort ltI (l.take i)) (sort ltI (oddS (l.take i))) ∧ Below w.heap.size w wr
theorem odd_app (l : List Int) (x : Int) : oddS (l ++ [x]) = if evenI x = true then oddS l else oddS l ++ [x] := by
  unfold oddS
  cases h : evenI x <;> simp [List.filter_append, h]

set_option maxRecDepth 100000 in
set_option maxHeartbeats 16000000 in
theorem walk (l : List Int) (lo : Option Addr) (lc : Nat) (w : World) (hl : l.length ≤ 9223372036854775807) (hL : Ns lo l w) : Calls Try.prog 6 #[.slice lo l.length lc] w fun e w' => e = .returned (.bool true) ∧ Below w.heap.size w w' := by
  have AW := Lib.hid awake_any
  have NW := Lib.hid new_any
  have NS := Lib.hid hL
  have SA := Lib.hid same_any
  clear hL
  go_enter Try.func6, Try.ntmps6
  go_wp2_with fail
  (with_reducible refine (AW.out _).mono ?_)
  rintro e w1 ⟨rfl, b1⟩
  have B1 := Lib.hid b1
  clear b1 AW
  go_wp2_with fail
  (with_reducible refine (NW.out _).mono ?_)
  rintro e w2 ⟨rfl, rfl⟩
  go_wp2_with fail
  (with_reducible refine (NW.out _).mono ?_)
  rintro e w2 ⟨rfl, rfl⟩
  have T0 := Lib.hid (tw_new w1)
  have B2 : Hid (Below w.heap.size w ((w1.alloc (.cells #[.func (.func 10) #[] #[], .slice none 0 0] 40)).alloc (.cells #[.func (.func 10) #[] #[], .slice none 0 0] 40))) := Lib.hid ((B1.out.alloc B1.out.size _).alloc (by have := B1.out.size; simp; omega) _)
  have hbl : w.heap.size ≤ w1.heap.size := B1.out.size
  try simp only [World.size_alloc]
  generalize (w1.alloc (.cells #[.func (.func 10) #[] #[], .slice none 0 0] 40)).alloc (.cells #[.func (.func 10) #[] #[], .slice none 0 0] 40) = W1 at *
  generalize w1.heap.size = B at *
  have PU := Lib.hid (fun b r s x W h hl => put_any B b r s x W h hl)
  have LI := Lib.hid (fun b r s W h hl => list_any B b r s W h hl)
  have LE := Lib.hid (fun b r s W h => len_any B b r s W h)
  have DR := Lib.hid (fun b r s W h hl => drop_any B b r s W h hl 17 evenI (enters_of Try.func17 (by kernel_rfl) rfl) even_any)
  have DN := Lib.hid (fun b r s W h => drop_nil B b r s W h)
  clear NW B1
  go_wp2_with fail
  go_loopg [6, 7, 8] (min l.length 40) (DrRel l w B)
  case atStart => exact ⟨0, none, none, by omega, rfl, rfl, rfl, T0.out, B2.out⟩
  case round =>
    obtain ⟨i, r, q, hi, rfl, rfl, rfl, ht, hb⟩ := hrel
    have HT := Lib.hid ht
    have HB := Lib.hid hb
    have hol : (oddS (l.take i)).length ≤ i := by have := List.length_filter_le (fun x => !evenI x) (l.take i); rw [List.length_take] at this; unfold oddS; omega
    clear T0 B2 ht hb
    by_cases hlt : i < l.length ∧ i < 40
    · obtain ⟨hl1, hl2⟩ := hlt
      obtain ⟨g, off, rfl, hg, hat⟩ := (NS.out.below HB.out (Nat.le_refl _)) (by omega)
      obtain ⟨x, hx⟩ : ∃ x, l[i]? = some x := ⟨_, List.getElem?_eq_getElem hl1⟩
      have cx := hat i x hx
      have htk : l.take (i + 1) = l.take i ++ [x] := by rw [List.take_add_one, hx]; rfl
      have hil : (i : Int) < (l.length : Int) := by omega
      have hi40 : (i : Int) < 40 := by omega
      have hiw : IntKind.i64.wrap (i : Int) = (i : Int) := IntWalk.i64_in _ (by omega)
      have hi1w : IntKind.i64.wrap ((i : Int) + 1) = (i : Int) + 1 := IntWalk.i64_in _ (by omega)
      have HI := Lib.hid hi
      have hg0 : 0 < gk := by omega
      have PX := Lib.hid (PU.out B r (sort ltI (l.take i)) x wr HT.out.fst (by rw [sort_len, List.length_take]; omega))
      rw [← sort_ins ordI.wk x (l.take i) (ordI.an _), ← htk] at PX
      obtain ⟨s2, hs2⟩ : ∃ s2, s2 = sort ltI (l.take (i + 1)) := ⟨_, rfl⟩
      have HS2 := Lib.hid hs2
      rw [← hs2] at PX
      have OA := Lib.hid (odd_app (l.take i) x)
      rw [← htk] at OA
      have OL := Lib.hid hol
      obtain ⟨od, hod⟩ : ∃ od, od = oddS (l.take i) := ⟨_, rfl⟩
      rw [← hod] at OA OL HT ⊢
      obtain ⟨on, hon⟩ : ∃ on, on = od.length := ⟨_, rfl⟩
      rw [← hon] at OL ⊢
      have HON := Lib.hid hon
      have onw : IntKind.i64.wrap ((on : Int) + 1) = (on : Int) + 1 := IntWalk.i64_in _ (by have := OL.out; omega)
      have CX : Hid (∀ W, Below B wr W → W.cell? ⟨g, off + i, none⟩ = some (.int .i64 x)) := Lib.hid (fun W hW => by
        obtain ⟨g', off', e, hgw, -⟩ := NS.out (by omega)
        cases e
        exact (hW.cell (p := ⟨g, off + i, none⟩) (show g < B by omega)).trans cx)
      have hgw : g < B := by obtain ⟨g', off', e, hgw, -⟩ := NS.out (by omega); cases e; omega
      have HIL := Lib.hid (And.intro hl1 hl2)
      clear hat hx hi hs2 htk hod hon hol hl1 hl2
      go_wp2_with fail
      (with_reducible refine PX.out.mono ?_)
      rintro e w2 ⟨rfl, q2⟩
      have K2 := Lib.hid (q2.bel HT.out.fst HT.out.base)
      obtain ⟨r2, h2, m2, n2⟩ := q2
      have T2 := Lib.hid (HT.out.left h2 m2 n2)
      have cx2 := CX.out w2 K2.out
      clear h2 m2 n2 PX HT
      cases hev : evenI x with
      | true =>
        have hrm : x.tmod 2 = 0 := of_decide_eq_true hev
        have hrm0 : (x.tmod 2 != 0) = false := by rw [hrm]; rfl
        have E := Lib.hid (OA.out.trans (if_pos hev))
        clear hev OA PU LI LE DR DN SA
        go_wp2
        go_roundg (min l.length 40 - (i + 1))
        case measure => have := HI.out; have := HIL.out; omega
        case rel =>
          refine ⟨i + 1, r2, q, by have := HI.out; have := HIL.out; omega, by rw [E.out, ← HON.out], by go_num, by go_num, ?_, HB.out.trans (K2.out.mono hbl)⟩
          rw [E.out, ← HS2.out]; exact T2.out
      | false =>
        have hrm : ¬ x.tmod 2 = 0 := of_decide_eq_false hev
        have hrm0 : (x.tmod 2 != 0) = true := by simp [hrm]
        have E := Lib.hid (OA.out.trans (if_neg (by rw [hev]; simp)))
        have PY := Lib.hid (PU.out (B + 1) q (sort ltI od) x w2 T2.out.snd (by rw [sort_len, ← HON.out]; have := OL.out; omega))
        rw [← sort_ins ordI.wk x od (ordI.an _), ← E.out] at PY
        clear hev OA PU LI LE DR DN SA
        go_wp2_with fail
        (with_reducible refine PY.out.mono ?_)
        rintro e w3 ⟨rfl, q3⟩
        have K3 := Lib.hid (K2.out.trans (q3.bel T2.out.snd T2.out.base))
        obtain ⟨q', h3, m3, n3⟩ := q3
        have T3 := Lib.hid (T2.out.right h3 m3 n3)
        clear h3 m3 n3 PY T2 K2 CX cx cx2
        go_wp2
        go_roundg (min l.length 40 - (i + 1))
        case measure => have := HI.out; have := HIL.out; omega
        case rel =>
          refine ⟨i + 1, r2, q', by have := HI.out; have := HIL.out; omega, by rw [E.out, List.length_append, ← HON.out]; go_num, by go_num, by go_num, ?_, HB.out.trans (K3.out.mono hbl)⟩
          rw [← HS2.out]; exact T3.out
    · have hii : i ≤ 40 := by omega
      have hsl : (sort ltI (l.take i)).length = i := by rw [sort_len, List.length_take]; omega
      have hf : (sort ltI (l.take i)).filter (fun x => !evenI x) = sort ltI (oddS (l.take i)) := (sort_filter ordI.wk _ _ (ordI.an _)).symm
      have hon : (sort ltI (oddS (l.take i))).length = (oddS (l.take i)).length := sort_len _
      have hff : (sort ltI (oddS (l.take i))).filter (fun x => !evenI x) = sort ltI (oddS (l.take i)) := by rw [← hf, List.filter_filter]; congr 1; funext x; simp
      have D1 := Lib.hid (DR.out B r (sort ltI (l.take i)) wr HT.out.fst (by omega))
      rw [hf, hsl, hon] at D1
      generalize hS : sort ltI (l.take i) = s at *
      generalize hT : sort ltI (oddS (l.take i)) = t at *
      generalize (oddS (l.take i)).length = on at *
      have HSL := Lib.hid hsl
      have HON := Lib.hid hon
      have HFF := Lib.hid hff
      have hsub : IntKind.i64.wrap ((i : Int) - (on : Int)) = (i : Int) - (on : Int) := IntWalk.i64_in _ (by omega)
      have hge : decide (i < l.length) = true → (40 : Int) ≤ (i : Int) := fun h => by have := of_decide_eq_true h; omega
      have hcase : (i : Int) < (l.length : Int) ∧ (40 : Int) ≤ (i : Int) ∨ (l.length : Int) ≤ (i : Int) := by omega
      clear hS hT hf hsl hon hff hge hlt hi PU
      have HNA : Hid (s.length - (t.length - t.length) = i) := Lib.hid (by rw [HSL.out]; omega)
      go_upto_region 9 with (fail)
      go_cut [28] (fun s wx => s = .bool false ∧ wx = wr)
      case first =>
        clear DR LI LE DN D1 HT SA NS
        rcases hcase with ⟨h1, h2⟩ | h1
        · go_wp2
          go_meet
          exact ⟨congrArg Value.bool (decide_eq_false (by omega)), rfl⟩
        · have hdec : decide (i < l.length) = false := decide_eq_false (by omega)
          go_wp2
          go_meet
          exact ⟨rfl, rfl⟩
      case rest =>
        obtain ⟨rfl, rfl⟩ := hcut
        clear hcase
        go_wp2_with fail
        (with_reducible refine D1.out.mono ?_)
        rintro e w2 ⟨rfl, q2⟩
        have K2 := Lib.hid (q2.bel HT.out.fst HT.out.base)
        obtain ⟨r2, h2, m2, n2⟩ := q2
        have T2 := Lib.hid (HT.out.left h2 m2 n2)
        have D2 := Lib.hid (DR.out B r2 t w2 h2 (by rw [HON.out]; omega))
        rw [HFF.out, Int.sub_self] at D2
        clear h2 m2 n2 D1 HT DR
        go_wp2_with fail
        (with_reducible refine D2.out.mono ?_)
        rintro e w3 ⟨rfl, q3⟩
        have K3 := Lib.hid (K2.out.trans (q3.bel T2.out.fst T2.out.base))
        obtain ⟨r3, h3, m3, n3⟩ := q3
        have T3 := Lib.hid (T2.out.left h3 m3 n3)
        clear h3 m3 n3 D2 T2 K2
        go_wp2_with fail
        (with_reducible refine (LI.out B r3 t w3 T3.out.fst (by rw [HON.out]; omega)).mono ?_)
        rintro e w4 ⟨u, rfl, ra, b4⟩
        have T4 := Lib.hid (T3.out.call b4)
        have K4 := Lib.hid (K3.out.trans (b4.mono T3.out.base))
        have RA := Lib.hid ra
        obtain ⟨ua, uc, rfl, -, -⟩ := ra.form
        clear ra b4 T3 K3
        go_wp2_with fail
        (with_reducible refine (LI.out (B + 1) q t w4 T4.out.snd (by rw [HON.out]; omega)).mono ?_)
        rintro e w5 ⟨u, rfl, rb, b5⟩
        have T5 := Lib.hid (T4.out.call b5)
        have K5 := Lib.hid (K4.out.trans (b5.mono T4.out.base))
        have NA : Hid (Ns ua t w5) := Lib.hid (by obtain ⟨a', c', e, -, h⟩ := (RA.out.call b5).form; cases e; exact h)
        obtain ⟨ub, ud, rfl, -, nb⟩ := rb.form
        have SM := Lib.hid (SA.out t ua ub uc ud w5 NA.out nb (by rw [HON.out]; omega))
        clear rb b5 T4 K4 RA nb NA SA LI
        go_wp2_with fail
        (with_reducible refine SM.out.mono ?_)
        rintro e w6 ⟨rfl, q6⟩
        have T6 := Lib.hid (T5.out.call (q6.below _))
        have K6 := Lib.hid (K5.out.trans (q6.below _))
        have L6 := Lib.hid (LE.out B r3 t w6 T6.out.fst)
        rw [HON.out] at L6
        clear q6 SM T5 K5 LE HNA HSL HFF
        go_wp2_with fail
        (with_reducible refine L6.out.mono ?_)
        rintro e w7 ⟨rfl, rfl⟩
        go_wp2_with fail
        (with_reducible refine (DN.out B r3 t _ T6.out.fst).mono ?_)
        rintro e w8 ⟨rfl, b8⟩
        have FN := Lib.hid (HB.out.trans ((K6.out.mono hbl).trans (b8.mono (by have := T6.out.base; omega))))
        clear b8 DN T6 K6 L6 HON HB
        go_wp2
        go_ret
        exact ⟨rfl, FN.out⟩

set_option maxRecDepth 100000 in
set_option maxHeartbeats 1600000 in
theorem lifted (os : Os) (started : os.Started) (H : Type) (enc : TypeId × Value → H) :
    ReturnsInHanded {} Try.checked os 6 .any (Rows.heapDropsSpec.pre6 enc Try.prog Try.f6 Rows.heapDropsRow.domain false) (Rows.heapDropsSpec.post enc Try.prog Try.f6 false true false false) := by
  refine returnsInHanded_of_change (C := Try.checked) own started (by kernel_rfl) Try.func6
    (ChangeSpec.witness6 (enc := enc) (C := Try.checked) false ⟨#[], #[.slice none 0 0], []⟩ 8 (by kernel_rfl) (by kernel_rfl) (by kernel_rfl) (by kernel_rfl)) ?_
  intro W base args ds gs before hval0 hW hcnd _
  have hval : ∀ (j : Nat) t v, Try.f6.params[j]? = some t → args[j]? = some v → Value.okWide Try.prog W .any base t v := hval0
  have hW' := hW
  obtain ⟨p, q, hA0, hV, rfl, hfz, hnd⟩ := hW
  have hA : DataW.TrodAll enc Try.prog W 0 (fun _ => true) true Try.f6.params.toList args.toList ds p := hA0
  rw [Try.params6] at hA hval
  obtain ⟨v0, vs0, d0, ds0, p0, q0, hargs, rfl, rfl, h0, r0⟩ := trodAll_cons hA
  obtain ⟨rfl, rfl, rfl⟩ := trodAll_nil r0
  obtain rfl : args = #[v0] := by cases args; simp_all
  obtain ⟨rfl, rfl⟩ := trodVars_none hV
  have lt0 : ∀ x ∈ p0, x.block < W.heap.size := by obtain ⟨m, hm⟩ := h0; exact DataW.trod_lt m _ _ _ hm
  obtain ⟨lo, l, lc, rfl, ll, ls⟩ := open_nums (hval 0 22 v0 rfl rfl) h0
  clear hA0 hval0
  refine (walk l lo lc W ll ls).mono fun e W' ⟨he, bel⟩ => ?_
  subst he
  exact ⟨_, rfl, _, _, _, [], _, [], hW', trodAll_mk1 (shut_bool Try.underlying4 _), (trodAll_cons_mk (Below.trod laidOut (by kernel_rfl) (of_decide_eq_true (by kernel_rfl)) h0 bel lt0) trodAll_mk0), rfl, bel.frame _, fun h => by cases h⟩

theorem proved : Rows.HeapDropsSaid :=
  OpenClaim.holds_of_wide 6 Try.f6 rfl rfl rfl rfl rfl rfl rfl ⟨rfl, rfl, rfl, rfl, rfl⟩ rfl rfl rfl rfl rfl (by kernel_rfl) Try.func6 (by kernel_rfl)
    (of_decide_eq_true (by kernel_rfl)) (by unfold Func.isWrapper; first | (rw [if_pos (by decide +kernel)]; kernel_rfl) | (rw [if_neg (by decide +kernel)]; exact ⟨rfl, rfl⟩))
    (fun os started H enc _ => lifted os started H enc)
#print axioms proved
end Go.Proofs.Ytphnabnpapdpeaa.heapDrops
