/- horariumlaw16.HeapSorts answers true at every row of numbers: taken one by one numbers come in order, as often as they were put, whichever order they were put in. No condition. -/
import Derived.Test.YtphnabnpapdpeaaHpT
namespace Go.Proofs.Ytphnabnpapdpeaa.heapSorts
open Go.ChangeShapes Go.WideShapes Go.ChangeAt Go.RowKit Go.Joins
set_option maxRecDepth 100000
set_option linter.unusedVariables false
set_option linter.unusedSimpArgs false
open Hp
/-- i numbers were put, into the other heap from the end -/
def S1Rel (M : List Int) (n : Nat) (w : World) (B : Nat) (m : Nat) (s7 : Value) (wr : World) : Prop :=
  ∃ (i : Nat) (r q : Option Nat), i + m = n ∧ s7 = .int .i64 (i : Int) ∧ Tw B wr B (B + 1) r q (sort ltI (M.take i)) (sort ltI (M.drop (n - i))) ∧ Below w.heap.size w wr
/-- i numbers were taken -/
def S2Rel (S : List Int) (n : Nat) (w : World) (B : Nat) (m : Nat) (s8 s9 : Value) (wr : World) : Prop :=
  ∃ (i : Nat) (r q : Option Nat), i + m = n ∧ s9 = .int .i64 (i : Int) ∧ TwR B wr B (B + 1) r q (S.drop i) (S.drop i) s8 (S.take i) ∧ Below w.heap.size w wr
/-- numbers were counted -/
def S3Rel (n : Nat) (W : World) (m : Nat) (s14 : Value) (wr : World) : Prop := ∃ i : Nat, i + m = n ∧ s14 = .int .i64 (i : Int) ∧ Qt W wr
def S4Rel (S M : List Int) (x : Int) (n : Nat) (W : World) (m : Nat) (s15 s16 s17 : Value) (wr : World) : Prop :=
  ∃ k : Nat, k + m = n ∧ s15 = .int .i64 (((S.take k).count x : Nat) : Int) ∧ s16 = .int .i64 (((M.take k).count x : Nat) : Int) ∧ s17 = .int .i64 (k : Int) ∧ Qt W wr
theorem srt_adj {s : List Int} (h : Srt ltI s) {k : Nat} {x y : Int} (hx : s[k]? = some x) (hy : s[k + 1]? = some y) : x ≤ y := by
  obtain ⟨h1, rfl⟩ := List.getElem?_eq_some_iff.1 hx
  obtain ⟨h2, rfl⟩ := List.getElem?_eq_some_iff.1 hy
  have := List.pairwise_iff_getElem.1 h k (k + 1) h1 h2 (by omega)
  have := of_decide_eq_false this
  omega
theorem count_next {l : List Int} {k : Nat} {y : Int} (x : Int) (h : l[k]? = some y) : (l.take (k + 1)).count x = (l.take k).count x + if y = x then 1 else 0 := by
  rw [List.take_add_one, h, List.count_append]
  by_cases e : y = x
  · subst e; simp
  · simp [e, List.count_cons]
theorem count_le (l : List Int) (k : Nat) (x : Int) : (l.take k).count x ≤ k := by
  have := List.count_le_length (a := x) (l := l.take k)
  rw [List.length_take] at this; omega
theorem drop_cons {l : List Int} {i : Nat} {x : Int} (h : l[i]? = some x) : l.drop i = x :: l.drop (i + 1) := by
  obtain ⟨h1, h2⟩ := List.getElem?_eq_some_iff.1 h
  rw [List.drop_eq_getElem_cons h1, h2]

set_option maxRecDepth 100000 in
set_option maxHeartbeats 16000000 in
theorem walk (l : List Int) (lo : Option Addr) (lc : Nat) (w : World) (hl : l.length ≤ 9223372036854775807) (hL : Ns lo l w) : Calls Try.prog 4 #[.slice lo l.length lc] w fun e w' => e = .returned (.bool true) ∧ Below w.heap.size w w' := by
  have AW := Lib.hid awake_any
  have NW := Lib.hid new_any
  have NS := Lib.hid hL
  clear hL
  go_enter Try.func4, Try.ntmps4
  go_wp2_with fail
  (with_reducible refine (AW.out _).mono ?_)
  rintro e w1 ⟨rfl, b1⟩
  have B1 := Lib.hid b1
  clear b1 AW
  go_wp2_with fail
  (with_reducible refine (NW.out _).mono ?_)
  rintro e w2 ⟨rfl, rfl⟩
  go_wp2_with fail
  (with_reducible refine (NW.out _).mono ?_)
  rintro e w2 ⟨rfl, rfl⟩
  have T0 := Lib.hid (tw_new w1)
  have B2 : Hid (Below w.heap.size w ((w1.alloc (.cells #[.func (.func 10) #[] #[], .slice none 0 0] 40)).alloc (.cells #[.func (.func 10) #[] #[], .slice none 0 0] 40))) := Lib.hid ((B1.out.alloc B1.out.size _).alloc (by have := B1.out.size; simp; omega) _)
  have hbl : w.heap.size ≤ w1.heap.size := B1.out.size
  try simp only [World.size_alloc]
  generalize (w1.alloc (.cells #[.func (.func 10) #[] #[], .slice none 0 0] 40)).alloc (.cells #[.func (.func 10) #[] #[], .slice none 0 0] 40) = W1 at *
  generalize w1.heap.size = B at *
  have PU := Lib.hid (fun b r s x W h hl => put_any B b r s x W h hl)
  have TA := Lib.hid (fun b r s W h hl => take_any B b r s W h hl)
  have LE := Lib.hid (fun b r s W h => len_any B b r s W h)
  clear NW B1
  obtain ⟨n, hn⟩ : ∃ n, n = min l.length 60 := ⟨_, rfl⟩
  have hn60 : n ≤ 60 := by omega
  have hnl : n ≤ l.length := by omega
  obtain ⟨M, hM⟩ : ∃ M, M = l.take n := ⟨_, rfl⟩
  have ML : Hid (M.length = n) := Lib.hid (by rw [hM, List.length_take]; omega)
  have MG : Hid (∀ i x, M[i]? = some x → l[i]? = some x) := Lib.hid (fun i x h => by
    have hi := (List.getElem?_eq_some_iff.1 h).1
    rw [hM] at h hi
    rw [List.length_take] at hi
    rw [List.getElem?_take_of_lt (by omega)] at h; exact h)
  have NM : Hid (∀ W, Below w.heap.size w W → 0 < n → ∃ g off, lo = some ⟨g, off, none⟩ ∧ g < w.heap.size ∧ ∀ i x, M[i]? = some x → W.cell? ⟨g, off + i, none⟩ = some (.int .i64 x)) := Lib.hid (fun W hW h0 => by
    obtain ⟨g, off, e, hg, -⟩ := NS.out (by omega)
    obtain ⟨g', off', e', -, hat⟩ := (NS.out.below hW (Nat.le_refl _)) (by omega)
    rw [e] at e'; cases e'
    exact ⟨g, off, e, hg, fun i x h => hat i x (MG.out i x h)⟩)
  have HN := Lib.hid hn
  clear hM MG NS hn
  go_upto_if 32 with (fail)
  go_cut [6] (fun s wx => s = .int .i64 (n : Int) ∧ wx = W1)
  case first =>
    clear PU TA LE T0 B2 NM ML
    by_cases h6 : 60 < l.length
    · have h6i : (60 : Int) < (l.length : Int) := by omega
      have e : n = 60 := by rw [HN.out]; omega
      subst e
      go_wp2
      go_meet
      exact ⟨rfl, rfl⟩
    · have h6i : (l.length : Int) ≤ 60 := by omega
      have h6d : decide (60 < l.length) = false := decide_eq_false h6
      have e : n = l.length := by rw [HN.out]; omega
      subst e
      go_wp2
      go_meet
      exact ⟨rfl, rfl⟩
  case rest =>
    obtain ⟨rfl, rfl⟩ := hcut
    go_wp2_with fail
    go_loopg [7] n (S1Rel M n w B)
    case atStart =>
      refine ⟨0, none, none, by omega, rfl, ?_, B2.out⟩
      rw [Nat.sub_zero, List.drop_eq_nil_of_le (by rw [ML.out]; omega)]
      exact T0.out
    case round =>
      obtain ⟨i, r, q, hi, rfl, ht, hb⟩ := hrel
      have HT := Lib.hid ht
      have HB := Lib.hid hb
      clear T0 B2 ht hb
      by_cases hlt : i < n
      · obtain ⟨g, off, rfl, hg, hat⟩ := NM.out _ HB.out (by omega)
        obtain ⟨x, hx⟩ : ∃ x, M[i]? = some x := ⟨_, List.getElem?_eq_getElem (by rw [ML.out]; omega)⟩
        obtain ⟨j, hj⟩ : ∃ j, j = n - 1 - i := ⟨_, rfl⟩
        obtain ⟨y, hy⟩ : ∃ y, M[j]? = some y := ⟨_, List.getElem?_eq_getElem (by rw [ML.out]; omega)⟩
        obtain ⟨n1, hn1⟩ : ∃ n1, n1 = n - 1 := ⟨_, rfl⟩
        have cx := hat i x hx
        have cy := hat j y hy
        have hin : (i : Int) < (n : Int) := by omega
        have hil : (i : Int) < (l.length : Int) := by omega
        have hjl : (j : Int) < (l.length : Int) := by omega
        have hiw : IntKind.i64.wrap (i : Int) = (i : Int) := IntWalk.i64_in _ (by omega)
        have hjw : IntKind.i64.wrap (j : Int) = (j : Int) := IntWalk.i64_in _ (by omega)
        have hiw1 : IntKind.i64.wrap ((i : Int) + 1) = (i : Int) + 1 := IntWalk.i64_in _ (by omega)
        have hn1w : IntKind.i64.wrap ((n : Int) - 1) = (n1 : Int) := by rw [IntWalk.i64_in _ (by omega)]; omega
        have hn2w : IntKind.i64.wrap ((n1 : Int) - (i : Int)) = (j : Int) := by rw [IntWalk.i64_in _ (by omega)]; omega
        have htk : M.take (i + 1) = M.take i ++ [x] := by rw [List.take_add_one, hx]; rfl
        have hdr : M.drop (n - (i + 1)) = y :: M.drop (n - i) := by
          have := drop_cons hy
          rw [show n - (i + 1) = j by omega, show n - i = j + 1 by omega]; exact this
        have PX := Lib.hid (PU.out B r (sort ltI (M.take i)) x wr HT.out.fst (by rw [sort_len, List.length_take]; omega))
        rw [← sort_ins ordI.wk x (M.take i) (ordI.an _), ← htk] at PX
        have PY := Lib.hid (fun W h => PU.out (B + 1) q (sort ltI (M.drop (n - i))) y W h (by rw [sort_len, List.length_drop, ML.out]; omega))
        rw [show ins ltI y (sort ltI (M.drop (n - i))) = sort ltI (M.drop (n - (i + 1))) from by rw [hdr]; rfl] at PY
        have HI := Lib.hid hi
        have HLT := Lib.hid hlt
        have hgB : g < B := by omega
        clear hat hx hy hi htk hdr hlt hn1 hj hg NM
        go_wp2_with fail
        (with_reducible refine PX.out.mono ?_)
        rintro e w2 ⟨rfl, q2⟩
        have K2 := Lib.hid (q2.bel HT.out.fst HT.out.base)
        obtain ⟨r2, h2, m2, n2⟩ := q2
        have T2 := Lib.hid (HT.out.left h2 m2 n2)
        have cy2 : w2.cell? ⟨g, off + j, none⟩ = some (.int .i64 y) := (K2.out.cell (p := ⟨g, off + j, none⟩) hgB).trans cy
        clear h2 m2 n2 PX HT cx
        go_wp2_with fail
        (with_reducible refine (PY.out w2 T2.out.snd).mono ?_)
        rintro e w3 ⟨rfl, q3⟩
        have K3 := Lib.hid (K2.out.trans (q3.bel T2.out.snd T2.out.base))
        obtain ⟨q', h3, m3, n3⟩ := q3
        have T3 := Lib.hid (T2.out.right h3 m3 n3)
        clear h3 m3 n3 PY T2 K2 cy cy2
        go_wp2
        go_roundg (n - (i + 1))
        case measure => have := HI.out; have := HLT.out; omega
        case rel => exact ⟨i + 1, r2, q', by have := HLT.out; omega, by go_num, T3.out, HB.out.trans (K3.out.mono hbl)⟩
      · have e : i = n := by omega
        subst e
        have hge : (i : Int) ≤ (i : Int) := by omega
        have hdec : decide ((i : Int) < (i : Int)) = false := decide_eq_false (by omega)
        have TT := HT.out
        rw [Nat.sub_self, List.drop_zero, List.take_of_length_le (by rw [ML.out]; omega)] at TT
        obtain ⟨S, hS⟩ : ∃ S, S = sort ltI M := ⟨_, rfl⟩
        have SS : Hid (Srt ltI S) := Lib.hid (by rw [hS]; exact sort_srt ordI.wk M)
        have SL : Hid (S.length = i) := Lib.hid (by rw [hS, sort_len]; exact ML.out)
        have SP : Hid (S.Perm M) := Lib.hid (by rw [hS]; exact sort_perm M)
        rw [← hS] at TT
        have T2 := Lib.hid (show TwR B wr B (B + 1) r q (S.drop 0) (S.drop 0) (.slice none 0 0) (S.take 0) from ⟨TT, nrow_nil _ _, fun k hk => by cases hk⟩)
        clear hS TT HT hi PU
        go_wp2_with fail
        go_loopg [8, 9] i (S2Rel S i w B)
        case atStart => exact ⟨0, r, q, by omega, rfl, T2.out, HB.out⟩
        case round =>
          clear T2 HB
          obtain ⟨k, r, q, hk, rfl, ht, hb⟩ := hrel
          have HT := Lib.hid ht
          have HB := Lib.hid hb
          clear ht hb
          by_cases hlt : k < i
          · obtain ⟨x, hx⟩ : ∃ x, S[k]? = some x := ⟨_, List.getElem?_eq_getElem (by rw [SL.out]; omega)⟩
            have hd := drop_cons hx
            have htk : S.take (k + 1) = S.take k ++ [x] := by rw [List.take_add_one, hx]; rfl
            have T1 := Lib.hid (TA.out B r (S.drop k) wr HT.out.tw.fst (by rw [List.length_drop, SL.out]; omega))
            have T1' := Lib.hid (fun W h => TA.out (B + 1) q (S.drop k) W h (by rw [List.length_drop, SL.out]; omega))
            rw [hd] at T1 T1'
            unfold minR at T1 T1'
            simp only [List.tail_cons] at T1 T1'
            have HK := Lib.hid hk
            have HLT := Lib.hid hlt
            obtain ⟨pa, pc, rfl, -, ns⟩ := HT.out.row.form
            have hol : (S.take k).length = k := by rw [List.length_take, SL.out]; omega
            have hki : (k : Int) < (i : Int) := by omega
            have hkw : IntKind.i64.wrap (k : Int) = (k : Int) := IntWalk.i64_in _ (by omega)
            have hkw1 : IntKind.i64.wrap ((k : Int) + 1) = (k : Int) + 1 := IntWalk.i64_in _ (by omega)
            have HX := Lib.hid hx
            have HTK := Lib.hid htk
            have HD := Lib.hid hd
            have HOL := Lib.hid hol
            rw [hol] at HT
            rw [hol]
            clear hx hd htk hol hk hlt ns TA NM
            go_wp2_with fail
            (with_reducible refine T1.out.mono ?_)
            rintro e w2 ⟨rfl, q2⟩
            have K2 := Lib.hid (q2.bel HT.out.tw.fst HT.out.tw.base)
            have R2 := Lib.hid (HT.out.left (show Hq B w2 B r (S.drop (k + 1)) from q2.1) q2.2)
            clear q2 T1 HT
            go_wp2_with fail
            (with_reducible refine (T1'.out w2 (by rw [← HD.out]; exact R2.out.tw.snd)).mono ?_)
            rintro e w3 ⟨rfl, q3⟩
            have K3 := Lib.hid (K2.out.trans (q3.bel R2.out.tw.snd R2.out.tw.base))
            have R3 := Lib.hid (R2.out.right (show Hq B w3 (B + 1) q (S.drop (k + 1)) from q3.1) q3.2)
            clear q3 T1' R2 K2
            go_upto_region 20 with (fail)
            go_cut [91] (fun s wx => s = .bool false ∧ wx = w3)
            case first =>
              have exx : (x != x) = false := by simp
              rcases Nat.eq_zero_or_pos k with h0 | h0
              · subst h0
                clear R3 K3 HX HTK HD HOL HK HLT
                go_wp2
                go_meet
                exact ⟨rfl, rfl⟩
              · obtain ⟨j, rfl⟩ : ∃ j, k = j + 1 := ⟨k - 1, by omega⟩
                obtain ⟨z, hz⟩ : ∃ z, S[j]? = some z := ⟨_, List.getElem?_eq_getElem (by rw [SL.out]; omega)⟩
                have hzx := srt_adj SS.out hz HX.out
                have cz : ∃ g, pa = some ⟨g, 0, none⟩ ∧ w3.cell? ⟨g, j, none⟩ = some (.int .i64 z) := by
                  have hr := R3.out.row
                  obtain ⟨g, cap, e, -, -⟩ := hr.inBlock (by rw [HOL.out]; omega)
                  have e1 := e
                  simp only [Value.slice.injEq] at e1
                  obtain ⟨rfl, -, -⟩ := e1
                  exact ⟨g, rfl, hr.at (by rw [List.getElem?_take_of_lt (by omega)]; exact hz)⟩
                obtain ⟨g, rfl, cz⟩ := cz
                have hj1 : (0 : Int) < (j : Int) + 1 := by omega
                have hj2 : (j : Int) < (j : Int) + 1 := by omega
                have hj3 : IntKind.i64.wrap ((j : Int) + 1 - 1) = (j : Int) := by rw [IntWalk.i64_in _ (by omega)]; omega
                have hj4 : IntKind.i64.wrap (j : Int) = (j : Int) := IntWalk.i64_in _ (by omega)
                have hdz : decide (x < z) = false := decide_eq_false (by omega)
                have hzx2 : z ≤ x := hzx
                clear R3 K3 HX HTK HD HOL HK HLT hz hzx
                go_wp2
                go_meet
                exact ⟨by simp [hdz], rfl⟩
            case rest =>
              obtain ⟨rfl, rfl⟩ := hcut
              obtain ⟨g2, cp2, w4, hap, R4, b4⟩ := R3.out.app x (by rw [HOL.out]; omega)
              have RR := Lib.hid R4
              have K4 := Lib.hid (K3.out.trans b4)
              rw [HOL.out] at hap RR
              rw [← HTK.out] at RR
              clear R4 b4 R3 K3
              have HK1 := Lib.hid (rfl : k + 1 = k + 1)
              go_wp2_with (at_builtin; refine Lib.wpList_append_run _ rfl _ _ _ _ rfl _ _ rfl rfl _ _ hap ?_)
              go_roundg (i - (k + 1))
              case measure => have := HLT.out; have := HK.out; omega
              case rel => exact ⟨k + 1, r, q, by have := HLT.out; omega, by go_num, RR.out, HB.out.trans (K4.out.mono hbl)⟩
          · have e : k = i := by omega
            subst e
            have hge : (k : Int) ≤ (k : Int) := by omega
            have hdec : decide ((k : Int) < (k : Int)) = false := decide_eq_false (by omega)
            have RR := HT.out
            rw [List.take_of_length_le (by rw [SL.out]; omega), List.drop_eq_nil_of_le (by rw [SL.out]; omega)] at RR
            obtain ⟨pa, pc, rfl, -, ns⟩ := RR.row.form
            rw [SL.out]
            have HR := Lib.hid RR
            have NSS := Lib.hid ns
            clear RR ns HT hk
            go_wp2_with fail
            generalize wr = W2 at *
            go_loopg [14] k (S3Rel k W2)
            case atStart => exact ⟨0, by omega, rfl, Qt.refl _⟩
            case round =>
              obtain ⟨i, hi, rfl, hq⟩ := hrel
              have Q := Lib.hid hq
              clear hq
              by_cases hlt : i < k
              · obtain ⟨x, hx⟩ : ∃ x, M[i]? = some x := ⟨_, List.getElem?_eq_getElem (by rw [ML.out]; omega)⟩
                have hik : (i : Int) < (k : Int) := by omega
                have hil : (i : Int) < (l.length : Int) := by omega
                have hiw : IntKind.i64.wrap (i : Int) = (i : Int) := IntWalk.i64_in _ (by omega)
                have hiw1 : IntKind.i64.wrap ((i : Int) + 1) = (i : Int) + 1 := IntWalk.i64_in _ (by omega)
                have HI := Lib.hid hi
                have HX := Lib.hid hx
                have HLT := Lib.hid hlt
                clear hx hi hlt
                go_wp2_with fail
                go_loopg [15, 16, 17] k (S4Rel S M x k W2)
                case atStart => exact ⟨0, by omega, by simp, by simp, rfl, Q.out⟩
                case round =>
                  obtain ⟨j, hj, rfl, rfl, rfl, hq⟩ := hrel
                  have Q := Lib.hid hq
                  by_cases hjk : j < k
                  · obtain ⟨y, hy⟩ : ∃ y, S[j]? = some y := ⟨_, List.getElem?_eq_getElem (by rw [SL.out]; omega)⟩
                    obtain ⟨z, hz⟩ : ∃ z, M[j]? = some z := ⟨_, List.getElem?_eq_getElem (by rw [ML.out]; omega)⟩
                    obtain ⟨g1, o1, rfl, -, hat1⟩ := (NSS.out.call (hq.below _)) (by rw [SL.out]; omega)
                    obtain ⟨g, off, rfl, -, hat⟩ := NM.out _ (HB.out.trans (hq.below _)) (by omega)
                    have cy := hat1 j y hy
                    have cz := hat j z hz
                    have cx := hat i x HX.out
                    have E1 := count_next x hy
                    have E2 := count_next x hz
                    have l1 := count_le S j x
                    have l2 := count_le M j x
                    obtain ⟨c1, hc1⟩ : ∃ c1, c1 = (S.take j).count x := ⟨_, rfl⟩
                    obtain ⟨c2, hc2⟩ : ∃ c2, c2 = (M.take j).count x := ⟨_, rfl⟩
                    rw [← hc1] at E1 l1 ⊢
                    rw [← hc2] at E2 l2 ⊢
                    have hjk1 : (j : Int) < (k : Int) := by omega
                    have hjl : (j : Int) < (l.length : Int) := by omega
                    have hjw : IntKind.i64.wrap (j : Int) = (j : Int) := IntWalk.i64_in _ (by omega)
                    have hjw1 : IntKind.i64.wrap ((j : Int) + 1) = (j : Int) + 1 := IntWalk.i64_in _ (by omega)
                    have hcw1 : IntKind.i64.wrap ((c1 : Int) + 1) = (c1 : Int) + 1 := IntWalk.i64_in _ (by omega)
                    have hcw2 : IntKind.i64.wrap ((c2 : Int) + 1) = (c2 : Int) + 1 := IntWalk.i64_in _ (by omega)
                    have HJ := Lib.hid hj
                    have hg0 : 0 < gk := by omega
                    have EE1 := Lib.hid E1
                    have EE2 := Lib.hid E2
                    clear hat hat1 hy hz hj hq hc1 hc2 E1 E2 l1 l2 NM NSS HR HB TA LE hjk
                    by_cases hyx : y = x
                    · have eyx : (y == x) = true := by simp [hyx]
                      have F1 := Lib.hid (EE1.out.trans (by rw [if_pos hyx]))
                      by_cases hzx : z = x
                      · have ezx : (z == x) = true := by simp [hzx]
                        have F2 := Lib.hid (EE2.out.trans (by rw [if_pos hzx]))
                        clear hyx hzx
                        go_wp2_with fail
                        go_quiet (fail)
                        go_wp2_with fail
                        go_quiet (fail)
                        go_wp2
                        go_roundg (gk - 1)
                        case measure => omega
                        case rel => exact ⟨j + 1, by have := HJ.out; omega, by rw [F1.out]; go_num, by rw [F2.out]; go_num, by go_num, qt_drewN Q.out _⟩
                      · have ezx : (z == x) = false := by simp [hzx]
                        have F2 := Lib.hid (EE2.out.trans (by rw [if_neg hzx]))
                        clear hyx hzx
                        go_wp2_with fail
                        go_quiet (fail)
                        go_wp2_with fail
                        go_quiet (fail)
                        go_wp2
                        go_roundg (gk - 1)
                        case measure => omega
                        case rel => exact ⟨j + 1, by have := HJ.out; omega, by rw [F1.out]; go_num, by rw [F2.out]; go_num, by go_num, qt_drewN Q.out _⟩
                    · have eyx : (y == x) = false := by simp [hyx]
                      have F1 := Lib.hid (EE1.out.trans (by rw [if_neg hyx]))
                      by_cases hzx : z = x
                      · have ezx : (z == x) = true := by simp [hzx]
                        have F2 := Lib.hid (EE2.out.trans (by rw [if_pos hzx]))
                        clear hyx hzx
                        go_wp2_with fail
                        go_quiet (fail)
                        go_wp2_with fail
                        go_quiet (fail)
                        go_wp2
                        go_roundg (gk - 1)
                        case measure => omega
                        case rel => exact ⟨j + 1, by have := HJ.out; omega, by rw [F1.out]; go_num, by rw [F2.out]; go_num, by go_num, qt_drewN Q.out _⟩
                      · have ezx : (z == x) = false := by simp [hzx]
                        have F2 := Lib.hid (EE2.out.trans (by rw [if_neg hzx]))
                        clear hyx hzx
                        go_wp2_with fail
                        go_quiet (fail)
                        go_wp2_with fail
                        go_quiet (fail)
                        go_wp2
                        go_roundg (gk - 1)
                        case measure => omega
                        case rel => exact ⟨j + 1, by have := HJ.out; omega, by rw [F1.out]; go_num, by rw [F2.out]; go_num, by go_num, qt_drewN Q.out _⟩
                  · have e : j = k := by omega
                    subst e
                    have hge : (j : Int) ≤ (j : Int) := by omega
                    have hdec : decide ((j : Int) < (j : Int)) = false := decide_eq_false (by omega)
                    have EC : (S.take j).count x = (M.take j).count x := by
                      rw [List.take_of_length_le (by rw [SL.out]; omega), List.take_of_length_le (by rw [ML.out]; omega)]
                      exact SP.out.count_eq x
                    rw [EC]
                    generalize (M.take j).count x = c at *
                    have ecc : ((c : Int) != (c : Int)) = false := by simp
                    clear EC hj hq HR NSS NM TA LE
                    go_wp2
                    go_roundg (j - (i + 1))
                    case measure => have := HI.out; have := HLT.out; omega
                    case rel => exact ⟨i + 1, by have := HLT.out; omega, by go_num, Q.out⟩
              · have e : i = k := by omega
                subst e
                have hge : (i : Int) ≤ (i : Int) := by omega
                have hdec : decide ((i : Int) < (i : Int)) = false := decide_eq_false (by omega)
                have H2 := Lib.hid (HR.out.tw.fst.call (Q.out.below _))
                have B2 := Lib.hid (HB.out.trans (Q.out.below _))
                have hBw : B ≤ wr.heap.size := by rw [Q.out.heap]; exact HR.out.tw.base
                clear HR HB Q NSS NM hi hlt
                go_wp2_with fail
                (with_reducible refine (TA.out B r [] _ H2.out (by simp)).mono ?_)
                rintro e w5 ⟨rfl, q5⟩
                have K5 := Lib.hid (B2.out.trans ((q5.bel H2.out hBw).mono hbl))
                have H5 := Lib.hid (show Hq B w5 B r [] from q5.1)
                clear q5 H2 TA B2
                unfold minR
                simp only
                go_wp2_with fail
                (with_reducible refine (LE.out B r [] _ H5.out).mono ?_)
                rintro e w6 ⟨rfl, rfl⟩
                go_wp2
                go_ret
                exact ⟨rfl, K5.out⟩

set_option maxRecDepth 100000 in
set_option maxHeartbeats 1600000 in
theorem lifted (os : Os) (started : os.Started) (H : Type) (enc : TypeId × Value → H) :
    ReturnsInHanded {} Try.checked os 4 .any (Rows.heapSortsSpec.pre6 enc Try.prog Try.f4 Rows.heapSortsRow.domain false) (Rows.heapSortsSpec.post enc Try.prog Try.f4 false true false false) := by
  refine returnsInHanded_of_change (C := Try.checked) own started (by kernel_rfl) Try.func4
    (ChangeSpec.witness6 (enc := enc) (C := Try.checked) false ⟨#[], #[.slice none 0 0], []⟩ 8 (by kernel_rfl) (by kernel_rfl) (by kernel_rfl) (by kernel_rfl)) ?_
  intro W base args ds gs before hval0 hW hcnd _
  have hval : ∀ (j : Nat) t v, Try.f4.params[j]? = some t → args[j]? = some v → Value.okWide Try.prog W .any base t v := hval0
  have hW' := hW
  obtain ⟨p, q, hA0, hV, rfl, hfz, hnd⟩ := hW
  have hA : DataW.TrodAll enc Try.prog W 0 (fun _ => true) true Try.f4.params.toList args.toList ds p := hA0
  rw [Try.params4] at hA hval
  obtain ⟨v0, vs0, d0, ds0, p0, q0, hargs, rfl, rfl, h0, r0⟩ := trodAll_cons hA
  obtain ⟨rfl, rfl, rfl⟩ := trodAll_nil r0
  obtain rfl : args = #[v0] := by cases args; simp_all
  obtain ⟨rfl, rfl⟩ := trodVars_none hV
  have lt0 : ∀ x ∈ p0, x.block < W.heap.size := by obtain ⟨m, hm⟩ := h0; exact DataW.trod_lt m _ _ _ hm
  obtain ⟨lo, l, lc, rfl, ll, ls⟩ := open_nums (hval 0 22 v0 rfl rfl) h0
  clear hA0 hval0
  refine (walk l lo lc W ll ls).mono fun e W' ⟨he, bel⟩ => ?_
  subst he
  exact ⟨_, rfl, _, _, _, [], _, [], hW', trodAll_mk1 (shut_bool Try.underlying4 _), (trodAll_cons_mk (Below.trod laidOut (by kernel_rfl) (of_decide_eq_true (by kernel_rfl)) h0 bel lt0) trodAll_mk0), rfl, bel.frame _, fun h => by cases h⟩

theorem proved : Rows.HeapSortsSaid :=
  OpenClaim.holds_of_wide 4 Try.f4 rfl rfl rfl rfl rfl rfl rfl ⟨rfl, rfl, rfl, rfl, rfl⟩ rfl rfl rfl rfl rfl (by kernel_rfl) Try.func4 (by kernel_rfl)
    (of_decide_eq_true (by kernel_rfl)) (by unfold Func.isWrapper; first | (rw [if_pos (by decide +kernel)]; kernel_rfl) | (rw [if_neg (by decide +kernel)]; exact ⟨rfl, rfl⟩))
    (fun os started H enc _ => lifted os started H enc)
#print axioms proved
end Go.Proofs.Ytphnabnpapdpeaa.heapSorts
