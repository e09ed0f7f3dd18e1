/- horariumlaw16.HeapPlays answers true at every two rows of numbers: a heap goes on, step by step, as the document says. No condition. -/
import Derived.Test.YtphnabnpapdpeaaHpT
import Derived.Deep.CutBlock
import Derived.Test.YtphnabnpapdpeaaGnH
namespace Go.Proofs.Ytphnabnpapdpeaa.heapPlays
open Go.ChangeShapes Go.WideShapes Go.ChangeAt Go.RowKit Go.Joins
set_option maxRecDepth 100000
set_option linter.unusedVariables false
set_option linter.unusedSimpArgs false
open Hp
/-- i steps were made -/
def PlRel (n : Nat) (w : World) (B : Nat) (m : Nat) (s8 : Value) (wr : World) : Prop :=
  ∃ (i : Nat) (r q : Option Nat) (s : List Int), i + m = n ∧ s8 = .int .i64 (i : Int) ∧ Pd B wr B (B + 1) r q s s ∧ s.length ≤ i ∧ Below w.heap.size w wr
/-- one more -/
def PsRel (i : Nat) (W : World) (B : Nat) (s10 : Value) (wr : World) : Prop :=
  ∃ (r q : Option Nat) (s : List Int), s10 = .bool true ∧ Pd B wr B (B + 1) r q s s ∧ s.length ≤ i + 1 ∧ Below B W wr
theorem below_drewN (W : World) (n : Nat) : Below W.heap.size W (W.drewN n) := ⟨by simp [World.drewN], by simp [World.drewN], by simp [World.drewN], by simp [World.drewN], fun k _ => by simp [World.drewN]⟩
theorem even_tmod {x : Int} : evenI x = true ↔ x.tmod 2 = 0 := by unfold evenI; simp

set_option maxRecDepth 100000 in
set_option maxHeartbeats 16000000 in
theorem walk (kd : List Int) (ko : Option Addr) (kc : Nat) (l : List Int) (lo : Option Addr) (lc : Nat) (w : World) (hk : kd.length ≤ 9223372036854775807) (hK : Ns ko kd w) (hl : l.length ≤ 9223372036854775807) (hL : Ns lo l w) : Calls Try.prog 3 #[.slice ko kd.length kc, .slice lo l.length lc] w fun e w' => e = .returned (.bool true) ∧ Below w.heap.size w w' := by
  have AW := Lib.hid awake_any
  have NW := Lib.hid new_any
  have NK := Lib.hid hK
  have NL := Lib.hid hL
  clear hK hL
  go_enter Try.func3, Try.ntmps3
  go_wp2_with fail
  (with_reducible refine (AW.out _).mono ?_)
  rintro e w1 ⟨rfl, b1⟩
  have B1 := Lib.hid b1
  clear b1 AW
  go_wp2_with fail
  (with_reducible refine (NW.out _).mono ?_)
  rintro e w2 ⟨rfl, rfl⟩
  have P0 := Lib.hid (pd_new w1)
  have B2 : Hid (Below w.heap.size w ((w1.alloc (.cells #[.func (.func 10) #[] #[], .slice none 0 0] 40)).alloc (.cells #[.slice none 0 0] 29))) := Lib.hid ((B1.out.alloc B1.out.size _).alloc (by have := B1.out.size; simp; omega) _)
  have hbl : w.heap.size ≤ w1.heap.size := B1.out.size
  go_wp2_with fail
  try simp only [World.size_alloc]
  generalize (w1.alloc (.cells #[.func (.func 10) #[] #[], .slice none 0 0] 40)).alloc (.cells #[.slice none 0 0] 29) = W1 at *
  generalize w1.heap.size = B at *
  clear NW B1
  obtain ⟨n, hn⟩ : ∃ n, n = min (min kd.length l.length) 80 := ⟨_, rfl⟩
  have HN := Lib.hid hn
  clear hn
  go_loopg [8] n (PlRel n w B)
  case atStart => exact ⟨0, none, none, [], by omega, rfl, P0.out, by simp, B2.out⟩
  case round =>
    obtain ⟨i, r, q, s, hi, rfl, hp, hsl, hb⟩ := hrel
    have HP := Lib.hid hp
    have HB := Lib.hid hb
    clear P0 B2 hp hb
    by_cases hlt : i < n
    · have hik : i < kd.length := by have := HN.out; omega
      have hil : i < l.length := by have := HN.out; omega
      have hi8 : i < 80 := by have := HN.out; omega
      obtain ⟨gk1, offk, rfl, -, hatk⟩ := (NK.out.below HB.out (Nat.le_refl _)) (by omega)
      obtain ⟨gl, offl, rfl, -, hatl⟩ := (NL.out.below HB.out (Nat.le_refl _)) (by omega)
      obtain ⟨kk, hkk⟩ : ∃ kk, kd[i]? = some kk := ⟨_, List.getElem?_eq_getElem hik⟩
      obtain ⟨x, hx⟩ : ∃ x, l[i]? = some x := ⟨_, List.getElem?_eq_getElem hil⟩
      have ck := hatk i kk hkk
      have cx := hatl i x hx
      have hik1 : (i : Int) < (kd.length : Int) := by omega
      have hil1 : (i : Int) < (l.length : Int) := by omega
      have hi81 : (i : Int) < 80 := by omega
      have hiw : IntKind.i64.wrap (i : Int) = (i : Int) := IntWalk.i64_in _ (by omega)
      have hiw1 : IntKind.i64.wrap ((i : Int) + 1) = (i : Int) + 1 := IntWalk.i64_in _ (by omega)
      have HI := Lib.hid hi
      have HLT := Lib.hid hlt
      obtain ⟨K, hK⟩ : ∃ K, bits .and .i64 kk 7 = K := ⟨_, rfl⟩
      clear hatk hatl hkk hx hi hlt hik hil
      go_upto_block 2 with (fail)
      go_cut [10] (PsRel i wr B)
      case first =>
        have HSL := Lib.hid hsl
        have hs8 : s.length ≤ 800 := by omega
        have PU := Lib.hid (put_any B B r s x wr HP.out.fst (by omega))
        have RPU := Lib.hid (fun q t W h hl => rput_any B (B + 1) q t x W h hl)
        have TA := Lib.hid (take_any B B r s wr HP.out.fst (by omega))
        have RTA := Lib.hid (fun W h => rtake_any B (B + 1) q s W h (by omega))
        have MI := Lib.hid (min_any B B r s wr HP.out.fst (by omega))
        have CH := Lib.hid (change_any B B r s x wr HP.out.fst (by omega))
        have DR := Lib.hid (drop_any B B r s wr HP.out.fst (by omega) 17 evenI (enters_of Try.func17 (by kernel_rfl) rfl) even_any)
        have RDR := Lib.hid (fun W h => rdrop_any B (B + 1) q s W h (by omega))
        clear hsl ck cx NK NL
        by_cases k4 : K = 4
        · subst k4
          clear PU RPU MI CH DR RDR
          cases s with
          | nil =>
            unfold minR at TA RTA
            simp only [List.tail_nil, List.tail_cons, if_true, if_false, Bool.false_eq_true] at TA RTA
            go_wp2_with fail
            (with_reducible refine TA.out.mono ?_)
            rintro e w2 ⟨rfl, q2⟩
            have K2 := Lib.hid (q2.bel HP.out.fst HP.out.base)
            have P2 := Lib.hid (HP.out.left (show Hq B w2 B r [] from q2.1) q2.2 (Nw.refl _ _))
            clear q2 TA
            go_wp2_with fail
            (with_reducible refine (RTA.out w2 P2.out.snd).mono ?_)
            rintro e w3 ⟨rfl, q3⟩
            have K3 := Lib.hid (K2.out.trans (q3.2.rp P2.out.snd P2.out.base))
            have P3 := Lib.hid (P2.out.right (show Rp B w3 (B + 1) q [] from q3.1) q3.2 (fun k hk => .inl hk))
            clear q3
            clear P2 K2 RTA HP
            go_wp2
            go_meet
            exact ⟨r, q, [], rfl, P3.out, by simp, K3.out⟩
          | cons a t =>
            have eaa : (a == a) = true := by simp
            unfold minR at TA RTA
            simp only [List.tail_nil, List.tail_cons, if_true, if_false, Bool.false_eq_true] at TA RTA
            go_wp2_with fail
            (with_reducible refine TA.out.mono ?_)
            rintro e w2 ⟨rfl, q2⟩
            have K2 := Lib.hid (q2.bel HP.out.fst HP.out.base)
            have P2 := Lib.hid (HP.out.left (show Hq B w2 B r t from q2.1) q2.2 (Nw.refl _ _))
            clear q2 TA
            go_wp2_with fail
            (with_reducible refine (RTA.out w2 P2.out.snd).mono ?_)
            rintro e w3 ⟨rfl, q3⟩
            have K3 := Lib.hid (K2.out.trans (q3.2.rp P2.out.snd P2.out.base))
            have P3 := Lib.hid (P2.out.right (show Rp B w3 (B + 1) q t from q3.1) q3.2 (fun k hk => .inl hk))
            clear q3
            clear P2 K2 RTA HP
            go_wp2
            go_meet
            exact ⟨r, q, t, rfl, P3.out, by have := HSL.out; simp only [List.length_cons] at this; omega, K3.out⟩
        by_cases k5 : K = 5
        · subst k5
          clear PU RPU TA RTA CH DR RDR k4
          obtain ⟨ao, cap, cD, nD⟩ := HP.out.snd.cell
          cases s with
          | nil =>
            unfold minR at MI
            simp only [List.tail_nil, List.tail_cons, if_true, if_false, Bool.false_eq_true] at MI
            simp only [List.length_nil] at cD
            go_wp2_with fail
            (with_reducible refine MI.out.mono ?_)
            rintro e w2 ⟨rfl, rfl⟩
            clear MI nD
            go_wp2
            go_meet
            exact ⟨r, q, [], rfl, HP.out, by simp, Below.refl _ _⟩
          | cons a t =>
            unfold minR at MI
            simp only [List.tail_nil, List.tail_cons, if_true, if_false, Bool.false_eq_true] at MI
            obtain ⟨g, off, rfl, -, hat⟩ := nD (by simp)
            have ca := hat 0 a rfl
            rw [Nat.add_zero] at ca
            obtain ⟨n2, hn2⟩ : ∃ n2, n2 = (a :: t).length := ⟨_, rfl⟩
            rw [← hn2] at cD
            have hn20 : (0 : Int) < (n2 : Int) := by rw [hn2, List.length_cons]; omega
            have eaa : (a == a) = true := by simp
            clear hn2 hat
            go_wp2_with fail
            (with_reducible refine MI.out.mono ?_)
            rintro e w2 ⟨rfl, rfl⟩
            clear MI
            go_wp2
            go_meet
            exact ⟨r, q, a :: t, rfl, HP.out, by have := HSL.out; omega, Below.refl _ _⟩
        by_cases k6 : K = 6
        · subst k6
          clear PU TA MI DR RDR k4 k5
          obtain ⟨ao, cap, cD, nD⟩ := HP.out.snd.cell
          cases s with
          | nil =>
            unfold minR at CH
            simp only [List.tail_nil, List.tail_cons, if_true, if_false, Bool.false_eq_true] at CH
            simp only [List.length_nil] at cD
            clear RTA RPU nD
            go_wp2_with fail
            (with_reducible refine CH.out.mono ?_)
            rintro e w2 ⟨rfl, q2⟩
            have K2 := Lib.hid (q2.bel HP.out.fst HP.out.base)
            have P2 := Lib.hid (HP.out.left (show Hq B w2 B r [] from q2.1) q2.2 (Nw.refl _ _))
            clear q2 CH
            clear HP
            go_wp2
            go_meet
            exact ⟨r, q, [], rfl, P2.out, by simp, K2.out⟩
          | cons a t =>
            unfold minR at CH RTA
            simp only [List.tail_nil, List.tail_cons, if_true, if_false, Bool.false_eq_true] at CH RTA
            obtain ⟨n2, hn2⟩ : ∃ n2, n2 = (a :: t).length := ⟨_, rfl⟩
            rw [← hn2] at cD
            have hn20 : (0 : Int) < (n2 : Int) := by rw [hn2, List.length_cons]; omega
            have htl : t.length ≤ 800 := by rw [List.length_cons] at hs8; omega
            have hil' := ins_len (lt := ltI) x t
            clear hn2 nD
            go_wp2_with fail
            (with_reducible refine CH.out.mono ?_)
            rintro e w2 ⟨rfl, q2⟩
            have K2 := Lib.hid (q2.bel HP.out.fst HP.out.base)
            have P2 := Lib.hid (HP.out.left (show Hq B w2 B r (ins ltI x t) from q2.1) q2.2 (Nw.refl _ _))
            clear q2 CH
            go_wp2_with fail
            (with_reducible refine (RTA.out w2 P2.out.snd).mono ?_)
            rintro e w3 ⟨rfl, q3⟩
            have K3 := Lib.hid (K2.out.trans (q3.2.rp P2.out.snd P2.out.base))
            have P3 := Lib.hid (P2.out.right (show Rp B w3 (B + 1) q t from q3.1) q3.2 (fun k hk => .inl hk))
            clear q3
            clear P2 K2 RTA HP
            go_wp2_with fail
            (with_reducible refine (RPU.out q t w3 P3.out.snd (by omega)).mono ?_)
            rintro e w4 ⟨rfl, q3⟩
            obtain ⟨q4, h3, m3, n3⟩ := q3
            have K4 := Lib.hid (K3.out.trans (m3.rp P3.out.snd P3.out.base))
            have P4 := Lib.hid (P3.out.right h3 m3 (fun k hk => .inr (n3 k hk)))
            clear h3 m3 n3
            clear P3 K3 RPU
            generalize hins : ins ltI x t = it at *
            go_wp2
            go_meet
            exact ⟨r, q4, it, rfl, P4.out, by have := HSL.out; simp only [List.length_cons] at this; rw [hil']; omega, K4.out⟩
        by_cases k7 : K = 7
        · subst k7
          clear PU RPU TA RTA MI CH k4 k5 k6
          have hfl := List.length_filter_le (fun x => !evenI x) s
          by_cases hev : x.tmod 2 = 0
          · generalize hfs : s.filter (fun x => !evenI x) = fs at *
            have hrm0 : (x.tmod 2 == 0) = true := by rw [hev]; rfl
            generalize ((s.length : Int) - (fs.length : Int)) = z at *
            have ezz : (z == z) = true := by simp
            go_wp2_with fail
            (with_reducible refine DR.out.mono ?_)
            rintro e w2 ⟨rfl, q2⟩
            have K2 := Lib.hid (q2.bel HP.out.fst HP.out.base)
            obtain ⟨r2, h2, m2, n2⟩ := q2
            have P2 := Lib.hid (HP.out.left h2 m2 n2)
            clear h2 m2 n2 DR
            go_wp2_with fail
            (with_reducible refine (RDR.out w2 P2.out.snd).mono ?_)
            rintro e w3 ⟨rfl, q3⟩
            obtain ⟨q4, h3, m3, n3⟩ := q3
            have K3 := Lib.hid (K2.out.trans (m3.rp P2.out.snd P2.out.base))
            have P3 := Lib.hid (P2.out.right h3 m3 (fun k hk => .inr (n3 k hk)))
            clear h3 m3 n3 P2 K2 RDR HP hfs
            go_wp2
            go_meet
            exact ⟨r2, q4, fs, rfl, P3.out, by have := HSL.out; omega, K3.out⟩
          · have hrm0 : (x.tmod 2 == 0) = false := by simp [hev]
            clear DR RDR
            go_wp2
            go_meet
            exact ⟨r, q, s, rfl, HP.out, by have := HSL.out; omega, Below.refl _ _⟩
        have e4 : (K == 4) = false := by simp [k4]
        have e5 : (K == 5) = false := by simp [k5]
        have e6 : (K == 6) = false := by simp [k6]
        have e7 : (K == 7) = false := by simp [k7]
        clear TA RTA MI CH DR RDR k4 k5 k6 k7
        go_wp2_with fail
        (with_reducible refine PU.out.mono ?_)
        rintro e w2 ⟨rfl, q2⟩
        have K2 := Lib.hid (q2.bel HP.out.fst HP.out.base)
        obtain ⟨r2, h2, m2, n2⟩ := q2
        have P2 := Lib.hid (HP.out.left h2 m2 n2)
        clear h2 m2 n2 PU
        go_wp2_with fail
        (with_reducible refine (RPU.out q s w2 P2.out.snd (by omega)).mono ?_)
        rintro e w3 ⟨rfl, q3⟩
        obtain ⟨q4, h3, m3, n3⟩ := q3
        have K3 := Lib.hid (K2.out.trans (m3.rp P2.out.snd P2.out.base))
        have P3 := Lib.hid (P2.out.right h3 m3 (fun k hk => .inr (n3 k hk)))
        clear h3 m3 n3
        clear P2 K2 RPU HP
        have hil' := ins_len (lt := ltI) x s
        generalize hins : ins ltI x s = it at *
        go_wp2
        go_meet
        exact ⟨r2, q4, it, rfl, P3.out, by have := HSL.out; rw [hil']; omega, K3.out⟩
      case rest =>
        clear hK
        obtain ⟨r2, q2, s2, rfl, hp2, hl2, hb2⟩ := hcut
        have P2 := Lib.hid hp2
        have K2 := Lib.hid hb2
        clear HP hp2 hb2 hsl
        have PD := Lib.hid (P2.out.call (Below.refl wc.heap.size wc).drew)
        have KD := Lib.hid (K2.out.trans ((Below.refl wc.heap.size wc).drew.mono P2.out.base))
        obtain ⟨ao, cap, cD, nD⟩ := PD.out.snd.cell
        have LI := Lib.hid (list_any B B r2 s2 _ PD.out.fst (by omega))
        have SA := Lib.hid same_any
        have NDD := Lib.hid nD
        have H2 := Lib.hid hl2
        clear nD ck cx hl2 P2 K2
        go_wp2_with fail
        refine wp_region_held_drew (S := (fun W' => W'.cell? ⟨B + 1, 0, none⟩ = some (.slice ao s2.length cap))) (by kernel_rfl) (cD) (fun hHeld => ?_)
        refine Gh.tk 0 ?_
        refine Gh.tk 2 ?_
        refine Gh.tk 3 ?_
        refine Gh.tk 4 ?_
        refine Gh.tk 5 ?_
        refine Gh.rd 1 (fun K hK => ?_)
        go_simp
        (with_reducible refine LI.out.mono ?_)
        rintro e w5 ⟨u, rfl, ra, b5⟩
        have P5 := Lib.hid (PD.out.call b5)
        have K5 := Lib.hid (KD.out.trans (b5.mono PD.out.base))
        have ND5 := Lib.hid (NDD.out.call b5)
        have c5 := carry b5 cD
        obtain ⟨ua, uc, rfl, -, na⟩ := ra.form
        have SM := Lib.hid (SA.out s2 ua ao uc cap w5 na ND5.out (by have := H2.out; omega))
        clear ra b5 na PD KD ND5
        go_simp
        refine hK.out _ _ (c5) (fun hHeld => ?_)
        clear hK K
        refine Gh.pt ?_
        refine Gh.rd 6 (fun K hK => ?_)
        go_simp
        (with_reducible refine SM.out.mono ?_)
        rintro e w6 ⟨rfl, q6⟩
        have P6 := Lib.hid (P5.out.call (q6.below _))
        have K6 := Lib.hid (K5.out.trans ((q6.below _).mono (Nat.le_refl _)))
        have c6 := (q6.cell _).trans c5
        clear q6 SM P5 K5 c5
        go_simp
        refine hK.out _ _ (c6) (fun hHeld => ?_)
        clear hK K
        refine Gh.pt ?_
        refine Gh.tk 7 ?_
        refine wpAnyH_done (by kernel_rfl) ?_ _
        clear hHeld
        clear hHeld
        clear hHeld
        have LE := Lib.hid (fun n => len_any B B r2 s2 (w6.drewN n) (P6.out.fst.call (below_drewN _ n)))
        have ess : ((s2.length : Int) != (s2.length : Int)) = false := by simp
        clear LI SA NDD
        generalize hsl2 : s2.length = sl at *
        have HSE := Lib.hid hsl2
        clear hsl2
        go_wp2_with fail
        go_quiet ((first | (go_at_call 22; exact Calls.quiet_of_same (LE.out _)) | fail))
        have P7 := Lib.hid (P6.out.call (below_drewN _ nq))
        have K7 := Lib.hid (K6.out.trans ((below_drewN _ nq).mono P6.out.base))
        clear P6 K6 LE cD c6
        go_wp2
        go_roundg (n - (i + 1))
        case measure => have := HI.out; have := HLT.out; omega
        case rel => exact ⟨i + 1, r2, q2, s2, by have := HLT.out; omega, by go_num, P7.out, by rw [HSE.out]; exact H2.out, HB.out.trans (K7.out.mono hbl)⟩
    · have e : i = n := by omega
      have hnn : ¬ (i < kd.length ∧ i < l.length ∧ i < 80) := by have := HN.out; omega
      have FN := Lib.hid HB.out
      clear HP HB NK NL hsl hi hlt HN e
      by_cases h1 : i < kd.length
      · have h1i : (i : Int) < (kd.length : Int) := by omega
        by_cases h2 : i < l.length
        · have h2i : (i : Int) < (l.length : Int) := by omega
          have h3i : (80 : Int) ≤ (i : Int) := by omega
          clear hnn
          go_wp2
          go_ret
          exact ⟨rfl, FN.out⟩
        · have h2d : decide (i < l.length) = false := decide_eq_false h2
          have h2i : (l.length : Int) ≤ (i : Int) := by omega
          clear hnn h2
          go_wp2
          go_ret
          exact ⟨rfl, FN.out⟩
      · have h1d : decide (i < kd.length) = false := decide_eq_false h1
        have h1i : (kd.length : Int) ≤ (i : Int) := by omega
        clear hnn h1
        go_wp2
        go_ret
        exact ⟨rfl, FN.out⟩

set_option maxRecDepth 100000 in
set_option maxHeartbeats 1600000 in
theorem lifted (os : Os) (started : os.Started) (H : Type) (enc : TypeId × Value → H) :
    ReturnsInHanded {} Try.checked os 3 .any (Rows.heapPlaysSpec.pre6 enc Try.prog Try.f3 Rows.heapPlaysRow.domain false) (Rows.heapPlaysSpec.post enc Try.prog Try.f3 false true false false) := by
  refine returnsInHanded_of_change (C := Try.checked) own started (by kernel_rfl) Try.func3
    (ChangeSpec.witness6 (enc := enc) (C := Try.checked) false ⟨#[], #[.slice none 0 0, .slice none 0 0], []⟩ 8 (by kernel_rfl) (by kernel_rfl) (by kernel_rfl) (by kernel_rfl)) ?_
  intro W base args ds gs before hval0 hW hcnd _
  have hval : ∀ (j : Nat) t v, Try.f3.params[j]? = some t → args[j]? = some v → Value.okWide Try.prog W .any base t v := hval0
  have hW' := hW
  obtain ⟨p, q, hA0, hV, rfl, hfz, hnd⟩ := hW
  have hA : DataW.TrodAll enc Try.prog W 0 (fun _ => true) true Try.f3.params.toList args.toList ds p := hA0
  rw [Try.params3] at hA hval
  obtain ⟨v0, vs0, d0, ds0, p0, q0, hargs, rfl, rfl, h0, r0⟩ := trodAll_cons hA
  obtain ⟨v1, vs1, d1, ds1, p1, q1, rfl, rfl, rfl, h1, r1⟩ := trodAll_cons r0
  obtain ⟨rfl, rfl, rfl⟩ := trodAll_nil r1
  obtain rfl : args = #[v0, v1] := by cases args; simp_all
  obtain ⟨rfl, rfl⟩ := trodVars_none hV
  have lt0 : ∀ x ∈ p0, x.block < W.heap.size := by obtain ⟨m, hm⟩ := h0; exact DataW.trod_lt m _ _ _ hm
  obtain ⟨ko, k, kc, rfl, kl, ks⟩ := open_nums (hval 0 22 v0 rfl rfl) h0
  have lt1 : ∀ x ∈ p1, x.block < W.heap.size := by obtain ⟨m, hm⟩ := h1; exact DataW.trod_lt m _ _ _ hm
  obtain ⟨lo, l, lc, rfl, ll, ls⟩ := open_nums (hval 1 22 v1 rfl rfl) h1
  clear hA0 hval0
  refine (walk k ko kc l lo lc W kl ks ll ls).mono fun e W' ⟨he, bel⟩ => ?_
  subst he
  exact ⟨_, rfl, _, _, _, [], _, [], hW', trodAll_mk1 (shut_bool Try.underlying4 _), (trodAll_cons_mk (Below.trod laidOut (by kernel_rfl) (of_decide_eq_true (by kernel_rfl)) h0 bel lt0) (trodAll_cons_mk (Below.trod laidOut (by kernel_rfl) (of_decide_eq_true (by kernel_rfl)) h1 bel lt1) trodAll_mk0)), rfl, bel.frame _, fun h => by cases h⟩

theorem proved : Rows.HeapPlaysSaid :=
  OpenClaim.holds_of_wide 3 Try.f3 rfl rfl rfl rfl rfl rfl rfl ⟨rfl, rfl, rfl, rfl, rfl⟩ rfl rfl rfl rfl rfl (by kernel_rfl) Try.func3 (by kernel_rfl)
    (of_decide_eq_true (by kernel_rfl)) (by unfold Func.isWrapper; first | (rw [if_pos (by decide +kernel)]; kernel_rfl) | (rw [if_neg (by decide +kernel)]; exact ⟨rfl, rfl⟩))
    (fun os started H enc _ => lifted os started H enc)
#print axioms proved
end Go.Proofs.Ytphnabnpapdpeaa.heapPlays
