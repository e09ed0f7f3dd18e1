/- Contracts of package demand's First; the document's Points, First, Same of layer 10. -/
import Derived.Test.YtldaikpchggogaaDmV
import Derived.Test.YtldaikpchggogaaDmR
import Derived.Deep.RegionHeld3
import Derived.BigQuiet
namespace Go.Proofs.Ytldaikpchggogaa.Dm
open Go.ChangeShapes Go.WideShapes Go.ChangeAt Go.RowKit Go.Joins
open Pm (Tk chk chk_iff rowB rowB_all rowB_len TkAt Ts TRow below_drewN)
set_option maxRecDepth 100000
set_option maxRecDepth 100000
set_option linter.unusedVariables false
set_option linter.unusedSimpArgs false
theorem pts_length {l : List Tk} {most : Int} : ∀ {n : Nat} {x : Int}, (pts l most n x).length ≤ n := by
  intro n
  induction n with
  | zero => intro x; simp [pts]
  | succ n ih =>
    intro x
    rw [pts]
    cases nextR l x with
    | none => simp
    | some y =>
      simp only
      split
      · simp
      · have := ih (x := y); simp; omega
theorem ptsR_length (l : List Tk) (most : Int) : (ptsR l most).length ≤ 4096 := by
  unfold ptsR; split
  · exact pts_length
  · simp
/-- the first of these at which there is more work than time -/
def firstO (l : List Tk) : List Int → Option Int
  | [] => none
  | p :: r => if p < ofR l p then some p else firstO l r
def firstR (l : List Tk) (most : Int) : Option Int := firstO l (ptsR l most)
theorem firstO_drop {l : List Tk} {ps : List Int} {i : Nat} (h : i < ps.length) : firstO l (ps.drop i) = if ps[i] < ofR l ps[i] then some ps[i] else firstO l (ps.drop (i + 1)) := by
  rw [List.drop_eq_getElem_cons h, firstO]
/-- i of them were looked at -/
def FiRel (l : List Tk) (ps : List Int) (W : World) (g : Nat) (t : Value) (wx : World) : Prop :=
  ∃ i : Nat, i + g = ps.length ∧ t = .int .i64 (i : Int) ∧ firstO l ps = firstO l (ps.drop i) ∧ Below W.heap.size W wx
set_option maxHeartbeats 4000000 in
theorem first_any (l : List Tk) (ao : Option Addr) (cap : Nat) (most : Int) (w : World) (hT : Ts ao l w) (hl : l.length ≤ 9223372036854775807) :
    Calls Try.prog 18 #[.slice ao l.length cap, .int .i64 most] w fun e w' => e = .returned (ans (firstR l most)) ∧ Below w.heap.size w w' := by
  have PO := Lib.hid (points_any l ao cap most w hT hl)
  have OF := Lib.hid (fun x w h => of_any l ao cap x w h hl)
  have E : Hid (firstR l most = firstO l (ptsR l most)) := Lib.hid rfl
  have hlen := ptsR_length l most
  generalize firstR l most = r at *
  generalize ptsR l most = ps at *
  have T := Lib.hid hT
  clear hT
  go_enter Try.func18, Try.ntmps18
  go_wp2_with fail
  (with_reducible refine (PO.out).mono ?_)
  rintro e w1 ⟨v, rfl, nr, b1⟩
  obtain ⟨pa, pc, rfl, -, hns⟩ := nr.form
  have K1 := Lib.hid b1
  have T1 := Lib.hid (T.out.call b1)
  have N1 := Lib.hid hns
  clear nr hns b1 PO T
  go_wp2_with fail
  go_loopg [12] ps.length (FiRel l ps w1)
  case atStart => exact ⟨0, by omega, rfl, rfl, Below.refl _ _⟩
  case round =>
    obtain ⟨i, hi, rfl, hf, hB⟩ := hrel
    have TQ := Lib.hid (T1.out.call hB)
    have KB := Lib.hid hB
    have NQ := N1.out.call hB
    clear hB
    by_cases hlt : i < ps.length
    · obtain ⟨b, off, rfl, hb, hat⟩ := NQ (by omega)
      have hx := hat i ps[i] (List.getElem?_eq_getElem hlt)
      have ON := Lib.hid (OF.out ps[i] wr TQ.out)
      rw [firstO_drop hlt] at hf
      have HF := Lib.hid hf
      have HI := Lib.hid hi
      have hg0 : 0 < gk := by omega
      clear hat NQ hf hi
      generalize ps[i] = p at *
      generalize ofR l p = o at *
      by_cases h : p < o
      · have E2 : Hid (r = some p) := Lib.hid (by rw [E.out, HF.out, if_pos h])
        have h2 : o > p := h
        clear E HF
        go_wp2_with fail
        (with_reducible refine (ON.out).mono ?_)
        rintro e w2 ⟨rfl, b2⟩
        have K2 := Lib.hid (K1.out.trans ((KB.out.trans (b2.mono KB.out.size)).mono K1.out.size))
        clear b2 ON KB
        go_wp2
        try simp only [Exit.noGoto]
        exact bodyPost_ret (v := .tuple #[.int .i64 p, .bool true]) (by simp [results, Try.results18, go_sem]) rfl ⟨by rw [E2.out]; rfl, K2.out⟩
      · have E2 := Lib.hid (HF.out.trans (if_neg h))
        have h2 : o ≤ p := by omega
        clear HF h
        go_wp2_with fail
        (with_reducible refine (ON.out).mono ?_)
        rintro e w2 ⟨rfl, b2⟩
        have K2 := Lib.hid (KB.out.trans (b2.mono KB.out.size))
        clear b2 ON KB
        go_wp2
        go_roundg (gk - 1)
        case measure => omega
        case rel => exact ⟨i + 1, by have := HI.out; omega, by go_num, E2.out, K2.out⟩
    · have hge : (ps.length : Int) ≤ (i : Int) := by omega
      rw [List.drop_eq_nil_of_le (by omega)] at hf
      have E2 : Hid (r = none) := Lib.hid (by rw [E.out, hf]; rfl)
      have K2 := Lib.hid (K1.out.trans (KB.out.mono K1.out.size))
      clear hi hlt hf E NQ KB
      go_wp2
      try simp only [Exit.noGoto]
      exact bodyPost_ret (v := .tuple #[.int .i64 0, .bool false]) (by simp [results, Try.results18, go_sem]) rfl ⟨by rw [E2.out]; rfl, K2.out⟩
/-- pre was gathered -/
def RpRel (l : List Tk) (most : Int) (w : World) (g : Nat) (s t : Value) (wx : World) : Prop :=
  ∃ (pre : List Int) (v : Value), pre.length + g = 4096 ∧ v = s ∧ t = .int .i64 (lastOf 0 pre) ∧ chain l 0 pre ∧ (∀ y ∈ pre, y ≤ most) ∧ NRow w.heap.size wx v pre ∧ Below w.heap.size w wx
set_option maxHeartbeats 4000000 in
theorem rpoints_any (l : List Tk) (ao : Option Addr) (cap : Nat) (most : Int) (w : World) (hT : Ts ao l w) (hl : l.length ≤ 1000000) :
    Calls Try.prog 25 #[.slice ao l.length cap, .int .i64 most] w fun e w' => ∃ v, e = .returned v ∧ NRow w.heap.size w' v (ptsR l most) ∧ Below w.heap.size w w' := by
  have TM := Lib.hid (time_any most)
  have T := Lib.hid hT
  cases hx : isTime most with
  | false =>
    rw [hx] at TM
    have E : Hid (ptsR l most = []) := Lib.hid (by unfold ptsR; rw [if_neg (by rw [hx]; simp)])
    generalize ptsR l most = r at *
    clear hx T hT
    go_enter Try.func25, Try.ntmps25
    go_wp2_with fail
    (with_reducible refine (TM.out _).mono ?_)
    rintro e w1 ⟨rfl, rfl⟩
    go_wp2_with fail
    go_loopg [6, 7] 0 (fun _ s t wx => s = .slice none 0 0 ∧ t = .int .i64 0 ∧ wx = w1)
    case atStart => exact ⟨rfl, rfl, rfl⟩
    case round =>
      obtain ⟨rfl, rfl, rfl⟩ := hrel
      go_wp2
      go_ret
      exact ⟨_, rfl, by rw [E.out]; exact nrow_nil _ _, Below.refl _ _⟩
  | true =>
    rw [hx] at TM
    have E : Hid (ptsR l most = pts l most 4096 0) := Lib.hid (by unfold ptsR; rw [if_pos hx])
    have NE := Lib.hid (fun x w h => rnexts_any l ao cap x w h hl)
    generalize ptsR l most = r at *
    clear hx hT
    go_enter Try.func25, Try.ntmps25
    go_wp2_with fail
    (with_reducible refine (TM.out _).mono ?_)
    rintro e w1 ⟨rfl, rfl⟩
    go_wp2_with fail
    go_loopg [6, 7] 4096 (RpRel l most w1)
    case atStart => exact ⟨[], _, rfl, rfl, rfl, trivial, by simp, nrow_nil _ _, Below.refl _ _⟩
    case round =>
      obtain ⟨pre, v, hg, rfl, rfl, hc, hle, hr, hB⟩ := hrel
      obtain ⟨pa, pc, rfl, -, -⟩ := hr.form
      have KB := Lib.hid hB
      have HR := Lib.hid hr
      have HC := Lib.hid hc
      have HL := Lib.hid hle
      have TQ := T.out.below hB (Nat.le_refl _)
      have NX := Lib.hid (NE.out (lastOf 0 pre) wr TQ)
      clear hB hr hle TQ
      by_cases h4 : pre.length < 4096
      · have h4' : (pre.length : Int) < 4096 := by omega
        cases hn : nextR l (lastOf 0 pre) with
        | none =>
          have E2 : Hid (r = pre) := Lib.hid (by rw [E.out]; exact pts_chain hc HL.out (by omega) (.inr (.inl hn)))
          rw [hn] at NX
          unfold ans at NX
          simp only at NX
          clear hn HC HL hc E NE T TM
          generalize pre.length = n at *
          go_wp2_with fail
          (with_reducible refine (NX.out).mono ?_)
          rintro e w2 ⟨rfl, b2⟩
          have K2 := Lib.hid (KB.out.trans (b2.mono KB.out.size))
          have R2 := Lib.hid (HR.out.call b2)
          clear b2 NX KB HR
          go_wp2
          go_ret
          exact ⟨_, rfl, by rw [E2.out]; exact R2.out, K2.out⟩
        | some y =>
          rw [hn] at NX
          unfold ans at NX
          simp only at NX
          by_cases hy : most < y
          · have E2 : Hid (r = pre) := Lib.hid (by rw [E.out]; exact pts_chain hc HL.out (by omega) (.inr (.inr ⟨_, hn, hy⟩)))
            clear hn HC HL hc E NE T TM
            generalize pre.length = n at *
            have hy' : y > most := hy
            go_wp2_with fail
            (with_reducible refine (NX.out).mono ?_)
            rintro e w2 ⟨rfl, b2⟩
            have K2 := Lib.hid (KB.out.trans (b2.mono KB.out.size))
            have R2 := Lib.hid (HR.out.call b2)
            clear b2 NX KB HR
            go_wp2
            go_ret
            exact ⟨_, rfl, by rw [E2.out]; exact R2.out, K2.out⟩
          · have hy' : y ≤ most := by omega
            have CS := Lib.hid (chain_snoc hc hn)
            have LA := Lib.hid (lastOf_snoc 0 y pre)
            have HL2 : Hid (∀ z ∈ pre ++ [y], z ≤ most) := Lib.hid (fun z hz => by
              rcases List.mem_append.1 hz with hz | hz
              · exact HL.out z hz
              · obtain rfl : z = y := by simpa using hz
                exact hy')
            have HG : Hid ((pre ++ [y]).length + (gk - 1) = 4096) := Lib.hid (by rw [List.length_append, List.length_singleton]; omega)
            have hg0 : 0 < gk := by omega
            clear hn HC HL hc E NE T TM hy
            go_wp2_with fail
            (with_reducible refine (NX.out).mono ?_)
            rintro e w2 ⟨rfl, b2⟩
            have K2 := Lib.hid (KB.out.trans (b2.mono KB.out.size))
            obtain ⟨v', w3, hap, ho, hb, -, -⟩ := nrow_append w1.heap.size w2 _ pre y (HR.out.call b2) K2.out.size (by omega)
            have K3 := Lib.hid (K2.out.trans hb)
            have R3 := Lib.hid ho
            clear b2 NX KB HR hb ho K2 h4 hg
            generalize pre.length = n at *
            go_wp2_with (at_builtin; refine Lib.wpList_append_run _ rfl _ _ _ _ rfl _ _ rfl rfl _ _ hap ?_)
            go_roundg (gk - 1)
            case measure => omega
            case rel => exact ⟨pre ++ [y], _, HG.out, rfl, by rw [LA.out], CS.out, HL2.out, R3.out, K3.out⟩
      · have h4' : (4096 : Int) ≤ (pre.length : Int) := by omega
        have hdec : decide (pre.length < 4096) = false := decide_eq_false h4
        have E2 : Hid (r = pre) := Lib.hid (by rw [E.out]; exact pts_chain hc HL.out (by omega) (.inl (by omega)))
        clear HC HL hc E NE T TM NX h4 hg
        generalize pre.length = n at *
        go_wp2
        go_ret
        exact ⟨_, rfl, by rw [E2.out]; exact HR.out, KB.out⟩
end Go.Proofs.Ytldaikpchggogaa.Dm
