/- Package table's Check. -/
import Derived.Test.YtgbnoifaknlkhaaGnH
import Derived.Test.YtgbnoifaknlkhaaMTa
import Derived.BigQuiet
namespace Go.Proofs.Ytgbnoifaknlkhaa.Tb
open Go.ChangeShapes Go.WideShapes Go.ChangeAt Go.RowKit Go.Joins
open Pm (Tk chk chk_iff below_drewN)
open Ge (El Seen Row)
set_option maxRecDepth 100000
set_option maxRecDepth 100000
set_option linter.unusedVariables false
set_option linter.unusedSimpArgs false
theorem rise_adj {l : List Rw} {a : Int} : rise a l = true ↔ (∀ x, l[0]? = some x → a < x.t.id) ∧ ∀ j x y, l[j]? = some x → l[j + 1]? = some y → x.t.id < y.t.id := by
  induction l generalizing a with
  | nil => simp [rise]
  | cons q l ih =>
    unfold rise
    simp only [Bool.and_eq_true, decide_eq_true_eq, ih]
    constructor
    · rintro ⟨h1, h2, h3⟩
      refine ⟨fun x hx => by simp at hx; subst hx; exact h1, fun j x y hx hy => ?_⟩
      cases j with
      | zero =>
        simp at hx hy; subst hx
        exact h2 y (by simpa using hy)
      | succ j => exact h3 j x y (by simpa using hx) (by simpa using hy)
    · rintro ⟨h1, h2⟩
      exact ⟨h1 q (by simp), fun x hx => h2 0 q x (by simp) (by simpa using hx), fun j x y hx hy => h2 (j + 1) x y (by simpa using hx) (by simpa using hy)⟩
/-- the first i rows may be -/
def Pre (l : List Rw) (i : Nat) : Prop := (∀ j x, j < i → l[j]? = some x → okW x = true) ∧ ∀ j x y, j + 1 < i → l[j]? = some x → l[j + 1]? = some y → x.t.id < y.t.id
theorem pre_zero (l : List Rw) : Pre l 0 := ⟨fun _ _ h => by omega, fun _ _ _ h => by omega⟩
theorem pre_one {l : List Rw} {x : Rw} (h : l[0]? = some x) (hx : okW x = true) : Pre l 1 :=
  ⟨fun j y hj hy => by obtain rfl : j = 0 := by omega
                       rw [h] at hy; cases hy; exact hx, fun _ _ _ h => by omega⟩
theorem pre_succ {l : List Rw} {i : Nat} {x y : Rw} (hp : Pre l (i + 1)) (hx : l[i]? = some x) (hy : l[i + 1]? = some y) (ho : okW y = true) (hl : x.t.id < y.t.id) : Pre l (i + 2) := by
  refine ⟨fun j z hj hz => ?_, fun j a b hj ha hb => ?_⟩
  · by_cases e : j = i + 1
    · subst e; rw [hy] at hz; cases hz; exact ho
    · exact hp.1 j z (by omega) hz
  · by_cases e : j = i
    · subst e; rw [hx] at ha; rw [hy] at hb; cases ha; cases hb; exact hl
    · exact hp.2 j a b (by omega) ha hb
theorem chk_pre {l : List Rw} {m : Int} (hp : Pre l l.length) (hl : l.length ≤ 16) (hm : 0 ≤ m ∧ m ≤ 3) : chkT ⟨l, m⟩ = true := by
  have ok : ∀ r ∈ l, okW r = true := fun r hr => by
    obtain ⟨j, hj, rfl⟩ := List.getElem_of_mem hr
    exact hp.1 j _ hj (List.getElem?_eq_getElem hj)
  rw [chkT_iff]
  refine ⟨ok, rise_adj.2 ⟨fun x hx => ?_, fun j x y hx hy => hp.2 j x y (List.getElem?_eq_some_iff.1 hy).1 hx hy⟩, hl, hm⟩
  have := chk_iff.1 (okW_iff.1 (ok x (List.mem_of_getElem? hx))).1
  omega
theorem chk_bad {l : List Rw} {m : Int} {i : Nat} {x : Rw} (hx : l[i]? = some x) (ho : okW x = false) : chkT ⟨l, m⟩ = false := by
  cases h : chkT ⟨l, m⟩ with
  | false => rfl
  | true => rw [(chkT_iff.1 h).1 x (List.mem_of_getElem? hx)] at ho; cases ho
theorem chk_fall {l : List Rw} {m : Int} {i : Nat} {x y : Rw} (hx : l[i]? = some x) (hy : l[i + 1]? = some y) (h0 : y.t.id ≤ x.t.id) : chkT ⟨l, m⟩ = false := by
  cases h : chkT ⟨l, m⟩ with
  | false => rfl
  | true => have := (rise_adj.1 (chkT_iff.1 h).2.1).2 i x y hx hy; omega
theorem chk_long {l : List Rw} {m : Int} (h : 16 < l.length) : chkT ⟨l, m⟩ = false := by
  cases e : chkT ⟨l, m⟩ with
  | false => rfl
  | true => have := (chkT_iff.1 e).2.2.1; simp only at this; omega
theorem chk_mode {l : List Rw} {m : Int} (h : ¬ (0 ≤ m ∧ m ≤ 3)) : chkT ⟨l, m⟩ = false := by
  cases e : chkT ⟨l, m⟩ with
  | false => rfl
  | true => exact absurd (chkT_iff.1 e).2.2.2 h
/-- a table as a value -/
def tv (ao : Option Addr) (k cap : Nat) (m : Int) : Value := .agg #[.slice ao k cap, .int .i64 m]
/-- i rows were looked at -/
def ChRel (l : List Rw) (p : Nat) (cs : Array Value) (w : World) (g : Nat) (s : Value) (wx : World) : Prop :=
  ∃ i : Nat, i + g = l.length ∧ s = .int .i64 (i : Int) ∧ Pre l i ∧ Bos [(p, cs, 29)] w wx
set_option maxHeartbeats 4000000 in
theorem check_any (t : Tb) (ao : Option Addr) (cap : Nat) (w : World) (hS : Seen Rw.cs 6 ao t.rows w) (hl : t.rows.length ≤ 1000) :
    Calls Try.prog 35 #[tv ao t.rows.length cap t.mode] w fun e w' => e = .returned (.bool (chkT t)) ∧ Below w.heap.size w w' := by
  obtain ⟨l, m⟩ := t
  simp only [tv] at *
  have S := Lib.hid hS
  clear hS
  have H0 := Lib.hid ((bos_nil w).new #[.slice ao l.length cap, .int .i64 m] 29)
  by_cases h16 : 16 < l.length
  · have E := Lib.hid (chk_long (m := m) h16)
    have Z := Lib.hid H0.out.bl
    have h16' : (16 : Int) < (l.length : Int) := by omega
    clear h16 H0
    go_enter Try.func35, Try.ntmps35
    go_wp2
    go_ret
    exact ⟨by rw [E.out]; rfl, Z.out⟩
  have h16' : (l.length : Int) ≤ 16 := by omega
  have MO := Lib.hid (mode_any m)
  by_cases hm : 0 ≤ m ∧ m ≤ 3
  case neg =>
    have E := Lib.hid (chk_mode (l := l) hm)
    have Z := Lib.hid H0.out.bl
    rw [decide_eq_false hm] at MO
    clear h16 hm H0
    go_enter Try.func35, Try.ntmps35
    go_wp2_with fail
    (with_reducible refine (MO.out _).mono ?_)
    rintro e w1 ⟨rfl, rfl⟩
    go_wp2
    go_ret
    exact ⟨by rw [E.out]; rfl, Z.out⟩
  rw [decide_eq_true hm] at MO
  have YES : Hid (Pre l l.length → chkT ⟨l, m⟩ = true) := Lib.hid (fun h => chk_pre h (by omega) hm)
  have BAD : Hid (∀ i x, l[i]? = some x → okW x = false → chkT ⟨l, m⟩ = false) := Lib.hid (fun i x h k => chk_bad h k)
  have FALL : Hid (∀ i x y, l[i]? = some x → l[i + 1]? = some y → y.t.id ≤ x.t.id → chkT ⟨l, m⟩ = false) := Lib.hid (fun i x y h k q => chk_fall h k q)
  generalize chkT ⟨l, m⟩ = R at *
  clear hm h16
  go_enter Try.func35, Try.ntmps35
  go_wp2_with fail
  (with_reducible refine (MO.out _).mono ?_)
  rintro e w1 ⟨rfl, rfl⟩
  clear MO
  obtain ⟨c0, c1⟩ := cell2 (H0.out.cell 0 rfl)
  go_wp2_with fail
  go_loopg [18] l.length (ChRel l w.heap.size #[.slice ao l.length cap, .int .i64 m] w)
  case atStart => exact ⟨0, by omega, rfl, pre_zero l, H0.out⟩
  case round =>
    obtain ⟨i, hi, rfl, hp, hB⟩ := hrel
    have TW := S.out.below hB.bl (Nat.le_refl _)
    clear H0
    by_cases hlt : i < l.length
    · obtain ⟨b, off, rfl, hb, hat⟩ := TW (by omega)
      have hxi := List.getElem?_eq_getElem hlt
      have hx := row_cells hat hxi
      have HI := Lib.hid hi
      have hlt' : (i : Int) < (l.length : Int) := by omega
      have hg0 : 0 < gk := by omega
      have MB := Lib.hid (may_any l[i])
      have HP := Lib.hid hp
      have HXI := Lib.hid hxi
      clear hi hp TW
      generalize l[i] = x at *
      have HB := Lib.hid (hB.new #[.int .i64 x.t.id, .int .i64 x.t.c, .int .i64 x.t.d, .int .i64 x.t.t, .int .i64 x.t.m, .bool x.s] 48)
      have BADX := Lib.hid (BAD.out i x hxi)
      have SB := Lib.hid hB.bl
      clear hxi hB
      obtain ⟨c0, c1, c2, c3, c4, c5⟩ := hx
      obtain ⟨⟨xi, xc, xd, xt, xm⟩, xs⟩ := x
      simp only [Rw.v] at *
      have KEEP : Hid (∀ W', Bos [(wr.heap.size, #[.int .i64 xi, .int .i64 xc, .int .i64 xd, .int .i64 xt, .int .i64 xm, .bool xs], 48), (w.heap.size, #[.slice (some ⟨b, off, none⟩) l.length cap, .int .i64 m], 29)] w W' → (W'.cell? ⟨wr.heap.size, 0, none⟩ = some (.int .i64 xi) ∧ W'.cell? ⟨wr.heap.size, 1, none⟩ = some (.int .i64 xc) ∧ W'.cell? ⟨wr.heap.size, 2, none⟩ = some (.int .i64 xd) ∧ W'.cell? ⟨wr.heap.size, 3, none⟩ = some (.int .i64 xt) ∧ W'.cell? ⟨wr.heap.size, 4, none⟩ = some (.int .i64 xm) ∧ W'.cell? ⟨wr.heap.size, 5, none⟩ = some (.bool xs)) ∧ W'.cell? ⟨w.heap.size, 0, none⟩ = some (.slice (some ⟨b, off, none⟩) l.length cap)) := Lib.hid (fun W' h => ⟨cell6 (h.cell 0 rfl), (h.cell 1 rfl 0).trans rfl⟩)
      simp only [and_assoc] at KEEP
      cases hok : okW ⟨⟨xi, xc, xd, xt, xm⟩, xs⟩
      case false =>
        rw [hok] at MB
        have E := Lib.hid (BADX.out hok)
        clear BAD BADX FALL YES hat hok HP HXI SB
        go_wp2_with fail
        -- (FALSE)
        refine wp_region_held_drew (S := (fun W' => W'.cell? ⟨wr.heap.size, 0, none⟩ = some (.int .i64 xi) ∧ W'.cell? ⟨wr.heap.size, 1, none⟩ = some (.int .i64 xc) ∧ W'.cell? ⟨wr.heap.size, 2, none⟩ = some (.int .i64 xd) ∧ W'.cell? ⟨wr.heap.size, 3, none⟩ = some (.int .i64 xt) ∧ W'.cell? ⟨wr.heap.size, 4, none⟩ = some (.int .i64 xm) ∧ W'.cell? ⟨wr.heap.size, 5, none⟩ = some (.bool xs) ∧ W'.cell? ⟨w.heap.size, 0, none⟩ = some (.slice (some ⟨b, off, none⟩) l.length cap))) (by kernel_rfl) (KEEP.out _ HB.out.drew) (fun hHeld => ?_)
        refine Gh.tk 0 ?_
        refine Gh.rd 1 (fun K hK => ?_)
        go_simp
        (with_reducible refine (MB.out _).mono ?_)
        rintro e w1 ⟨rfl, b1⟩
        have H1 := Lib.hid (HB.out.drew.call b1)
        clear b1
        go_simp
        refine hK.out _ _ (KEEP.out _ H1.out) (fun hHeld => ?_)
        clear hK K
        refine Gh.pt ?_
        refine Gh.tk 2 ?_
        refine Gh.tk 3 ?_
        refine Gh.tn 4 ?_
        refine Gh.tn 5 ?_
        refine Gh.tn 6 ?_
        refine Gh.tn 7 ?_
        refine Gh.tn 8 ?_
        refine Gh.tn 9 ?_
        refine Gh.tn 10 ?_
        refine Gh.tn 11 ?_
        refine Gh.tn 12 ?_
        refine Gh.tn 13 ?_
        refine Gh.tn 14 ?_
        refine Gh.tn 15 ?_
        refine Gh.tn 16 ?_
        refine Gh.tn 17 ?_
        refine Gh.tn 18 ?_
        refine Gh.tn 19 ?_
        refine Gh.tk 20 ?_
        refine wpAnyH_done (by kernel_rfl) ?_ _
        go_wp2
        go_ret
        exact ⟨by rw [E.out]; rfl, H1.out.bl⟩
        -- (/FALSE)
      case true =>
        rw [hok] at MB
        have OKX := Lib.hid hok
        clear BAD BADX hok
        cases i with
        | zero =>
          have NX := Lib.hid (pre_one HXI.out OKX.out)
          simp only [Nat.zero_mul, Nat.add_zero] at c0 c1 c2 c3 c4 c5
          clear FALL YES hat HP HXI OKX SB
          go_wp2_with fail
          -- (ZERO)
          refine wp_region_held_drew (S := (fun W' => W'.cell? ⟨wr.heap.size, 0, none⟩ = some (.int .i64 xi) ∧ W'.cell? ⟨wr.heap.size, 1, none⟩ = some (.int .i64 xc) ∧ W'.cell? ⟨wr.heap.size, 2, none⟩ = some (.int .i64 xd) ∧ W'.cell? ⟨wr.heap.size, 3, none⟩ = some (.int .i64 xt) ∧ W'.cell? ⟨wr.heap.size, 4, none⟩ = some (.int .i64 xm) ∧ W'.cell? ⟨wr.heap.size, 5, none⟩ = some (.bool xs) ∧ W'.cell? ⟨w.heap.size, 0, none⟩ = some (.slice (some ⟨b, off, none⟩) l.length cap))) (by kernel_rfl) (KEEP.out _ HB.out.drew) (fun hHeld => ?_)
          refine Gh.tk 0 ?_
          refine Gh.rd 1 (fun K hK => ?_)
          go_simp
          (with_reducible refine (MB.out _).mono ?_)
          rintro e w1 ⟨rfl, b1⟩
          have H1 := Lib.hid (HB.out.drew.call b1)
          clear b1
          go_simp
          refine hK.out _ _ (KEEP.out _ H1.out) (fun hHeld => ?_)
          clear hK K
          refine Gh.pt ?_
          refine Gh.tk 2 ?_
          refine Gh.tk 3 ?_
          refine Gh.tk 4 ?_
          refine Gh.tk 5 ?_
          refine Gh.tk 6 ?_
          refine Gh.tn 7 ?_
          refine Gh.tn 8 ?_
          refine Gh.tn 9 ?_
          refine Gh.tn 10 ?_
          refine Gh.tn 11 ?_
          refine Gh.tn 12 ?_
          refine Gh.tn 13 ?_
          refine Gh.tn 14 ?_
          refine Gh.tn 15 ?_
          refine Gh.tn 16 ?_
          refine Gh.tn 17 ?_
          refine Gh.tn 18 ?_
          refine Gh.tk 19 ?_
          refine Gh.tk 20 ?_
          refine wpAnyH_done (by kernel_rfl) ?_ _
          go_wp2
          go_roundg (gk - 1)
          case measure => omega
          case rel => exact ⟨1, by have := HI.out; omega, by go_num, NX.out, H1.out.sub (by simp)⟩
          -- (/ZERO)
        | succ j =>
          have hj : j < l.length := by omega
          have PJ := List.getElem?_eq_getElem hj
          have pc := (row_cells hat PJ).1
          have HPJ := Lib.hid PJ
          generalize l[j] = y at *
          have FALLX := Lib.hid (fun q => FALL.out j y _ PJ HXI.out q)
          have NX := Lib.hid (fun q => pre_succ HP.out PJ HXI.out OKX.out q)
          clear PJ
          obtain ⟨⟨pi, yc, yd, yt, ym⟩, ys⟩ := y
          simp only at pc FALLX NX
          have e1 : ((j + 1 : Nat) : Int) - 1 = (j : Int) := by omega
          have e2 : (j : Int) < (l.length : Int) := by omega
          have e3 : IntKind.i64.wrap (j : Int) = (j : Int) := IntWalk.i64_in _ (by omega)
          have KEEP : Hid (∀ W', Bos [(wr.heap.size, #[.int .i64 xi, .int .i64 xc, .int .i64 xd, .int .i64 xt, .int .i64 xm, .bool xs], 48), (w.heap.size, #[.slice (some ⟨b, off, none⟩) l.length cap, .int .i64 m], 29)] w W' → (W'.cell? ⟨wr.heap.size, 0, none⟩ = some (.int .i64 xi) ∧ W'.cell? ⟨wr.heap.size, 1, none⟩ = some (.int .i64 xc) ∧ W'.cell? ⟨wr.heap.size, 2, none⟩ = some (.int .i64 xd) ∧ W'.cell? ⟨wr.heap.size, 3, none⟩ = some (.int .i64 xt) ∧ W'.cell? ⟨wr.heap.size, 4, none⟩ = some (.int .i64 xm) ∧ W'.cell? ⟨wr.heap.size, 5, none⟩ = some (.bool xs) ∧ W'.cell? ⟨w.heap.size, 0, none⟩ = some (.slice (some ⟨b, off, none⟩) l.length cap)) ∧ W'.cell? ⟨b, off + j * 6, none⟩ = some (.int .i64 pi)) := Lib.hid (fun W' h => ⟨KEEP.out W' h, by
            obtain ⟨b', off', e, hl', hat'⟩ := S.out.below h.bl (Nat.le_refl _) (by omega)
            cases e
            exact (row_cells hat' HPJ.out).1⟩)
          simp only [and_assoc] at KEEP
          clear FALL YES hat HP HXI OKX SB HPJ hj
          by_cases hfall : xi ≤ pi
          · have hd : decide (xi ≤ pi) = true := decide_eq_true hfall
            have E := Lib.hid (FALLX.out hfall)
            clear FALLX NX hfall
            go_wp2_with fail
          -- (FALL)
            refine wp_region_held_drew (S := (fun W' => W'.cell? ⟨wr.heap.size, 0, none⟩ = some (.int .i64 xi) ∧ W'.cell? ⟨wr.heap.size, 1, none⟩ = some (.int .i64 xc) ∧ W'.cell? ⟨wr.heap.size, 2, none⟩ = some (.int .i64 xd) ∧ W'.cell? ⟨wr.heap.size, 3, none⟩ = some (.int .i64 xt) ∧ W'.cell? ⟨wr.heap.size, 4, none⟩ = some (.int .i64 xm) ∧ W'.cell? ⟨wr.heap.size, 5, none⟩ = some (.bool xs) ∧ W'.cell? ⟨w.heap.size, 0, none⟩ = some (.slice (some ⟨b, off, none⟩) l.length cap) ∧ W'.cell? ⟨b, off + j * 6, none⟩ = some (.int .i64 pi))) (by kernel_rfl) (KEEP.out _ HB.out.drew) (fun hHeld => ?_)
            refine Gh.tk 0 ?_
            refine Gh.rd 1 (fun K hK => ?_)
            go_simp
            (with_reducible refine (MB.out _).mono ?_)
            rintro e w1 ⟨rfl, b1⟩
            have H1 := Lib.hid (HB.out.drew.call b1)
            clear b1
            go_simp
            refine hK.out _ _ (KEEP.out _ H1.out) (fun hHeld => ?_)
            clear hK K
            refine Gh.pt ?_
            refine Gh.tk 2 ?_
            refine Gh.tk 3 ?_
            refine Gh.tk 4 ?_
            refine Gh.tk 5 ?_
            refine Gh.tk 6 ?_
            refine Gh.tk 7 ?_
            refine Gh.tk 8 ?_
            refine Gh.tk 9 ?_
            refine Gh.tk 10 ?_
            refine Gh.tk 11 ?_
            refine Gh.tk 12 ?_
            refine Gh.tk 13 ?_
            refine Gh.tk 14 ?_
            refine Gh.tk 15 ?_
            refine Gh.tk 16 ?_
            refine Gh.tk 17 ?_
            refine Gh.tk 18 ?_
            refine Gh.tk 19 ?_
            refine Gh.tk 20 ?_
            refine wpAnyH_done (by kernel_rfl) ?_ _
            go_wp2
            go_ret
            exact ⟨by rw [E.out]; rfl, H1.out.bl⟩
          -- (/FALL)
          · have hd : decide (xi ≤ pi) = false := decide_eq_false hfall
            have NX := Lib.hid (NX.out (by omega))
            clear FALLX hfall
            go_wp2_with fail
          -- (SUCC)
            refine wp_region_held_drew (S := (fun W' => W'.cell? ⟨wr.heap.size, 0, none⟩ = some (.int .i64 xi) ∧ W'.cell? ⟨wr.heap.size, 1, none⟩ = some (.int .i64 xc) ∧ W'.cell? ⟨wr.heap.size, 2, none⟩ = some (.int .i64 xd) ∧ W'.cell? ⟨wr.heap.size, 3, none⟩ = some (.int .i64 xt) ∧ W'.cell? ⟨wr.heap.size, 4, none⟩ = some (.int .i64 xm) ∧ W'.cell? ⟨wr.heap.size, 5, none⟩ = some (.bool xs) ∧ W'.cell? ⟨w.heap.size, 0, none⟩ = some (.slice (some ⟨b, off, none⟩) l.length cap) ∧ W'.cell? ⟨b, off + j * 6, none⟩ = some (.int .i64 pi))) (by kernel_rfl) (KEEP.out _ HB.out.drew) (fun hHeld => ?_)
            refine Gh.tk 0 ?_
            refine Gh.rd 1 (fun K hK => ?_)
            go_simp
            (with_reducible refine (MB.out _).mono ?_)
            rintro e w1 ⟨rfl, b1⟩
            have H1 := Lib.hid (HB.out.drew.call b1)
            clear b1
            go_simp
            refine hK.out _ _ (KEEP.out _ H1.out) (fun hHeld => ?_)
            clear hK K
            refine Gh.pt ?_
            refine Gh.tk 2 ?_
            refine Gh.tk 3 ?_
            refine Gh.tk 4 ?_
            refine Gh.tk 5 ?_
            refine Gh.tk 6 ?_
            refine Gh.tk 7 ?_
            refine Gh.tk 8 ?_
            refine Gh.tk 9 ?_
            refine Gh.tk 10 ?_
            refine Gh.tk 11 ?_
            refine Gh.tk 12 ?_
            refine Gh.tk 13 ?_
            refine Gh.tk 14 ?_
            refine Gh.tk 15 ?_
            refine Gh.tk 16 ?_
            refine Gh.tk 17 ?_
            refine Gh.tk 18 ?_
            refine Gh.tk 19 ?_
            refine Gh.tk 20 ?_
            refine wpAnyH_done (by kernel_rfl) ?_ _
            go_wp2
            go_roundg (gk - 1)
            case measure => omega
            case rel => exact ⟨j + 2, by have := HI.out; omega, by go_num, NX.out, H1.out.sub (by simp)⟩
          -- (/SUCC)
    · have hge : (l.length : Int) ≤ (i : Int) := by omega
      obtain rfl : i = l.length := by omega
      have E := Lib.hid (YES.out hp)
      have K := Lib.hid hB.bl
      clear hB TW hp hi hlt
      go_wp2
      go_ret
      exact ⟨by rw [E.out]; rfl, K.out⟩
end Go.Proofs.Ytgbnoifaknlkhaa.Tb
