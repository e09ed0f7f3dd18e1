/- The document's Check of a table. -/
import Derived.Test.YtgbnoifaknlkhaaGnH
import Derived.Test.YtgbnoifaknlkhaaTbB
namespace Go.Proofs.Ytgbnoifaknlkhaa.Tb
open Go.ChangeShapes Go.WideShapes Go.ChangeAt Go.RowKit Go.Joins
open Pm (Tk chk chk_iff below_drewN)
open Ge (El Seen Row)
set_option maxRecDepth 100000
set_option maxRecDepth 100000
set_option linter.unusedVariables false
set_option linter.unusedSimpArgs false
theorem okW_eq (i c d t m : Int) (s : Bool) : okW ⟨⟨i, c, d, t, m⟩, s⟩ = (chk ⟨i, c, d, t, m⟩ && (!s || d == t)) := rfl
set_option maxHeartbeats 8000000 in
theorem rcheck_any (t : Tb) (ao : Option Addr) (cap : Nat) (w : World) (hS : Seen Rw.cs 6 ao t.rows w) (hl : t.rows.length ≤ 1000) :
    Calls Try.prog 16 #[tv ao t.rows.length cap t.mode] w fun e w' => e = .returned (.bool (chkT t)) ∧ Below w.heap.size w w' := by
  obtain ⟨l, m⟩ := t
  simp only [tv] at *
  have S := Lib.hid hS
  clear hS
  have H0 := Lib.hid ((bos_nil w).new #[.slice ao l.length cap, .int .i64 m] 29)
  have YES : Hid (Pre l l.length → chkT ⟨l, m⟩ = (decide (l.length ≤ 16) && decide (0 ≤ m) && decide (m ≤ 3))) := Lib.hid (fun h => by
    by_cases h16 : l.length ≤ 16
    · by_cases hm : 0 ≤ m ∧ m ≤ 3
      · rw [chk_pre h h16 hm]; simp [h16, hm]
      · rw [chk_mode hm]; simp [h16]; omega
    · rw [chk_long (by omega)]; simp [h16])
  have BAD : Hid (∀ i x, l[i]? = some x → okW x = false → chkT ⟨l, m⟩ = false) := Lib.hid (fun i x h k => chk_bad h k)
  have FALL : Hid (∀ i x y, l[i]? = some x → l[i + 1]? = some y → y.t.id ≤ x.t.id → chkT ⟨l, m⟩ = false) := Lib.hid (fun i x y h k q => chk_fall h k q)
  generalize chkT ⟨l, m⟩ = R at *
  go_enter Try.func16, Try.ntmps16
  go_wp2_with fail
  go_loopg [3] l.length (ChRel l w.heap.size #[.slice ao l.length cap, .int .i64 m] w)
  case atStart => exact ⟨0, by omega, rfl, pre_zero l, H0.out⟩
  case round =>
    obtain ⟨i, hi, rfl, hp, hB⟩ := hrel
    have TW := S.out.below hB.bl (Nat.le_refl _)
    clear H0
    obtain ⟨t0, t1⟩ := cell2 (hB.cell 0 rfl)
    by_cases hlt : i < l.length
    · obtain ⟨b, off, rfl, hb, hat⟩ := TW (by omega)
      have hxi := List.getElem?_eq_getElem hlt
      have hx := row_cells hat hxi
      have HI := Lib.hid hi
      have hlt' : (i : Int) < (l.length : Int) := by omega
      have hg0 : 0 < gk := by omega
      have CK := Lib.hid (Pm.rchk_any l[i].t)
      have HP := Lib.hid hp
      have HXI := Lib.hid hxi
      clear hi hp TW
      generalize l[i] = x at *
      have HB := Lib.hid (hB.new #[.int .i64 x.t.id, .int .i64 x.t.c, .int .i64 x.t.d, .int .i64 x.t.t, .int .i64 x.t.m, .bool x.s] 48)
      have BADX := Lib.hid (BAD.out i x hxi)
      clear hxi hB
      obtain ⟨c0, c1, c2, c3, c4, c5⟩ := hx
      obtain ⟨⟨xi, xc, xd, xt, xm⟩, xs⟩ := x
      simp only [Rw.v, Tk.v] at *
      have OK := Lib.hid (okW_eq xi xc xd xt xm xs)
      generalize chk ⟨xi, xc, xd, xt, xm⟩ = q at *
      go_wp2_with fail
      (with_reducible refine (CK.out _).mono ?_)
      rintro e w1 ⟨rfl, b1⟩
      have H1 := Lib.hid (HB.out.call b1)
      clear b1 CK HB t0 t1 c0 c1 c2 c3 c4 c5
      have KEEP : Hid (∀ W', Bos [(wr.heap.size, #[.int .i64 xi, .int .i64 xc, .int .i64 xd, .int .i64 xt, .int .i64 xm, .bool xs], 48), (w.heap.size, #[.slice (some ⟨b, off, none⟩) l.length cap, .int .i64 m], 29)] w W' → (W'.cell? ⟨wr.heap.size, 0, none⟩ = some (.int .i64 xi) ∧ W'.cell? ⟨wr.heap.size, 1, none⟩ = some (.int .i64 xc) ∧ W'.cell? ⟨wr.heap.size, 2, none⟩ = some (.int .i64 xd) ∧ W'.cell? ⟨wr.heap.size, 3, none⟩ = some (.int .i64 xt) ∧ W'.cell? ⟨wr.heap.size, 4, none⟩ = some (.int .i64 xm) ∧ W'.cell? ⟨wr.heap.size, 5, none⟩ = some (.bool xs)) ∧ W'.cell? ⟨w.heap.size, 0, none⟩ = some (.slice (some ⟨b, off, none⟩) l.length cap)) := Lib.hid (fun W' h => ⟨cell6 (h.cell 0 rfl), (h.cell 1 rfl 0).trans rfl⟩)
      simp only [and_assoc] at KEEP
      cases q
      case false =>
        have E := Lib.hid (BADX.out (by rw [OK.out]; rfl))
        clear BAD BADX FALL YES hat HP HXI OK
        go_wp2_with fail
        refine wp_region_held_drew (S := (fun W' => W'.cell? ⟨wr.heap.size, 0, none⟩ = some (.int .i64 xi) ∧ W'.cell? ⟨wr.heap.size, 1, none⟩ = some (.int .i64 xc) ∧ W'.cell? ⟨wr.heap.size, 2, none⟩ = some (.int .i64 xd) ∧ W'.cell? ⟨wr.heap.size, 3, none⟩ = some (.int .i64 xt) ∧ W'.cell? ⟨wr.heap.size, 4, none⟩ = some (.int .i64 xm) ∧ W'.cell? ⟨wr.heap.size, 5, none⟩ = some (.bool xs) ∧ W'.cell? ⟨w.heap.size, 0, none⟩ = some (.slice (some ⟨b, off, none⟩) l.length cap))) (by kernel_rfl) (KEEP.out _ H1.out.drew) (fun hHeld => ?_)
        refine Gh.tk 0 ?_
        refine Gh.tk 1 ?_
        refine Gh.tk 2 ?_
        refine Gh.tn 3 ?_
        refine Gh.tn 4 ?_
        refine Gh.tn 5 ?_
        refine Gh.tn 6 ?_
        refine Gh.tn 7 ?_
        refine Gh.tn 8 ?_
        refine Gh.tn 9 ?_
        refine Gh.tn 10 ?_
        refine Gh.tn 11 ?_
        refine Gh.tn 12 ?_
        refine Gh.tn 13 ?_
        refine Gh.tk 14 ?_
        refine Gh.tk 15 ?_
        refine Gh.tn 16 ?_
        refine Gh.tn 17 ?_
        refine Gh.tn 18 ?_
        refine Gh.tn 19 ?_
        refine Gh.tn 20 ?_
        refine Gh.tn 21 ?_
        refine Gh.tn 22 ?_
        refine Gh.tn 23 ?_
        refine Gh.tn 24 ?_
        refine Gh.tn 25 ?_
        refine Gh.tn 26 ?_
        refine Gh.tn 27 ?_
        refine Gh.tn 28 ?_
        refine Gh.tn 29 ?_
        refine Gh.tn 30 ?_
        refine Gh.tn 31 ?_
        refine Gh.tk 32 ?_
        refine wpAnyH_done (by kernel_rfl) ?_ _
        go_wp2
        go_ret
        exact ⟨by rw [E.out]; rfl, H1.out.bl.drew⟩
      case true =>
        by_cases hs : xs = true ∧ ¬ xd = xt
        · obtain ⟨rfl, hdt⟩ := hs
          have E := Lib.hid (BADX.out (by rw [OK.out]; simp [hdt]))
          have hd1 : (xd == xt) = false := by simp [hdt]
          have hd2 : (xd != xt) = true := by simp [hdt]
          clear BAD BADX FALL YES hat HP HXI OK
          go_wp2_with fail
          refine wp_region_held_drew (S := (fun W' => W'.cell? ⟨wr.heap.size, 0, none⟩ = some (.int .i64 xi) ∧ W'.cell? ⟨wr.heap.size, 1, none⟩ = some (.int .i64 xc) ∧ W'.cell? ⟨wr.heap.size, 2, none⟩ = some (.int .i64 xd) ∧ W'.cell? ⟨wr.heap.size, 3, none⟩ = some (.int .i64 xt) ∧ W'.cell? ⟨wr.heap.size, 4, none⟩ = some (.int .i64 xm) ∧ W'.cell? ⟨wr.heap.size, 5, none⟩ = some (.bool true) ∧ W'.cell? ⟨w.heap.size, 0, none⟩ = some (.slice (some ⟨b, off, none⟩) l.length cap))) (by kernel_rfl) (KEEP.out _ H1.out.drew) (fun hHeld => ?_)
          refine Gh.tk 0 ?_
          refine Gh.tk 1 ?_
          refine Gh.tk 2 ?_
          refine Gh.tk 3 ?_
          refine Gh.tk 4 ?_
          refine Gh.tk 5 ?_
          refine Gh.tk 6 ?_
          refine Gh.tk 7 ?_
          refine Gh.tk 8 ?_
          refine Gh.tk 9 ?_
          refine Gh.tk 10 ?_
          refine Gh.tk 11 ?_
          refine Gh.tk 12 ?_
          refine Gh.tk 13 ?_
          refine Gh.tk 14 ?_
          refine Gh.tk 15 ?_
          refine Gh.tn 16 ?_
          refine Gh.tn 17 ?_
          refine Gh.tn 18 ?_
          refine Gh.tn 19 ?_
          refine Gh.tn 20 ?_
          refine Gh.tn 21 ?_
          refine Gh.tn 22 ?_
          refine Gh.tn 23 ?_
          refine Gh.tn 24 ?_
          refine Gh.tn 25 ?_
          refine Gh.tn 26 ?_
          refine Gh.tn 27 ?_
          refine Gh.tn 28 ?_
          refine Gh.tn 29 ?_
          refine Gh.tn 30 ?_
          refine Gh.tn 31 ?_
          refine Gh.tk 32 ?_
          refine wpAnyH_done (by kernel_rfl) ?_ _
          go_wp2
          go_ret
          exact ⟨by rw [E.out]; rfl, H1.out.bl.drew⟩
        have OKX : Hid (okW ⟨⟨xi, xc, xd, xt, xm⟩, xs⟩ = true) := Lib.hid (by
          rw [OK.out]
          cases xs with
          | false => rfl
          | true => simpa using hs)
        have hss : (xs = true ∧ (xd != xt) = false) ∨ xs = false := by
          cases xs with
          | false => exact .inr rfl
          | true => exact .inl ⟨rfl, by simpa using hs⟩
        clear BAD BADX OK hs
        cases i with
        | zero =>
          have NX := Lib.hid (pre_one HXI.out OKX.out)
          clear FALL YES hat HP HXI OKX
          rcases hss with ⟨rfl, hdt⟩ | rfl
          · go_wp2_with fail
            refine wp_region_held_drew (S := (fun W' => W'.cell? ⟨wr.heap.size, 0, none⟩ = some (.int .i64 xi) ∧ W'.cell? ⟨wr.heap.size, 1, none⟩ = some (.int .i64 xc) ∧ W'.cell? ⟨wr.heap.size, 2, none⟩ = some (.int .i64 xd) ∧ W'.cell? ⟨wr.heap.size, 3, none⟩ = some (.int .i64 xt) ∧ W'.cell? ⟨wr.heap.size, 4, none⟩ = some (.int .i64 xm) ∧ W'.cell? ⟨wr.heap.size, 5, none⟩ = some (.bool true) ∧ W'.cell? ⟨w.heap.size, 0, none⟩ = some (.slice (some ⟨b, off, none⟩) l.length cap))) (by kernel_rfl) (KEEP.out _ H1.out.drew) (fun hHeld => ?_)
            refine Gh.tk 0 ?_
            refine Gh.tk 1 ?_
            refine Gh.tk 2 ?_
            refine Gh.tk 3 ?_
            refine Gh.tk 4 ?_
            refine Gh.tk 5 ?_
            refine Gh.tk 6 ?_
            refine Gh.tk 7 ?_
            refine Gh.tk 8 ?_
            refine Gh.tk 9 ?_
            refine Gh.tk 10 ?_
            refine Gh.tk 11 ?_
            refine Gh.tk 12 ?_
            refine Gh.tk 13 ?_
            refine Gh.tk 14 ?_
            refine Gh.tk 15 ?_
            refine Gh.tk 16 ?_
            refine Gh.tk 17 ?_
            refine Gh.tk 18 ?_
            refine Gh.tn 19 ?_
            refine Gh.tn 20 ?_
            refine Gh.tn 21 ?_
            refine Gh.tn 22 ?_
            refine Gh.tn 23 ?_
            refine Gh.tn 24 ?_
            refine Gh.tn 25 ?_
            refine Gh.tn 26 ?_
            refine Gh.tn 27 ?_
            refine Gh.tn 28 ?_
            refine Gh.tn 29 ?_
            refine Gh.tn 30 ?_
            refine Gh.tk 31 ?_
            refine Gh.tk 32 ?_
            refine wpAnyH_done (by kernel_rfl) ?_ _
            go_wp2
            go_roundg (gk - 1)
            case measure => omega
            case rel => exact ⟨1, by have := HI.out; omega, by go_num, NX.out, H1.out.drew.sub (by simp)⟩
          · go_wp2_with fail
            refine wp_region_held_drew (S := (fun W' => W'.cell? ⟨wr.heap.size, 0, none⟩ = some (.int .i64 xi) ∧ W'.cell? ⟨wr.heap.size, 1, none⟩ = some (.int .i64 xc) ∧ W'.cell? ⟨wr.heap.size, 2, none⟩ = some (.int .i64 xd) ∧ W'.cell? ⟨wr.heap.size, 3, none⟩ = some (.int .i64 xt) ∧ W'.cell? ⟨wr.heap.size, 4, none⟩ = some (.int .i64 xm) ∧ W'.cell? ⟨wr.heap.size, 5, none⟩ = some (.bool false) ∧ W'.cell? ⟨w.heap.size, 0, none⟩ = some (.slice (some ⟨b, off, none⟩) l.length cap))) (by kernel_rfl) (KEEP.out _ H1.out.drew) (fun hHeld => ?_)
            refine Gh.tk 0 ?_
            refine Gh.tk 1 ?_
            refine Gh.tk 2 ?_
            refine Gh.tk 3 ?_
            refine Gh.tk 4 ?_
            refine Gh.tk 5 ?_
            refine Gh.tn 6 ?_
            refine Gh.tn 7 ?_
            refine Gh.tn 8 ?_
            refine Gh.tn 9 ?_
            refine Gh.tn 10 ?_
            refine Gh.tn 11 ?_
            refine Gh.tn 12 ?_
            refine Gh.tk 13 ?_
            refine Gh.tk 14 ?_
            refine Gh.tk 15 ?_
            refine Gh.tk 16 ?_
            refine Gh.tk 17 ?_
            refine Gh.tk 18 ?_
            refine Gh.tn 19 ?_
            refine Gh.tn 20 ?_
            refine Gh.tn 21 ?_
            refine Gh.tn 22 ?_
            refine Gh.tn 23 ?_
            refine Gh.tn 24 ?_
            refine Gh.tn 25 ?_
            refine Gh.tn 26 ?_
            refine Gh.tn 27 ?_
            refine Gh.tn 28 ?_
            refine Gh.tn 29 ?_
            refine Gh.tn 30 ?_
            refine Gh.tk 31 ?_
            refine Gh.tk 32 ?_
            refine wpAnyH_done (by kernel_rfl) ?_ _
            go_wp2
            go_roundg (gk - 1)
            case measure => omega
            case rel => exact ⟨1, by have := HI.out; omega, by go_num, NX.out, H1.out.drew.sub (by simp)⟩
        | succ j =>
          have hj : j < l.length := by omega
          have PJ := List.getElem?_eq_getElem hj
          have HPJ := Lib.hid PJ
          generalize l[j] = y at *
          have FALLX := Lib.hid (fun q => FALL.out j y _ PJ HXI.out q)
          have NX := Lib.hid (fun q => pre_succ HP.out PJ HXI.out OKX.out q)
          clear PJ
          obtain ⟨⟨pi, yc, yd, yt, ym⟩, ys⟩ := y
          simp only at FALLX NX
          have e1 : ((j + 1 : Nat) : Int) - 1 = (j : Int) := by omega
          have e2 : (j : Int) < (l.length : Int) := by omega
          have e3 : IntKind.i64.wrap (j : Int) = (j : Int) := IntWalk.i64_in _ (by omega)
          have KEEP : Hid (∀ W', Bos [(wr.heap.size, #[.int .i64 xi, .int .i64 xc, .int .i64 xd, .int .i64 xt, .int .i64 xm, .bool xs], 48), (w.heap.size, #[.slice (some ⟨b, off, none⟩) l.length cap, .int .i64 m], 29)] w W' → (W'.cell? ⟨wr.heap.size, 0, none⟩ = some (.int .i64 xi) ∧ W'.cell? ⟨wr.heap.size, 1, none⟩ = some (.int .i64 xc) ∧ W'.cell? ⟨wr.heap.size, 2, none⟩ = some (.int .i64 xd) ∧ W'.cell? ⟨wr.heap.size, 3, none⟩ = some (.int .i64 xt) ∧ W'.cell? ⟨wr.heap.size, 4, none⟩ = some (.int .i64 xm) ∧ W'.cell? ⟨wr.heap.size, 5, none⟩ = some (.bool xs) ∧ W'.cell? ⟨w.heap.size, 0, none⟩ = some (.slice (some ⟨b, off, none⟩) l.length cap)) ∧ W'.cell? ⟨b, off + j * 6, none⟩ = some (.int .i64 pi)) := Lib.hid (fun W' h => ⟨KEEP.out W' h, by
            obtain ⟨b', off', e, hl', hat'⟩ := S.out.below h.bl (Nat.le_refl _) (by omega)
            cases e
            exact (row_cells hat' HPJ.out).1⟩)
          simp only [and_assoc] at KEEP
          clear FALL YES hat HP HXI OKX hj HPJ
          by_cases hfall : xi ≤ pi
          · have hd : decide (xi ≤ pi) = true := decide_eq_true hfall
            have E := Lib.hid (FALLX.out hfall)
            clear FALLX NX
            rcases hss with ⟨rfl, hdt⟩ | rfl
            · go_wp2_with fail
              refine wp_region_held_drew (S := (fun W' => W'.cell? ⟨wr.heap.size, 0, none⟩ = some (.int .i64 xi) ∧ W'.cell? ⟨wr.heap.size, 1, none⟩ = some (.int .i64 xc) ∧ W'.cell? ⟨wr.heap.size, 2, none⟩ = some (.int .i64 xd) ∧ W'.cell? ⟨wr.heap.size, 3, none⟩ = some (.int .i64 xt) ∧ W'.cell? ⟨wr.heap.size, 4, none⟩ = some (.int .i64 xm) ∧ W'.cell? ⟨wr.heap.size, 5, none⟩ = some (.bool true) ∧ W'.cell? ⟨w.heap.size, 0, none⟩ = some (.slice (some ⟨b, off, none⟩) l.length cap) ∧ W'.cell? ⟨b, off + j * 6, none⟩ = some (.int .i64 pi))) (by kernel_rfl) (KEEP.out _ H1.out.drew) (fun hHeld => ?_)
              refine Gh.tk 0 ?_
              refine Gh.tk 1 ?_
              refine Gh.tk 2 ?_
              refine Gh.tk 3 ?_
              refine Gh.tk 4 ?_
              refine Gh.tk 5 ?_
              refine Gh.tk 6 ?_
              refine Gh.tk 7 ?_
              refine Gh.tk 8 ?_
              refine Gh.tk 9 ?_
              refine Gh.tk 10 ?_
              refine Gh.tk 11 ?_
              refine Gh.tk 12 ?_
              refine Gh.tk 13 ?_
              refine Gh.tk 14 ?_
              refine Gh.tk 15 ?_
              refine Gh.tk 16 ?_
              refine Gh.tk 17 ?_
              refine Gh.tk 18 ?_
              refine Gh.tk 19 ?_
              refine Gh.tk 20 ?_
              refine Gh.tk 21 ?_
              refine Gh.tk 22 ?_
              refine Gh.tk 23 ?_
              refine Gh.tk 24 ?_
              refine Gh.tk 25 ?_
              refine Gh.tk 26 ?_
              refine Gh.tk 27 ?_
              refine Gh.tk 28 ?_
              refine Gh.tk 29 ?_
              refine Gh.tk 30 ?_
              refine Gh.tk 31 ?_
              refine Gh.tk 32 ?_
              refine wpAnyH_done (by kernel_rfl) ?_ _
              go_wp2
              go_ret
              exact ⟨by rw [E.out]; rfl, H1.out.bl.drew⟩
            · go_wp2_with fail
              refine wp_region_held_drew (S := (fun W' => W'.cell? ⟨wr.heap.size, 0, none⟩ = some (.int .i64 xi) ∧ W'.cell? ⟨wr.heap.size, 1, none⟩ = some (.int .i64 xc) ∧ W'.cell? ⟨wr.heap.size, 2, none⟩ = some (.int .i64 xd) ∧ W'.cell? ⟨wr.heap.size, 3, none⟩ = some (.int .i64 xt) ∧ W'.cell? ⟨wr.heap.size, 4, none⟩ = some (.int .i64 xm) ∧ W'.cell? ⟨wr.heap.size, 5, none⟩ = some (.bool false) ∧ W'.cell? ⟨w.heap.size, 0, none⟩ = some (.slice (some ⟨b, off, none⟩) l.length cap) ∧ W'.cell? ⟨b, off + j * 6, none⟩ = some (.int .i64 pi))) (by kernel_rfl) (KEEP.out _ H1.out.drew) (fun hHeld => ?_)
              refine Gh.tk 0 ?_
              refine Gh.tk 1 ?_
              refine Gh.tk 2 ?_
              refine Gh.tk 3 ?_
              refine Gh.tk 4 ?_
              refine Gh.tk 5 ?_
              refine Gh.tn 6 ?_
              refine Gh.tn 7 ?_
              refine Gh.tn 8 ?_
              refine Gh.tn 9 ?_
              refine Gh.tn 10 ?_
              refine Gh.tn 11 ?_
              refine Gh.tn 12 ?_
              refine Gh.tk 13 ?_
              refine Gh.tk 14 ?_
              refine Gh.tk 15 ?_
              refine Gh.tk 16 ?_
              refine Gh.tk 17 ?_
              refine Gh.tk 18 ?_
              refine Gh.tk 19 ?_
              refine Gh.tk 20 ?_
              refine Gh.tk 21 ?_
              refine Gh.tk 22 ?_
              refine Gh.tk 23 ?_
              refine Gh.tk 24 ?_
              refine Gh.tk 25 ?_
              refine Gh.tk 26 ?_
              refine Gh.tk 27 ?_
              refine Gh.tk 28 ?_
              refine Gh.tk 29 ?_
              refine Gh.tk 30 ?_
              refine Gh.tk 31 ?_
              refine Gh.tk 32 ?_
              refine wpAnyH_done (by kernel_rfl) ?_ _
              go_wp2
              go_ret
              exact ⟨by rw [E.out]; rfl, H1.out.bl.drew⟩
          · have hd : decide (xi ≤ pi) = false := decide_eq_false hfall
            have NX := Lib.hid (NX.out (by omega))
            have hf2 : pi < xi := by omega
            clear FALLX hfall
            rcases hss with ⟨rfl, hdt⟩ | rfl
            · go_wp2_with fail
              refine wp_region_held_drew (S := (fun W' => W'.cell? ⟨wr.heap.size, 0, none⟩ = some (.int .i64 xi) ∧ W'.cell? ⟨wr.heap.size, 1, none⟩ = some (.int .i64 xc) ∧ W'.cell? ⟨wr.heap.size, 2, none⟩ = some (.int .i64 xd) ∧ W'.cell? ⟨wr.heap.size, 3, none⟩ = some (.int .i64 xt) ∧ W'.cell? ⟨wr.heap.size, 4, none⟩ = some (.int .i64 xm) ∧ W'.cell? ⟨wr.heap.size, 5, none⟩ = some (.bool true) ∧ W'.cell? ⟨w.heap.size, 0, none⟩ = some (.slice (some ⟨b, off, none⟩) l.length cap) ∧ W'.cell? ⟨b, off + j * 6, none⟩ = some (.int .i64 pi))) (by kernel_rfl) (KEEP.out _ H1.out.drew) (fun hHeld => ?_)
              refine Gh.tk 0 ?_
              refine Gh.tk 1 ?_
              refine Gh.tk 2 ?_
              refine Gh.tk 3 ?_
              refine Gh.tk 4 ?_
              refine Gh.tk 5 ?_
              refine Gh.tk 6 ?_
              refine Gh.tk 7 ?_
              refine Gh.tk 8 ?_
              refine Gh.tk 9 ?_
              refine Gh.tk 10 ?_
              refine Gh.tk 11 ?_
              refine Gh.tk 12 ?_
              refine Gh.tk 13 ?_
              refine Gh.tk 14 ?_
              refine Gh.tk 15 ?_
              refine Gh.tk 16 ?_
              refine Gh.tk 17 ?_
              refine Gh.tk 18 ?_
              refine Gh.tk 19 ?_
              refine Gh.tk 20 ?_
              refine Gh.tk 21 ?_
              refine Gh.tk 22 ?_
              refine Gh.tk 23 ?_
              refine Gh.tk 24 ?_
              refine Gh.tk 25 ?_
              refine Gh.tk 26 ?_
              refine Gh.tk 27 ?_
              refine Gh.tk 28 ?_
              refine Gh.tk 29 ?_
              refine Gh.tk 30 ?_
              refine Gh.tk 31 ?_
              refine Gh.tk 32 ?_
              refine wpAnyH_done (by kernel_rfl) ?_ _
              go_wp2
              go_roundg (gk - 1)
              case measure => omega
              case rel => exact ⟨j + 2, by have := HI.out; omega, by go_num, NX.out, H1.out.drew.sub (by simp)⟩
            · go_wp2_with fail
              refine wp_region_held_drew (S := (fun W' => W'.cell? ⟨wr.heap.size, 0, none⟩ = some (.int .i64 xi) ∧ W'.cell? ⟨wr.heap.size, 1, none⟩ = some (.int .i64 xc) ∧ W'.cell? ⟨wr.heap.size, 2, none⟩ = some (.int .i64 xd) ∧ W'.cell? ⟨wr.heap.size, 3, none⟩ = some (.int .i64 xt) ∧ W'.cell? ⟨wr.heap.size, 4, none⟩ = some (.int .i64 xm) ∧ W'.cell? ⟨wr.heap.size, 5, none⟩ = some (.bool false) ∧ W'.cell? ⟨w.heap.size, 0, none⟩ = some (.slice (some ⟨b, off, none⟩) l.length cap) ∧ W'.cell? ⟨b, off + j * 6, none⟩ = some (.int .i64 pi))) (by kernel_rfl) (KEEP.out _ H1.out.drew) (fun hHeld => ?_)
              refine Gh.tk 0 ?_
              refine Gh.tk 1 ?_
              refine Gh.tk 2 ?_
              refine Gh.tk 3 ?_
              refine Gh.tk 4 ?_
              refine Gh.tk 5 ?_
              refine Gh.tn 6 ?_
              refine Gh.tn 7 ?_
              refine Gh.tn 8 ?_
              refine Gh.tn 9 ?_
              refine Gh.tn 10 ?_
              refine Gh.tn 11 ?_
              refine Gh.tn 12 ?_
              refine Gh.tk 13 ?_
              refine Gh.tk 14 ?_
              refine Gh.tk 15 ?_
              refine Gh.tk 16 ?_
              refine Gh.tk 17 ?_
              refine Gh.tk 18 ?_
              refine Gh.tk 19 ?_
              refine Gh.tk 20 ?_
              refine Gh.tk 21 ?_
              refine Gh.tk 22 ?_
              refine Gh.tk 23 ?_
              refine Gh.tk 24 ?_
              refine Gh.tk 25 ?_
              refine Gh.tk 26 ?_
              refine Gh.tk 27 ?_
              refine Gh.tk 28 ?_
              refine Gh.tk 29 ?_
              refine Gh.tk 30 ?_
              refine Gh.tk 31 ?_
              refine Gh.tk 32 ?_
              refine wpAnyH_done (by kernel_rfl) ?_ _
              go_wp2
              go_roundg (gk - 1)
              case measure => omega
              case rel => exact ⟨j + 2, by have := HI.out; omega, by go_num, NX.out, H1.out.drew.sub (by simp)⟩
    · have hge : (l.length : Int) ≤ (i : Int) := by omega
      obtain rfl : i = l.length := by omega
      have E := Lib.hid (YES.out hp)
      have K := Lib.hid hB.bl
      clear hB TW hp hi hlt
      have eN : decide (l.length ≤ 16) = decide ((l.length : Int) ≤ 16) := decide_eq_decide.2 (by omega)
      rw [eN] at E
      clear eN
      by_cases h1 : (l.length : Int) ≤ 16
      · by_cases h2 : 0 ≤ m
        · go_wp2
          go_ret
          exact ⟨by rw [E.out]; simp [h1]; omega, K.out⟩
        · have h2' : m < 0 := by omega
          go_wp2
          go_ret
          exact ⟨by rw [E.out]; simp [h1]; omega, K.out⟩
      · have h1' : (16 : Int) < (l.length : Int) := by omega
        go_wp2
        go_ret
        exact ⟨by rw [E.out]; simp; omega, K.out⟩
end Go.Proofs.Ytgbnoifaknlkhaa.Tb
