/- The document's pool (layer 19): Ask, Take, Waiting. -/
import Derived.Test.YtacgoobkpolcdaaSvR
import Derived.Deep.LoopGhost
import Derived.Deep.QuietTactic
namespace Go.Proofs.Ytacgoobkpolcdaa.Sv
open Go.ChangeShapes Go.WideShapes Go.ChangeAt Go.RowKit Go.Joins
set_option maxRecDepth 100000
set_option maxRecDepth 100000
set_option linter.unusedVariables false
set_option linter.unusedSimpArgs false
section
variable (B r : Nat) (L T : List Kn)
theorem rask_bad (i n : Int) (hm : mayA i n = false) (w : World) :
    Calls Try.prog 13 #[.pointer (some ⟨r, 0, none⟩), .int .i64 i, .int .i64 n] w fun e w' => e = .returned (.int .i64 1) ∧ w' = w := by
  have ID := Lib.hid (id_any i w)
  cases hi : isId i with
  | false =>
    rw [hi] at ID
    clear hi hm
    go_enter Try.func13, Try.ntmps13
    go_wp2_with fail
    (with_reducible refine ID.out.mono ?_)
    rintro e w1 ⟨rfl, rfl⟩
    go_wp2
    go_ret
    exact ⟨rfl, rfl⟩
  | true =>
    obtain ⟨j, hj, hj2⟩ := isId_yes hi
    have hb : n < 1 ∨ 2147483648 < n := by
      have := of_decide_eq_false hm
      omega
    rw [hi] at ID
    clear hi hm hj hj2
    by_cases h1 : n < 1
    · clear hb
      go_enter Try.func13, Try.ntmps13
      go_wp2_with fail
      (with_reducible refine ID.out.mono ?_)
      rintro e w1 ⟨rfl, rfl⟩
      go_wp2
      go_ret
      exact ⟨rfl, rfl⟩
    · have h2 : 2147483648 < n := by omega
      clear hb
      go_enter Try.func13, Try.ntmps13
      go_wp2_with fail
      (with_reducible refine ID.out.mono ?_)
      rintro e w1 ⟨rfl, rfl⟩
      go_wp2
      go_ret
      exact ⟨rfl, rfl⟩
theorem below_drewN (W : World) (n : Nat) : Below W.heap.size W (W.drewN n) := ⟨by simp [World.drewN], by simp [World.drewN], by simp [World.drewN], by simp [World.drewN], fun k _ => by simp [World.drewN]⟩
theorem MvK.drew (K : List Nat) (W : World) : MvK K W W.drew := MvK.of_below (Below.refl W.heap.size W).drew
theorem rask_any (hL : Ok L) (i n : Int) (w : World) (h : Rq B w r L T) :
    Calls Try.prog 13 #[.pointer (some ⟨r, 0, none⟩), .int .i64 i, .int .i64 n] w fun e w' => e = .returned (.int .i64 (askA L i n)) ∧ Rq B w' r (askL L i n) T ∧ MvK [r] w w' := by
  cases hm : mayA i n with
  | false =>
    refine (rask_bad r i n hm w).mono ?_
    rintro e w1 ⟨rfl, rfl⟩
    unfold askA askL
    rw [hm]
    exact ⟨rfl, h, MvK.refl _ _⟩
  | true =>
    obtain ⟨h1, h2, h3, h4⟩ := of_decide_eq_true hm
    obtain ⟨j, rfl⟩ : ∃ j : Nat, i = (j : Int) := ⟨i.toNat, by omega⟩
    have hj : j < 1024 := by omega
    have eA : askA L (j : Int) n = if 1099511627776 < vof L (j : Int) + n then 15 else 0 := by unfold askA; rw [hm]; rfl
    have ID := Lib.hid (id_any (j : Int) w)
    have hid : isId (j : Int) = true := by unfold isId; simp; omega
    rw [hid] at ID
    have k1 : ¬ n < 1 := by omega
    have k2 : ¬ 2147483648 < n := by omega
    have k3 : (0 : Int) ≤ (j : Int) := by omega
    have k4 : (j : Int) < 1024 := by omega
    have hbv := hL.bnd (j : Int)
    have hc := h.c j hj
    have hf := h.fz j
    have ew : IntKind.i64.wrap (vof L (j : Int) + n) = vof L (j : Int) + n := IntWalk.i64_in _ (by omega)
    by_cases hfl : 1099511627776 < vof L (j : Int) + n
    · have eL : askL L (j : Int) n = L := by unfold askL; rw [hm, if_pos hfl]; rfl
      rw [eA, eL, if_pos hfl]
      have H := Lib.hid h
      clear h hm eA eL hbv hid h1 h2 h3 h4
      go_enter Try.func13, Try.ntmps13
      go_wp2_with fail
      (with_reducible refine ID.out.mono ?_)
      rintro e w1 ⟨rfl, rfl⟩
      go_wp2
      go_ret
      exact ⟨rfl, H.out, MvK.refl _ _⟩
    · rw [eA, if_neg hfl]
      have FN := Lib.hid ((h.call (Below.refl w.heap.size w).drew).setL (ask_val hm hfl) hj)
      have FM := Lib.hid ((MvK.drew [r] w).set (g := r) (o := j) (.int .i64 (vof L (j : Int) + n)) (.inl (by simp)))
      have hlt := h.lt
      clear h hm eA hbv hid h1 h2 h3 h4
      go_enter Try.func13, Try.ntmps13
      go_wp2_with fail
      (with_reducible refine ID.out.mono ?_)
      rintro e w1 ⟨rfl, rfl⟩
      go_wp2
      go_region
      go_wp2
      go_ret
      exact ⟨rfl, FN.out, FM.out⟩
theorem rtake_any (hL : Ok L) (hT : OkT T) (i m : Int) (w : World) (h : Rq B w r L T) :
    Calls Try.prog 9 #[.pointer (some ⟨r, 0, none⟩), .int .i64 i, .int .i64 m] w fun e w' => e = .returned (.int .i64 (took L i m)) ∧ Rq B w' r (takL L i m) (takT L T i m) ∧ MvK [r] w w' := by
  have ID := Lib.hid (id_any i w)
  have hbv := hL.bnd i
  by_cases hno : isId i = false ∨ m < 1
  · have hk : min (vof L i) m < 1 := by
      rcases hno with e | e
      · rw [out_val hL.ids (isId_no e)]; omega
      · omega
    have e1 : took L i m = 0 := by unfold took; rw [if_pos hk]
    have e2 : takL L i m = L := by unfold takL; rw [if_pos hk]
    have e3 : takT L T i m = T := by unfold takT; rw [if_pos hk]
    rw [e1, e2, e3]
    have H := Lib.hid h
    clear e1 e2 e3 hk hbv h hL hT
    cases hi : isId i with
    | false =>
      rw [hi] at ID
      clear hno hi
      go_enter Try.func9, Try.ntmps9
      go_wp2_with fail
      (with_reducible refine ID.out.mono ?_)
      rintro e w1 ⟨rfl, rfl⟩
      go_wp2
      go_ret
      exact ⟨rfl, H.out, MvK.refl _ _⟩
    | true =>
      have hm : m < 1 := by
        rcases hno with e | e
        · rw [hi] at e; cases e
        · exact e
      rw [hi] at ID
      clear hno hi
      go_enter Try.func9, Try.ntmps9
      go_wp2_with fail
      (with_reducible refine ID.out.mono ?_)
      rintro e w1 ⟨rfl, rfl⟩
      go_wp2
      go_ret
      exact ⟨rfl, H.out, MvK.refl _ _⟩
  · have hi : isId i = true := by
      cases e : isId i
      · exact absurd (.inl e) hno
      · rfl
    have hm : ¬ m < 1 := fun e => hno (.inr e)
    obtain ⟨j, rfl, hj⟩ := isId_yes hi
    rw [hi] at ID
    obtain ⟨v, hv⟩ : ∃ v, vof L (j : Int) = v := ⟨_, rfl⟩
    obtain ⟨t, ht⟩ : ∃ t, vof T (j : Int) = t := ⟨_, rfl⟩
    have hc := h.c j hj
    have hd := h.d j hj
    have hf := h.fz j
    have hg := h.fz (1024 + j)
    have k3 : (0 : Int) ≤ (j : Int) := by omega
    have k4 : (j : Int) < 1024 := by omega
    have tv := tak_val hL (i := (j : Int)) (m := m) (by omega)
    have tt := takT_val hL hT (i := (j : Int)) (m := m) (by omega)
    have tk : took L (j : Int) m = min v m := by
      unfold took
      rw [hv] at hbv ⊢
      split
      · omega
      · rfl
    rw [hv] at tv tt hc hbv
    rw [ht] at tt hd
    rw [tk]
    by_cases hmv : m < v
    · have e : min v m = m := by omega
      rw [e] at tv tt ⊢
      obtain ⟨y, hy⟩ : ∃ y, IntKind.i64.wrap (t + m) = y := ⟨_, rfl⟩
      rw [hy] at tt
      have ew : IntKind.i64.wrap (v - m) = v - m := IntWalk.i64_in _ (by omega)
      have FN := Lib.hid ((((h.call (Below.refl w.heap.size w).drew).setL tv hj).call (Below.refl _ _).drew).setT tt hj)
      have FM := Lib.hid ((((MvK.drew [r] w).set (g := r) (o := j) (.int .i64 (v - m)) (.inl (by simp))).trans (MvK.drew [r] _) (NwK.refl _ _)).set (g := r) (o := 1024 + j) (.int .i64 y) (.inl (by simp)))
      have hne : ¬ j = 1024 + j := by omega
      have hne2 : ¬ 1024 + j = j := by omega
      clear h hi hno e tv tt tk hbv hL hT hv ht
      go_enter Try.func9, Try.ntmps9
      go_wp2_with fail
      (with_reducible refine ID.out.mono ?_)
      rintro e w1 ⟨rfl, rfl⟩
      go_wp2
      go_region
      go_wp2
      go_region
      go_wp2
      go_ret
      exact ⟨rfl, FN.out, FM.out⟩
    · have e : min v m = v := by omega
      rw [e] at tv tt ⊢
      rw [show v - v = 0 by omega] at tv
      obtain ⟨y, hy⟩ : ∃ y, IntKind.i64.wrap (t + v) = y := ⟨_, rfl⟩
      rw [hy] at tt
      have FN := Lib.hid ((((h.call (Below.refl w.heap.size w).drew).setL tv hj).call (Below.refl _ _).drew).setT tt hj)
      have FM := Lib.hid ((((MvK.drew [r] w).set (g := r) (o := j) (.int .i64 0) (.inl (by simp))).trans (MvK.drew [r] _) (NwK.refl _ _)).set (g := r) (o := 1024 + j) (.int .i64 y) (.inl (by simp)))
      have hne : ¬ j = 1024 + j := by omega
      have hne2 : ¬ 1024 + j = j := by omega
      have hle : v ≤ m := by omega
      clear h hi hno e tv tt tk hbv hL hT hv ht hmv
      go_enter Try.func9, Try.ntmps9
      go_wp2_with fail
      (with_reducible refine ID.out.mono ?_)
      rintro e w1 ⟨rfl, rfl⟩
      go_wp2
      go_region
      go_wp2
      go_region
      go_wp2
      go_ret
      exact ⟨rfl, FN.out, FM.out⟩
def RwRel (L : List Kn) (w : World) (gk : Nat) (s3 s4 : Value) (wx : World) : Prop := ∃ i : Nat, i + gk = 1024 ∧ s4 = .int .i64 (i : Int) ∧ NRow w.heap.size wx s3 (upTo (fun j => decide (0 < vof L (j : Int))) i) ∧ Below w.heap.size w wx
theorem rwaiting_any (hL : Ok L) (w : World) (h : Rq B w r L T) :
    Calls Try.prog 16 #[.pointer (some ⟨r, 0, none⟩)] w fun e w' => ∃ v, e = .returned v ∧ NRow w.heap.size w' v (ids L) ∧ Below w.heap.size w w' := by
  have H := Lib.hid h
  have HF : Hid (ids L = upTo (fun j => decide (0 < vof L (j : Int))) 1024) := Lib.hid (ids_filter hL fun k hk => by have := hL.ids k hk; omega)
  have HB := Lib.hid hL
  clear h hL
  go_enter Try.func16, Try.ntmps16
  go_wp2_with fail
  go_loopg [3, 4] 1024 (RwRel L w)
  case atStart => exact ⟨0, by omega, rfl, nrow_nil _ _, Below.refl _ _⟩
  case round =>
    obtain ⟨i, hi, rfl, hrow, hb⟩ := hrel
    by_cases hlt : i < 1024
    · have hc := (H.out.call hb).c i hlt
      have k3 : (0 : Int) ≤ (i : Int) := by omega
      have k4 : (i : Int) < 1024 := by omega
      have hiw : IntKind.i64.wrap ((i : Int) + 1) = (i : Int) + 1 := IntWalk.i64_in _ (by omega)
      have hbv := HB.out.bnd (i : Int)
      have hul := upTo_len (fun j => decide (0 < vof L (j : Int))) i
      by_cases hp : 0 < vof L (i : Int)
      · obtain ⟨g5, cp5, w5, hap5, hr5, hb5, hk5, hs5, hw5⟩ := nrow_append w.heap.size wr u3 _ (i : Int) hrow hb.size (by omega)
        rw [← upTo_yes (p := fun j => decide (0 < vof L (j : Int))) (decide_eq_true hp)] at hr5
        have HI := Lib.hid hi
        have R5 := Lib.hid hr5
        have B5 := Lib.hid (hb.trans hb5)
        have hg0 : 0 < gk := by omega
        clear hr5 hb5 hk5 hs5 hw5 hrow hb hi hbv hul
        generalize vof L (i : Int) = v at *
        go_wp2_with (at_builtin; refine Lib.wpList_append_run _ rfl _ _ _ _ rfl _ _ rfl rfl _ _ hap5 ?_)
        go_roundg (gk - 1)
        case measure => omega
        case rel => exact ⟨i + 1, by have := HI.out; omega, by go_num, R5.out, B5.out⟩
      · rw [← upTo_no (p := fun j => decide (0 < vof L (j : Int))) (decide_eq_false hp)] at hrow
        have HI := Lib.hid hi
        have R5 := Lib.hid hrow
        have B5 := Lib.hid hb
        have hg0 : 0 < gk := by omega
        have hz : decide (0 < vof L (i : Int)) = false := decide_eq_false hp
        clear hrow hb hi hbv hul
        go_wp2
        go_roundg (gk - 1)
        case measure => omega
        case rel => exact ⟨i + 1, by have := HI.out; omega, by go_num, R5.out, B5.out⟩
    · have e : i = 1024 := by omega
      subst e
      rw [← HF.out] at hrow
      have R5 := Lib.hid hrow
      have B5 := Lib.hid hb
      clear hrow hb hlt hi
      go_wp2
      go_ret
      exact ⟨_, rfl, R5.out, B5.out⟩
end
end Go.Proofs.Ytacgoobkpolcdaa.Sv
