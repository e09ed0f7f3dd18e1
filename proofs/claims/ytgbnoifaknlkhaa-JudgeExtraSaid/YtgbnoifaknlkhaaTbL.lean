/- Tables compared, rows found: package table's Same and Find, the document's, the library's Equal over rows. -/
import Derived.Test.YtgbnoifaknlkhaaGnH
import Derived.Test.YtgbnoifaknlkhaaMTh
namespace Go.Proofs.Ytgbnoifaknlkhaa.Tb
open Go.ChangeShapes Go.WideShapes Go.ChangeAt Go.RowKit Go.Joins
open Pm (Tk chk chk_iff below_drewN)
open Ge (El Seen Row)
set_option maxRecDepth 100000
set_option maxRecDepth 100000
set_option linter.unusedVariables false
set_option linter.unusedSimpArgs false
theorem eq_next {l k : List Rw} {i : Nat} (h : i < l.length) (h2 : i < k.length) (hp : l.take i = k.take i) (e : l[i] = k[i]) : l.take (i + 1) = k.take (i + 1) := by
  rw [List.take_succ_eq_append_getElem h, List.take_succ_eq_append_getElem h2, hp, e]
theorem eq_not {l k : List Rw} {i : Nat} (h : i < l.length) (h2 : i < k.length) (e : l[i] ≠ k[i]) : l ≠ k := fun q => by
  subst q; exact e rfl
def EqRel (l k : List Rw) (w : World) (g : Nat) (s : Value) (wx : World) : Prop := ∃ i : Nat, i + g = l.length ∧ s = .int .i64 (i : Int) ∧ l.take i = k.take i ∧ Below w.heap.size w wx
def sameT (a b : Tb) : Bool := decide (a.rows = b.rows) && decide (a.mode = b.mode)
/-- the boxes of two tables -/
theorem tt_new (w : World) (a b : Value) (m n : Int) : Bos (TB w a b m n) w ((w.alloc (.cells #[a, .int .i64 m] 29)).alloc (.cells #[b, .int .i64 n] 29)) := by
  have := ((bos_nil w).new #[a, .int .i64 m] 29).new #[b, .int .i64 n] 29
  rw [World.size_alloc] at this
  exact this
def EsRel (l k : List Rw) (L : List (Nat × Array Value × Nat)) (w : World) (g : Nat) (s : Value) (wx : World) : Prop := ∃ i : Nat, i + g = l.length ∧ s = .int .i64 (i : Int) ∧ l.take i = k.take i ∧ Bos L w wx
set_option maxHeartbeats 4000000 in
theorem rsame_any (a b : Tb) (ao bo : Option Addr) (cl ck : Nat) (w : World) (ha : Seen Rw.cs 6 ao a.rows w) (hb : Seen Rw.cs 6 bo b.rows w) (h1 : a.rows.length ≤ 1000) (h2 : b.rows.length ≤ 1000) :
    Calls Try.prog 23 #[tv ao a.rows.length cl a.mode, tv bo b.rows.length ck b.mode] w fun e w' => e = .returned (.bool (sameT a b)) ∧ Below w.heap.size w w' := by
  have H0 := Lib.hid (tt_new w (.slice ao a.rows.length cl) (.slice bo b.rows.length ck) a.mode b.mode)
  obtain ⟨l, m⟩ := a
  obtain ⟨k, n⟩ := b
  unfold tv sameT at *
  simp only at *
  have SL := Lib.hid ha
  have SK := Lib.hid hb
  obtain ⟨t0, t1⟩ := cell2 (H0.out.cell 1 rfl)
  obtain ⟨u0, u1⟩ := cell2 (H0.out.cell 0 rfl)
  clear ha hb
  by_cases hlen : l.length = k.length
  case neg =>
    have E : decide (l = k) = false := decide_eq_false (fun e => hlen (by rw [e]))
    rw [E, Bool.false_and]
    have h4 : ((l.length : Int) != (k.length : Int)) = true := by simp; omega
    clear SL SK hlen E
    go_enter Try.func23, Try.ntmps23
    go_wp2
    go_ret
    exact ⟨rfl, H0.out.bl⟩
  have h3 : ((l.length : Int) != (k.length : Int)) = false := by simp; omega
  by_cases hm : m = n
  case neg =>
    have E : decide (m = n) = false := decide_eq_false hm
    rw [E, Bool.and_false]
    have h4 : (m != n) = true := by simp [hm]
    clear SL SK hlen E
    go_enter Try.func23, Try.ntmps23
    go_wp2
    go_ret
    exact ⟨rfl, H0.out.bl⟩
  have hm2 : (m != n) = false := by simp [hm]
  rw [decide_eq_true hm, Bool.and_true]
  have TRUE : Hid (l = k → decide (l = k) = true) := Lib.hid (fun h => decide_eq_true h)
  have FALSE : Hid (l ≠ k → decide (l = k) = false) := Lib.hid (fun h => decide_eq_false h)
  generalize decide (l = k) = R at *
  have HLEN := Lib.hid hlen
  clear hm hlen
  go_enter Try.func23, Try.ntmps23
  go_wp2_with fail
  go_loopg [5] l.length (EsRel l k (TB w (.slice ao l.length cl) (.slice bo k.length ck) m n) w)
  case atStart => exact ⟨0, by omega, rfl, rfl, H0.out⟩
  case round =>
    obtain ⟨i, hi, rfl, hp, hB⟩ := hrel
    have HB := Lib.hid hB
    clear hB H0 t0 t1 u0 u1
    obtain ⟨t0, t1⟩ := cell2 (HB.out.cell 1 rfl)
    obtain ⟨u0, u1⟩ := cell2 (HB.out.cell 0 rfl)
    by_cases hlt : i < l.length
    · have hlt2 : i < k.length := by have := HLEN.out; omega
      obtain ⟨b, off, rfl, hb, hat⟩ := (SL.out.below HB.out.bl (Nat.le_refl _)) (by omega)
      obtain ⟨b2, off2, rfl, hb2, hat2⟩ := (SK.out.below HB.out.bl (Nat.le_refl _)) (by omega)
      have hx := List.getElem?_eq_getElem hlt
      have hy := List.getElem?_eq_getElem hlt2
      have KD := Lib.hid (And.intro (row_cells hat hx) (row_cells hat2 hy))
      have hi1 : (i : Int) < (l.length : Int) := by omega
      have hi2 : (i : Int) < (k.length : Int) := by omega
      have hi3 : IntKind.i64.wrap (i : Int) = (i : Int) := IntWalk.i64_in _ (by omega)
      have hg0 : 0 < gk := by omega
      have HI := Lib.hid hi
      have NX := Lib.hid (fun e => eq_next hlt hlt2 hp e)
      have NE := Lib.hid (fun e => eq_not hlt hlt2 e)
      have EQ := neq_row l[i] k[i]
      generalize l[i] = x at *
      generalize k[i] = y at *
      clear hat hat2 hx hy hp hi hlt hlt2 hb hb2
      by_cases hxy : x = y
      · rw [decide_eq_true hxy] at EQ
        have NX2 := Lib.hid (NX.out hxy)
        clear hxy NE NX
        obtain ⟨⟨xi, xc, xd, xt, xm⟩, xs⟩ := x
        obtain ⟨⟨yi, yc, yd, yt, ym⟩, ys⟩ := y
        simp only [Rw.v, Bool.not_true] at *
        have KE := Lib.hid (And.intro KD.out (And.intro t0 u0))
        try simp only at KE
        go_wp2_with fail
        refine wp_region_held_drew (S := (fun W' => ((W'.cell? ⟨b, off + i * 6, none⟩ = some (.int .i64 xi) ∧ W'.cell? ⟨b, off + i * 6 + 1, none⟩ = some (.int .i64 xc) ∧ W'.cell? ⟨b, off + i * 6 + 2, none⟩ = some (.int .i64 xd) ∧ W'.cell? ⟨b, off + i * 6 + 3, none⟩ = some (.int .i64 xt) ∧ W'.cell? ⟨b, off + i * 6 + 4, none⟩ = some (.int .i64 xm) ∧ W'.cell? ⟨b, off + i * 6 + 5, none⟩ = some (.bool xs)) ∧ (W'.cell? ⟨b2, off2 + i * 6, none⟩ = some (.int .i64 yi) ∧ W'.cell? ⟨b2, off2 + i * 6 + 1, none⟩ = some (.int .i64 yc) ∧ W'.cell? ⟨b2, off2 + i * 6 + 2, none⟩ = some (.int .i64 yd) ∧ W'.cell? ⟨b2, off2 + i * 6 + 3, none⟩ = some (.int .i64 yt) ∧ W'.cell? ⟨b2, off2 + i * 6 + 4, none⟩ = some (.int .i64 ym) ∧ W'.cell? ⟨b2, off2 + i * 6 + 5, none⟩ = some (.bool ys))) ∧ W'.cell? ⟨w.heap.size, 0, none⟩ = some (.slice (some ⟨b, off, none⟩) l.length cl) ∧ W'.cell? ⟨w.heap.size + 1, 0, none⟩ = some (.slice (some ⟨b2, off2, none⟩) k.length ck))) (by kernel_rfl) (KE.out) (fun hHeld => ?_)
        refine Gh.tk 0 ?_
        refine Gh.tk 1 ?_
        refine Gh.tk 2 ?_
        refine Gh.tk 3 ?_
        refine Gh.tk 4 ?_
        refine Gh.tk 5 ?_
        refine Gh.tk 6 ?_
        refine Gh.tk 7 ?_
        refine Gh.tk 8 ?_
        refine Gh.tk 9 ?_
        refine Gh.tk 10 ?_
        refine wpAnyH_done (by kernel_rfl) ?_ _
        go_wp2
        go_roundg (gk - 1)
        case measure => omega
        case rel => exact ⟨i + 1, by have := HI.out; omega, by go_num, NX2.out, HB.out.drew⟩
      · rw [decide_eq_false hxy] at EQ
        have E := Lib.hid (FALSE.out (NE.out hxy))
        clear hxy NX NE
        obtain ⟨⟨xi, xc, xd, xt, xm⟩, xs⟩ := x
        obtain ⟨⟨yi, yc, yd, yt, ym⟩, ys⟩ := y
        simp only [Rw.v, Bool.not_false] at *
        have KE := Lib.hid (And.intro KD.out (And.intro t0 u0))
        try simp only at KE
        go_wp2_with fail
        refine wp_region_held_drew (S := (fun W' => ((W'.cell? ⟨b, off + i * 6, none⟩ = some (.int .i64 xi) ∧ W'.cell? ⟨b, off + i * 6 + 1, none⟩ = some (.int .i64 xc) ∧ W'.cell? ⟨b, off + i * 6 + 2, none⟩ = some (.int .i64 xd) ∧ W'.cell? ⟨b, off + i * 6 + 3, none⟩ = some (.int .i64 xt) ∧ W'.cell? ⟨b, off + i * 6 + 4, none⟩ = some (.int .i64 xm) ∧ W'.cell? ⟨b, off + i * 6 + 5, none⟩ = some (.bool xs)) ∧ (W'.cell? ⟨b2, off2 + i * 6, none⟩ = some (.int .i64 yi) ∧ W'.cell? ⟨b2, off2 + i * 6 + 1, none⟩ = some (.int .i64 yc) ∧ W'.cell? ⟨b2, off2 + i * 6 + 2, none⟩ = some (.int .i64 yd) ∧ W'.cell? ⟨b2, off2 + i * 6 + 3, none⟩ = some (.int .i64 yt) ∧ W'.cell? ⟨b2, off2 + i * 6 + 4, none⟩ = some (.int .i64 ym) ∧ W'.cell? ⟨b2, off2 + i * 6 + 5, none⟩ = some (.bool ys))) ∧ W'.cell? ⟨w.heap.size, 0, none⟩ = some (.slice (some ⟨b, off, none⟩) l.length cl) ∧ W'.cell? ⟨w.heap.size + 1, 0, none⟩ = some (.slice (some ⟨b2, off2, none⟩) k.length ck))) (by kernel_rfl) (KE.out) (fun hHeld => ?_)
        refine Gh.tk 0 ?_
        refine Gh.tk 1 ?_
        refine Gh.tk 2 ?_
        refine Gh.tk 3 ?_
        refine Gh.tk 4 ?_
        refine Gh.tk 5 ?_
        refine Gh.tk 6 ?_
        refine Gh.tk 7 ?_
        refine Gh.tk 8 ?_
        refine Gh.tk 9 ?_
        refine Gh.tk 10 ?_
        refine wpAnyH_done (by kernel_rfl) ?_ _
        go_wp2
        go_ret
        exact ⟨by rw [E.out]; rfl, HB.out.drew.bl⟩
    · have hge : (l.length : Int) ≤ (i : Int) := by omega
      obtain rfl : i = l.length := by omega
      have E := Lib.hid (TRUE.out (by rw [List.take_length, HLEN.out, List.take_length] at hp; exact hp))
      clear hp hi hlt
      go_wp2
      go_ret
      exact ⟨by rw [E.out]; rfl, HB.out.bl⟩
def rw0 : Rw := ⟨⟨0, 0, 0, 0, 0⟩, false⟩
def findR (l : List Rw) (id : Int) : Rw × Bool := match at_ l id with
  | none => (rw0, false)
  | some k => match l[k]? with
    | none => (rw0, false)
    | some r => (r, true)
/-- the boxes of a table, and of a row that is told -/
theorem tr_new (w : World) (a : Value) (m : Int) : Bos [(w.heap.size + 1, #[.int .i64 0, .int .i64 0, .int .i64 0, .int .i64 0, .int .i64 0, .bool false], 48), (w.heap.size, #[a, .int .i64 m], 29)] w ((w.alloc (.cells #[a, .int .i64 m] 29)).alloc (.cells #[.int .i64 0, .int .i64 0, .int .i64 0, .int .i64 0, .int .i64 0, .bool false] 48)) := by
  have := ((bos_nil w).new #[a, .int .i64 m] 29).new #[.int .i64 0, .int .i64 0, .int .i64 0, .int .i64 0, .int .i64 0, .bool false] 48
  rw [World.size_alloc] at this
  exact this
theorem set6 {L : List (Nat × Array Value × Nat)} {w W : World} {p : Nat} {T : Nat} {a0 a1 a2 a3 a4 a5 : Value} (h : Bos ((p, #[a0, a1, a2, a3, a4, a5], T) :: L) w W) (b0 b1 b2 b3 b4 b5 : Value) : Bos ((p, #[b0, b1, b2, b3, b4, b5], T) :: L) w ((((((W.setCell ⟨p, 0, none⟩ b0).setCell ⟨p, 1, none⟩ b1).setCell ⟨p, 2, none⟩ b2).setCell ⟨p, 3, none⟩ b3).setCell ⟨p, 4, none⟩ b4).setCell ⟨p, 5, none⟩ b5) :=
  (((((h.set 0 rfl 0 b0).set 0 rfl 1 b1).set 0 rfl 2 b2).set 0 rfl 3 b3).set 0 rfl 4 b4).set 0 rfl 5 b5
theorem ret_find_any (tmps : Array Value) (p : Nat) (W : World) (a0 a1 a2 a3 a4 a5 : Value) (b : Bool) (h4 : tmps.getD 4 undef = .pointer (some ⟨p, 0, none⟩)) (h5 : tmps.getD 5 undef = .bool b) (q0 : W.cell? ⟨p, 0, none⟩ = some a0) (q1 : W.cell? ⟨p, 1, none⟩ = some a1) (q2 : W.cell? ⟨p, 2, none⟩ = some a2) (q3 : W.cell? ⟨p, 3, none⟩ = some a3) (q4 : W.cell? ⟨p, 4, none⟩ = some a4) (q5 : W.cell? ⟨p, 5, none⟩ = some a5) :
    (results Try.f37 tmps).run Try.prog W = .ok (.tuple #[.agg #[a0, a1, a2, a3, a4, a5], .bool b]) W := by
  rw [Array.getD_eq_getD_getElem?] at h4 h5
  simp [results, Try.results37, go_sem, h4, h5, q0, q1, q2, q3, q4, q5]
theorem ret_rfind_any (tmps : Array Value) (p : Nat) (W : World) (a0 a1 a2 a3 a4 a5 : Value) (b : Bool) (h4 : tmps.getD 4 undef = .pointer (some ⟨p, 0, none⟩)) (h5 : tmps.getD 5 undef = .bool b) (q0 : W.cell? ⟨p, 0, none⟩ = some a0) (q1 : W.cell? ⟨p, 1, none⟩ = some a1) (q2 : W.cell? ⟨p, 2, none⟩ = some a2) (q3 : W.cell? ⟨p, 3, none⟩ = some a3) (q4 : W.cell? ⟨p, 4, none⟩ = some a4) (q5 : W.cell? ⟨p, 5, none⟩ = some a5) :
    (results Try.f19 tmps).run Try.prog W = .ok (.tuple #[.agg #[a0, a1, a2, a3, a4, a5], .bool b]) W := by
  rw [Array.getD_eq_getD_getElem?] at h4 h5
  simp [results, Try.results19, go_sem, h4, h5, q0, q1, q2, q3, q4, q5]
set_option maxHeartbeats 4000000 in
theorem find_any (t : Tb) (id : Int) (ao : Option Addr) (cap : Nat) (w : World) (hS : Seen Rw.cs 6 ao t.rows w) (hc : chkT t = true) :
    Calls Try.prog 37 #[tv ao t.rows.length cap t.mode, .int .i64 id] w fun e w' => e = .returned (.tuple #[(findR t.rows id).1.v, .bool (findR t.rows id).2]) ∧ Below w.heap.size w w' := by
  have S := Lib.hid hS
  have H0 := Lib.hid (tr_new w (.slice ao t.rows.length cap) t.mode)
  obtain ⟨l, m⟩ := t
  simp only at *
  obtain ⟨-, hr, hl, -, -⟩ := chkT_iff.1 hc
  simp only at hr hl
  have PL : Hid (∀ W, Below w.heap.size w W → Calls Try.prog 54 #[tv ao l.length cap m, .int .i64 id] W fun e w' => ∃ k : Nat, e = .returned (.tuple #[.int .i64 (k : Int), .bool (there l id k)]) ∧ Pl l id k ∧ Below W.heap.size W w') := Lib.hid (fun W hb => place_any (hS.below hb (Nat.le_refl _)) hr (by omega))
  have NO : Hid (∀ k, Pl l id k → there l id k = false → findR l id = (rw0, false)) := Lib.hid (fun k h1 h2 => by unfold findR; rw [(pl_not hr h1 h2).1])
  have YES : Hid (∀ k, Pl l id k → there l id k = true → ∃ r, l[k]? = some r ∧ findR l id = (r, true)) := Lib.hid (fun k h1 h2 => by
    obtain ⟨ha, r, hr, -⟩ := pl_there h1 h2
    exact ⟨r, hr, by unfold findR; rw [ha]; simp only; rw [hr]⟩)
  clear hc hr
  unfold tv at *
  clear hS
  obtain ⟨t0, t1⟩ := cell2 (H0.out.cell 1 rfl)
  go_enter Try.func37, Try.ntmps37
  go_wp2_with fail
  (with_reducible refine (PL.out _ H0.out.bl).mono ?_)
  rintro e w1 ⟨k, rfl, hp, b1⟩
  have H1 := Lib.hid (H0.out.call b1)
  clear b1 PL H0 t0 t1
  obtain ⟨t0, t1⟩ := cell2 (H1.out.cell 1 rfl)
  obtain ⟨z0, z1, z2, z3, z4, z5⟩ := cell6 (H1.out.cell 0 rfl)
  have zf := H1.out.fz 0 rfl
  cases hth : there l id k
  case false =>
    have E := Lib.hid (NO.out k hp hth)
    clear NO YES hth hp S
    have HF := Lib.hid (set6 H1.out (.int .i64 0) (.int .i64 0) (.int .i64 0) (.int .i64 0) (.int .i64 0) (.bool false))
    obtain ⟨q0, q1, q2, q3, q4, q5⟩ := cell6 (HF.out.cell 0 rfl)
    go_wp2
    refine bodyPost_ret (ret_find_any _ (w.heap.size + 1) _ (.int .i64 0) (.int .i64 0) (.int .i64 0) (.int .i64 0) (.int .i64 0) (.bool false) false rfl rfl q0 q1 q2 q3 q4 q5) rfl ⟨by rw [E.out]; rfl, HF.out.bl⟩
  case true =>
    obtain ⟨r, hrk, hE⟩ := YES.out k hp hth
    have E := Lib.hid hE
    have hkl := (List.getElem?_eq_some_iff.1 hrk).1
    have hk' : (k : Int) < (l.length : Int) := by omega
    have hk2 : IntKind.i64.wrap (k : Int) = (k : Int) := IntWalk.i64_in _ (by omega)
    obtain ⟨b, off, rfl, hb, hat⟩ := S.out.below H1.out.bl (Nat.le_refl _) (by omega)
    obtain ⟨r0, r1, r2, r3, r4, r5⟩ := row_cells hat hrk
    obtain ⟨⟨xi, xc, xd, xt, xm⟩, xs⟩ := r
    simp only at r0 r1 r2 r3 r4 r5
    clear NO YES hth hp S hE hat hrk hb
    have HF := Lib.hid (set6 H1.out (.int .i64 xi) (.int .i64 xc) (.int .i64 xd) (.int .i64 xt) (.int .i64 xm) (.bool xs))
    obtain ⟨q0, q1, q2, q3, q4, q5⟩ := cell6 (HF.out.cell 0 rfl)
    go_wp2
    refine bodyPost_ret (ret_find_any _ (w.heap.size + 1) _ (.int .i64 xi) (.int .i64 xc) (.int .i64 xd) (.int .i64 xt) (.int .i64 xm) (.bool xs) true rfl rfl q0 q1 q2 q3 q4 q5) rfl ⟨by rw [E.out]; rfl, HF.out.bl⟩
set_option maxHeartbeats 4000000 in
theorem rfind_any (t : Tb) (id : Int) (ao : Option Addr) (cap : Nat) (w : World) (hS : Seen Rw.cs 6 ao t.rows w) (hl : t.rows.length ≤ 1000) :
    Calls Try.prog 19 #[tv ao t.rows.length cap t.mode, .int .i64 id] w fun e w' => e = .returned (.tuple #[(findR t.rows id).1.v, .bool (findR t.rows id).2]) ∧ Below w.heap.size w w' := by
  have S := Lib.hid hS
  have H0 := Lib.hid (tr_new w (.slice ao t.rows.length cap) t.mode)
  obtain ⟨l, m⟩ := t
  simp only at *
  have PL : Hid (∀ W, Below w.heap.size w W → Calls Try.prog 40 #[tv ao l.length cap m, .int .i64 id] W fun e w' => e = .returned (.int .i64 (atI l id)) ∧ Below W.heap.size W w') := Lib.hid (fun W hb => rat_any l ao cap m id W (hS.below hb (Nat.le_refl _)) hl)
  unfold tv at *
  clear hS
  obtain ⟨t0, t1⟩ := cell2 (H0.out.cell 1 rfl)
  go_enter Try.func19, Try.ntmps19
  go_wp2_with fail
  (with_reducible refine (PL.out _ H0.out.bl).mono ?_)
  rintro e w1 ⟨rfl, b1⟩
  have H1 := Lib.hid (H0.out.call b1)
  clear b1 PL H0 t0 t1
  obtain ⟨t0, t1⟩ := cell2 (H1.out.cell 1 rfl)
  obtain ⟨z0, z1, z2, z3, z4, z5⟩ := cell6 (H1.out.cell 0 rfl)
  have zf := H1.out.fz 0 rfl
  cases hat0 : at_ l id with
  | none =>
    have E : Hid (findR l id = (rw0, false)) := Lib.hid (by unfold findR; rw [hat0])
    have ek : atI l id = -1 := by unfold atI; rw [hat0]
    rw [ek]
    clear ek hat0 S
    have HF := Lib.hid (set6 H1.out (.int .i64 0) (.int .i64 0) (.int .i64 0) (.int .i64 0) (.int .i64 0) (.bool false))
    obtain ⟨q0, q1, q2, q3, q4, q5⟩ := cell6 (HF.out.cell 0 rfl)
    go_wp2
    refine bodyPost_ret (ret_rfind_any _ (w.heap.size + 1) _ (.int .i64 0) (.int .i64 0) (.int .i64 0) (.int .i64 0) (.int .i64 0) (.bool false) false rfl rfl q0 q1 q2 q3 q4 q5) rfl ⟨by rw [E.out]; rfl, HF.out.bl⟩
  | some k =>
    obtain ⟨r, hrk, -, -⟩ := at_some hat0
    have E : Hid (findR l id = (r, true)) := Lib.hid (by unfold findR; rw [hat0]; simp only; rw [hrk])
    have ek : atI l id = (k : Int) := by unfold atI; rw [hat0]
    rw [ek]
    have hkl := (List.getElem?_eq_some_iff.1 hrk).1
    have hk' : (k : Int) < (l.length : Int) := by omega
    have hk2 : IntKind.i64.wrap (k : Int) = (k : Int) := IntWalk.i64_in _ (by omega)
    obtain ⟨b, off, rfl, hb, hat⟩ := S.out.below H1.out.bl (Nat.le_refl _) (by omega)
    obtain ⟨r0, r1, r2, r3, r4, r5⟩ := row_cells hat hrk
    obtain ⟨⟨xi, xc, xd, xt, xm⟩, xs⟩ := r
    simp only at r0 r1 r2 r3 r4 r5
    have hk8 : decide ((k : Int) < 0) = false := decide_eq_false (by omega)
    have hk9 : ((k : Int) < 0) = False := eq_false (by omega)
    clear ek hat0 S hat hrk hb
    have HF := Lib.hid (set6 H1.out (.int .i64 xi) (.int .i64 xc) (.int .i64 xd) (.int .i64 xt) (.int .i64 xm) (.bool xs))
    obtain ⟨q0, q1, q2, q3, q4, q5⟩ := cell6 (HF.out.cell 0 rfl)
    go_wp2
    refine bodyPost_ret (ret_rfind_any _ (w.heap.size + 1) _ (.int .i64 xi) (.int .i64 xc) (.int .i64 xd) (.int .i64 xt) (.int .i64 xm) (.bool xs) true rfl rfl q0 q1 q2 q3 q4 q5) rfl ⟨by rw [E.out]; rfl, HF.out.bl⟩
end Go.Proofs.Ytgbnoifaknlkhaa.Tb
