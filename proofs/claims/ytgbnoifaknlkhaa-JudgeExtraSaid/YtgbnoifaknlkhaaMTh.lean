/- The document's at; rows that grow beside boxes. The document's Apply. -/
import Derived.Test.YtgbnoifaknlkhaaMTe
import Derived.Test.YtgbnoifaknlkhaaTbC
namespace Go.Proofs.Ytgbnoifaknlkhaa.Tb
open Go.ChangeShapes Go.WideShapes Go.ChangeAt Go.RowKit Go.Joins
open Pm (Tk chk chk_iff below_drewN)
open Ge (El Seen Row)
set_option maxRecDepth 100000
set_option maxRecDepth 100000
set_option linter.unusedVariables false
set_option linter.unusedSimpArgs false
def atI (l : List Rw) (id : Int) : Int := match at_ l id with
  | some k => (k : Int)
  | none => -1
theorem at_here {l : List Rw} {id : Int} {i : Nat} {x : Rw} (h : ∀ j r, j < i → l[j]? = some r → r.t.id ≠ id) (hx : l[i]? = some x) (hid : x.t.id = id) : at_ l id = some i := by
  obtain ⟨hl, he⟩ := List.getElem?_eq_some_iff.1 hx
  unfold at_
  rw [List.findIdx?_eq_some_iff_getElem]
  refine ⟨hl, by rw [he]; simpa using hid, fun j hj => ?_⟩
  have := h j _ hj (List.getElem?_eq_getElem (by omega))
  simpa using this
theorem at_away {l : List Rw} {id : Int} (h : ∀ j r, j < l.length → l[j]? = some r → r.t.id ≠ id) : at_ l id = none := by
  unfold at_
  rw [List.findIdx?_eq_none_iff]
  intro r hr
  obtain ⟨j, hj, rfl⟩ := List.getElem_of_mem hr
  have := h j _ hj (List.getElem?_eq_getElem hj)
  simpa using this
def AtRel (l : List Rw) (id : Int) (L : List (Nat × Array Value × Nat)) (w : World) (g : Nat) (s : Value) (wx : World) : Prop :=
  ∃ i : Nat, i + g = l.length ∧ s = .int .i64 (i : Int) ∧ (∀ j r, j < i → l[j]? = some r → r.t.id ≠ id) ∧ Bos L w wx
set_option maxHeartbeats 2000000 in
theorem rat_any (l : List Rw) (ao : Option Addr) (cap : Nat) (m id : Int) (w : World) (hS : Seen Rw.cs 6 ao l w) (hl : l.length ≤ 1000) :
    Calls Try.prog 40 #[tv ao l.length cap m, .int .i64 id] w fun e w' => e = .returned (.int .i64 (atI l id)) ∧ Below w.heap.size w w' := by
  unfold tv
  have S := Lib.hid hS
  clear hS
  have H0 := Lib.hid ((bos_nil w).new #[.slice ao l.length cap, .int .i64 m] 29)
  have HERE : Hid (∀ (i : Nat) (x : Rw), (∀ (j : Nat) (r : Rw), j < i → l[j]? = some r → r.t.id ≠ id) → l[i]? = some x → x.t.id = id → atI l id = (i : Int)) := Lib.hid (fun i x h hx hid => by unfold atI; rw [at_here h hx hid])
  have AWAY : Hid ((∀ (j : Nat) (r : Rw), j < l.length → l[j]? = some r → r.t.id ≠ id) → atI l id = -1) := Lib.hid (fun h => by unfold atI; rw [at_away h])
  generalize atI l id = R at *
  go_enter Try.func40, Try.ntmps40
  go_wp2_with fail
  go_loopg [5] l.length (AtRel l id [(w.heap.size, #[.slice ao l.length cap, .int .i64 m], 29)] w)
  case atStart => exact ⟨0, by omega, rfl, fun j r h => by omega, H0.out⟩
  case round =>
    obtain ⟨i, hi, rfl, hp, hB⟩ := hrel
    have TW := S.out.below hB.bl (Nat.le_refl _)
    clear H0
    obtain ⟨t0, t1⟩ := cell2 (hB.cell 0 rfl)
    have HB := Lib.hid hB
    have HP := Lib.hid hp
    have HI := Lib.hid hi
    by_cases hlt : i < l.length
    · obtain ⟨b, off, rfl, hb, hat⟩ := TW (by omega)
      have hxi := List.getElem?_eq_getElem hlt
      have c0 := (row_cells hat hxi).1
      have hlt' : (i : Int) < (l.length : Int) := by omega
      have hg0 : 0 < gk := by omega
      have HXI := Lib.hid hxi
      generalize l[i] = x at *
      obtain ⟨⟨xi, xc, xd, xt, xm⟩, xs⟩ := x
      simp only at c0
      clear hi hp TW hat hxi hB
      by_cases he : xi = id
      · have E := Lib.hid (HERE.out i _ HP.out HXI.out he)
        have he' : (xi == id) = true := by simp [he]
        clear HERE AWAY HP HXI
        go_wp2
        go_ret
        exact ⟨by rw [E.out]; rfl, HB.out.bl⟩
      · have he' : (xi == id) = false := by simp [he]
        have NX : Hid (∀ j r, j < i + 1 → l[j]? = some r → r.t.id ≠ id) := Lib.hid (fun j r hj hr => by
          by_cases e : j = i
          · subst e; have := HXI.out; rw [hr] at this; cases this; exact he
          · exact HP.out j r (by omega) hr)
        clear HERE AWAY HP HXI
        go_wp2
        go_roundg (gk - 1)
        case measure => omega
        case rel => exact ⟨i + 1, by have := HI.out; omega, by go_num, NX.out, HB.out⟩
    · have hge : (l.length : Int) ≤ (i : Int) := by omega
      obtain rfl : i = l.length := by omega
      have E := Lib.hid (AWAY.out hp)
      clear hB TW hp hi hlt
      go_wp2
      go_ret
      exact ⟨by rw [E.out]; rfl, HB.out.bl⟩
theorem Bos.grow {L : List (Nat × Array Value × Nat)} {w W W' : World} {v : Option Nat} (h : Bos L w W) (hv : ∀ x ∈ L, v ≠ some x.1) (hB : ∀ g, v = some g → w.heap.size ≤ g) (g : W.grownBy W' v) : Bos L w W' := by
  refine ⟨fun x hx => ⟨?_, (h.at_ x hx).2⟩, h.nd, ⟨g.os.trans h.bl.os, g.tape.trans h.bl.tape, g.output.trans h.bl.output, Nat.le_trans h.bl.size g.size, fun k hk => ?_⟩⟩
  · rw [g.block x.1 (Array.getElem?_eq_some_iff.1 (h.at_ x hx).1).1 (fun e => hv x hx e.symm)]
    exact (h.at_ x hx).1
  · rw [g.block k (Nat.lt_of_lt_of_le hk h.bl.size) (fun e => by have := hB k e.symm; omega)]
    exact h.bl.block k hk
theorem row_ne {B : Nat} {W : World} {v : Value} {l : List Rw} {p : Nat} {cs : Array Value} {T : Nat} {fz : Nat × Nat} (h : Row Rw.cs 6 48 B W v l) (hp : W.heap[p]? = some (.cells cs T fz)) (hT : T ≠ 48) : v.ownBlock ≠ some p := fun e => by
  rcases h.2 with ⟨rfl, h0⟩ | ⟨g, c, cur, rfl, hB, hg, -⟩
  · cases e
  · have : g = p := by simpa [Value.ownBlock] using e
    subst this
    rw [hg] at hp
    cases hp
    exact hT rfl
/-- no box of these is of a row's type -/
def NoRow (L : List (Nat × Array Value × Nat)) : Prop := ∀ x ∈ L, x.2.2 ≠ 48
/-- elements seen, behind a row of one's own, beside boxes -/
theorem app_any {L : List (Nat × Array Value × Nat)} {w W : World} {v : Value} {l m : List Rw} {ao : Option Addr} {c : Nat} (h : Bos L w W) (hn : NoRow L) (hr : Row Rw.cs 6 48 w.heap.size W v l) (hs : Seen Rw.cs 6 ao m W) (hl : l.length + m.length ≤ 100000) :
    ∃ v' W', (Builtin.append_ #[27, 27] 27 #[v, .slice ao m.length c]).run Try.prog W = .ok v' W' ∧ Row Rw.cs 6 48 w.heap.size W' v' (l ++ m) ∧ Bos L w W' := by
  cases ao with
  | none =>
    have h0 : m = [] := by
      rcases Nat.eq_zero_or_pos m.length with e | e
      · exact List.eq_nil_of_length_eq_zero e
      · obtain ⟨b, off, e, -⟩ := hs e; cases e
    subst h0
    obtain ⟨ao, cap, rfl, hle, -, -⟩ := Row.form cs_len hr
    exact ⟨_, W, Ge.all_none el W _ ao none l.length cap c hle, by rw [List.append_nil]; exact hr, h⟩
  | some ad =>
    obtain ⟨v', W', h1, h2, h3, h4⟩ := Ge.row_all el (c := c) (ty := 27) hr hs h.bl.size hl
    exact ⟨v', W', h1, h2, h.grow (fun x hx => row_ne hr (h.at_ x hx).1 (hn x hx)) (fun g e => (hr.lt g e).1) h4⟩
/-- one row, just laid, behind a row of one's own, beside boxes -/
theorem app_new {L : List (Nat × Array Value × Nat)} {w W : World} {v : Value} {l : List Rw} (x : Rw) (h : Bos L w W) (hn : NoRow L) (hr : Row Rw.cs 6 48 w.heap.size W v l) (hl : l.length ≤ 90000) :
    ∃ v' W', (Builtin.append_ #[27, 27] 27 #[v, .slice (some ⟨W.heap.size, 0, none⟩) 1 1]).run Try.prog (W.alloc (.cells #[.int .i64 x.t.id, .int .i64 x.t.c, .int .i64 x.t.d, .int .i64 x.t.t, .int .i64 x.t.m, .bool x.s] 48)) = .ok v' W' ∧ Row Rw.cs 6 48 w.heap.size W' v' (l ++ [x]) ∧ Bos L w W' :=
  app_any (m := [x]) (c := 1) (h.call ((Below.refl _ _).alloc (Nat.le_refl _) _)) hn (hr.call ((Below.refl _ _).alloc (Nat.le_refl _) _)) (seen_one x W) (by simp; omega)
/-- a box that is written leaves a row of one's own -/
theorem row_set {L : List (Nat × Array Value × Nat)} {w W : World} {B : Nat} {v : Value} {l : List Rw} (hr : Row Rw.cs 6 48 B W v l) (h : Bos L w W) {p : Nat} {cs : Array Value} {T : Nat} (i : Nat) (hi : L[i]? = some (p, cs, T)) (hT : T ≠ 48) (o : Nat) (x : Value) : Row Rw.cs 6 48 B (W.setCell ⟨p, o, none⟩ x) v l :=
  hr.of_blocks fun k hk => Below.heap_setCell _ _ _ _ (fun e => row_ne hr (h.at_ _ (List.mem_of_getElem? hi)).1 hT (by rw [hk]; simp only at e; rw [e]))
theorem row_told {T : TypeId} {B : Nat} {W : World} {v : Value} {t : Tb} {l : List Rw} {m : Int} (h : Row Rw.cs 6 T B W v l) (hl : t.rows = l) (hm : t.mode = m) : Told (.agg #[v, .int .i64 m]) t W := by
  obtain ⟨ao, cap, hs⟩ := row_sl h
  obtain rfl := hs.eq
  subst hl hm
  exact ⟨ao, cap, rfl, hs⟩
theorem ins_last {x : Rw} {m : List Rw} (h : ∀ r ∈ m, ¬ x.t.id < r.t.id) : ins x m = m ++ [x] := by
  induction m with
  | nil => rfl
  | cons r m ih =>
    unfold ins
    rw [if_neg (h r (by simp)), ih (fun q hq => h q (by simp [hq]))]; rfl
theorem ins_here {x y : Rw} {m : List Rw} (h : ∀ r ∈ m, ¬ x.t.id < r.t.id) (hy : x.t.id < y.t.id) : ins x (m ++ [y]) = m ++ [x] ++ [y] := by
  induction m with
  | nil => unfold ins; rw [List.nil_append]; simp only; rw [if_pos hy]; rfl
  | cons r m ih =>
    rw [List.cons_append]
    unfold ins
    rw [if_neg (h r (by simp)), ih (fun q hq => h q (by simp [hq]))]; rfl
theorem ins_snoc {x y : Rw} {m : List Rw} (h : ∃ r ∈ m, x.t.id < r.t.id) : ins x (m ++ [y]) = ins x m ++ [y] := by
  induction m with
  | nil => obtain ⟨r, hr, -⟩ := h; cases hr
  | cons r m ih =>
    rw [List.cons_append]
    unfold ins
    by_cases hx : x.t.id < r.t.id
    · rw [if_pos hx, if_pos hx]; rfl
    · rw [if_neg hx, if_neg hx, ih (by
        obtain ⟨q, hq, hlt⟩ := h
        rcases List.mem_cons.1 hq with rfl | hq
        · exact absurd hlt hx
        · exact ⟨q, hq, hlt⟩)]; rfl
end Go.Proofs.Ytgbnoifaknlkhaa.Tb
namespace Go.Proofs.Ytgbnoifaknlkhaa.Tb
open Go.ChangeShapes Go.WideShapes Go.ChangeAt Go.RowKit Go.Joins
open Pm (Tk chk chk_iff below_drewN)
open Ge (El Seen Row)
open Ox (Od chkR chkR_iff tk0)
set_option maxRecDepth 100000
set_option maxRecDepth 100000
set_option linter.unusedVariables false
set_option linter.unusedSimpArgs false
theorem slice_h (ao : Option Addr) (n cap k : Nat) (hk : k ≤ cap) (w : World) : (Instr.sliceAt 27 (.slice ao n cap) none (some (.int .i64 (k : Int))) none).run Try.prog w = .ok (.slice ao k cap) w := by
  have e : (sizeOf (Try.prog.elem 27)).run Try.prog w = .ok 6 w := by kernel_rfl
  rw [run_sliceAt_slice w _ _ _ _ _ (by kernel_rfl), run_slice_h w _ _ _ _ (by kernel_rfl) _ _ (by omega) (by omega), e]
  simp only [Result.andThen, sliced]
  have : ao.map (fun x => x.add (0 * 6)) = ao := by cases ao <;> simp [Addr.add]
  rw [this]
  simp
/-- the rows that were taken, x among them if it was put -/
def insP (x : Rw) (put : Bool) (l : List Rw) : List Rw := if put then ins x l else l
def InRel (l : List Rw) (x : Rw) (p : Nat) (m : Int) (L : List (Nat × Array Value × Nat)) (w : World) (g : Nat) (s9 s10 : Value) (wx : World) : Prop :=
  ∃ (i : Nat) (put : Bool) (v : Value), i + g = l.length ∧ s9 = .bool put ∧ s10 = .int .i64 (i : Int) ∧ Bos ((p, #[v, .int .i64 m], 29) :: L) w wx ∧ Row Rw.cs 6 48 w.heap.size wx v (insP x put (l.take i)) ∧ (put = true → ∃ r ∈ l.take i, x.t.id < r.t.id) ∧ (put = false → ∀ r ∈ l.take i, r.t.id ≤ x.t.id)
theorem insP_len (x : Rw) (put : Bool) (l : List Rw) : (insP x put l).length ≤ l.length + 1 := by
  unfold insP
  cases put with
  | true => rw [if_pos rfl, ins_len]; omega
  | false => rw [if_neg (by decide)]; omega
theorem insP_put {x : Rw} {l : List Rw} {i : Nat} (hi : i < l.length) (h : ∃ r ∈ l.take i, x.t.id < r.t.id) : insP x true (l.take i) ++ [l[i]] = insP x true (l.take (i + 1)) ∧ ∃ r ∈ l.take (i + 1), x.t.id < r.t.id := by
  unfold insP
  rw [if_pos rfl, if_pos rfl, List.take_succ_eq_append_getElem hi, ins_snoc h]
  obtain ⟨r, hr, hl⟩ := h
  exact ⟨rfl, r, List.mem_append_left _ hr, hl⟩
theorem insP_not {x : Rw} {l : List Rw} {i : Nat} (hi : i < l.length) (h : ∀ r ∈ l.take i, r.t.id ≤ x.t.id) (hx : l[i].t.id ≤ x.t.id) : insP x false (l.take i) ++ [l[i]] = insP x false (l.take (i + 1)) ∧ ∀ r ∈ l.take (i + 1), r.t.id ≤ x.t.id := by
  unfold insP
  rw [if_neg (by decide), if_neg (by decide), List.take_succ_eq_append_getElem hi]
  refine ⟨rfl, fun r hr => ?_⟩
  rcases List.mem_append.1 hr with hr | hr
  · exact h r hr
  · rw [List.mem_singleton.1 hr]; exact hx
theorem insP_here {x : Rw} {l : List Rw} {i : Nat} (hi : i < l.length) (h : ∀ r ∈ l.take i, r.t.id ≤ x.t.id) (hx : x.t.id < l[i].t.id) : insP x false (l.take i) ++ [x] ++ [l[i]] = insP x true (l.take (i + 1)) ∧ ∃ r ∈ l.take (i + 1), x.t.id < r.t.id := by
  unfold insP
  rw [if_neg (by decide), if_pos rfl]
  exact ⟨by rw [List.take_succ_eq_append_getElem hi, ins_here (fun r hr => Int.not_lt.2 (h r hr)) hx], l[i], by rw [List.take_succ_eq_append_getElem hi]; exact List.mem_append_right _ (List.mem_singleton.2 rfl), hx⟩
theorem seen_row {l : List Rw} {b off cap : Nat} {w W : World} {L : List (Nat × Array Value × Nat)} {v : Value} (hS : Sl v l w (some ⟨b, off, none⟩) cap) (h : Bos L w W) {j : Nat} {x : Rw} (hx : l[j]? = some x) :
    W.cell? ⟨b, off + j * 6, none⟩ = some (.int .i64 x.t.id) ∧ W.cell? ⟨b, off + j * 6 + 1, none⟩ = some (.int .i64 x.t.c) ∧ W.cell? ⟨b, off + j * 6 + 2, none⟩ = some (.int .i64 x.t.d) ∧ W.cell? ⟨b, off + j * 6 + 3, none⟩ = some (.int .i64 x.t.t) ∧ W.cell? ⟨b, off + j * 6 + 4, none⟩ = some (.int .i64 x.t.m) ∧ W.cell? ⟨b, off + j * 6 + 5, none⟩ = some (.bool x.s) := by
  obtain ⟨b', off', e, hb', hat'⟩ := (hS.seen.below h.bl (Nat.le_refl _)) (by have := (List.getElem?_eq_some_iff.1 hx).1; omega)
  cases e
  exact row_cells hat' hx
/-- what is known of a world, in the place of how it was made -/
theorem name_world {P : Program} {c : Code} {Q : Exit → Act → World → Prop} {a : Act} {w : World} (R : World → Prop) (h : R w) (k : ∀ W, R W → c.wp P Q a W) : c.wp P Q a w := k w h
/-- four boxes, none of a row's type -/
theorem noRow4 (p q r s : Nat) (a b c d : Array Value) : NoRow [(p, a, 29), (q, b, 29), (r, c, 34), (s, d, 29)] := by
  intro x hx
  simp only [List.mem_cons, List.not_mem_nil, or_false] at hx
  rcases hx with rfl | rfl | rfl | rfl <;> first | exact (by decide : (29 : Nat) ≠ 48) | exact (by decide : (34 : Nat) ≠ 48)
set_option maxHeartbeats 16000000 in
theorem rapply_no (t : Tb) (o : Od) (ao : Option Addr) (cap : Nat) (w : World) (hS : Sl (.slice ao t.rows.length cap) t.rows w ao cap) (hl : t.rows.length ≤ 1000) (hno : chkT t = false ∨ chkR o = false) :
    Calls Try.prog 20 #[tv ao t.rows.length cap t.mode, o.v] w fun e w' => ∃ v, e = .returned (.tuple #[v, .int .i64 (applyR t o).2]) ∧ Told v (applyR t o).1 w' ∧ Below w.heap.size w w' := by
  have S := Lib.hid hS
  have CT : Hid (∀ W, Below w.heap.size w W → Calls Try.prog 16 #[tv ao t.rows.length cap t.mode] W fun e w' => e = .returned (.bool (chkT t)) ∧ Below W.heap.size W w') := Lib.hid (fun W hb => rcheck_any t ao cap W (hS.seen.below hb (Nat.le_refl _)) hl)
  have CO := Lib.hid (Ox.rcheck_any o)
  have AT : Hid (∀ i W, Below w.heap.size w W → Calls Try.prog 40 #[tv ao t.rows.length cap t.mode, .int .i64 i] W fun e w' => e = .returned (.int .i64 (atI t.rows i)) ∧ Below W.heap.size W w') := Lib.hid (fun i W hb => rat_any t.rows ao cap t.mode i W (hS.seen.below hb (Nat.le_refl _)) hl)
  have H0 := Lib.hid (to_new w (.slice ao t.rows.length cap) t.mode o.cs)
  have NO : Hid (chkT t = false ∨ chkR o = false → applyR t o = (tb0, 1)) := Lib.hid apply_no
  generalize hct : chkT t = ct at *
  generalize hco : chkR o = co at *
  obtain ⟨l, m⟩ := t
  obtain ⟨k, ⟨i, c, d, tt, tm⟩, s, oi, oc, om⟩ := o
  unfold tv Od.v Od.cs at *
  simp only at *
  obtain ⟨t0, t1⟩ := cell2 (H0.out.cell 2 rfl)
  obtain ⟨o0, o1, o2, o3, o4, o5, o6, o7, o8, o9⟩ := cell10 (H0.out.cell 1 rfl)
  obtain ⟨z0, z1⟩ := cell2 (H0.out.cell 0 rfl)
  have zf := H0.out.fz 0 rfl
  go_enter Try.func20, Try.ntmps20
  go_wp2_with fail
  (with_reducible refine (CT.out _ H0.out.bl).mono ?_)
  rintro e w1 ⟨rfl, b1⟩
  have H1 := Lib.hid (H0.out.call b1)
  clear b1 CT H0 t0 t1 o0 o1 o2 o3 o4 o5 o6 o7 o8 o9 z0 z1 zf
  obtain ⟨t0, t1⟩ := cell2 (H1.out.cell 2 rfl)
  obtain ⟨o0, o1, o2, o3, o4, o5, o6, o7, o8, o9⟩ := cell10 (H1.out.cell 1 rfl)
  obtain ⟨z0, z1⟩ := cell2 (H1.out.cell 0 rfl)
  have zf := H1.out.fz 0 rfl
  go_wp2_with fail
  (with_reducible refine (CO.out _).mono ?_)
  rintro e w2 ⟨rfl, b2⟩
  have H2 := Lib.hid (H1.out.call b2)
  clear b2 CO H1 t0 t1 o0 o1 o2 o3 o4 o5 o6 o7 o8 o9 z0 z1 zf
  obtain ⟨t0, t1⟩ := cell2 (H2.out.cell 2 rfl)
  obtain ⟨o0, o1, o2, o3, o4, o5, o6, o7, o8, o9⟩ := cell10 (H2.out.cell 1 rfl)
  obtain ⟨z0, z1⟩ := cell2 (H2.out.cell 0 rfl)
  have zf := H2.out.fz 0 rfl
  have E := Lib.hid (NO.out hno)
  clear AT NO S hct hco
  cases ct
  case false =>
    have HF := Lib.hid ((H2.out.set 0 rfl 0 (.slice none 0 0)).set 0 rfl 1 (.int .i64 0))
    obtain ⟨q0, q1⟩ := cell2 (HF.out.cell 0 rfl)
    go_wp2
    refine bodyPost_ret (v := .tuple #[.agg #[.slice none 0 0, .int .i64 0], .int .i64 1]) (by simp [results, Try.results20, go_sem, q0, q1]) rfl ⟨_, by rw [E.out], by rw [E.out]; exact told_zero _, HF.out.bl⟩
  case true =>
    obtain rfl : co = false := by rcases hno with h | h; cases h; exact h
    have HF := Lib.hid ((H2.out.set 0 rfl 0 (.slice none 0 0)).set 0 rfl 1 (.int .i64 0))
    obtain ⟨q0, q1⟩ := cell2 (HF.out.cell 0 rfl)
    go_wp2
    refine bodyPost_ret (v := .tuple #[.agg #[.slice none 0 0, .int .i64 0], .int .i64 1]) (by simp [results, Try.results20, go_sem, q0, q1]) rfl ⟨_, by rw [E.out], by rw [E.out]; exact told_zero _, HF.out.bl⟩
set_option maxHeartbeats 16000000 in
theorem rapply_mode (t : Tb) (o : Od) (ao : Option Addr) (cap : Nat) (w : World) (hS : Sl (.slice ao t.rows.length cap) t.rows w ao cap) (hl : t.rows.length ≤ 1000) (hT : chkT t = true) {om : Int} (hk : o = ⟨4, tk0, false, 0, 0, om⟩) (hO : chkR o = true) :
    Calls Try.prog 20 #[tv ao t.rows.length cap t.mode, o.v] w fun e w' => ∃ v, e = .returned (.tuple #[v, .int .i64 (applyR t o).2]) ∧ Told v (applyR t o).1 w' ∧ Below w.heap.size w w' := by
  have S := Lib.hid hS
  have CT : Hid (∀ W, Below w.heap.size w W → Calls Try.prog 16 #[tv ao t.rows.length cap t.mode] W fun e w' => e = .returned (.bool (chkT t)) ∧ Below W.heap.size W w') := Lib.hid (fun W hb => rcheck_any t ao cap W (hS.seen.below hb (Nat.le_refl _)) hl)
  have CO := Lib.hid (Ox.rcheck_any o)
  have AT : Hid (∀ i W, Below w.heap.size w W → Calls Try.prog 40 #[tv ao t.rows.length cap t.mode, .int .i64 i] W fun e w' => e = .returned (.int .i64 (atI t.rows i)) ∧ Below W.heap.size W w') := Lib.hid (fun i W hb => rat_any t.rows ao cap t.mode i W (hS.seen.below hb (Nat.le_refl _)) hl)
  have H0 := Lib.hid (to_new w (.slice ao t.rows.length cap) t.mode o.cs)
  have NO : Hid (chkT t = false ∨ chkR o = false → applyR t o = (tb0, 1)) := Lib.hid apply_no
  clear NO
  have hct := hT
  have hco2 := hO
  rw [hT] at CT
  rw [hO] at CO
  subst hk
  clear hT hO
  obtain ⟨l, m⟩ := t
  unfold tv Od.v Od.cs at *
  try unfold tk0 at *
  simp only at *
  obtain ⟨t0, t1⟩ := cell2 (H0.out.cell 2 rfl)
  obtain ⟨o0, o1, o2, o3, o4, o5, o6, o7, o8, o9⟩ := cell10 (H0.out.cell 1 rfl)
  obtain ⟨z0, z1⟩ := cell2 (H0.out.cell 0 rfl)
  have zf := H0.out.fz 0 rfl
  go_enter Try.func20, Try.ntmps20
  go_wp2_with fail
  (with_reducible refine (CT.out _ H0.out.bl).mono ?_)
  rintro e w1 ⟨rfl, b1⟩
  have H1 := Lib.hid (H0.out.call b1)
  clear b1 CT H0 t0 t1 o0 o1 o2 o3 o4 o5 o6 o7 o8 o9 z0 z1 zf
  obtain ⟨t0, t1⟩ := cell2 (H1.out.cell 2 rfl)
  obtain ⟨o0, o1, o2, o3, o4, o5, o6, o7, o8, o9⟩ := cell10 (H1.out.cell 1 rfl)
  obtain ⟨z0, z1⟩ := cell2 (H1.out.cell 0 rfl)
  have zf := H1.out.fz 0 rfl
  go_wp2_with fail
  (with_reducible refine (CO.out _).mono ?_)
  rintro e w2 ⟨rfl, b2⟩
  have H2 := Lib.hid (H1.out.call b2)
  clear b2 CO H1 t0 t1 o0 o1 o2 o3 o4 o5 o6 o7 o8 o9 z0 z1 zf
  obtain ⟨t0, t1⟩ := cell2 (H2.out.cell 2 rfl)
  obtain ⟨o0, o1, o2, o3, o4, o5, o6, o7, o8, o9⟩ := cell10 (H2.out.cell 1 rfl)
  obtain ⟨z0, z1⟩ := cell2 (H2.out.cell 0 rfl)
  have zf := H2.out.fz 0 rfl
  have E := Lib.hid (apply_mode hct hco2)
  unfold tk0 at E
  clear hct hco2 AT
  have H3 := Lib.hid (H2.out.new #[.slice none 0 0, .int .i64 m] 29)
  have NR : Hid (NoRow [(w2.heap.size, #[.slice none 0 0, .int .i64 m], 29), (w.heap.size + 2, #[.slice none 0 0, .int .i64 0], 29), (w.heap.size + 1, #[.int .i64 4, .int .i64 0, .int .i64 0, .int .i64 0, .int .i64 0, .int .i64 0, .bool false, .int .i64 0, .int .i64 0, .int .i64 om], 34), (w.heap.size, #[.slice ao l.length cap, .int .i64 m], 29)]) := Lib.hid (noRow4 _ _ _ _ _ _ _ _)
  obtain ⟨t0, t1⟩ := cell2 (H3.out.cell 3 rfl)
  obtain ⟨o0, o1, o2, o3, o4, o5, o6, o7, o8, o9⟩ := cell10 (H3.out.cell 2 rfl)
  obtain ⟨z0, z1⟩ := cell2 (H3.out.cell 1 rfl)
  have zf := H3.out.fz 1 rfl
  obtain ⟨p0, p1⟩ := cell2 (H3.out.cell 0 rfl)
  obtain ⟨v5, w5, ap5, r5, h5⟩ := app_any (c := cap) H3.out NR.out (Ge.row_nil _ _) (S.out.seen.below H3.out.bl (Nat.le_refl _)) (by simp; omega)
  rw [List.nil_append] at r5
  have H5 := Lib.hid h5
  have R5 := Lib.hid r5
  clear r5 h5 NR S
  obtain ⟨va5, vk5, vc5, rfl⟩ : ∃ va vk vc, v5 = .slice va vk vc := by obtain ⟨ao, cap, e, -⟩ := Row.form cs_len R5.out; exact ⟨_, _, _, e⟩
  obtain ⟨x0, x1⟩ := cell2 (H5.out.cell 0 rfl)
  have xf := H5.out.fz 0 rfl
  have H6 := Lib.hid ((H5.out.set 0 rfl 0 (.slice va5 vk5 vc5)).set 0 rfl 1 (.int .i64 om))
  have R6 := Lib.hid (row_set (row_set R5.out H5.out 0 rfl (by decide) 0 (.slice va5 vk5 vc5)) (H5.out.set 0 rfl 0 (.slice va5 vk5 vc5)) 0 rfl (by decide) 1 (.int .i64 om))
  have H5a := Lib.hid (H5.out.set 0 rfl 0 (.slice va5 vk5 vc5))
  obtain ⟨u0, u1⟩ := cell2 (H5a.out.cell 0 rfl)
  have uf := H5a.out.fz 0 rfl
  have uo := (cell10 (H5a.out.cell 2 rfl)).2.2.2.2.2.2.2.2.2
  obtain ⟨g0, g1⟩ := cell2 (H6.out.cell 0 rfl)
  obtain ⟨z0, z1⟩ := cell2 (H6.out.cell 1 rfl)
  have zf := H6.out.fz 1 rfl
  have HF := Lib.hid ((H6.out.set 1 rfl 0 (.slice va5 vk5 vc5)).set 1 rfl 1 (.int .i64 om))
  have RF := Lib.hid (row_set (row_set R6.out H6.out 1 rfl (by decide) 0 (.slice va5 vk5 vc5)) (H6.out.set 1 rfl 0 (.slice va5 vk5 vc5)) 1 rfl (by decide) 1 (.int .i64 om))
  obtain ⟨q0, q1⟩ := cell2 (HF.out.cell 1 rfl)
  go_wp2_with (at_builtin; refine Lib.wpList_append_run _ rfl _ _ _ _ rfl _ _ rfl rfl _ _ ap5 ?_)
  refine bodyPost_ret (v := .tuple #[.agg #[(.slice va5 vk5 vc5), .int .i64 om], .int .i64 0]) (by simp [results, Try.results20, go_sem, q0, q1]) rfl ⟨_, by rw [E.out], by rw [E.out]; exact row_told RF.out rfl rfl, HF.out.bl⟩
end Go.Proofs.Ytgbnoifaknlkhaa.Tb
