/- The document's at; rows that grow beside boxes. -/
import Derived.Test.YtnaanahgflbihaaTbG
import Derived.Test.YtnaanahgflbihaaTbC
namespace Go.Proofs.Ytnaanahgflbihaa.Tb
open Go.ChangeShapes Go.WideShapes Go.ChangeAt Go.RowKit Go.Joins
open Pm (Tk chk chk_iff below_drewN)
open Ge (El Seen Row)
set_option maxRecDepth 100000
set_option maxRecDepth 100000
set_option linter.unusedVariables false
set_option linter.unusedSimpArgs false
def atI (l : List Rw) (id : Int) : Int := match at_ l id with
  | some k => (k : Int)
  | none => -1
theorem at_here {l : List Rw} {id : Int} {i : Nat} {x : Rw} (h : ∀ j r, j < i → l[j]? = some r → r.t.id ≠ id) (hx : l[i]? = some x) (hid : x.t.id = id) : at_ l id = some i := by
  obtain ⟨hl, he⟩ := List.getElem?_eq_some_iff.1 hx
  unfold at_
  rw [List.findIdx?_eq_some_iff_getElem]
  refine ⟨hl, by rw [he]; simpa using hid, fun j hj => ?_⟩
  have := h j _ hj (List.getElem?_eq_getElem (by omega))
  simpa using this
theorem at_away {l : List Rw} {id : Int} (h : ∀ j r, j < l.length → l[j]? = some r → r.t.id ≠ id) : at_ l id = none := by
  unfold at_
  rw [List.findIdx?_eq_none_iff]
  intro r hr
  obtain ⟨j, hj, rfl⟩ := List.getElem_of_mem hr
  have := h j _ hj (List.getElem?_eq_getElem hj)
  simpa using this
def AtRel (l : List Rw) (id : Int) (L : List (Nat × Array Value × Nat)) (w : World) (g : Nat) (s : Value) (wx : World) : Prop :=
  ∃ i : Nat, i + g = l.length ∧ s = .int .i64 (i : Int) ∧ (∀ j r, j < i → l[j]? = some r → r.t.id ≠ id) ∧ Bos L w wx
set_option maxHeartbeats 2000000 in
theorem rat_any (l : List Rw) (ao : Option Addr) (cap : Nat) (m id : Int) (w : World) (hS : Seen Rw.cs 6 ao l w) (hl : l.length ≤ 1000) :
    Calls Try.prog 66 #[tv ao l.length cap m, .int .i64 id] w fun e w' => e = .returned (.int .i64 (atI l id)) ∧ Below w.heap.size w w' := by
  unfold tv
  have S := Lib.hid hS
  clear hS
  have H0 := Lib.hid ((bos_nil w).new #[.slice ao l.length cap, .int .i64 m] 24)
  have HERE : Hid (∀ (i : Nat) (x : Rw), (∀ (j : Nat) (r : Rw), j < i → l[j]? = some r → r.t.id ≠ id) → l[i]? = some x → x.t.id = id → atI l id = (i : Int)) := Lib.hid (fun i x h hx hid => by unfold atI; rw [at_here h hx hid])
  have AWAY : Hid ((∀ (j : Nat) (r : Rw), j < l.length → l[j]? = some r → r.t.id ≠ id) → atI l id = -1) := Lib.hid (fun h => by unfold atI; rw [at_away h])
  generalize atI l id = R at *
  go_enter Try.func66, Try.ntmps66
  go_wp2_with fail
  go_loopg [5] l.length (AtRel l id [(w.heap.size, #[.slice ao l.length cap, .int .i64 m], 24)] w)
  case atStart => exact ⟨0, by omega, rfl, fun j r h => by omega, H0.out⟩
  case round =>
    obtain ⟨i, hi, rfl, hp, hB⟩ := hrel
    have TW := S.out.below hB.bl (Nat.le_refl _)
    clear H0
    obtain ⟨t0, t1⟩ := cell2 (hB.cell 0 rfl)
    have HB := Lib.hid hB
    have HP := Lib.hid hp
    have HI := Lib.hid hi
    by_cases hlt : i < l.length
    · obtain ⟨b, off, rfl, hb, hat⟩ := TW (by omega)
      have hxi := List.getElem?_eq_getElem hlt
      have c0 := (row_cells hat hxi).1
      have hlt' : (i : Int) < (l.length : Int) := by omega
      have hg0 : 0 < gk := by omega
      have HXI := Lib.hid hxi
      generalize l[i] = x at *
      obtain ⟨⟨xi, xc, xd, xt, xm⟩, xs⟩ := x
      simp only at c0
      clear hi hp TW hat hxi hB
      by_cases he : xi = id
      · have E := Lib.hid (HERE.out i _ HP.out HXI.out he)
        have he' : (xi == id) = true := by simp [he]
        clear HERE AWAY HP HXI
        go_wp2
        go_ret
        exact ⟨by rw [E.out]; rfl, HB.out.bl⟩
      · have he' : (xi == id) = false := by simp [he]
        have NX : Hid (∀ j r, j < i + 1 → l[j]? = some r → r.t.id ≠ id) := Lib.hid (fun j r hj hr => by
          by_cases e : j = i
          · subst e; have := HXI.out; rw [hr] at this; cases this; exact he
          · exact HP.out j r (by omega) hr)
        clear HERE AWAY HP HXI
        go_wp2
        go_roundg (gk - 1)
        case measure => omega
        case rel => exact ⟨i + 1, by have := HI.out; omega, by go_num, NX.out, HB.out⟩
    · have hge : (l.length : Int) ≤ (i : Int) := by omega
      obtain rfl : i = l.length := by omega
      have E := Lib.hid (AWAY.out hp)
      clear hB TW hp hi hlt
      go_wp2
      go_ret
      exact ⟨by rw [E.out]; rfl, HB.out.bl⟩
theorem Bos.grow {L : List (Nat × Array Value × Nat)} {w W W' : World} {v : Option Nat} (h : Bos L w W) (hv : ∀ x ∈ L, v ≠ some x.1) (hB : ∀ g, v = some g → w.heap.size ≤ g) (g : W.grownBy W' v) : Bos L w W' := by
  refine ⟨fun x hx => ⟨?_, (h.at_ x hx).2⟩, h.nd, ⟨g.os.trans h.bl.os, g.tape.trans h.bl.tape, g.output.trans h.bl.output, Nat.le_trans h.bl.size g.size, fun k hk => ?_⟩⟩
  · rw [g.block x.1 (Array.getElem?_eq_some_iff.1 (h.at_ x hx).1).1 (fun e => hv x hx e.symm)]
    exact (h.at_ x hx).1
  · rw [g.block k (Nat.lt_of_lt_of_le hk h.bl.size) (fun e => by have := hB k e.symm; omega)]
    exact h.bl.block k hk
theorem row_ne {B : Nat} {W : World} {v : Value} {l : List Rw} {p : Nat} {cs : Array Value} {T : Nat} {fz : Nat × Nat} (h : Row Rw.cs 6 57 B W v l) (hp : W.heap[p]? = some (.cells cs T fz)) (hT : T ≠ 57) : v.ownBlock ≠ some p := fun e => by
  rcases h.2 with ⟨rfl, h0⟩ | ⟨g, c, cur, rfl, hB, hg, -⟩
  · cases e
  · have : g = p := by simpa [Value.ownBlock] using e
    subst this
    rw [hg] at hp
    cases hp
    exact hT rfl
/-- no box of these is of a row's type -/
def NoRow (L : List (Nat × Array Value × Nat)) : Prop := ∀ x ∈ L, x.2.2 ≠ 57
/-- elements seen, behind a row of one's own, beside boxes -/
theorem app_any {L : List (Nat × Array Value × Nat)} {w W : World} {v : Value} {l m : List Rw} {ao : Option Addr} {c : Nat} (h : Bos L w W) (hn : NoRow L) (hr : Row Rw.cs 6 57 w.heap.size W v l) (hs : Seen Rw.cs 6 ao m W) (hl : l.length + m.length ≤ 100000) :
    ∃ v' W', (Builtin.append_ #[22, 22] 22 #[v, .slice ao m.length c]).run Try.prog W = .ok v' W' ∧ Row Rw.cs 6 57 w.heap.size W' v' (l ++ m) ∧ Bos L w W' := by
  cases ao with
  | none =>
    have h0 : m = [] := by
      rcases Nat.eq_zero_or_pos m.length with e | e
      · exact List.eq_nil_of_length_eq_zero e
      · obtain ⟨b, off, e, -⟩ := hs e; cases e
    subst h0
    obtain ⟨ao, cap, rfl, hle, -, -⟩ := Row.form cs_len hr
    exact ⟨_, W, Ge.all_none el W _ ao none l.length cap c hle, by rw [List.append_nil]; exact hr, h⟩
  | some ad =>
    obtain ⟨v', W', h1, h2, h3, h4⟩ := Ge.row_all el (c := c) (ty := 22) hr hs h.bl.size hl
    exact ⟨v', W', h1, h2, h.grow (fun x hx => row_ne hr (h.at_ x hx).1 (hn x hx)) (fun g e => (hr.lt g e).1) h4⟩
/-- one row, just laid, behind a row of one's own, beside boxes -/
theorem app_new {L : List (Nat × Array Value × Nat)} {w W : World} {v : Value} {l : List Rw} (x : Rw) (h : Bos L w W) (hn : NoRow L) (hr : Row Rw.cs 6 57 w.heap.size W v l) (hl : l.length ≤ 90000) :
    ∃ v' W', (Builtin.append_ #[22, 22] 22 #[v, .slice (some ⟨W.heap.size, 0, none⟩) 1 1]).run Try.prog (W.alloc (.cells #[.int .i64 x.t.id, .int .i64 x.t.c, .int .i64 x.t.d, .int .i64 x.t.t, .int .i64 x.t.m, .bool x.s] 57)) = .ok v' W' ∧ Row Rw.cs 6 57 w.heap.size W' v' (l ++ [x]) ∧ Bos L w W' :=
  app_any (m := [x]) (c := 1) (h.call ((Below.refl _ _).alloc (Nat.le_refl _) _)) hn (hr.call ((Below.refl _ _).alloc (Nat.le_refl _) _)) (seen_one x W) (by simp; omega)
/-- a box that is written leaves a row of one's own -/
theorem row_set {L : List (Nat × Array Value × Nat)} {w W : World} {B : Nat} {v : Value} {l : List Rw} (hr : Row Rw.cs 6 57 B W v l) (h : Bos L w W) {p : Nat} {cs : Array Value} {T : Nat} (i : Nat) (hi : L[i]? = some (p, cs, T)) (hT : T ≠ 57) (o : Nat) (x : Value) : Row Rw.cs 6 57 B (W.setCell ⟨p, o, none⟩ x) v l :=
  hr.of_blocks fun k hk => Below.heap_setCell _ _ _ _ (fun e => row_ne hr (h.at_ _ (List.mem_of_getElem? hi)).1 hT (by rw [hk]; simp only at e; rw [e]))
theorem row_told {T : TypeId} {B : Nat} {W : World} {v : Value} {t : Tb} {l : List Rw} {m : Int} (h : Row Rw.cs 6 T B W v l) (hl : t.rows = l) (hm : t.mode = m) : Told (.agg #[v, .int .i64 m]) t W := by
  obtain ⟨ao, cap, hs⟩ := row_sl h
  obtain rfl := hs.eq
  subst hl hm
  exact ⟨ao, cap, rfl, hs⟩
theorem ins_last {x : Rw} {m : List Rw} (h : ∀ r ∈ m, ¬ x.t.id < r.t.id) : ins x m = m ++ [x] := by
  induction m with
  | nil => rfl
  | cons r m ih =>
    unfold ins
    rw [if_neg (h r (by simp)), ih (fun q hq => h q (by simp [hq]))]; rfl
theorem ins_here {x y : Rw} {m : List Rw} (h : ∀ r ∈ m, ¬ x.t.id < r.t.id) (hy : x.t.id < y.t.id) : ins x (m ++ [y]) = m ++ [x] ++ [y] := by
  induction m with
  | nil => unfold ins; rw [List.nil_append]; simp only; rw [if_pos hy]; rfl
  | cons r m ih =>
    rw [List.cons_append]
    unfold ins
    rw [if_neg (h r (by simp)), ih (fun q hq => h q (by simp [hq]))]; rfl
theorem ins_snoc {x y : Rw} {m : List Rw} (h : ∃ r ∈ m, x.t.id < r.t.id) : ins x (m ++ [y]) = ins x m ++ [y] := by
  induction m with
  | nil => obtain ⟨r, hr, -⟩ := h; cases hr
  | cons r m ih =>
    rw [List.cons_append]
    unfold ins
    by_cases hx : x.t.id < r.t.id
    · rw [if_pos hx, if_pos hx]; rfl
    · rw [if_neg hx, if_neg hx, ih (by
        obtain ⟨q, hq, hlt⟩ := h
        rcases List.mem_cons.1 hq with rfl | hq
        · exact absurd hlt hx
        · exact ⟨q, hq, hlt⟩)]; rfl
end Go.Proofs.Ytnaanahgflbihaa.Tb
