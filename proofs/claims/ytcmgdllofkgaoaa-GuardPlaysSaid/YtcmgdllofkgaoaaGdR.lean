/- The document's guard (layer 17): a row of what is known, in memory; its calls. -/
import Derived.Test.YtcmgdllofkgaoaaGdK
import Derived.Test.YtcmgdllofkgaoaaGnE
namespace Go.Proofs.Ytcmgdllofkgaoaa.Gd
open Go.ChangeShapes Go.WideShapes Go.ChangeAt Go.RowKit Go.Joins
open Ge (El Seen Row)
set_option maxRecDepth 100000
set_option maxRecDepth 100000
set_option linter.unusedVariables false
set_option linter.unusedSimpArgs false
def kc (k : Kn) : List Value := [.int .i64 k.id, .int .i64 k.last, .int .i64 k.next]
theorem kc_len (k : Kn) : (kc k).length = 3 := rfl
theorem elK : El Try.prog 53 27 3 24 (.agg #[.int .i64 0, .int .i64 0, .int .i64 0]) kc where
  sl := Try.underlying27
  info := by kernel_rfl
  zs := rfl
  pos := by omega
  by_ := by omega
  len := kc_len
  one := fun x u hu => by simp [kc] at hu; rcases hu with rfl | rfl | rfl <;> rfl
/-- the document's guard in block r, whose row is v -/
structure Rg (B : Nat) (w : World) (r : Nat) (v : Value) (L : List Kn) : Prop where
  lb : B ≤ r
  blk : w.heap[r]? = some (.cells #[v] 29 (0, 0))
  row : Row kc 3 53 B w v L
section
variable {B r : Nat} {v : Value} {L : List Kn} {w w' : World}
theorem Rg.lt (h : Rg B w r v L) : r < w.heap.size := lt_of_heap h.blk
theorem Rg.cell (h : Rg B w r v L) : w.cell? ⟨r, 0, none⟩ = some v := by simp [World.cell?, h.blk]
theorem Rg.free (h : Rg B w r v L) : w.frozen? ⟨r, 0, none⟩ = false := by simp [World.frozen?, h.blk]
theorem Rg.of_blocks (h : Rg B w r v L) (hg : w'.heap[r]? = w.heap[r]?) (hm : ∀ m, v.ownBlock = some m → w'.heap[m]? = w.heap[m]?) : Rg B w' r v L :=
  ⟨h.lb, by rw [hg]; exact h.blk, h.row.of_blocks hm⟩
theorem Rg.call (h : Rg B w r v L) (hb : Below w.heap.size w w') : Rg B w' r v L := h.of_blocks (hb.block r h.lt) fun m e => hb.block m (h.row.lt m e).2
/-- its row lies elsewhere -/
theorem Rg.apart (h : Rg B w r v L) : v.ownBlock ≠ some r := fun e => by
  rcases h.row.2 with ⟨rfl, _⟩ | ⟨g, cap, cur, rfl, hB, hg, rest⟩
  · cases e
  · have e2 : g = r := Option.some.inj e
    rw [e2, h.blk] at hg
    cases hg
theorem Rg.seen (h : Rg B w r v L) : ∃ ao cap, v = .slice ao L.length cap ∧ Seen kc 3 ao L w := by
  obtain ⟨ao, cap, e, -, hs, -⟩ := Row.form kc_len h.row
  exact ⟨ao, cap, e, hs⟩
theorem Mv.rg {u : World} (m : Mv r none w w') (h : Rg B w r v L) (hb : Below B u w) : Below B u w' :=
  hb.trans (m.below (by have := h.lb; have := h.lt; omega) h.lb (fun k hk => by cases hk))
/-- another row in its place -/
theorem Rg.put {v' : Value} {L' : List Kn} (h : Rg B w r v L) (hr : Row kc 3 53 B w v' L') (hne : v'.ownBlock ≠ some r) : Rg B (w.setCell ⟨r, 0, none⟩ v') r v' L' :=
  ⟨h.lb, by simp [World.setCell, Array.getElem?_modify, h.blk], hr.of_blocks fun k hk => Below.heap_setCell _ _ _ _ (show k ≠ r by rintro rfl; exact hne hk)⟩
end
theorem rg_new (w : World) : Rg w.heap.size (w.alloc (.cells #[.slice none 0 0] 29)) w.heap.size (.slice none 0 0) [] :=
  ⟨Nat.le_refl _, heap_alloc_new w _, Ge.row_nil _ _⟩
theorem seen_kn {ao : Option Addr} {L : List Kn} {w : World} (h : Seen kc 3 ao L w) {i : Nat} {x : Kn} (hx : L[i]? = some x) : ∃ b off, ao = some ⟨b, off, none⟩ ∧ w.cell? ⟨b, off + i * 3, none⟩ = some (.int .i64 x.id) ∧ w.cell? ⟨b, off + i * 3 + 1, none⟩ = some (.int .i64 x.last) ∧ w.cell? ⟨b, off + i * 3 + 2, none⟩ = some (.int .i64 x.next) := by
  obtain ⟨b, off, e, -, hc⟩ := h (by have := (List.getElem?_eq_some_iff.1 hx).1; omega)
  exact ⟨b, off, e, by simpa using hc i x hx 0 _ rfl, hc i x hx 1 _ rfl, hc i x hx 2 _ rfl⟩
theorem look_take {L : List Kn} {i : Int} {k : Nat} {x : Kn} (h : lookK (L.take k) i = none) (hx : L[k]? = some x) : (x.id = i → lookK L i = some x) ∧ (x.id ≠ i → lookK (L.take (k + 1)) i = none) := by
  induction L generalizing k with
  | nil => simp at hx
  | cons a L ih =>
    cases k with
    | zero =>
      obtain rfl : a = x := by simpa using hx
      refine ⟨fun e => by rw [lookK, if_pos e], fun e => ?_⟩
      rw [List.take_succ_cons, List.take_zero, lookK, if_neg e]; rfl
    | succ k =>
      rw [List.take_succ_cons, lookK] at h
      split at h
      · cases h
      · rename_i e
        obtain ⟨h1, h2⟩ := ih h (by simpa using hx)
        refine ⟨fun e1 => by rw [lookK, if_neg e]; exact h1 e1, fun e1 => ?_⟩
        rw [List.take_succ_cons, lookK, if_neg e]; exact h2 e1
def AtRel (L : List Kn) (id : Int) (w : World) (gk : Nat) (s5 : Value) (wx : World) : Prop := ∃ i : Nat, i + gk = L.length ∧ s5 = .int .i64 (i : Int) ∧ lookK (L.take i) id = none ∧ wx = w
theorem at_any (B r : Nat) (v : Value) (L : List Kn) (id : Int) (hL : L.length ≤ 80000) (w : World) (h : Rg B w r v L) :
    Calls Try.prog 22 #[.pointer (some ⟨r, 0, none⟩), .int .i64 id] w fun e w' => ∃ z, e = .returned (.int .i64 z) ∧ ((z = -1 ∧ lookK L id = none) ∨ ∃ (k : Nat) (x : Kn), z = (k : Int) ∧ L[k]? = some x ∧ lookK L id = some x) ∧ w' = w := by
  have hc := h.cell
  obtain ⟨ao, cap, rfl, hs⟩ := h.seen
  have S := Lib.hid hs
  clear h hs
  go_enter Try.func22, Try.ntmps22
  go_wp2_with fail
  go_loopg [5] L.length (AtRel L id w)
  case atStart => exact ⟨0, by omega, rfl, rfl, rfl⟩
  case round =>
    obtain ⟨i, hi, rfl, hk, rfl⟩ := hrel
    by_cases hlt : i < L.length
    · obtain ⟨x, hx⟩ : ∃ x, L[i]? = some x := ⟨_, List.getElem?_eq_getElem hlt⟩
      obtain ⟨b, off, rfl, c0, -, -⟩ := seen_kn S.out hx
      obtain ⟨f1, f2⟩ := look_take hk hx
      have hlt' : (i : Int) < (L.length : Int) := by omega
      have hi1w : IntKind.i64.wrap ((i : Int) + 1) = (i : Int) + 1 := IntWalk.i64_in _ (by omega)
      have HI := Lib.hid hi
      have HX := Lib.hid hx
      have F1 := Lib.hid f1
      have F2 := Lib.hid f2
      have hg0 : 0 < gk := by omega
      clear hi hx hk f1 f2
      by_cases he : x.id = id
      · have e1 : (x.id == id) = true := by simp [he]
        go_wp2
        go_ret
        exact ⟨_, rfl, .inr ⟨i, x, rfl, HX.out, F1.out he⟩, rfl⟩
      · have e1 : (x.id == id) = false := by simp [he]
        go_wp2
        go_roundg (gk - 1)
        case measure => omega
        case rel => exact ⟨i + 1, by have := HI.out; omega, by go_num, F2.out he, rfl⟩
    · have hge : (L.length : Int) ≤ (i : Int) := by omega
      have hdec : decide (i < L.length) = false := decide_eq_false hlt
      have e : L.take i = L := List.take_of_length_le (by omega)
      rw [e] at hk
      have HK := Lib.hid hk
      clear hi hlt hk e
      go_wp2
      go_ret
      exact ⟨_, rfl, .inl ⟨rfl, HK.out⟩, rfl⟩
section
variable (B r : Nat) (v : Value) (L : List Kn)
theorem rnext_any (id : Int) (hL : L.length ≤ 80000) (w : World) (h : Rg B w r v L) :
    Calls Try.prog 19 #[.pointer (some ⟨r, 0, none⟩), .int .i64 id] w fun e w' => e = .returned (.int .i64 (nextOf L id)) ∧ w' = w := by
  have AT := Lib.hid (at_any B r v L id hL w h)
  have hc := h.cell
  obtain ⟨ao, cap, rfl, hs⟩ := h.seen
  have S := Lib.hid hs
  clear h hs
  go_enter Try.func19, Try.ntmps19
  go_wp2_with fail
  (with_reducible refine AT.out.mono ?_)
  rintro e _ ⟨z, rfl, hz, rfl⟩
  clear AT
  rcases hz with ⟨rfl, hk⟩ | ⟨k, x, rfl, hx, hk⟩
  · have en : nextOf L id = 0 := by unfold nextOf; rw [hk]
    have EN := Lib.hid en
    clear hk en
    go_wp2
    go_ret
    exact ⟨by rw [EN.out]; rfl, rfl⟩
  · have en : nextOf L id = x.next := by unfold nextOf; rw [hk]
    have EN := Lib.hid en
    obtain ⟨b, off, rfl, -, -, c2⟩ := seen_kn S.out hx
    have hkl := (List.getElem?_eq_some_iff.1 hx).1
    have k0 : (0 : Int) ≤ (k : Int) := by omega
    have k1 : (k : Int) < (L.length : Int) := by omega
    clear hk en hx
    go_wp2
    go_ret
    exact ⟨by rw [EN.out]; rfl, rfl⟩
theorem rlast_any (id : Int) (hL : L.length ≤ 80000) (w : World) (h : Rg B w r v L) :
    Calls Try.prog 14 #[.pointer (some ⟨r, 0, none⟩), .int .i64 id] w fun e w' => e = .returned (.tuple #[.int .i64 (lastOf L id), .bool (isIn L id)]) ∧ w' = w := by
  have AT := Lib.hid (at_any B r v L id hL w h)
  have hc := h.cell
  obtain ⟨ao, cap, rfl, hs⟩ := h.seen
  have S := Lib.hid hs
  clear h hs
  go_enter Try.func14, Try.ntmps14
  go_wp2_with fail
  (with_reducible refine AT.out.mono ?_)
  rintro e _ ⟨z, rfl, hz, rfl⟩
  clear AT
  rcases hz with ⟨rfl, hk⟩ | ⟨k, x, rfl, hx, hk⟩
  · have en : lastOf L id = 0 := by unfold lastOf; rw [hk]
    have ei : isIn L id = false := by unfold isIn; rw [hk]; rfl
    have EN := Lib.hid (And.intro en ei)
    clear hk en ei
    go_wp2
    go_ret2
    exact ⟨by rw [EN.out.1, EN.out.2]; rfl, rfl⟩
  · have en : lastOf L id = x.last := by unfold lastOf; rw [hk]
    have ei : isIn L id = true := by unfold isIn; rw [hk]; rfl
    have EN := Lib.hid (And.intro en ei)
    obtain ⟨b, off, rfl, -, c2, -⟩ := seen_kn S.out hx
    have hkl := (List.getElem?_eq_some_iff.1 hx).1
    have k0 : (0 : Int) ≤ (k : Int) := by omega
    have k1 : (k : Int) < (L.length : Int) := by omega
    clear hk en ei hx
    go_wp2
    go_ret2
    exact ⟨by rw [EN.out.1, EN.out.2]; rfl, rfl⟩
end
def IdRel (L : List Kn) (w : World) (gk : Nat) (s3 s4 : Value) (wx : World) : Prop := ∃ i : Nat, i + gk = L.length ∧ s4 = .int .i64 (i : Int) ∧ NRow w.heap.size wx s3 (ids (L.take i)) ∧ Below w.heap.size w wx
theorem rids_any (B r : Nat) (v : Value) (L : List Kn) (hL : L.length ≤ 80000) (w : World) (h : Rg B w r v L) :
    Calls Try.prog 17 #[.pointer (some ⟨r, 0, none⟩)] w fun e w' => ∃ u, e = .returned u ∧ NRow w.heap.size w' u (ids L) ∧ Below w.heap.size w w' := by
  have HR := Lib.hid h
  obtain ⟨ao, cap, rfl, -⟩ := h.seen
  clear h
  go_enter Try.func17, Try.ntmps17
  go_wp2_with fail
  go_loopg [3, 4] L.length (IdRel L w)
  case atStart => exact ⟨0, by omega, rfl, nrow_nil _ _, Below.refl _ _⟩
  case round =>
    obtain ⟨i, hi, rfl, hrow, hb⟩ := hrel
    have H2 := Lib.hid (HR.out.call hb)
    have hc := H2.out.cell
    have HB := Lib.hid hb
    have HW := Lib.hid hrow
    clear hb
    by_cases hlt : i < L.length
    · obtain ⟨x, hx⟩ : ∃ x, L[i]? = some x := ⟨_, List.getElem?_eq_getElem hlt⟩
      obtain ⟨a1, c1, e1, hs⟩ := H2.out.seen
      cases e1
      obtain ⟨b, off, rfl, c0, -, -⟩ := seen_kn hs hx
      have hil : (ids (L.take i)).length ≤ 900000 := by rw [ids_len, List.length_take]; omega
      obtain ⟨g5, cp5, w5, hap5, hr5, hb5, -, -, -⟩ := nrow_append w.heap.size wr u3 _ x.id hrow HB.out.size hil
      have ek : ids (L.take i) ++ [x.id] = ids (L.take (i + 1)) := by
        rw [List.take_succ_eq_append_getElem hlt]
        have : L[i] = x := by have := List.getElem?_eq_getElem hlt; rw [this] at hx; exact Option.some.inj hx
        rw [this]; simp [ids]
      rw [ek] at hr5
      have R5 := Lib.hid hr5
      have B5 := Lib.hid (HB.out.trans hb5)
      have hlt' : (i : Int) < (L.length : Int) := by omega
      have hi1w : IntKind.i64.wrap ((i : Int) + 1) = (i : Int) + 1 := IntWalk.i64_in _ (by omega)
      have HI := Lib.hid hi
      have hg0 : 0 < gk := by omega
      clear hi hx hs hil hr5 hb5 ek hrow HW HB H2
      generalize (ids (L.take i)).length + 1 = n5 at *
      go_wp2_with (at_builtin; refine Lib.wpList_append_run _ rfl _ _ _ _ rfl _ _ rfl rfl _ _ hap5 ?_)
      go_roundg (gk - 1)
      case measure => omega
      case rel => exact ⟨i + 1, by have := HI.out; omega, by go_num, R5.out, B5.out⟩
    · have hge : (L.length : Int) ≤ (i : Int) := by omega
      have hdec : decide (i < L.length) = false := decide_eq_false hlt
      have e : L.take i = L := List.take_of_length_le (by omega)
      rw [e] at HW
      clear hi hlt hrow e H2
      go_wp2
      go_ret
      exact ⟨_, rfl, HW.out, HB.out⟩
end Go.Proofs.Ytcmgdllofkgaoaa.Gd
