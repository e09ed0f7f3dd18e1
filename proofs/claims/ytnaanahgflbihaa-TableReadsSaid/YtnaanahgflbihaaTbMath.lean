/- The set as a table: what ops make of it, its bytes: the mathematics. -/
import Derived.Test.YtnaanahgflbihaaOpMath
namespace Go.Proofs.Ytnaanahgflbihaa.Tb
open Pm (Tk chk chk_iff)
open Oc (enc encInt encFlag num int flag)
open Ox (Od chkR chkR_iff tk0 encO readR readR_enc num_e int_e flag_e num_took int_took flag_took bl)
set_option maxRecDepth 100000
set_option linter.unusedVariables false
set_option linter.unusedSimpArgs false
/-- a row of the set -/
structure Rw where
  t : Tk
  s : Bool
instance : DecidableEq Rw := fun a b => decidable_of_iff (a.t = b.t ∧ a.s = b.s) (by cases a; cases b; simp)
structure Tb where
  rows : List Rw
  mode : Int
instance : DecidableEq Tb := fun a b => decidable_of_iff (a.rows = b.rows ∧ a.mode = b.mode) (by cases a; cases b; simp)
def tb0 : Tb := ⟨[], 0⟩
def okW (r : Rw) : Bool := chk r.t && (!r.s || r.t.d == r.t.t)
/-- IDs rise, all above b -/
def rise : Int → List Rw → Bool
  | _, [] => true
  | b, r :: l => decide (b < r.t.id) && rise r.t.id l
theorem okW_iff {r : Rw} : okW r = true ↔ chk r.t = true ∧ (r.s = true → r.t.d = r.t.t) := by
  unfold okW
  cases h : r.s with
  | false => simp
  | true => simp
/-- may it be? -/
def chkT (t : Tb) : Bool := t.rows.all okW && rise (-1) t.rows && decide (t.rows.length ≤ 16) && decide (0 ≤ t.mode ∧ t.mode ≤ 3)
theorem chkT_iff {t : Tb} : chkT t = true ↔ (∀ r ∈ t.rows, okW r = true) ∧ rise (-1) t.rows = true ∧ t.rows.length ≤ 16 ∧ 0 ≤ t.mode ∧ t.mode ≤ 3 := by
  unfold chkT
  simp [List.all_eq_true, and_assoc]
theorem rise_mono {l : List Rw} {a b : Int} (h : rise a l = true) (hab : b ≤ a) : rise b l = true := by
  cases l with
  | nil => rfl
  | cons r l =>
    unfold rise at h ⊢
    simp only [Bool.and_eq_true, decide_eq_true_eq] at h ⊢
    exact ⟨by omega, h.2⟩
theorem rise_mem {l : List Rw} : ∀ {a : Int}, rise a l = true → ∀ r ∈ l, a < r.t.id := by
  induction l with
  | nil => intro a _ r h; cases h
  | cons q l ih =>
    intro a h r hr
    unfold rise at h
    simp only [Bool.and_eq_true, decide_eq_true_eq] at h
    rcases List.mem_cons.1 hr with rfl | hr
    · exact h.1
    · have := ih h.2 r hr; omega
theorem rise_pair {l : List Rw} {a : Int} : rise a l = true ↔ (∀ r ∈ l, a < r.t.id) ∧ l.Pairwise (fun x y => x.t.id < y.t.id) := by
  induction l generalizing a with
  | nil => simp [rise]
  | cons q l ih =>
    unfold rise
    simp only [Bool.and_eq_true, decide_eq_true_eq, ih, List.pairwise_cons, List.mem_cons]
    constructor
    · rintro ⟨h1, h2, h3⟩
      exact ⟨fun r hr => by rcases hr with rfl | hr; exact h1; have := h2 r hr; omega, h2, h3⟩
    · rintro ⟨h1, h2, h3⟩
      exact ⟨h1 q (.inl rfl), h2, h3⟩
/-- the row of an ID -/
def find (l : List Rw) (id : Int) : Option Rw := l.find? (fun r => r.t.id == id)
/-- its place -/
def at_ (l : List Rw) (id : Int) : Option Nat := l.findIdx? (fun r => r.t.id == id)
theorem at_some {l : List Rw} {id : Int} {k : Nat} (h : at_ l id = some k) : ∃ r, l[k]? = some r ∧ r.t.id = id ∧ find l id = some r := by
  unfold at_ at h
  unfold find
  induction l generalizing k with
  | nil => simp at h
  | cons q l ih =>
    rw [List.findIdx?_cons] at h
    rw [List.find?_cons]
    by_cases hq : (q.t.id == id) = true
    · rw [if_pos hq] at h
      cases h
      refine ⟨q, rfl, by simpa using hq, by rw [hq]⟩
    · rw [if_neg hq] at h
      cases hf : l.findIdx? (fun r => r.t.id == id) with
      | none => rw [hf] at h; cases h
      | some j =>
        rw [hf] at h
        cases h
        obtain ⟨r, h1, h2, h3⟩ := ih hf
        refine ⟨r, h1, h2, ?_⟩
        simp only [Bool.not_eq_true] at hq
        rw [hq]; exact h3
theorem at_none {l : List Rw} {id : Int} (h : at_ l id = none) : (∀ r ∈ l, r.t.id ≠ id) ∧ find l id = none := by
  unfold at_ at h
  rw [List.findIdx?_eq_none_iff] at h
  refine ⟨fun r hr => by have := h r hr; simpa using this, ?_⟩
  unfold find
  rw [List.find?_eq_none]
  intro r hr
  rw [h r hr]; decide
/-- with a row, ahead of the first greater ID -/
def ins (x : Rw) : List Rw → List Rw
  | [] => [x]
  | r :: l => if x.t.id < r.t.id then x :: r :: l else r :: ins x l
theorem ins_len (x : Rw) (l : List Rw) : (ins x l).length = l.length + 1 := by
  induction l with
  | nil => rfl
  | cons r l ih => unfold ins; split <;> simp [ih]
theorem ins_mem {x r : Rw} {l : List Rw} : r ∈ ins x l ↔ r = x ∨ r ∈ l := by
  induction l with
  | nil => simp [ins]
  | cons q l ih =>
    unfold ins
    split
    · simp
    · simp only [List.mem_cons, ih]
      constructor
      · rintro (h | h | h)
        · exact .inr (.inl h)
        · exact .inl h
        · exact .inr (.inr h)
      · rintro (h | h | h)
        · exact .inr (.inl h)
        · exact .inl h
        · exact .inr (.inr h)
theorem ins_rise {x : Rw} : ∀ {l : List Rw} {a : Int}, rise a l = true → a < x.t.id → (∀ r ∈ l, r.t.id ≠ x.t.id) → rise a (ins x l) = true := by
  intro l
  induction l with
  | nil => intro a _ h _; unfold ins rise; simp [h, rise]
  | cons r l ih =>
    intro a h ha hn
    unfold rise at h
    simp only [Bool.and_eq_true, decide_eq_true_eq] at h
    have hne := hn r (by simp)
    unfold ins
    by_cases hx : x.t.id < r.t.id
    · rw [if_pos hx]
      unfold rise
      simp only [Bool.and_eq_true, decide_eq_true_eq]
      refine ⟨ha, ?_⟩
      unfold rise
      simp only [Bool.and_eq_true, decide_eq_true_eq]
      exact ⟨hx, h.2⟩
    · rw [if_neg hx]
      unfold rise
      simp only [Bool.and_eq_true, decide_eq_true_eq]
      exact ⟨h.1, ih h.2 (by omega) (fun q hq => hn q (by simp [hq]))⟩
/-- what an op makes of a table -/
def applyR (t : Tb) (o : Od) : Tb × Int :=
  if chkT t = false ∨ chkR o = false then (tb0, 1)
  else if o.kind = 1 then
    match at_ t.rows o.task.id with
    | some _ => (tb0, 14)
    | none => if 16 ≤ t.rows.length then (tb0, 15) else (⟨ins ⟨o.task, o.server⟩ t.rows, t.mode⟩, 0)
  else if o.kind = 4 then (⟨t.rows, o.mode⟩, 0)
  else match at_ t.rows o.id with
    | none => (tb0, 12)
    | some k => if o.kind = 3 then
        match t.rows[k]? with
        | none => (tb0, 12)
        | some r => if r.t.d < o.c then (tb0, 1) else (⟨t.rows.take k ++ { r with t := { r.t with c := o.c } } :: t.rows.drop (k + 1), t.mode⟩, 0)
      else (⟨t.rows.take k ++ t.rows.drop (k + 1), t.mode⟩, 0)
theorem pair_sub {l m : List Rw} (h : m.Sublist l) (hl : rise (-1) l = true) : rise (-1) m = true := by
  rw [rise_pair] at hl ⊢
  exact ⟨fun r hr => hl.1 r (h.subset hr), hl.2.sublist h⟩
theorem cut_sub (l : List Rw) (k : Nat) : (l.take k ++ l.drop (k + 1)).Sublist l := by
  rw [← List.eraseIdx_eq_take_drop_succ]
  exact List.eraseIdx_sublist l k
theorem rise_ids {l m : List Rw} (h : l.map (·.t.id) = m.map (·.t.id)) (hl : rise (-1) l = true) : rise (-1) m = true := by
  have key : ∀ (l m : List Rw) (a : Int), l.map (·.t.id) = m.map (·.t.id) → rise a l = true → rise a m = true := by
    intro l
    induction l with
    | nil => intro m a h _; cases m with
      | nil => rfl
      | cons r m => simp at h
    | cons q l ih =>
      intro m a h hl
      cases m with
      | nil => simp at h
      | cons r m =>
        simp only [List.map_cons, List.cons.injEq] at h
        unfold rise at hl ⊢
        simp only [Bool.and_eq_true, decide_eq_true_eq] at hl ⊢
        rw [← h.1]
        exact ⟨hl.1, ih m _ h.2 hl.2⟩
  exact key l m _ h hl
/-- a table that ops may be applied to stays one that may be -/
theorem apply_chk {t : Tb} {o : Od} (h : (applyR t o).2 = 0) : chkT (applyR t o).1 = true ∧ chkT t = true ∧ chkR o = true := by
  unfold applyR at h ⊢
  by_cases h0 : chkT t = false ∨ chkR o = false
  · rw [if_pos h0] at h; cases h
  rw [if_neg h0] at h ⊢
  have hT : chkT t = true := by cases e : chkT t with
    | true => rfl
    | false => exact absurd (.inl e) h0
  have hR : chkR o = true := by cases e : chkR o with
    | true => rfl
    | false => exact absurd (.inr e) h0
  refine ⟨?_, hT, hR⟩
  obtain ⟨c1, c2, c3, c4, c5⟩ := chkT_iff.1 hT
  rcases chkR_iff.1 hR with ⟨x, s, rfl, hc, hs⟩ | ⟨i, rfl, h1, h2⟩ | ⟨i, c, rfl, h1, h2, h3, h4⟩ | ⟨m, rfl, h1, h2⟩
  · simp only [if_true] at h ⊢
    cases ha : at_ t.rows x.id with
    | some k => rw [ha] at h; cases h
    | none =>
      rw [ha] at h
      simp only at h ⊢
      by_cases h16 : 16 ≤ t.rows.length
      · rw [if_pos h16] at h; cases h
      rw [if_neg h16]
      have hk := chk_iff.1 hc
      rw [chkT_iff]
      simp only
      refine ⟨fun r hr => ?_, ins_rise c2 (by show (-1 : Int) < x.id; omega) (at_none ha).1, by rw [ins_len]; omega, c4, c5⟩
      rcases ins_mem.1 hr with rfl | hr
      · exact okW_iff.2 ⟨hc, hs⟩
      · exact c1 r hr
  · simp only [show ¬ (2 : Int) = 1 by decide, show ¬ (2 : Int) = 4 by decide, show ¬ (2 : Int) = 3 by decide, if_false] at h ⊢
    cases ha : at_ t.rows i with
    | none => rw [ha] at h; cases h
    | some k =>
      simp only
      rw [chkT_iff]
      simp only
      have hsub := cut_sub t.rows k
      exact ⟨fun r hr => c1 r (hsub.subset hr), pair_sub hsub c2, Nat.le_trans hsub.length_le c3, c4, c5⟩
  · simp only [show ¬ (3 : Int) = 1 by decide, show ¬ (3 : Int) = 4 by decide, if_false, if_true] at h ⊢
    cases ha : at_ t.rows i with
    | none => rw [ha] at h; cases h
    | some k =>
      rw [ha] at h
      simp only at h ⊢
      obtain ⟨r, hr, hid, -⟩ := at_some ha
      rw [hr] at h ⊢
      simp only at h ⊢
      by_cases hd : r.t.d < c
      · rw [if_pos hd] at h; cases h
      rw [if_neg hd]
      obtain ⟨hkl, rfl⟩ := List.getElem?_eq_some_iff.1 hr
      have e : t.rows = t.rows.take k ++ t.rows[k] :: t.rows.drop (k + 1) := by rw [← List.drop_eq_getElem_cons hkl, List.take_append_drop]
      rw [chkT_iff]
      simp only
      have hok := okW_iff.1 (c1 _ (List.getElem_mem hkl))
      have hck := chk_iff.1 hok.1
      refine ⟨fun q hq => ?_, rise_ids (l := t.rows) ?_ c2, by have := congrArg List.length e; simp at this ⊢; omega, c4, c5⟩
      · rcases List.mem_append.1 hq with hq | hq
        · exact c1 q (List.mem_of_mem_take hq)
        · rcases List.mem_cons.1 hq with rfl | hq
          · exact okW_iff.2 ⟨by rw [chk_iff]; simp only; omega, hok.2⟩
          · exact c1 q (List.mem_of_mem_drop hq)
      · have e2 := congrArg (List.map (fun (x : Rw) => x.t.id)) e
        rw [List.map_append, List.map_cons] at e2 ⊢
        exact e2
  · simp only [show ¬ (4 : Int) = 1 by decide, if_false, if_true]
    rw [chkT_iff]
    exact ⟨c1, c2, c3, h1, h2⟩
theorem chk_tb0 : chkT tb0 = true := by decide
/-- what was admitted, and is removed, leaves the table as it was -/
theorem ins_at {x : Rw} : ∀ {l : List Rw} {a : Int}, rise a l = true → (∀ r ∈ l, r.t.id ≠ x.t.id) → ∃ k, at_ (ins x l) x.t.id = some k ∧ (ins x l).take k ++ (ins x l).drop (k + 1) = l := by
  intro l
  induction l with
  | nil => intro a _ _; exact ⟨0, by simp [ins, at_, List.findIdx?_cons], rfl⟩
  | cons r l ih =>
    intro a h hn
    unfold rise at h
    simp only [Bool.and_eq_true, decide_eq_true_eq] at h
    have hne := hn r (by simp)
    unfold ins
    by_cases hx : x.t.id < r.t.id
    · rw [if_pos hx]
      exact ⟨0, by simp [at_, List.findIdx?_cons], rfl⟩
    · rw [if_neg hx]
      obtain ⟨k, h1, h2⟩ := ih h.2 (fun q hq => hn q (by simp [hq]))
      refine ⟨k + 1, ?_, by simpa using h2⟩
      unfold at_ at h1 ⊢
      rw [List.findIdx?_cons, if_neg (by simpa using hne), h1]; rfl
/-- a row's bytes -/
def encW (r : Rw) : List UInt8 := encInt r.t.id ++ enc r.t.c.toNat ++ enc r.t.d.toNat ++ enc r.t.t.toNat ++ encInt r.t.m ++ encFlag r.s
def encWs : List Rw → List UInt8
  | [] => []
  | r :: l => encW r ++ encWs l
theorem encWs_append (l m : List Rw) : encWs (l ++ m) = encWs l ++ encWs m := by
  induction l with
  | nil => rfl
  | cons r l ih => rw [List.cons_append, encWs, encWs, ih, List.append_assoc]
/-- a table's bytes -/
def encT (t : Tb) : List UInt8 := encInt t.mode ++ encInt (t.rows.length : Int) ++ encWs t.rows
def readW (o : Oc.St) : Rw × Oc.St :=
  let a := int o 1023; let b := num a.2 2147483648; let d := num b.2 2147483648; let t := num d.2 2147483648; let m := int t.2 15; let f := flag m.2
  (⟨⟨a.1, b.1, d.1, t.1, m.1⟩, f.1⟩, f.2)
def readWs : Nat → Oc.St → List Rw × Oc.St
  | 0, o => ([], o)
  | _ + 1, none => ([], none)
  | n + 1, some l => ((readW (some l)).1 :: (readWs n (readW (some l)).2).1, (readWs n (readW (some l)).2).2)
def readM (o : Oc.St) : Tb × Oc.St :=
  let m := int o 3; let n := int m.2 16; let r := readWs n.1 n.2
  (⟨r.1, m.1⟩, r.2)
theorem readW_enc {r : Rw} (h : chk r.t = true) (x : List UInt8) : readW (some (encW r ++ x)) = (r, some x) := by
  have hk := chk_iff.1 h
  obtain ⟨⟨ti, tc, td, tt, tm⟩, s⟩ := r
  simp only at hk
  unfold readW encW
  simp only [List.append_assoc]
  rw [int_e (by omega) (by omega) (by decide)]
  simp only
  rw [num_e (by omega) (by decide)]
  simp only
  rw [num_e (by omega) (by decide)]
  simp only
  rw [num_e (by omega) (by decide)]
  simp only
  rw [int_e (by omega) (by omega) (by decide)]
  simp only
  rw [flag_e]
  simp only [Prod.mk.injEq, Rw.mk.injEq, Tk.mk.injEq, and_true]
  omega
theorem readWs_enc {l : List Rw} (h : ∀ r ∈ l, chk r.t = true) (x : List UInt8) : readWs l.length (some (encWs l ++ x)) = (l, some x) := by
  induction l with
  | nil => rfl
  | cons r l ih =>
    rw [List.length_cons, encWs, List.append_assoc, readWs, readW_enc (h r (by simp))]
    simp only
    rw [ih (fun q hq => h q (by simp [hq]))]
theorem readM_enc {t : Tb} (h : chkT t = true) (x : List UInt8) : readM (some (encT t ++ x)) = (t, some x) := by
  obtain ⟨c1, c2, c3, c4, c5⟩ := chkT_iff.1 h
  unfold readM encT
  simp only [List.append_assoc]
  rw [int_e c4 c5 (by decide)]
  simp only
  rw [int_e (by omega) (by omega) (by decide)]
  simp only [Int.toNat_natCast]
  rw [readWs_enc (fun r hr => (okW_iff.1 (c1 r hr)).1)]
  obtain ⟨rows, mode⟩ := t
  simp only at c4
  simp only [Prod.mk.injEq, Tb.mk.injEq, true_and, and_true]
  omega
theorem readW_took {o : Oc.St} {r : List UInt8} (h : (readW o).2 = some r) : o = some (encW (readW o).1 ++ r) := by
  unfold readW at h ⊢
  simp only at h ⊢
  have e6 := flag_took h
  have e5 := int_took e6
  have e4 := num_took e5
  have e3 := num_took e4
  have e2 := num_took e3
  have e1 := int_took e2
  unfold encW
  simp only [encInt, Int.toNat_natCast, List.append_assoc]
  exact e1
theorem readWs_took : ∀ {n : Nat} {o : Oc.St} {r : List UInt8}, (readWs n o).2 = some r → o = some (encWs (readWs n o).1 ++ r) ∧ (readWs n o).1.length = n := by
  intro n
  induction n with
  | zero => intro o r h; exact ⟨h, rfl⟩
  | succ n ih =>
    intro o r h
    cases o with
    | none => cases h
    | some l =>
      rw [readWs] at h ⊢
      simp only at h ⊢
      obtain ⟨h1, h2⟩ := ih h
      have h3 := readW_took h1
      exact ⟨by rw [encWs, List.append_assoc]; exact h3, by rw [List.length_cons, h2]⟩
theorem readM_took {l r : List UInt8} (h : (readM (some l)).2 = some r) : l = encT (readM (some l)).1 ++ r := by
  have key : ∀ o : Oc.St, (readM o).2 = some r → o = some (encT (readM o).1 ++ r) := by
    intro o h
    unfold readM at h ⊢
    simp only at h ⊢
    obtain ⟨h1, h2⟩ := readWs_took h
    have e1 := int_took h1
    have e0 := int_took e1
    unfold encT
    simp only [h2, encInt, Int.toNat_natCast, List.append_assoc]
    exact e0
  have := key (some l) h
  simpa using this
/-- the table that has these bytes -/
def readR (l : List UInt8) : Option Tb := if (readM (some l)).2 = some [] ∧ chkT (readM (some l)).1 = true then some (readM (some l)).1 else none
theorem readR_enc {t : Tb} (h : chkT t = true) : readR (encT t) = some t := by
  have h1 := readM_enc h []
  rw [List.append_nil] at h1
  unfold readR
  rw [h1, if_pos ⟨rfl, h⟩]
theorem readR_some {l : List UInt8} {t : Tb} (h : readR l = some t) : chkT t = true ∧ encT t = l := by
  unfold readR at h
  split at h
  · rename_i hc
    cases h
    have := readM_took hc.1
    rw [List.append_nil] at this
    exact ⟨hc.2, this.symm⟩
  · cases h
/-- ops replayed: the table, how many were applied -/
def replayR (t : Tb) : List (List UInt8) → Tb × Nat
  | [] => (t, 0)
  | l :: r => match Ox.readR l with
    | none => (t, 0)
    | some o => if (applyR t o).2 = 0 then ((replayR (applyR t o).1 r).1, (replayR (applyR t o).1 r).2 + 1) else (t, 0)
/-- of a table that may not be: the table, 0 -/
def replayT (t : Tb) (l : List (List UInt8)) : Tb × Nat := if chkT t = true then replayR t l else (t, 0)
theorem replayR_len (t : Tb) (l : List (List UInt8)) : (replayR t l).2 ≤ l.length := by
  induction l generalizing t with
  | nil => simp [replayR]
  | cons x l ih =>
    unfold replayR
    cases Ox.readR x with
    | none => simp
    | some o =>
      simp only
      by_cases h : (applyR t o).2 = 0
      · rw [if_pos h]; have := ih (applyR t o).1; simp; omega
      · rw [if_neg h]; simp
/-- what was applied one by one is replayed -/
theorem replay_snoc {o : Od} : ∀ {l : List (List UInt8)} {s t : Tb}, replayR s l = (t, l.length) → (applyR t o).2 = 0 → replayR s (l ++ [encO o]) = ((applyR t o).1, l.length + 1) := by
  intro l
  induction l with
  | nil =>
    intro s t h ha
    obtain rfl : s = t := congrArg Prod.fst h
    rw [List.nil_append]
    unfold replayR
    rw [Ox.readR_enc (apply_chk ha).2.2]
    simp only
    rw [if_pos ha]
    rfl
  | cons x l ih =>
    intro s t h ha
    rw [List.cons_append]
    unfold replayR at h ⊢
    cases hx : Ox.readR x with
    | none => rw [hx] at h; simp at h
    | some p =>
      rw [hx] at h
      simp only at h ⊢
      by_cases hp : (applyR s p).2 = 0
      · rw [if_pos hp] at h ⊢
        simp only [Prod.mk.injEq, List.length_cons, Nat.add_right_cancel_iff] at h
        have := ih (s := (applyR s p).1) (t := t) (Prod.ext h.1 h.2) ha
        rw [this]; rfl
      · rw [if_neg hp] at h; simp at h
theorem encW_len {r : Rw} (h : chk r.t = true) : (encW r).length ≤ 22 := by
  have hk := chk_iff.1 h
  have l2 : (encInt r.t.id).length ≤ 3 := bl (k := 2) (by omega)
  have l3 : (enc r.t.c.toNat).length ≤ 5 := bl (k := 4) (by omega)
  have l4 : (enc r.t.d.toNat).length ≤ 5 := bl (k := 4) (by omega)
  have l5 : (enc r.t.t.toNat).length ≤ 5 := bl (k := 4) (by omega)
  have l6 : (encInt r.t.m).length ≤ 2 := bl (k := 1) (by omega)
  have l7 : (encFlag r.s).length ≤ 2 := bl (k := 1) (by split <;> decide)
  unfold encW
  simp only [List.length_append]
  omega
theorem encWs_len {l : List Rw} (h : ∀ r ∈ l, chk r.t = true) : (encWs l).length ≤ 22 * l.length := by
  induction l with
  | nil => simp [encWs]
  | cons r l ih =>
    have h1 := encW_len (h r (by simp))
    have h2 := ih (fun q hq => h q (by simp [hq]))
    rw [encWs, List.length_append, List.length_cons]
    omega
/-- at most 356 bytes -/
theorem encT_len {t : Tb} (h : chkT t = true) : (encT t).length ≤ 356 := by
  obtain ⟨c1, c2, c3, c4, c5⟩ := chkT_iff.1 h
  have l1 : (encInt t.mode).length ≤ 2 := bl (k := 1) (by omega)
  have l2 : (encInt (t.rows.length : Int)).length ≤ 2 := bl (k := 1) (by omega)
  have l3 := encWs_len (fun r hr => (okW_iff.1 (c1 r hr)).1)
  unfold encT
  simp only [List.length_append]
  omega
end Go.Proofs.Ytnaanahgflbihaa.Tb
