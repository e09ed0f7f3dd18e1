/- Operations on the task set, and their bytes: the mathematics. -/
import Derived.Test.YtnaanahgflbihaaOcMath
import Derived.Test.YtnaanahgflbihaaPmMath
namespace Go.Proofs.Ytnaanahgflbihaa.Ox
open Pm (Tk chk chk_iff)
open Oc (enc encInt encFlag dec num int flag dec_enc dec_some enc_length enc_mono enc_len9 num_most)
set_option maxRecDepth 100000
set_option linter.unusedVariables false
set_option linter.unusedSimpArgs false
/-- an op -/
structure Od where
  kind : Int
  task : Tk
  server : Bool
  id : Int
  c : Int
  mode : Int
instance : DecidableEq Tk := fun a b => decidable_of_iff (a.id = b.id ∧ a.c = b.c ∧ a.d = b.d ∧ a.t = b.t ∧ a.m = b.m) (by cases a; cases b; simp)
instance : DecidableEq Od := fun a b => decidable_of_iff (a.kind = b.kind ∧ a.task = b.task ∧ a.server = b.server ∧ a.id = b.id ∧ a.c = b.c ∧ a.mode = b.mode) (by cases a; cases b; simp)
def tk0 : Tk := ⟨0, 0, 0, 0, 0⟩
def bareR (o : Od) : Od :=
  if o.kind = 1 then ⟨1, o.task, o.server, 0, 0, 0⟩ else if o.kind = 2 then ⟨2, tk0, false, o.id, 0, 0⟩ else if o.kind = 3 then ⟨3, tk0, false, o.id, o.c, 0⟩ else if o.kind = 4 then ⟨4, tk0, false, 0, 0, o.mode⟩ else ⟨o.kind, tk0, false, 0, 0, 0⟩
def mayR (o : Od) : Bool :=
  if o.kind = 1 then chk o.task && (!o.server || o.task.d == o.task.t) else if o.kind = 2 then decide (0 ≤ o.id ∧ o.id ≤ 1023) else if o.kind = 3 then decide (0 ≤ o.id ∧ o.id ≤ 1023 ∧ 1 ≤ o.c ∧ o.c ≤ 2147483648) else if o.kind = 4 then decide (0 ≤ o.mode ∧ o.mode ≤ 3) else false
/-- may it be? -/
def chkR (o : Od) : Bool := decide (o = bareR o) && mayR o
theorem chk_admit {t : Tk} {s : Bool} (h : chk t = true) (hs : s = true → t.d = t.t) : chkR ⟨1, t, s, 0, 0, 0⟩ = true := by
  unfold chkR mayR bareR
  cases s with
  | false => simp [h]
  | true => simp [h, hs rfl]
theorem chk_remove {i : Int} (h1 : 0 ≤ i) (h2 : i ≤ 1023) : chkR ⟨2, tk0, false, i, 0, 0⟩ = true := by
  unfold chkR mayR bareR
  simp [h1, h2]
theorem chk_resize {i c : Int} (h1 : 0 ≤ i) (h2 : i ≤ 1023) (h3 : 1 ≤ c) (h4 : c ≤ 2147483648) : chkR ⟨3, tk0, false, i, c, 0⟩ = true := by
  unfold chkR mayR bareR
  simp [h1, h2, h3, h4]
theorem chk_mode {m : Int} (h1 : 0 ≤ m) (h2 : m ≤ 3) : chkR ⟨4, tk0, false, 0, 0, m⟩ = true := by
  unfold chkR mayR bareR
  simp [h1, h2]
theorem chkR_iff {o : Od} : chkR o = true ↔ (∃ t s, o = ⟨1, t, s, 0, 0, 0⟩ ∧ chk t = true ∧ (s = true → t.d = t.t)) ∨ (∃ i, o = ⟨2, tk0, false, i, 0, 0⟩ ∧ 0 ≤ i ∧ i ≤ 1023) ∨ (∃ i c, o = ⟨3, tk0, false, i, c, 0⟩ ∧ 0 ≤ i ∧ i ≤ 1023 ∧ 1 ≤ c ∧ c ≤ 2147483648) ∨ (∃ m, o = ⟨4, tk0, false, 0, 0, m⟩ ∧ 0 ≤ m ∧ m ≤ 3) := by
  constructor
  · intro h
    unfold chkR at h
    rw [Bool.and_eq_true, decide_eq_true_eq] at h
    obtain ⟨hb, hm⟩ := h
    unfold bareR at hb
    unfold mayR at hm
    by_cases h1 : o.kind = 1
    · rw [if_pos h1] at hb hm
      rw [Bool.and_eq_true] at hm
      refine .inl ⟨o.task, o.server, hb, hm.1, fun h => ?_⟩
      have := hm.2
      rw [h] at this
      simpa using this
    rw [if_neg h1] at hb hm
    by_cases h2 : o.kind = 2
    · rw [if_pos h2] at hb hm
      exact .inr (.inl ⟨o.id, hb, of_decide_eq_true hm⟩)
    rw [if_neg h2] at hb hm
    by_cases h3 : o.kind = 3
    · rw [if_pos h3] at hb hm
      exact .inr (.inr (.inl ⟨o.id, o.c, hb, of_decide_eq_true hm⟩))
    rw [if_neg h3] at hb hm
    by_cases h4 : o.kind = 4
    · rw [if_pos h4] at hb hm
      exact .inr (.inr (.inr ⟨o.mode, hb, of_decide_eq_true hm⟩))
    · rw [if_neg h4] at hm; cases hm
  · rintro (⟨t, s, rfl, hc, hs⟩ | ⟨i, rfl, h1, h2⟩ | ⟨i, c, rfl, h1, h2, h3, h4⟩ | ⟨m, rfl, h1, h2⟩)
    · exact chk_admit hc hs
    · exact chk_remove h1 h2
    · exact chk_resize h1 h2 h3 h4
    · exact chk_mode h1 h2
theorem bare_bare (o : Od) : bareR (bareR o) = bareR o := by
  unfold bareR
  by_cases h1 : o.kind = 1
  · simp [h1]
  by_cases h2 : o.kind = 2
  · simp [h1, h2]
  by_cases h3 : o.kind = 3
  · simp [h1, h2, h3]
  by_cases h4 : o.kind = 4
  · simp [h1, h2, h3, h4]
  · simp [h1, h2, h3, h4]
theorem bare_kind (o : Od) : (bareR o).kind = o.kind := by
  unfold bareR
  by_cases h1 : o.kind = 1
  · simp [h1]
  by_cases h2 : o.kind = 2
  · simp [h1, h2]
  by_cases h3 : o.kind = 3
  · simp [h1, h2, h3]
  by_cases h4 : o.kind = 4
  · simp [h1, h2, h3, h4]
  · simp [h1, h2, h3, h4]
theorem chk_bare {o : Od} (h : chkR o = true) : bareR o = o := by
  unfold chkR at h
  simp only [Bool.and_eq_true, decide_eq_true_eq] at h
  exact h.1.symm
/-- an op's bytes -/
def encO (o : Od) : List UInt8 :=
  if o.kind = 1 then encInt 1 ++ encInt o.task.id ++ enc o.task.c.toNat ++ enc o.task.d.toNat ++ enc o.task.t.toNat ++ encInt o.task.m ++ encFlag o.server
  else if o.kind = 2 then encInt 2 ++ encInt o.id else if o.kind = 3 then encInt 3 ++ encInt o.id ++ enc o.c.toNat else encInt o.kind ++ encInt o.mode
/-- what a reader makes of them -/
def readM (o : Oc.St) : Od × Oc.St :=
  let k := int o 4
  if k.1 = 1 then
    let a := int k.2 1023; let b := num a.2 2147483648; let d := num b.2 2147483648; let t := num d.2 2147483648; let m := int t.2 15; let f := flag m.2
    (⟨1, ⟨a.1, b.1, d.1, t.1, m.1⟩, f.1, 0, 0, 0⟩, f.2)
  else if k.1 = 2 then
    let a := int k.2 1023
    (⟨2, tk0, false, a.1, 0, 0⟩, a.2)
  else if k.1 = 3 then
    let a := int k.2 1023; let b := num a.2 2147483648
    (⟨3, tk0, false, a.1, b.1, 0⟩, b.2)
  else if k.1 = 4 then
    let a := int k.2 3
    (⟨4, tk0, false, 0, 0, a.1⟩, a.2)
  else (⟨k.1, tk0, false, 0, 0, 0⟩, k.2)
theorem num_e {n most : Nat} (hn : n ≤ most) (hm : most < 18446744073709551616) (r : List UInt8) : num (some (enc n ++ r)) most = (n, some r) := by
  unfold num
  simp only [dec_enc (show n < 18446744073709551616 by omega), if_pos hn]
theorem int_e {n : Int} {most : Int} (h0 : 0 ≤ n) (hn : n ≤ most) (hm : most < 18446744073709551616) (r : List UInt8) : int (some (encInt n ++ r)) most = (n.toNat, some r) := by
  unfold int encInt
  rw [if_neg (by omega), num_e (by omega) (by omega)]
theorem flag_e (b : Bool) (r : List UInt8) : flag (some (encFlag b ++ r)) = (b, some r) := by
  unfold flag encFlag
  cases b with
  | false => rw [if_neg (by decide), num_e (by decide) (by decide)]; rfl
  | true => rw [if_pos rfl, num_e (by decide) (by decide)]; rfl
theorem readM_enc {o : Od} (h : chkR o = true) (r : List UInt8) : readM (some (encO o ++ r)) = (o, some r) := by
  rcases chkR_iff.1 h with ⟨t, s, rfl, hc, -⟩ | ⟨i, rfl, h1, h2⟩ | ⟨i, c, rfl, h1, h2, h3, h4⟩ | ⟨m, rfl, h1, h2⟩
  · have hk := chk_iff.1 hc
    obtain ⟨ti, tc, td, tt, tm⟩ := t
    simp only at hk
    unfold encO readM
    simp only [if_true, List.append_assoc]
    rw [int_e (by decide) (by decide) (by decide)]
    simp only [show (1 : Int).toNat = 1 from rfl, if_true]
    rw [int_e (by omega) (by omega) (by decide)]
    simp only
    rw [num_e (by omega) (by decide)]
    simp only
    rw [num_e (by omega) (by decide)]
    simp only
    rw [num_e (by omega) (by decide)]
    simp only
    rw [int_e (by omega) (by omega) (by decide)]
    simp only
    rw [flag_e]
    simp only [Prod.mk.injEq, Od.mk.injEq, Tk.mk.injEq, true_and, and_true]
    omega
  · unfold encO readM
    simp only [show ¬ (2 : Int) = 1 by decide, if_false, if_true, List.append_assoc]
    rw [int_e (by decide) (by decide) (by decide)]
    simp only [show (2 : Int).toNat = 2 from rfl, show ¬ (2 : Nat) = 1 by decide, if_false, if_true]
    rw [int_e (by omega) (by omega) (by decide)]
    simp only [Prod.mk.injEq, Od.mk.injEq, true_and, and_true]
    omega
  · unfold encO readM
    simp only [show ¬ (3 : Int) = 1 by decide, show ¬ (3 : Int) = 2 by decide, if_false, if_true, List.append_assoc]
    rw [int_e (by decide) (by decide) (by decide)]
    simp only [show (3 : Int).toNat = 3 from rfl, show ¬ (3 : Nat) = 1 by decide, show ¬ (3 : Nat) = 2 by decide, if_false, if_true]
    rw [int_e (by omega) (by omega) (by decide)]
    simp only
    rw [num_e (by omega) (by decide)]
    simp only [Prod.mk.injEq, Od.mk.injEq, true_and, and_true]
    omega
  · unfold encO readM
    simp only [show ¬ (4 : Int) = 1 by decide, show ¬ (4 : Int) = 2 by decide, show ¬ (4 : Int) = 3 by decide, if_false, if_true, List.append_assoc]
    rw [int_e (by decide) (by decide) (by decide)]
    simp only [show (4 : Int).toNat = 4 from rfl, show ¬ (4 : Nat) = 1 by decide, show ¬ (4 : Nat) = 2 by decide, show ¬ (4 : Nat) = 3 by decide, if_false, if_true]
    rw [int_e (by omega) (by omega) (by decide)]
    simp only [Prod.mk.injEq, Od.mk.injEq, true_and, and_true]
    omega
theorem encO_inj {a b : Od} (ha : chkR a = true) (hb : chkR b = true) (h : encO a = encO b) : a = b := by
  have h1 := readM_enc ha []
  have h2 := readM_enc hb []
  rw [h, h2] at h1
  simpa using h1.symm
theorem encO_more {a b : Od} (ha : chkR a = true) (hb : chkR b = true) {c : UInt8} : encO a ≠ encO b ++ [c] := fun h => by
  have h1 := readM_enc ha []
  have h2 := readM_enc hb [c]
  rw [List.append_nil, h, h2] at h1
  simp at h1
/-- the op that has these bytes -/
def readR (l : List UInt8) : Option Od := if (readM (some l)).2 = some [] ∧ chkR (readM (some l)).1 = true ∧ encO (readM (some l)).1 = l then some (readM (some l)).1 else none
theorem readR_enc {o : Od} (h : chkR o = true) : readR (encO o) = some o := by
  have h1 := readM_enc h []
  rw [List.append_nil] at h1
  unfold readR
  rw [h1, if_pos ⟨rfl, h, rfl⟩]
theorem readR_some {l : List UInt8} {o : Od} (h : readR l = some o) : chkR o = true ∧ encO o = l := by
  unfold readR at h
  split at h
  · rename_i hc
    cases h
    exact ⟨hc.2.1, hc.2.2⟩
  · cases h
theorem readR_more {o : Od} (h : chkR o = true) (c : UInt8) : readR (encO o ++ [c]) = none := by
  cases hr : readR (encO o ++ [c]) with
  | none => rfl
  | some p =>
    obtain ⟨h1, h2⟩ := readR_some hr
    exact absurd h2 (encO_more h1 h)
/-- what a reader has taken stands there so -/
theorem num_took {o : Oc.St} {most : Nat} {r : List UInt8} (h : (num o most).2 = some r) : o = some (enc (num o most).1 ++ r) := by
  obtain ⟨l, rfl, -, hd⟩ := Oc.num_shorter h
  rw [← (dec_some hd).1]
theorem int_took {o : Oc.St} {most : Int} {r : List UInt8} (h : (int o most).2 = some r) : o = some (enc (int o most).1 ++ r) := by
  unfold int at h ⊢
  by_cases hm : most < 0
  · rw [if_pos hm] at h; cases h
  · rw [if_neg hm] at h ⊢; exact num_took h
theorem flag_took {o : Oc.St} {r : List UInt8} (h : (flag o).2 = some r) : o = some (encFlag (flag o).1 ++ r) := by
  unfold flag at h ⊢
  simp only at h ⊢
  have h1 := num_took h
  have h2 := num_most o 1
  have h3 : encFlag ((num o 1).1 == 1) = enc (num o 1).1 := by
    unfold encFlag
    have : (num o 1).1 = 0 ∨ (num o 1).1 = 1 := by omega
    rcases this with e | e <;> rw [e] <;> rfl
  rw [h3]
  exact h1
theorem readM_took {l : List UInt8} {r : List UInt8} (h : (readM (some l)).2 = some r) (hc : chkR (readM (some l)).1 = true) : l = encO (readM (some l)).1 ++ r := by
  have key : ∀ o : Oc.St, (readM o).2 = some r → chkR (readM o).1 = true → o = some (encO (readM o).1 ++ r) := by
    intro o h hc
    unfold readM at h hc ⊢
    simp only at h hc ⊢
    by_cases h1 : (int o 4).1 = 1
    · rw [if_pos h1] at h hc ⊢
      simp only at h
      have e6 := flag_took h
      have e5 := int_took e6
      have e4 := num_took e5
      have e3 := num_took e4
      have e2 := num_took e3
      have e1 := int_took e2
      have e0 := int_took e1
      rw [h1] at e0
      unfold encO
      simp only [if_true, encInt, Int.toNat_natCast, List.append_assoc]
      exact e0
    rw [if_neg h1] at h hc ⊢
    by_cases h2 : (int o 4).1 = 2
    · rw [if_pos h2] at h hc ⊢
      simp only at h
      have e1 := int_took h
      have e0 := int_took e1
      rw [h2] at e0
      unfold encO
      simp only [show ¬ (2 : Int) = 1 by decide, if_false, if_true, encInt, Int.toNat_natCast, List.append_assoc]
      exact e0
    rw [if_neg h2] at h hc ⊢
    by_cases h3 : (int o 4).1 = 3
    · rw [if_pos h3] at h hc ⊢
      simp only at h
      have e2 := num_took h
      have e1 := int_took e2
      have e0 := int_took e1
      rw [h3] at e0
      unfold encO
      simp only [show ¬ (3 : Int) = 1 by decide, show ¬ (3 : Int) = 2 by decide, if_false, if_true, encInt, Int.toNat_natCast, List.append_assoc]
      exact e0
    rw [if_neg h3] at h hc ⊢
    by_cases h4 : (int o 4).1 = 4
    · rw [if_pos h4] at h hc ⊢
      simp only at h
      have e1 := int_took h
      have e0 := int_took e1
      rw [h4] at e0
      unfold encO
      simp only [show ¬ (4 : Int) = 1 by decide, show ¬ (4 : Int) = 2 by decide, show ¬ (4 : Int) = 3 by decide, if_false, encInt, Int.toNat_natCast, List.append_assoc]
      exact e0
    · rw [if_neg h4] at hc
      exfalso
      rcases chkR_iff.1 hc with ⟨t, s, e, -⟩ | ⟨i, e, -⟩ | ⟨i, c, e, -⟩ | ⟨m, e, -⟩ <;> (simp only [Od.mk.injEq] at e; omega)
  have := key (some l) h hc
  simpa using this
/-- read to its end, an op that may be: just these are its bytes -/
theorem readR_of {l : List UInt8} (h : (readM (some l)).2 = some []) (hc : chkR (readM (some l)).1 = true) : readR l = some (readM (some l)).1 := by
  have := readM_took h hc
  rw [List.append_nil] at this
  unfold readR
  rw [if_pos ⟨h, hc, this.symm⟩]
theorem readR_not {l : List UInt8} (h : ¬ ((readM (some l)).2 = some [] ∧ chkR (readM (some l)).1 = true)) : readR l = none := by
  unfold readR
  rw [if_neg (fun k => h ⟨k.1, k.2.1⟩)]
theorem bl {n k : Nat} (h : n < 256 ^ k) : (enc n).length ≤ k + 1 := by rw [enc_length]; have := Oc.bytesOf_length h; omega
theorem encO_len {o : Od} (h : chkR o = true) : (encO o).length ≤ 43 := by
  rcases chkR_iff.1 h with ⟨t, s, rfl, hc, -⟩ | ⟨i, rfl, h1, h2⟩ | ⟨i, c, rfl, h1, h2, h3, h4⟩ | ⟨m, rfl, h1, h2⟩
  · have hk := chk_iff.1 hc
    have l1 : (encInt 1).length ≤ 2 := bl (k := 1) (by decide)
    have l2 : (encInt t.id).length ≤ 3 := bl (k := 2) (by omega)
    have l3 : (enc t.c.toNat).length ≤ 5 := bl (k := 4) (by omega)
    have l4 : (enc t.d.toNat).length ≤ 5 := bl (k := 4) (by omega)
    have l5 : (enc t.t.toNat).length ≤ 5 := bl (k := 4) (by omega)
    have l6 : (encInt t.m).length ≤ 2 := bl (k := 1) (by omega)
    have l7 : (encFlag s).length ≤ 2 := bl (k := 1) (by split <;> decide)
    unfold encO
    simp only [if_true, List.length_append]
    omega
  · have l1 : (encInt 2).length ≤ 2 := bl (k := 1) (by decide)
    have l2 : (encInt i).length ≤ 3 := bl (k := 2) (by omega)
    unfold encO
    simp only [show ¬ (2 : Int) = 1 by decide, if_false, if_true, List.length_append]
    omega
  · have l1 : (encInt 3).length ≤ 2 := bl (k := 1) (by decide)
    have l2 : (encInt i).length ≤ 3 := bl (k := 2) (by omega)
    have l3 : (enc c.toNat).length ≤ 5 := bl (k := 4) (by omega)
    unfold encO
    simp only [show ¬ (3 : Int) = 1 by decide, show ¬ (3 : Int) = 2 by decide, if_false, if_true, List.length_append]
    omega
  · have l1 : (encInt 4).length ≤ 2 := bl (k := 1) (by decide)
    have l2 : (encInt m).length ≤ 2 := bl (k := 1) (by omega)
    unfold encO
    simp only [show ¬ (4 : Int) = 1 by decide, show ¬ (4 : Int) = 2 by decide, show ¬ (4 : Int) = 3 by decide, if_false, List.length_append]
    omega
end Go.Proofs.Ytnaanahgflbihaa.Ox
