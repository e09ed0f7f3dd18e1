/- A processor that always does the work whose deadline is the earliest, slot by slot, from a common release: the first late work is at the least time of too much work. The mathematics. -/
import Derived.Test.YtbhafcaekpccoaaQpMath
import Derived.Test.YtbhafcaekpccoaaQpR
namespace Go.Proofs.Ytbhafcaekpccoaa.Qp
open Pm (Tk chk chk_iff rowB rowB_all rowB_len loadR)
open Dm (cnt cnt_nonneg cnt_le one sum)
open Bs (rel rel_zero rel_pos rel_nonneg rel_mono cnt_rel)
set_option maxRecDepth 100000
set_option linter.unusedVariables false
set_option linter.unusedSimpArgs false
/-- a task, what is left of its last job, when that is due -/
structure St where
  t : Tk
  le : Int
  du : Int
theorem rel_step {t : Tk} {n : Int} (ht : 0 < t.t) (hn : 0 ≤ n) : (n % t.t = 0 ∧ rel t (n + 1) = rel t n + 1 ∧ t.t * rel t n = n) ∨ (n % t.t ≠ 0 ∧ rel t (n + 1) = rel t n) := by
  have e1 : rel t (n + 1) = n / t.t + 1 := by rw [rel_pos (by omega)]; congr 2; omega
  have hd := Int.mul_ediv_add_emod n t.t
  have hr0 := Int.emod_nonneg n (show t.t ≠ 0 by omega)
  have hr1 := Int.emod_lt_of_pos n ht
  by_cases h : n % t.t = 0
  · refine .inl ⟨h, ?_⟩
    have e2 : rel t n = n / t.t := by
      by_cases h0 : n = 0
      · subst h0; rw [rel_zero (by omega)]; simp
      · rw [rel_pos (by omega)]
        have : (n - 1) / t.t = n / t.t - 1 := by
          refine (Dm.div_of (q := n / t.t - 1) (r := t.t - 1) ht ?_ (by omega) (by omega)).1
          rw [Int.mul_sub]; omega
        omega
    rw [e1, e2]
    exact ⟨rfl, by omega⟩
  · refine .inr ⟨h, ?_⟩
    have h0 : 1 ≤ n := by
      rcases Int.lt_or_le 0 n with h1 | h1
      · omega
      · exfalso; apply h; have : n = 0 := by omega
        rw [this]; simp
    rw [e1, rel_pos h0]
    have : (n - 1) / t.t = n / t.t := (Dm.div_of (q := n / t.t) (r := n % t.t - 1) ht (by omega) (by omega) (by omega)).1
    omega
/-- how many jobs are released from a on, ahead of n, and due by d -/
def wn (t : Tk) (a n d : Int) : Int := if a ≤ min n (d - t.d + 1) then rel t (min n (d - t.d + 1)) - rel t a else 0
theorem wn_nonneg {t : Tk} {a n d : Int} (ht : 0 < t.t) : 0 ≤ wn t a n d := by
  unfold wn
  split
  · rename_i h; have := rel_mono ht h; omega
  · omega
theorem wn_le {t : Tk} {a n d : Int} (ht : 0 < t.t) : wn t a n d ≤ cnt t (d - a) := by
  unfold wn
  split
  · rename_i h
    rw [cnt_eq]
    have h1 := rel_sub (t := t) (a := a) (b := min n (d - t.d + 1) - a) ht
    rw [show a + (min n (d - t.d + 1) - a) = min n (d - t.d + 1) by omega] at h1
    have h2 := rel_mono (t := t) (x := min n (d - t.d + 1) - a) (y := d - a - t.d + 1) ht (by omega)
    omega
  · exact cnt_nonneg ht
theorem wn_step {t : Tk} {a n d : Int} (ht : 0 < t.t) (hn : 0 ≤ n) (ha : a ≤ n) : wn t a (n + 1) d = wn t a n d + (if n % t.t = 0 ∧ n + t.d ≤ d then 1 else 0) := by
  unfold wn
  by_cases h1 : n + t.d ≤ d
  · rw [show min (n + 1) (d - t.d + 1) = n + 1 by omega, show min n (d - t.d + 1) = n by omega, if_pos (by omega), if_pos ha]
    rcases rel_step ht hn with ⟨h2, h3, -⟩ | ⟨h2, h3⟩
    · rw [if_pos ⟨h2, h1⟩]; omega
    · rw [if_neg (fun h => h2 h.1)]; omega
  · have e : (if n % t.t = 0 ∧ n + t.d ≤ d then (1 : Int) else 0) = 0 := if_neg (fun h => h1 h.2)
    rw [e, show min (n + 1) (d - t.d + 1) = min n (d - t.d + 1) by omega]; omega
/-- what was done by n -/
def exd (n : Int) : List St → Int
  | [] => 0
  | s :: l => (s.t.c * rel s.t n - s.le) + exd n l
def pe (d : Int) (s : St) : Int := if 0 < s.le ∧ s.du ≤ d then s.le else 0
/-- what is left that is due by d -/
def pend (d : Int) : List St → Int
  | [] => 0
  | s :: l => pe d s + pend d l
def win (a n d : Int) : List St → Int
  | [] => 0
  | s :: l => s.t.c * wn s.t a n d + win a n d l
structure OkS (n : Int) (s : St) : Prop where
  lo : 0 ≤ s.le
  hi : s.le ≤ s.t.c
  due : 0 < s.le → 1 ≤ rel s.t n ∧ s.du = s.t.t * (rel s.t n - 1) + s.t.d
def Pos (t : Tk) : Prop := 0 < t.t ∧ 1 ≤ t.c ∧ 1 ≤ t.d ∧ t.d ≤ t.t
structure Inv (l : List Tk) (n : Int) (S : List St) : Prop where
  n0 : 0 ≤ n
  tks : S.map (·.t) = l
  ok : ∀ s ∈ S, OkS n s
  ex : exd n S ≤ n
  win : ∀ d, ∃ a, 0 ≤ a ∧ a ≤ n ∧ pend d S + (n - a) ≤ win a n d S
  old : ∀ s, 1 ≤ s → s < n → sum l s ≤ s
def late (n : Int) (s : St) : Prop := 0 < s.le ∧ s.du ≤ n
theorem pe_nonneg (d : Int) (s : St) : 0 ≤ pe d s := by unfold pe; split <;> omega
theorem pend_nonneg (d : Int) (S : List St) : 0 ≤ pend d S := by
  induction S with
  | nil => simp [pend]
  | cons s S ih => have := pe_nonneg d s; simp only [pend]; omega
theorem pend_one {d : Int} {S : List St} {s : St} (h : s ∈ S) (hl : late d s) : 1 ≤ pend d S := by
  induction S with
  | nil => cases h
  | cons q S ih =>
    have h1 := pe_nonneg d q
    have h2 := pend_nonneg d S
    rcases List.mem_cons.1 h with rfl | h
    · have : pe d s = s.le := if_pos hl
      have := hl.1
      simp only [pend]; omega
    · have := ih h
      simp only [pend]; omega
theorem pend_zero {d : Int} {S : List St} (h : ∀ s ∈ S, 0 < s.le → d < s.du) : pend d S = 0 := by
  induction S with
  | nil => rfl
  | cons q S ih =>
    rw [pend, ih (fun s hs => h s (by simp [hs]))]
    have : pe d q = 0 := if_neg (fun hq => by have := h q (by simp) hq.1; have := hq.2; omega)
    omega
theorem win_nonneg {a n d : Int} {S : List St} (hS : ∀ s ∈ S, Pos s.t) : 0 ≤ win a n d S := by
  induction S with
  | nil => simp [win]
  | cons s S ih =>
    have h1 := ih (fun s hs => hS s (by simp [hs]))
    have h2 := hS s (by simp)
    have := Int.mul_nonneg (show 0 ≤ s.t.c by have := h2.2.1; omega) (wn_nonneg (a := a) (n := n) (d := d) h2.1)
    simp only [win]; omega
theorem win_le {a n d : Int} {S : List St} (hS : ∀ s ∈ S, Pos s.t) : win a n d S ≤ sum (S.map (·.t)) (d - a) := by
  induction S with
  | nil => simp [win, sum]
  | cons s S ih =>
    have h1 := ih (fun s hs => hS s (by simp [hs]))
    have h2 := hS s (by simp)
    have := Int.mul_le_mul_of_nonneg_left (wn_le (a := a) (n := n) (d := d) h2.1) (show 0 ≤ s.t.c by have := h2.2.1; omega)
    simp only [win, List.map_cons, sum, one]; omega
/-- what is due by n was done, if nothing is late -/
theorem sum_exd {n : Int} {S : List St} (hS : ∀ s ∈ S, Pos s.t) (hok : ∀ s ∈ S, OkS n s) (hl : ∀ s ∈ S, ¬ late n s) : sum (S.map (·.t)) n ≤ exd n S := by
  induction S with
  | nil => simp [sum, exd]
  | cons s S ih =>
    have h1 := ih (fun s hs => hS s (by simp [hs])) (fun s hs => hok s (by simp [hs])) (fun s hs => hl s (by simp [hs]))
    obtain ⟨p1, p2, p3, p4⟩ := hS s (by simp)
    obtain ⟨o1, o2, o3⟩ := hok s (by simp)
    have h2 : s.t.c * cnt s.t n ≤ s.t.c * rel s.t n - s.le := by
      by_cases h0 : 0 < s.le
      · obtain ⟨o4, o5⟩ := o3 h0
        have h3 : n < s.du := by
          rcases Int.lt_or_le n s.du with h | h
          · exact h
          · exact absurd ⟨h0, h⟩ (hl s (by simp))
        have h4 : cnt s.t n ≤ rel s.t n - 1 := by
          rw [cnt_eq]
          exact rel_le_of p1 (by omega) (by omega)
        have h5 := Int.mul_le_mul_of_nonneg_left h4 (show 0 ≤ s.t.c by omega)
        rw [Int.mul_sub] at h5
        omega
      · have h4 := Int.mul_le_mul_of_nonneg_left (cnt_rel (t := s.t) (x := n) p1 p3) (show 0 ≤ s.t.c by omega)
        omega
    simp only [List.map_cons, sum, one, exd]
    omega
theorem inv_pos {l : List Tk} {n : Int} {S : List St} (hl : ∀ t ∈ l, Pos t) (h : Inv l n S) : ∀ s ∈ S, Pos s.t := fun s hs => hl _ (by rw [← h.tks]; exact List.mem_map_of_mem hs)
theorem inv_good {l : List Tk} {n : Int} {S : List St} (hl : ∀ t ∈ l, Pos t) (h : Inv l n S) (hno : ∀ s ∈ S, ¬ late n s) : sum l n ≤ n := by
  have := sum_exd (inv_pos hl h) h.ok hno
  rw [h.tks] at this
  have := h.ex
  omega
theorem inv_late {l : List Tk} {n : Int} {S : List St} (hl : ∀ t ∈ l, Pos t) (h : Inv l n S) {s : St} (hs : s ∈ S) (hn : late n s) : least l n := by
  obtain ⟨a, h1, h2, h3⟩ := h.win n
  have h4 := pend_one hs hn
  have h5 := win_le (a := a) (n := n) (d := n) (inv_pos hl h)
  rw [h.tks] at h5
  have h6 : 1 ≤ n - a := by
    rcases Int.lt_or_le 0 (n - a) with h6 | h6
    · omega
    · rw [sum_zero (fun t ht => (hl t ht).2.2.1) h6] at h5; omega
  have h7 : n - a = n := by
    rcases Int.lt_or_le (n - a) n with h7 | h7
    · have := h.old (n - a) h6 h7; omega
    · omega
  rw [h7] at h5 h6
  exact ⟨h6, by omega, h.old⟩
/-- released -/
def relS (n : Int) (s : St) : St := if n % s.t.t = 0 then ⟨s.t, s.t.c, n + s.t.d⟩ else s
theorem relS_t (n : Int) (s : St) : (relS n s).t = s.t := by unfold relS; split <;> rfl
theorem done_at {n : Int} {s : St} (hp : Pos s.t) (hn : 0 ≤ n) (ho : OkS n s) (hl : ¬ late n s) (hr : n % s.t.t = 0) : s.le = 0 := by
  rcases Int.lt_or_le 0 s.le with h0 | h0
  · exfalso
    obtain ⟨o4, o5⟩ := ho.due h0
    rcases rel_step hp.1 hn with ⟨-, -, h3⟩ | ⟨h3, -⟩
    · apply hl
      refine ⟨h0, ?_⟩
      have := hp.2.2.2
      rw [o5, Int.mul_sub]; omega
    · exact h3 hr
  · have := ho.lo; omega
theorem relS_ok {n : Int} {s : St} (hp : Pos s.t) (hn : 0 ≤ n) (ho : OkS n s) (hl : ¬ late n s) : OkS (n + 1) (relS n s) := by
  have hp' := hp
  obtain ⟨p1, p2, p3, p4⟩ := hp
  rcases rel_step p1 hn with ⟨h1, h2, h3⟩ | ⟨h1, h2⟩
  · unfold relS
    rw [if_pos h1]
    have := rel_nonneg (t := s.t) (x := n) p1
    refine ⟨by simp only; omega, by simp only; omega, fun _ => ⟨by simp only; omega, ?_⟩⟩
    simp only
    rw [h2, show rel s.t n + 1 - 1 = rel s.t n by omega, h3]
  · unfold relS
    rw [if_neg h1]
    exact ⟨ho.lo, ho.hi, fun h => by rw [h2]; exact ho.due h⟩
theorem exd_rel {n : Int} {S : List St} (hn : 0 ≤ n) (hS : ∀ s ∈ S, Pos s.t) (hok : ∀ s ∈ S, OkS n s) (hl : ∀ s ∈ S, ¬ late n s) : exd (n + 1) (S.map (relS n)) = exd n S := by
  induction S with
  | nil => rfl
  | cons s S ih =>
    have h1 := ih (fun s hs => hS s (by simp [hs])) (fun s hs => hok s (by simp [hs])) (fun s hs => hl s (by simp [hs]))
    have hp := hS s (by simp)
    rw [List.map_cons, exd, exd, h1, relS_t]
    rcases rel_step hp.1 hn with ⟨h2, h3, -⟩ | ⟨h2, h3⟩
    · have h4 := done_at hp hn (hok s (by simp)) (hl s (by simp)) h2
      have e : (relS n s).le = s.t.c := by unfold relS; rw [if_pos h2]
      rw [h3, e, h4, Int.mul_add]; omega
    · have e : (relS n s).le = s.le := by unfold relS; rw [if_neg h2]
      rw [h3, e]
theorem pend_rel {a n d : Int} {S : List St} (hn : 0 ≤ n) (ha : a ≤ n) (hS : ∀ s ∈ S, Pos s.t) (hok : ∀ s ∈ S, OkS n s) (hl : ∀ s ∈ S, ¬ late n s) : pend d (S.map (relS n)) + win a n d S = pend d S + win a (n + 1) d (S.map (relS n)) := by
  induction S with
  | nil => rfl
  | cons s S ih =>
    have h1 := ih (fun s hs => hS s (by simp [hs])) (fun s hs => hok s (by simp [hs])) (fun s hs => hl s (by simp [hs]))
    have hp := hS s (by simp)
    have h2 : pe d (relS n s) + s.t.c * wn s.t a n d = pe d s + s.t.c * wn s.t a (n + 1) d := by
      rw [wn_step hp.1 hn ha]
      by_cases hr : n % s.t.t = 0
      · have h4 := done_at hp hn (hok s (by simp)) (hl s (by simp)) hr
        have e1 : pe d s = 0 := if_neg (fun h => by have := h.1; omega)
        have e2 : relS n s = ⟨s.t, s.t.c, n + s.t.d⟩ := by unfold relS; rw [if_pos hr]
        rw [e1, e2]
        by_cases hd : n + s.t.d ≤ d
        · rw [if_pos ⟨hr, hd⟩]
          have e3 : pe d ⟨s.t, s.t.c, n + s.t.d⟩ = s.t.c := if_pos ⟨by have := hp.2.1; show 0 < s.t.c; omega, hd⟩
          rw [e3, Int.mul_add]; omega
        · rw [if_neg (fun h => hd h.2)]
          have e3 : pe d ⟨s.t, s.t.c, n + s.t.d⟩ = 0 := if_neg (fun h => hd h.2)
          rw [e3, Int.add_zero]
      · have e2 : relS n s = s := by unfold relS; rw [if_neg hr]
        rw [e2, if_neg (fun h => hr h.1), Int.add_zero]
    simp only [List.map_cons, pend, win, relS_t]
    omega
theorem tks_rel {n : Int} {S : List St} : (S.map (relS n)).map (·.t) = S.map (·.t) := by
  rw [List.map_map]
  exact List.map_congr_left (fun s _ => relS_t n s)
/-- one slot of work less -/
def decS (s : St) : St := ⟨s.t, s.le - 1, s.du⟩
theorem exd_dec {n : Int} {s : St} : ∀ {S : List St} {k : Nat}, S[k]? = some s → exd n (S.set k (decS s)) = exd n S + 1 := by
  intro S
  induction S with
  | nil => intro k h; simp at h
  | cons q S ih =>
    intro k h
    cases k with
    | zero => obtain rfl : q = s := by simpa using h
              simp only [List.set_cons_zero, exd, decS]; omega
    | succ k => have := ih (k := k) (by simpa using h)
                simp only [List.set_cons_succ, exd]; omega
theorem pend_dec {d : Int} {s : St} (hs : 0 < s.le) : ∀ {S : List St} {k : Nat}, S[k]? = some s → pend d (S.set k (decS s)) = pend d S - (if s.du ≤ d then 1 else 0) := by
  have h1 : pe d (decS s) = pe d s - (if s.du ≤ d then 1 else 0) := by
    by_cases hd : s.du ≤ d
    · have e1 : pe d s = s.le := if_pos ⟨hs, hd⟩
      have e2 : pe d (decS s) = s.le - 1 := by
        by_cases h2 : 0 < s.le - 1
        · exact if_pos ⟨h2, hd⟩
        · have : pe d (decS s) = 0 := if_neg (fun h => h2 h.1)
          omega
      rw [e1, e2, if_pos hd]
    · have e1 : pe d s = 0 := if_neg (fun h => hd h.2)
      have e2 : pe d (decS s) = 0 := if_neg (fun h => hd h.2)
      rw [e1, e2, if_neg hd]; omega
  intro S
  induction S with
  | nil => intro k h; simp at h
  | cons q S ih =>
    intro k h
    cases k with
    | zero => obtain rfl : q = s := by simpa using h
              simp only [List.set_cons_zero, pend]; omega
    | succ k => have := ih (k := k) (by simpa using h)
                simp only [List.set_cons_succ, pend]; omega
theorem win_dec {a n d : Int} {s : St} : ∀ {S : List St} {k : Nat}, S[k]? = some s → win a n d (S.set k (decS s)) = win a n d S := by
  intro S
  induction S with
  | nil => intro k h; simp at h
  | cons q S ih =>
    intro k h
    cases k with
    | zero => obtain rfl : q = s := by simpa using h
              simp only [List.set_cons_zero, win, decS]
    | succ k => have := ih (k := k) (by simpa using h)
                simp only [List.set_cons_succ, win]; omega
theorem tks_dec {s : St} {S : List St} {k : Nat} (h : S[k]? = some s) : (S.set k (decS s)).map (·.t) = S.map (·.t) := by
  rw [List.map_set]
  refine List.ext_getElem? fun j => ?_
  by_cases hj : k = j
  · subst hj
    have hk := (List.getElem?_eq_some_iff.1 h).1
    rw [List.getElem?_set_self (by simpa using hk), List.getElem?_map, h]; rfl
  · rw [List.getElem?_set_ne hj]
/-- the next slot: nothing to do -/
theorem inv_idle {l : List Tk} {n : Int} {S : List St} (hl : ∀ t ∈ l, Pos t) (h : Inv l n S) (hno : ∀ s ∈ S, ¬ late n s) (hi : ∀ s ∈ S.map (relS n), s.le ≤ 0) : Inv l (n + 1) (S.map (relS n)) := by
  have hP := inv_pos hl h
  have hg := inv_good hl h hno
  have hPR : ∀ s ∈ S.map (relS n), Pos s.t := fun s hs => by
    obtain ⟨q, hq, rfl⟩ := List.mem_map.1 hs
    rw [relS_t]; exact hP q hq
  refine ⟨by have := h.n0; omega, by rw [tks_rel, h.tks], fun s hs => ?_, ?_, fun d => ⟨n + 1, by have := h.n0; omega, by omega, ?_⟩, fun s h1 h2 => ?_⟩
  · obtain ⟨q, hq, rfl⟩ := List.mem_map.1 hs
    exact relS_ok (hP q hq) h.n0 (h.ok q hq) (hno q hq)
  · rw [exd_rel h.n0 hP h.ok hno]; have := h.ex; omega
  · rw [pend_zero (fun s hs h0 => by have := hi s hs; omega)]
    have := win_nonneg (a := n + 1) (n := n + 1) (d := d) hPR
    omega
  · by_cases e : s = n
    · subst e; exact hg
    · exact h.old s h1 (by omega)
/-- the next slot: the earliest deadline's work is done -/
theorem inv_run {l : List Tk} {n : Int} {S : List St} (hl : ∀ t ∈ l, Pos t) (h : Inv l n S) (hno : ∀ s ∈ S, ¬ late n s) {k : Nat} {s : St} (hk : (S.map (relS n))[k]? = some s) (hs : 0 < s.le) (hb : ∀ q ∈ S.map (relS n), 0 < q.le → s.du ≤ q.du) : Inv l (n + 1) ((S.map (relS n)).set k (decS s)) := by
  have hP := inv_pos hl h
  have hg := inv_good hl h hno
  have hPR : ∀ s ∈ S.map (relS n), Pos s.t := fun s hs => by
    obtain ⟨q, hq, rfl⟩ := List.mem_map.1 hs
    rw [relS_t]; exact hP q hq
  have hOR : ∀ s ∈ S.map (relS n), OkS (n + 1) s := fun s hs => by
    obtain ⟨q, hq, rfl⟩ := List.mem_map.1 hs
    exact relS_ok (hP q hq) h.n0 (h.ok q hq) (hno q hq)
  have hsm := List.mem_of_getElem? hk
  refine ⟨by have := h.n0; omega, by rw [tks_dec hk, tks_rel, h.tks], fun q hq => ?_, ?_, fun d => ?_, fun q h1 h2 => ?_⟩
  · rcases List.mem_or_eq_of_mem_set hq with hq | rfl
    · exact hOR q hq
    · obtain ⟨o1, o2, o3⟩ := hOR s hsm
      exact ⟨by simp only [decS]; omega, by simp only [decS]; omega, fun h0 => o3 hs⟩
  · rw [exd_dec hk, exd_rel h.n0 hP h.ok hno]; have := h.ex; omega
  · by_cases hd : s.du ≤ d
    · obtain ⟨a, h1, h2, h3⟩ := h.win d
      have h4 := pend_rel (d := d) h.n0 h2 hP h.ok hno
      refine ⟨a, h1, by omega, ?_⟩
      rw [pend_dec hs hk, if_pos hd, win_dec hk]
      omega
    · refine ⟨n + 1, by have := h.n0; omega, by omega, ?_⟩
      have h5 : pend d (S.map (relS n)) = 0 := pend_zero (fun q hq h0 => by have := hb q hq h0; omega)
      rw [pend_dec hs hk, if_neg hd, win_dec hk, h5]
      have := win_nonneg (a := n + 1) (n := n + 1) (d := d) hPR
      omega
  · by_cases e : q = n
    · subst e; exact hg
    · exact h.old q h1 (by omega)
theorem inv_start {l : List Tk} (hl : ∀ t ∈ l, Pos t) : Inv l 0 (l.map fun t => ⟨t, 0, 0⟩) := by
  refine ⟨by omega, by rw [List.map_map]; exact List.map_id' l, fun s hs => ?_, ?_, fun d => ⟨0, by omega, by omega, ?_⟩, fun s h1 h2 => by omega⟩
  · obtain ⟨t, ht, rfl⟩ := List.mem_map.1 hs
    exact ⟨by simp, by have := (hl t ht).2.1; show (0 : Int) ≤ t.c; omega, fun h => by simp at h⟩
  · have : ∀ l : List Tk, exd 0 (l.map fun t => (⟨t, 0, 0⟩ : St)) = 0 := fun l => by
      induction l with
      | nil => rfl
      | cons t l ih => rw [List.map_cons, exd, ih]; simp only [rel_zero (Int.le_refl 0)]; simp
    rw [this]; omega
  · rw [pend_zero (fun s hs h0 => by
      obtain ⟨t, ht, rfl⟩ := List.mem_map.1 hs
      simp at h0)]
    have := win_nonneg (a := 0) (n := 0) (d := d) (S := l.map fun t => (⟨t, 0, 0⟩ : St)) (fun s hs => by
      obtain ⟨t, ht, rfl⟩ := List.mem_map.1 hs
      exact hl t ht)
    omega
end Go.Proofs.Ytbhafcaekpccoaa.Qp
