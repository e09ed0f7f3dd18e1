/- Package guard in mathematics: what is known of numbers, as a list by rising numbers; what each call makes of it; that list as a map's datum. -/
import Derived.Test.YtcmgdllofkgaoaaRows
import Derived.Maps.OwnSet
import Derived.Maps.RangeWalk
namespace Go.Proofs.Ytcmgdllofkgaoaa.Gd
set_option maxRecDepth 100000
set_option linter.unusedVariables false
set_option linter.unusedSimpArgs false
/-- what is known of a number -/
structure Kn where
  id : Int
  last : Int
  next : Int
deriving DecidableEq
/-- rising numbers -/
def Rise (L : List Kn) : Prop := L.Pairwise fun a b => a.id < b.id
def lookK : List Kn → Int → Option Kn
  | [], _ => none
  | k :: L, i => if k.id = i then some k else lookK L i
def isIn (L : List Kn) (i : Int) : Bool := (lookK L i).isSome
def nextOf (L : List Kn) (i : Int) : Int := match lookK L i with | some k => k.next | none => 0
def lastOf (L : List Kn) (i : Int) : Int := match lookK L i with | some k => k.last | none => 0
def cut (L : List Kn) (i : Int) : List Kn := L.filter fun k => decide (k.id ≠ i)
def ins (x : Kn) : List Kn → List Kn
  | [] => [x]
  | y :: r => if x.id < y.id then x :: y :: r else y :: ins x r
def put (L : List Kn) (x : Kn) : List Kn := ins x (cut L x.id)
def may (p n : Int) : Bool := decide (1 ≤ p ∧ p ≤ 2147483648 ∧ 0 ≤ n ∧ n ≤ 1099511627776)
/-- what Release answers, and what is known behind it -/
def relA (L : List Kn) (i p n : Int) : Int := if may p n = false then 1 else if n < nextOf L i then 19 else 0
def relL (L : List Kn) (i p n : Int) : List Kn := if may p n = false then L else if n < nextOf L i then L else put L ⟨i, n, n + p⟩
def ids (L : List Kn) : List Int := L.map Kn.id
theorem ids_len (L : List Kn) : (ids L).length = L.length := by simp [ids]
theorem look_mem {L : List Kn} {i : Int} {k : Kn} (h : lookK L i = some k) : k ∈ L ∧ k.id = i := by
  induction L with
  | nil => simp [lookK] at h
  | cons a L ih =>
    unfold lookK at h
    split at h
    · rename_i e; cases h; exact ⟨by simp, e⟩
    · have := ih h; exact ⟨by simp [this.1], this.2⟩
theorem look_none {L : List Kn} {i : Int} (h : lookK L i = none) : ∀ k ∈ L, k.id ≠ i := by
  induction L with
  | nil => simp
  | cons a L ih =>
    unfold lookK at h
    split at h
    · cases h
    · rename_i e
      intro k hk
      rcases List.mem_cons.1 hk with rfl | hk
      · exact e
      · exact ih h k hk
theorem look_of_mem {L : List Kn} (hr : Rise L) {k : Kn} (hk : k ∈ L) : lookK L k.id = some k := by
  induction L with
  | nil => simp at hk
  | cons a L ih =>
    obtain ⟨h1, h2⟩ := List.pairwise_cons.1 hr
    unfold lookK
    rcases List.mem_cons.1 hk with rfl | hk
    · simp
    · have := h1 k hk
      rw [if_neg (by omega)]
      exact ih h2 hk
theorem isIn_iff {L : List Kn} {i : Int} : isIn L i = true ↔ i ∈ ids L := by
  unfold isIn
  constructor
  · intro h
    obtain ⟨k, hk⟩ := Option.isSome_iff_exists.1 h
    have := look_mem hk
    exact List.mem_map.2 ⟨k, this.1, this.2⟩
  · intro h
    obtain ⟨k, hk, rfl⟩ := List.mem_map.1 h
    cases hl : lookK L k.id with
    | none => exact absurd rfl (look_none hl k hk)
    | some _ => rfl
theorem rise_nil : Rise [] := List.Pairwise.nil
theorem Rise.cut {L : List Kn} (h : Rise L) (i : Int) : Rise (cut L i) := List.Pairwise.filter _ h
theorem mem_ins {x y : Kn} {L : List Kn} : y ∈ ins x L ↔ y = x ∨ y ∈ L := by
  induction L with
  | nil => simp [ins]
  | cons a L ih =>
    unfold ins
    split
    · simp
    · simp only [List.mem_cons, ih]
      constructor
      · rintro (h | h | h) <;> simp [h]
      · rintro (h | h | h) <;> simp [h]
theorem ins_len (x : Kn) (L : List Kn) : (ins x L).length = L.length + 1 := by
  induction L with
  | nil => rfl
  | cons a L ih => unfold ins; split <;> simp [ih]
theorem Rise.ins {L : List Kn} {x : Kn} (h : Rise L) (hx : ∀ k ∈ L, k.id ≠ x.id) : Rise (ins x L) := by
  induction L with
  | nil => exact List.pairwise_singleton _ _
  | cons a L ih =>
    obtain ⟨h1, h2⟩ := List.pairwise_cons.1 h
    unfold Gd.ins
    split
    · rename_i e
      refine List.pairwise_cons.2 ⟨fun k hk => ?_, h⟩
      rcases List.mem_cons.1 hk with rfl | hk
      · exact e
      · have := h1 k hk; omega
    · rename_i e
      have ha := hx a (by simp)
      refine List.pairwise_cons.2 ⟨fun k hk => ?_, ih h2 (fun k hk => hx k (by simp [hk]))⟩
      rcases mem_ins.1 hk with rfl | hk
      · omega
      · exact h1 k hk
theorem mem_cut {L : List Kn} {i : Int} {k : Kn} : k ∈ cut L i ↔ k ∈ L ∧ k.id ≠ i := by simp [cut]
theorem Rise.put {L : List Kn} (h : Rise L) (x : Kn) : Rise (put L x) := (h.cut x.id).ins fun k hk => (mem_cut.1 hk).2
theorem Rise.rel {L : List Kn} (h : Rise L) (i p n : Int) : Rise (relL L i p n) := by
  unfold relL
  split
  · exact h
  · split
    · exact h
    · exact h.put _
theorem cut_len (L : List Kn) (i : Int) : (cut L i).length ≤ L.length := List.length_filter_le _ _
theorem put_len (L : List Kn) (x : Kn) : (put L x).length ≤ L.length + 1 := by
  unfold put
  rw [ins_len]
  have := cut_len L x.id
  omega
theorem rel_len (L : List Kn) (i p n : Int) : (relL L i p n).length ≤ L.length + 1 := by
  unfold relL
  split
  · omega
  · split
    · omega
    · exact put_len _ _
theorem cut_of_not {L : List Kn} {i : Int} (h : isIn L i = false) : cut L i = L := by
  refine List.filter_eq_self.2 fun k hk => ?_
  have : lookK L i = none := by unfold isIn at h; cases e : lookK L i <;> simp_all
  simpa using look_none this k hk
theorem cut_length {L : List Kn} (hr : Rise L) {i : Int} (h : isIn L i = true) : (cut L i).length + 1 = L.length := by
  induction L with
  | nil => simp [isIn, lookK] at h
  | cons a L ih =>
    obtain ⟨h1, h2⟩ := List.pairwise_cons.1 hr
    by_cases e : a.id = i
    · have : cut L i = L := List.filter_eq_self.2 fun k hk => by have := h1 k hk; simp; omega
      have e2 : cut (a :: L) i = cut L i := by unfold cut; rw [List.filter_cons_of_neg (by simp [e])]
      rw [e2, this, List.length_cons]
    · have e2 : cut (a :: L) i = a :: cut L i := by unfold cut; rw [List.filter_cons_of_pos (by simp [e])]
      have h3 : isIn L i = true := by unfold isIn lookK at h; rw [if_neg e] at h; exact h
      have := ih h2 h3
      rw [e2, List.length_cons, List.length_cons, this]
/-- was there something? -/
theorem cut_was {L : List Kn} (hr : Rise L) (i : Int) : decide ((cut L i).length < L.length) = isIn L i := by
  cases h : isIn L i
  · rw [cut_of_not h]; simp
  · have := cut_length hr h
    exact decide_eq_true (by omega)
theorem look_ins {L : List Kn} {x : Kn} (hx : ∀ k ∈ L, k.id ≠ x.id) (i : Int) : lookK (ins x L) i = if x.id = i then some x else lookK L i := by
  induction L with
  | nil => simp [ins, lookK]
  | cons a L ih =>
    have ha := hx a (by simp)
    unfold ins
    split
    · conv => lhs; unfold lookK
    · have := ih fun k hk => hx k (by simp [hk])
      conv => lhs; unfold lookK
      rw [this]
      by_cases e : a.id = i
      · rw [if_pos e, if_neg (by omega), lookK, if_pos e]
      · rw [if_neg e]; by_cases e3 : x.id = i
        · rw [if_pos e3, if_pos e3]
        · rw [if_neg e3, if_neg e3, lookK, if_neg e]
theorem look_cut (L : List Kn) (i j : Int) : lookK (cut L i) j = if i = j then none else lookK L j := by
  induction L with
  | nil => simp [cut, lookK]
  | cons a L ih =>
    by_cases e : a.id = i
    · have e2 : cut (a :: L) i = cut L i := by unfold cut; rw [List.filter_cons_of_neg (by simp [e])]
      rw [e2, ih]
      by_cases e3 : i = j
      · rw [if_pos e3, if_pos e3]
      · rw [if_neg e3, if_neg e3, lookK, if_neg (by omega)]
    · have e2 : cut (a :: L) i = a :: cut L i := by unfold cut; rw [List.filter_cons_of_pos (by simp [e])]
      rw [e2]
      conv => lhs; unfold lookK
      rw [ih]
      by_cases e3 : a.id = j
      · rw [if_pos e3, if_neg (by omega), lookK, if_pos e3]
      · rw [if_neg e3, lookK, if_neg e3]
theorem look_put (L : List Kn) (x : Kn) (i : Int) : lookK (put L x) i = if x.id = i then some x else lookK L i := by
  unfold put
  rw [look_ins (fun k hk => (mem_cut.1 hk).2), look_cut]
  by_cases e : x.id = i
  · rw [if_pos e, if_pos e]
  · rw [if_neg e, if_neg e, if_neg e]
theorem isIn_put (L : List Kn) (x : Kn) (i : Int) : isIn (put L x) i = (decide (x.id = i) || isIn L i) := by
  unfold isIn
  rw [look_put]
  by_cases e : x.id = i
  · simp [e]
  · simp [e]
theorem isIn_cut (L : List Kn) (i j : Int) : isIn (cut L i) j = (decide (i ≠ j) && isIn L j) := by
  unfold isIn
  rw [look_cut]
  by_cases e : i = j
  · simp [e]
  · simp [e]
theorem put_length {L : List Kn} (hr : Rise L) (x : Kn) : (put L x).length = if isIn L x.id = true then L.length else L.length + 1 := by
  unfold put
  rw [ins_len]
  cases h : isIn L x.id
  · rw [cut_of_not h]; simp
  · have := cut_length hr h
    simp [this]
/-- all are between these -/
def In64 (L : List Kn) : Prop := ∀ k ∈ L, -9223372036854775808 ≤ k.id ∧ k.id ≤ 9223372036854775807
/-! ### as a map's datum -/
def kd (k : Kn) : Lit × DataW Unit := (.int .i64 k.id, .agg [.lit (.int .i64 k.last), .lit (.int .i64 k.next)])
def toD (L : List Kn) : DataW Unit := .map (L.map kd)
/-- how a release reads -/
def rel : Value → Option (DataW Unit × List MemPlace)
  | .agg cs => match cs.toList with
    | [.int .i64 a, .int .i64 b] => some (.agg [.lit (.int .i64 a), .lit (.int .i64 b)], [])
    | _ => none
  | _ => none
theorem rel_mk (a b : Int) : rel (.agg #[.int .i64 a, .int .i64 b]) = some (.agg [.lit (.int .i64 a), .lit (.int .i64 b)], []) := rfl
theorem rel_inv {v : Value} {z : DataW Unit × List MemPlace} (h : rel v = some z) : ∃ a b, v = .agg #[.int .i64 a, .int .i64 b] ∧ z = (.agg [.lit (.int .i64 a), .lit (.int .i64 b)], []) := by
  unfold rel at h
  split at h
  · rename_i cs
    split at h
    · rename_i a b e
      cases h
      exact ⟨a, b, by rw [← e], rfl⟩
    · cases h
  · cases h
theorem same_int (a b : Int) : (Lit.int .i64 a).sameKey (.int .i64 b) = decide (a = b) := by simp [Lit.sameKey]
theorem size_toD (L : List Kn) : Maps.size (toD L) = L.length := by simp [toD, Maps.size]
theorem has_toD (L : List Kn) (i : Int) : Maps.has (toD L) (.int .i64 i) = isIn L i := by
  unfold toD
  rw [Maps.has_eq]
  induction L with
  | nil => rfl
  | cons a L ih =>
    rw [List.map_cons, List.any_cons, ih]
    show ((Lit.int .i64 a.id).sameKey (.int .i64 i) || isIn L i) = _
    rw [same_int]
    unfold isIn
    conv => rhs; unfold lookK
    by_cases e : a.id = i
    · simp [e]
    · simp [e]
theorem find_toD (L : List Kn) (i : Int) : (L.map kd).find? (fun p => p.1.sameKey (.int .i64 i)) = (lookK L i).map kd := by
  induction L with
  | nil => rfl
  | cons a L ih =>
    rw [List.map_cons, List.find?_cons]
    have : (kd a).1.sameKey (.int .i64 i) = decide (a.id = i) := same_int _ _
    rw [this]
    unfold lookK
    by_cases e : a.id = i
    · simp [e]
    · simp [e, ih]
theorem atKey_toD (L : List Kn) (i : Int) (z : DataW Unit) : (toD L).atKey (.int .i64 i) z = match lookK L i with | some k => (kd k).2 | none => z := by
  unfold toD DataW.atKey
  simp only [find_toD]
  cases lookK L i <;> rfl
theorem filter_toD (L : List Kn) (i : Int) : (L.map kd).filter (fun p => !p.1.sameKey (.int .i64 i)) = (cut L i).map kd := by
  unfold cut
  rw [List.filter_map]
  congr 1
  refine List.filter_congr fun k _ => ?_
  show (!(Lit.int .i64 k.id).sameKey (.int .i64 i)) = _
  rw [same_int]
  by_cases e : k.id = i <;> simp [e]
theorem del_toD (L : List Kn) (i : Int) : (toD L).del (.int .i64 i) = toD (cut L i) := by
  unfold toD DataW.del
  simp only [filter_toD]
theorem insert_toD (x : Kn) (L : List Kn) : DataW.insert (kd x) (L.map kd) = (ins x L).map kd := by
  induction L with
  | nil => rfl
  | cons a L ih =>
    rw [List.map_cons]
    unfold DataW.insert ins
    have : (kd x).1.before (kd a).1 = decide (x.id < a.id) := rfl
    rw [this]
    by_cases e : x.id < a.id
    · simp [e]
    · simp [e, ih]
theorem put_toD (L : List Kn) (x : Kn) : (toD L).put (.int .i64 x.id) (.agg [.lit (.int .i64 x.last), .lit (.int .i64 x.next)]) = toD (put L x) := by
  unfold toD DataW.put
  simp only [filter_toD]
  rw [show ((Lit.int .i64 x.id, DataW.agg [.lit (.int .i64 x.last), .lit (.int .i64 x.next)]) : Lit × DataW Unit) = kd x from rfl, insert_toD]
  rfl
end Go.Proofs.Ytcmgdllofkgaoaa.Gd
