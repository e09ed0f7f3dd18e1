/- Package server in mathematics: how much waits, or was taken, by numbers, as a list by rising numbers; what each call makes of it; that list as a map's datum. -/
import Derived.Test.YtacgoobkpolcdaaRows
import Derived.Maps.OwnSet
import Derived.Maps.RangeWalk
namespace Go.Proofs.Ytacgoobkpolcdaa.Sv
set_option maxRecDepth 100000
set_option linter.unusedVariables false
set_option linter.unusedSimpArgs false
/-- what is known of a number -/
structure Kn where
  id : Int
  val : Int
deriving DecidableEq
/-- rising numbers -/
def Rise (L : List Kn) : Prop := L.Pairwise fun a b => a.id < b.id
def lookK : List Kn → Int → Option Kn
  | [], _ => none
  | k :: L, i => if k.id = i then some k else lookK L i
def isIn (L : List Kn) (i : Int) : Bool := (lookK L i).isSome
def vof (L : List Kn) (i : Int) : Int := match lookK L i with | some k => k.val | none => 0
def cut (L : List Kn) (i : Int) : List Kn := L.filter fun k => decide (k.id ≠ i)
def ins (x : Kn) : List Kn → List Kn
  | [] => [x]
  | y :: r => if x.id < y.id then x :: y :: r else y :: ins x r
def put (L : List Kn) (x : Kn) : List Kn := ins x (cut L x.id)
/-- what Ask answers, and what waits behind it -/
def mayA (i n : Int) : Bool := decide (0 ≤ i ∧ i ≤ 1023 ∧ 1 ≤ n ∧ n ≤ 2147483648)
def askA (L : List Kn) (i n : Int) : Int := if mayA i n = false then 1 else if 1099511627776 < vof L i + n then 15 else 0
def askL (L : List Kn) (i n : Int) : List Kn := if mayA i n = false then L else if 1099511627776 < vof L i + n then L else put L ⟨i, vof L i + n⟩
/-- what Take answers; what waits, and what was taken, behind it -/
def took (L : List Kn) (i m : Int) : Int := if min (vof L i) m < 1 then 0 else min (vof L i) m
def takL (L : List Kn) (i m : Int) : List Kn := if min (vof L i) m < 1 then L else if min (vof L i) m = vof L i then cut L i else put L ⟨i, vof L i - min (vof L i) m⟩
def takT (L T : List Kn) (i m : Int) : List Kn := if min (vof L i) m < 1 then T else put T ⟨i, IntKind.i64.wrap (vof T i + min (vof L i) m)⟩
def ids (L : List Kn) : List Int := L.map Kn.id
theorem ids_len (L : List Kn) : (ids L).length = L.length := by simp [ids]
theorem look_mem {L : List Kn} {i : Int} {k : Kn} (h : lookK L i = some k) : k ∈ L ∧ k.id = i := by
  induction L with
  | nil => simp [lookK] at h
  | cons a L ih =>
    unfold lookK at h
    split at h
    · rename_i e; cases h; exact ⟨by simp, e⟩
    · have := ih h; exact ⟨by simp [this.1], this.2⟩
theorem look_none {L : List Kn} {i : Int} (h : lookK L i = none) : ∀ k ∈ L, k.id ≠ i := by
  induction L with
  | nil => simp
  | cons a L ih =>
    unfold lookK at h
    split at h
    · cases h
    · rename_i e
      intro k hk
      rcases List.mem_cons.1 hk with rfl | hk
      · exact e
      · exact ih h k hk
theorem look_of_mem {L : List Kn} (hr : Rise L) {k : Kn} (hk : k ∈ L) : lookK L k.id = some k := by
  induction L with
  | nil => simp at hk
  | cons a L ih =>
    obtain ⟨h1, h2⟩ := List.pairwise_cons.1 hr
    unfold lookK
    rcases List.mem_cons.1 hk with rfl | hk
    · simp
    · have := h1 k hk
      rw [if_neg (by omega)]
      exact ih h2 hk
theorem isIn_iff {L : List Kn} {i : Int} : isIn L i = true ↔ i ∈ ids L := by
  unfold isIn
  constructor
  · intro h
    obtain ⟨k, hk⟩ := Option.isSome_iff_exists.1 h
    have := look_mem hk
    exact List.mem_map.2 ⟨k, this.1, this.2⟩
  · intro h
    obtain ⟨k, hk, rfl⟩ := List.mem_map.1 h
    cases hl : lookK L k.id with
    | none => exact absurd rfl (look_none hl k hk)
    | some _ => rfl
theorem rise_nil : Rise [] := List.Pairwise.nil
theorem Rise.cut {L : List Kn} (h : Rise L) (i : Int) : Rise (cut L i) := List.Pairwise.filter _ h
theorem mem_ins {x y : Kn} {L : List Kn} : y ∈ ins x L ↔ y = x ∨ y ∈ L := by
  induction L with
  | nil => simp [ins]
  | cons a L ih =>
    unfold ins
    split
    · simp
    · simp only [List.mem_cons, ih]
      constructor
      · rintro (h | h | h) <;> simp [h]
      · rintro (h | h | h) <;> simp [h]
theorem ins_len (x : Kn) (L : List Kn) : (ins x L).length = L.length + 1 := by
  induction L with
  | nil => rfl
  | cons a L ih => unfold ins; split <;> simp [ih]
theorem Rise.ins {L : List Kn} {x : Kn} (h : Rise L) (hx : ∀ k ∈ L, k.id ≠ x.id) : Rise (ins x L) := by
  induction L with
  | nil => exact List.pairwise_singleton _ _
  | cons a L ih =>
    obtain ⟨h1, h2⟩ := List.pairwise_cons.1 h
    unfold Sv.ins
    split
    · rename_i e
      refine List.pairwise_cons.2 ⟨fun k hk => ?_, h⟩
      rcases List.mem_cons.1 hk with rfl | hk
      · exact e
      · have := h1 k hk; omega
    · rename_i e
      have ha := hx a (by simp)
      refine List.pairwise_cons.2 ⟨fun k hk => ?_, ih h2 (fun k hk => hx k (by simp [hk]))⟩
      rcases mem_ins.1 hk with rfl | hk
      · omega
      · exact h1 k hk
theorem mem_cut {L : List Kn} {i : Int} {k : Kn} : k ∈ cut L i ↔ k ∈ L ∧ k.id ≠ i := by simp [cut]
theorem Rise.put {L : List Kn} (h : Rise L) (x : Kn) : Rise (put L x) := (h.cut x.id).ins fun k hk => (mem_cut.1 hk).2
theorem cut_len (L : List Kn) (i : Int) : (cut L i).length ≤ L.length := List.length_filter_le _ _
theorem put_len (L : List Kn) (x : Kn) : (put L x).length ≤ L.length + 1 := by
  unfold put
  rw [ins_len]
  have := cut_len L x.id
  omega
theorem cut_of_not {L : List Kn} {i : Int} (h : isIn L i = false) : cut L i = L := by
  refine List.filter_eq_self.2 fun k hk => ?_
  have : lookK L i = none := by unfold isIn at h; cases e : lookK L i <;> simp_all
  simpa using look_none this k hk
theorem cut_length {L : List Kn} (hr : Rise L) {i : Int} (h : isIn L i = true) : (cut L i).length + 1 = L.length := by
  induction L with
  | nil => simp [isIn, lookK] at h
  | cons a L ih =>
    obtain ⟨h1, h2⟩ := List.pairwise_cons.1 hr
    by_cases e : a.id = i
    · have : cut L i = L := List.filter_eq_self.2 fun k hk => by have := h1 k hk; simp; omega
      have e2 : cut (a :: L) i = cut L i := by unfold cut; rw [List.filter_cons_of_neg (by simp [e])]
      rw [e2, this, List.length_cons]
    · have e2 : cut (a :: L) i = a :: cut L i := by unfold cut; rw [List.filter_cons_of_pos (by simp [e])]
      have h3 : isIn L i = true := by unfold isIn lookK at h; rw [if_neg e] at h; exact h
      have := ih h2 h3
      rw [e2, List.length_cons, List.length_cons, this]
/-- was there something? -/
theorem cut_was {L : List Kn} (hr : Rise L) (i : Int) : decide ((cut L i).length < L.length) = isIn L i := by
  cases h : isIn L i
  · rw [cut_of_not h]; simp
  · have := cut_length hr h
    exact decide_eq_true (by omega)
theorem look_ins {L : List Kn} {x : Kn} (hx : ∀ k ∈ L, k.id ≠ x.id) (i : Int) : lookK (ins x L) i = if x.id = i then some x else lookK L i := by
  induction L with
  | nil => simp [ins, lookK]
  | cons a L ih =>
    have ha := hx a (by simp)
    unfold ins
    split
    · conv => lhs; unfold lookK
    · have := ih fun k hk => hx k (by simp [hk])
      conv => lhs; unfold lookK
      rw [this]
      by_cases e : a.id = i
      · rw [if_pos e, if_neg (by omega), lookK, if_pos e]
      · rw [if_neg e]; by_cases e3 : x.id = i
        · rw [if_pos e3, if_pos e3]
        · rw [if_neg e3, if_neg e3, lookK, if_neg e]
theorem look_cut (L : List Kn) (i j : Int) : lookK (cut L i) j = if i = j then none else lookK L j := by
  induction L with
  | nil => simp [cut, lookK]
  | cons a L ih =>
    by_cases e : a.id = i
    · have e2 : cut (a :: L) i = cut L i := by unfold cut; rw [List.filter_cons_of_neg (by simp [e])]
      rw [e2, ih]
      by_cases e3 : i = j
      · rw [if_pos e3, if_pos e3]
      · rw [if_neg e3, if_neg e3, lookK, if_neg (by omega)]
    · have e2 : cut (a :: L) i = a :: cut L i := by unfold cut; rw [List.filter_cons_of_pos (by simp [e])]
      rw [e2]
      conv => lhs; unfold lookK
      rw [ih]
      by_cases e3 : a.id = j
      · rw [if_pos e3, if_neg (by omega), lookK, if_pos e3]
      · rw [if_neg e3, lookK, if_neg e3]
theorem look_put (L : List Kn) (x : Kn) (i : Int) : lookK (put L x) i = if x.id = i then some x else lookK L i := by
  unfold put
  rw [look_ins (fun k hk => (mem_cut.1 hk).2), look_cut]
  by_cases e : x.id = i
  · rw [if_pos e, if_pos e]
  · rw [if_neg e, if_neg e, if_neg e]
theorem isIn_put (L : List Kn) (x : Kn) (i : Int) : isIn (put L x) i = (decide (x.id = i) || isIn L i) := by
  unfold isIn
  rw [look_put]
  by_cases e : x.id = i
  · simp [e]
  · simp [e]
theorem isIn_cut (L : List Kn) (i j : Int) : isIn (cut L i) j = (decide (i ≠ j) && isIn L j) := by
  unfold isIn
  rw [look_cut]
  by_cases e : i = j
  · simp [e]
  · simp [e]
theorem put_length {L : List Kn} (hr : Rise L) (x : Kn) : (put L x).length = if isIn L x.id = true then L.length else L.length + 1 := by
  unfold put
  rw [ins_len]
  cases h : isIn L x.id
  · rw [cut_of_not h]; simp
  · have := cut_length hr h
    simp [this]
theorem vof_put (L : List Kn) (x : Kn) (i : Int) : vof (put L x) i = if x.id = i then x.val else vof L i := by
  unfold vof
  rw [look_put]
  by_cases e : x.id = i
  · simp [e]
  · simp [e]
theorem vof_cut (L : List Kn) (i j : Int) : vof (cut L i) j = if i = j then 0 else vof L j := by
  unfold vof
  rw [look_cut]
  by_cases e : i = j
  · simp [e]
  · simp [e]
/-- numbers of tasks, by which something waits -/
structure Ok (L : List Kn) : Prop where
  rise : Rise L
  ids : ∀ k ∈ L, 0 ≤ k.id ∧ k.id ≤ 1023
  val : ∀ k ∈ L, 1 ≤ k.val ∧ k.val ≤ 1099511627776
/-- .. of which something was taken -/
structure OkT (L : List Kn) : Prop where
  rise : Rise L
  ids : ∀ k ∈ L, 0 ≤ k.id ∧ k.id ≤ 1023
  val : ∀ k ∈ L, -9223372036854775808 ≤ k.val ∧ k.val ≤ 9223372036854775807
theorem rise_len {L : List Kn} {a b : Int} (h : Rise L) (hi : ∀ k ∈ L, a ≤ k.id ∧ k.id < b) (hab : a ≤ b) : (L.length : Int) ≤ b - a := by
  induction L generalizing a with
  | nil => simp; omega
  | cons x L ih =>
    obtain ⟨h1, h2⟩ := List.pairwise_cons.1 h
    have hx := hi x (by simp)
    have := ih (a := x.id + 1) h2 (fun k hk => by have := h1 k hk; have := hi k (by simp [hk]); omega) (by omega)
    rw [List.length_cons]
    omega
theorem Ok.nil : Ok [] := ⟨rise_nil, by simp, by simp⟩
theorem OkT.nil : OkT [] := ⟨rise_nil, by simp, by simp⟩
section
variable {L T : List Kn} {i : Int}
theorem Ok.len (h : Ok L) : L.length ≤ 1024 := by
  have := rise_len (a := 0) (b := 1024) h.rise (fun k hk => by have := h.ids k hk; omega) (by omega)
  omega
theorem OkT.len (h : OkT L) : L.length ≤ 1024 := by
  have := rise_len (a := 0) (b := 1024) h.rise (fun k hk => by have := h.ids k hk; omega) (by omega)
  omega
theorem look_val {k : Kn} (h : lookK L i = some k) : vof L i = k.val := by unfold vof; rw [h]
theorem look_no (h : lookK L i = none) : vof L i = 0 := by unfold vof; rw [h]
theorem Ok.bnd (h : Ok L) (i : Int) : 0 ≤ vof L i ∧ vof L i ≤ 1099511627776 := by
  cases e : lookK L i with
  | none => rw [look_no e]; omega
  | some k => rw [look_val e]; have := h.val k (look_mem e).1; omega
theorem OkT.bnd (h : OkT L) (i : Int) : -9223372036854775808 ≤ vof L i ∧ vof L i ≤ 9223372036854775807 := by
  cases e : lookK L i with
  | none => rw [look_no e]; omega
  | some k => rw [look_val e]; have := h.val k (look_mem e).1; omega
theorem out_val (h : ∀ k ∈ L, 0 ≤ k.id ∧ k.id ≤ 1023) (hi : i < 0 ∨ 1023 < i) : vof L i = 0 := by
  cases e : lookK L i with
  | none => exact look_no e
  | some k =>
    obtain ⟨h1, h2⟩ := look_mem e
    have := h k h1
    omega
theorem Ok.pos (h : Ok L) (i : Int) : isIn L i = decide (0 < vof L i) := by
  unfold isIn
  cases e : lookK L i with
  | none => rw [look_no e]; rfl
  | some k => rw [look_val e, decide_eq_true (by have := h.val k (look_mem e).1; omega)]; rfl
theorem Ok.of_pos (h : Ok L) (hp : 0 < vof L i) : 0 ≤ i ∧ i ≤ 1023 := by
  by_cases hi : i < 0 ∨ 1023 < i
  · rw [out_val h.ids hi] at hp; omega
  · omega
theorem Ok.put (h : Ok L) {v : Int} (hi : 0 ≤ i ∧ i ≤ 1023) (hv : 1 ≤ v ∧ v ≤ 1099511627776) : Ok (put L ⟨i, v⟩) :=
  ⟨h.rise.put _, fun k hk => by rcases mem_ins.1 hk with rfl | hk; exact hi; exact h.ids k (mem_cut.1 hk).1, fun k hk => by rcases mem_ins.1 hk with rfl | hk; exact hv; exact h.val k (mem_cut.1 hk).1⟩
theorem OkT.put (h : OkT L) {v : Int} (hi : 0 ≤ i ∧ i ≤ 1023) (hv : -9223372036854775808 ≤ v ∧ v ≤ 9223372036854775807) : OkT (put L ⟨i, v⟩) :=
  ⟨h.rise.put _, fun k hk => by rcases mem_ins.1 hk with rfl | hk; exact hi; exact h.ids k (mem_cut.1 hk).1, fun k hk => by rcases mem_ins.1 hk with rfl | hk; exact hv; exact h.val k (mem_cut.1 hk).1⟩
theorem Ok.cut (h : Ok L) (i : Int) : Ok (cut L i) := ⟨h.rise.cut i, fun k hk => h.ids k (mem_cut.1 hk).1, fun k hk => h.val k (mem_cut.1 hk).1⟩
theorem OkT.cut (h : OkT L) (i : Int) : OkT (cut L i) := ⟨h.rise.cut i, fun k hk => h.ids k (mem_cut.1 hk).1, fun k hk => h.val k (mem_cut.1 hk).1⟩
theorem Ok.ask (h : Ok L) (i n : Int) : Ok (askL L i n) := by
  unfold askL
  split
  · exact h
  · rename_i hm
    split
    · exact h
    · have := of_decide_eq_true (by simpa using hm : mayA i n = true)
      have := h.bnd i
      exact h.put (by omega) (by omega)
theorem Ok.tak (h : Ok L) (i m : Int) : Ok (takL L i m) := by
  unfold takL
  have := h.bnd i
  split
  · exact h
  · split
    · exact h.cut i
    · have := h.of_pos (i := i) (by omega)
      exact h.put (by omega) (by omega)
theorem OkT.tak (ht : OkT T) (h : Ok L) (i m : Int) : OkT (takT L T i m) := by
  unfold takT
  have := h.bnd i
  split
  · exact ht
  · have := h.of_pos (i := i) (by omega)
    exact ht.put (by omega) (by rw [IntKind.wrap_i64]; omega)
/-- the numbers by which something waits, one by one -/
theorem ids_filter (h : Ok L) {N : Nat} (hN : ∀ k ∈ L, k.id < (N : Int)) : ids L = ((List.range N).filter fun j : Nat => decide (0 < vof L (j : Int))).map fun j : Nat => (j : Int) := by
  have s1 : (ids L).Pairwise (· < ·) := List.pairwise_map.2 h.rise
  have s2 : (((List.range N).filter fun j : Nat => decide (0 < vof L (j : Int))).map fun j : Nat => (j : Int)).Pairwise (· < ·) :=
    List.pairwise_map.2 (List.Pairwise.filter _ (List.pairwise_lt_range.imp fun {a b} hab => by omega))
  have hp : (ids L).Perm (((List.range N).filter fun j : Nat => decide (0 < vof L (j : Int))).map fun j : Nat => (j : Int)) := by
    refine (List.perm_ext_iff_of_nodup (s1.imp fun {a b} hab => by omega) (s2.imp fun {a b} hab => by omega)).2 fun x => ?_
    rw [← isIn_iff, h.pos]
    constructor
    · intro hx
      have hx := of_decide_eq_true hx
      have h1 := h.of_pos hx
      obtain ⟨k, hk⟩ : ∃ k, lookK L x = some k := by
        cases e : lookK L x with
        | none => rw [look_no e] at hx; omega
        | some k => exact ⟨k, rfl⟩
      have h2 := look_mem hk
      have h3 := hN k h2.1
      refine List.mem_map.2 ⟨x.toNat, List.mem_filter.2 ⟨List.mem_range.2 (by omega), decide_eq_true ?_⟩, by omega⟩
      rw [Int.toNat_of_nonneg h1.1]; exact hx
    · intro hx
      obtain ⟨j, hj, rfl⟩ := List.mem_map.1 hx
      exact (List.mem_filter.1 hj).2
  exact List.Perm.eq_of_pairwise (le := (· < ·)) (fun a b _ _ h1 h2 => by omega) s1 s2 hp
end
/-- those of the first j -/
def upTo (p : Nat → Bool) (j : Nat) : List Int := ((List.range j).filter p).map fun j : Nat => (j : Int)
theorem upTo_yes {p : Nat → Bool} {j : Nat} (h : p j = true) : upTo p (j + 1) = upTo p j ++ [(j : Int)] := by
  unfold upTo; rw [List.range_succ, List.filter_append, List.map_append]; simp [h]
theorem upTo_no {p : Nat → Bool} {j : Nat} (h : p j = false) : upTo p (j + 1) = upTo p j := by
  unfold upTo; rw [List.range_succ, List.filter_append, List.map_append]; simp [h]
theorem upTo_len (p : Nat → Bool) (j : Nat) : (upTo p j).length ≤ j := by
  unfold upTo
  rw [List.length_map]
  have := List.length_filter_le p (List.range j)
  rwa [List.length_range] at this
theorem upTo_pre (p : Nat → Bool) (j k : Nat) : ∃ r, upTo p (j + k) = upTo p j ++ r := by
  induction k with
  | zero => exact ⟨[], by simp⟩
  | succ k ih =>
    obtain ⟨r, hr⟩ := ih
    rw [← Nat.add_assoc]
    cases h : p (j + k)
    · exact ⟨r, by rw [upTo_no h, hr]⟩
    · exact ⟨r ++ [((j + k : Nat) : Int)], by rw [upTo_yes h, hr, List.append_assoc]⟩
/-- .. the next one of these -/
theorem upTo_at {p : Nat → Bool} {j n : Nat} (h : p j = true) (hj : j < n) : (upTo p n)[(upTo p j).length]? = some (j : Int) := by
  obtain ⟨r, hr⟩ := upTo_pre p (j + 1) (n - (j + 1))
  rw [show j + 1 + (n - (j + 1)) = n by omega] at hr
  rw [hr, upTo_yes h]
  simp
theorem upTo_le (p : Nat → Bool) {j n : Nat} (hj : j ≤ n) : (upTo p j).length ≤ (upTo p n).length := by
  obtain ⟨r, hr⟩ := upTo_pre p j (n - j)
  rw [show j + (n - j) = n by omega] at hr
  rw [hr, List.length_append]
  omega
/-! ### as a map's datum -/
def kd (k : Kn) : Lit × DataW Unit := (.int .i64 k.id, .lit (.int .i64 k.val))
def toD (L : List Kn) : DataW Unit := .map (L.map kd)
/-- how a number reads -/
def rel : Value → Option (DataW Unit × List MemPlace)
  | .int .i64 a => some (.lit (.int .i64 a), [])
  | _ => none
theorem rel_mk (a : Int) : rel (.int .i64 a) = some (.lit (.int .i64 a), []) := rfl
theorem rel_inv {v : Value} {z : DataW Unit × List MemPlace} (h : rel v = some z) : ∃ a, v = .int .i64 a ∧ z = (.lit (.int .i64 a), []) := by
  unfold rel at h
  split at h
  · rename_i a
    cases h
    exact ⟨a, rfl, rfl⟩
  · cases h
theorem same_int (a b : Int) : (Lit.int .i64 a).sameKey (.int .i64 b) = decide (a = b) := by simp [Lit.sameKey]
theorem size_toD (L : List Kn) : Maps.size (toD L) = L.length := by simp [toD, Maps.size]
theorem has_toD (L : List Kn) (i : Int) : Maps.has (toD L) (.int .i64 i) = isIn L i := by
  unfold toD
  rw [Maps.has_eq]
  induction L with
  | nil => rfl
  | cons a L ih =>
    rw [List.map_cons, List.any_cons, ih]
    show ((Lit.int .i64 a.id).sameKey (.int .i64 i) || isIn L i) = _
    rw [same_int]
    unfold isIn
    conv => rhs; unfold lookK
    by_cases e : a.id = i
    · simp [e]
    · simp [e]
theorem find_toD (L : List Kn) (i : Int) : (L.map kd).find? (fun p => p.1.sameKey (.int .i64 i)) = (lookK L i).map kd := by
  induction L with
  | nil => rfl
  | cons a L ih =>
    rw [List.map_cons, List.find?_cons]
    have : (kd a).1.sameKey (.int .i64 i) = decide (a.id = i) := same_int _ _
    rw [this]
    unfold lookK
    by_cases e : a.id = i
    · simp [e]
    · simp [e, ih]
theorem atKey_toD (L : List Kn) (i : Int) (z : DataW Unit) : (toD L).atKey (.int .i64 i) z = match lookK L i with | some k => (kd k).2 | none => z := by
  unfold toD DataW.atKey
  simp only [find_toD]
  cases lookK L i <;> rfl
theorem filter_toD (L : List Kn) (i : Int) : (L.map kd).filter (fun p => !p.1.sameKey (.int .i64 i)) = (cut L i).map kd := by
  unfold cut
  rw [List.filter_map]
  congr 1
  refine List.filter_congr fun k _ => ?_
  show (!(Lit.int .i64 k.id).sameKey (.int .i64 i)) = _
  rw [same_int]
  by_cases e : k.id = i <;> simp [e]
theorem del_toD (L : List Kn) (i : Int) : (toD L).del (.int .i64 i) = toD (cut L i) := by
  unfold toD DataW.del
  simp only [filter_toD]
theorem insert_toD (x : Kn) (L : List Kn) : DataW.insert (kd x) (L.map kd) = (ins x L).map kd := by
  induction L with
  | nil => rfl
  | cons a L ih =>
    rw [List.map_cons]
    unfold DataW.insert ins
    have : (kd x).1.before (kd a).1 = decide (x.id < a.id) := rfl
    rw [this]
    by_cases e : x.id < a.id
    · simp [e]
    · simp [e, ih]
theorem put_toD (L : List Kn) (x : Kn) : (toD L).put (.int .i64 x.id) (.lit (.int .i64 x.val)) = toD (put L x) := by
  unfold toD DataW.put
  simp only [filter_toD]
  rw [show ((Lit.int .i64 x.id, DataW.lit (.int .i64 x.val)) : Lit × DataW Unit) = kd x from rfl, insert_toD]
  rfl
end Go.Proofs.Ytacgoobkpolcdaa.Sv
