/- Contracts of package heap's New, Len, Min, Put, Take and Change. -/
import Derived.Test.YteagimnlhopjpaaHjE
namespace Go.Proofs.Yteagimnlhopjpaa.Hj
open Go.ChangeShapes Go.WideShapes Go.ChangeAt Go.RowKit Go.Joins
open Hp (Wk An Srt le ins sort sort_len sort_min sort_srt sort_ins sort_eq hp_nil hp_min hp_head)
open Ed (Jo wk own_an)
set_option maxRecDepth 100000
set_option maxRecDepth 100000
set_option linter.unusedVariables false
set_option linter.unusedSimpArgs false
/-- a heap in block b, of these things, in order; r: the block in which they lie -/
def Hq (LB : Nat) (w : World) (b : Nat) (r : Option Nat) (s : List Jo) : Prop := ∃ v l, Ht LB w b v l ∧ Hp.Hp Ed.ahead l ∧ Ed.Own l ∧ sort Ed.ahead l = s ∧ v.ownBlock = r
/-- where they lie now: where they lay, or in a new block -/
def Nw (w : World) (r r' : Option Nat) : Prop := ∀ k, r' = some k → r = some k ∨ w.heap.size ≤ k
section
variable {LB b : Nat} {r : Option Nat} {s : List Jo} {w w' : World}
theorem Hq.call (h : Hq LB w b r s) (hb : Below w.heap.size w w') : Hq LB w' b r s := by
  obtain ⟨v, l, ht, h2⟩ := h
  exact ⟨v, l, ht.call hb, h2⟩
theorem Hq.lt (h : Hq LB w b r s) : b < w.heap.size := by obtain ⟨v, l, ht, -⟩ := h; exact ht.lt
theorem Hq.lb (h : Hq LB w b r s) : LB ≤ b := by obtain ⟨v, l, ht, -⟩ := h; exact ht.lb
theorem Hq.rlt (h : Hq LB w b r s) : ∀ k, r = some k → LB ≤ k ∧ k < w.heap.size := by obtain ⟨v, l, ht, -, -, -, rfl⟩ := h; exact ht.row.lt
theorem Hq.head (h : Hq LB w b r s) : ∃ cs, w.heap[b]? = some (.cells cs 77 (0, 0)) := by obtain ⟨v, l, ht, -⟩ := h; exact ⟨_, ht.head⟩
theorem Hq.row (h : Hq LB w b r s) : ∀ k, r = some k → ∃ cs, w.heap[k]? = some (.cells cs 31 (0, 0)) := by obtain ⟨v, l, ht, -, -, -, rfl⟩ := h; exact ht.row.block
/-- another heap, or a row, has turned -/
theorem Hq.of_blocks (h : Hq LB w b r s) (hb : w'.heap[b]? = w.heap[b]?) (hr : ∀ k, r = some k → w'.heap[k]? = w.heap[k]?) : Hq LB w' b r s := by
  obtain ⟨v, l, ht, h2, h3, h4, rfl⟩ := h
  exact ⟨v, l, ht.of_blocks hb hr, h2, h3, h4, rfl⟩
theorem Hq.own (h : Hq LB w b r s) : Ed.Own s := by obtain ⟨v, l, -, -, ho, rfl, -⟩ := h; exact ho.perm (Hp.sort_perm l).symm
theorem Hq.srt (h : Hq LB w b r s) : Srt Ed.ahead s := by obtain ⟨v, l, -, -, -, rfl, -⟩ := h; exact sort_srt wk l
end
theorem Nw.trans {u v : World} {r r1 r2 : Option Nat} (h : Nw u r r1) (k : Nw v r1 r2) (hs : u.heap.size ≤ v.heap.size) : Nw u r r2 := by
  intro j hj
  rcases k j hj with e | e
  · exact h j e
  · exact .inr (by omega)
theorem Nw.refl (w : World) (r : Option Nat) : Nw w r r := fun k hk => .inl hk
theorem new_any (w : World) :
    Calls Try.prog 41 #[.func (.func 42) #[] #[]] w fun e w' => e = .returned (.pointer (some ⟨w.heap.size, 0, none⟩)) ∧ w' = w.alloc (.cells #[.func (.func 42) #[] #[], .slice none 0 0] 77) := by
  go_enter Try.func41, Try.ntmps41
  go_wp2
  go_ret
  exact ⟨rfl, rfl⟩
theorem hq_new (w : World) : Hq w.heap.size (w.alloc (.cells #[.func (.func 42) #[] #[], .slice none 0 0] 77)) w.heap.size none [] :=
  ⟨.slice none 0 0, [], ⟨World.alloc_heap_new _ _, nrow_nil _ _, Nat.le_refl _⟩, hp_nil, List.nodup_nil, rfl, rfl⟩
theorem len_ht (LB b : Nat) (v : Value) (l : List Jo) (w : World) (h : Ht LB w b v l) :
    Calls Try.prog 34 #[.pointer (some ⟨b, 0, none⟩)] w fun e w' => e = .returned (.int .i64 (l.length : Int)) ∧ w' = w := by
  have c1 := h.c1
  obtain ⟨ao, cap, rfl, -, -⟩ := h.row.form
  clear h
  generalize l.length = n at *
  go_enter Try.func34, Try.ntmps34
  go_wp2
  go_ret
  exact ⟨rfl, rfl⟩
theorem len_any (LB b : Nat) (r : Option Nat) (s : List Jo) (w : World) (h : Hq LB w b r s) :
    Calls Try.prog 34 #[.pointer (some ⟨b, 0, none⟩)] w fun e w' => e = .returned (.int .i64 (s.length : Int)) ∧ w' = w := by
  obtain ⟨v, l, ht, -, -, rfl, -⟩ := h
  rw [sort_len]
  exact len_ht LB b v l w ht
/-- the least one, and whether there is one -/
def minR : List Jo → Jo × Bool
  | [] => (⟨0, 0, 0, 0⟩, false)
  | a :: _ => (a, true)
theorem min_ht (LB b : Nat) (v : Value) (l : List Jo) (w : World) (h : Ht LB w b v l) :
    Calls Try.prog 26 #[.pointer (some ⟨b, 0, none⟩)] w fun e w' => e = .returned (.tuple #[.agg #[.int .i64 (minR l).1.id, .int .i64 (minR l).1.rel, .int .i64 (minR l).1.dl, .int .i64 (minR l).1.le], .bool (minR l).2]) ∧ Below w.heap.size w w' := by
  have LE := Lib.hid (fun w h => len_ht LB b v l w h)
  have b1 : Below w.heap.size w (w.alloc (.cells #[.int .i64 0, .int .i64 0, .int .i64 0, .int .i64 0] 31)) := (Below.refl _ w).alloc (Nat.le_refl _) _
  have H := Lib.hid (h.call b1)
  cases l with
  | nil =>
    clear h b1
    unfold minR
    simp only [List.length_nil] at *
    go_enter Try.func26, Try.ntmps26
    go_wp2_with fail
    (with_reducible refine (LE.out _ H.out).mono ?_)
    rintro e w1 ⟨rfl, rfl⟩
    go_wp2
    exact bodyPost_ret (v := .tuple #[.agg #[.int .i64 0, .int .i64 0, .int .i64 0, .int .i64 0], .bool false]) (by simp [results, Try.results26, go_sem]) rfl ⟨rfl, ((Below.refl _ w).alloc (Nat.le_refl _) _).alloc (by simp) _⟩
  | cons a t =>
    have c1 := H.out.c1
    obtain ⟨g, cap, rfl, -, -, hg⟩ := h.row.inBlock (by simp)
    obtain ⟨a0, a1, a2, a3⟩ := H.out.row.at (i := 0) rfl
    simp only [Nat.zero_mul, Nat.zero_add] at a0 a1 a2 a3
    unfold minR
    simp only at *
    obtain ⟨n, hn⟩ : ∃ n, n = (a :: t).length := ⟨_, rfl⟩
    rw [← hn] at LE H c1
    have hn0 : (0 : Int) < (n : Int) := by rw [hn, List.length_cons]; omega
    have hnz : ((n : Int) == 0) = false := by rw [beq_eq_false_iff_ne]; omega
    clear h hn b1
    go_enter Try.func26, Try.ntmps26
    go_wp2_with fail
    (with_reducible refine (LE.out _ H.out).mono ?_)
    rintro e w1 ⟨rfl, rfl⟩
    go_wp2
    exact bodyPost_ret (v := .tuple #[.agg #[.int .i64 a.id, .int .i64 a.rel, .int .i64 a.dl, .int .i64 a.le], .bool true]) (by simp [results, Try.results26, go_sem]) rfl ⟨rfl, (Below.refl _ w).alloc (Nat.le_refl _) _⟩
/-- functions, held against none -/
theorem neq_func_in (d : Nat) (w : World) : (Op.equalIn (d + 1) 68 (.func (.func 42) #[] #[]) .nilFunc).run Try.prog w = .ok false w := by
  simp [Op.equalIn, run_underlying Try.underlying68]
theorem neq_func (w : World) : (binOp .neq 68 (.func (.func 42) #[] #[]) .nilFunc).run Try.prog w = .ok (.bool true) w := by
  simp only [binOp]
  simp [Op.equal, Op.maxDepth, neq_func_in 9999 w]
theorem neq_nil_in (d : Nat) (w : World) : (Op.equalIn (d + 1) 68 .nilFunc .nilFunc).run Try.prog w = .ok true w := by
  simp [Op.equalIn, run_underlying Try.underlying68]
theorem neq_nil (w : World) : (binOp .neq 68 .nilFunc .nilFunc).run Try.prog w = .ok (.bool false) w := by
  simp only [binOp]
  simp [Op.equal, Op.maxDepth, neq_nil_in 9999 w]
theorem eql_func_in (F : Nat) (d : Nat) (w : World) : (Op.equalIn (d + 1) 65 (.func (.func F) #[] #[]) .nilFunc).run Try.prog w = .ok false w := by
  simp [Op.equalIn, run_underlying Try.underlying65]
theorem eql_func (F : Nat) (w : World) : (binOp .eql 65 (.func (.func F) #[] #[]) .nilFunc).run Try.prog w = .ok (.bool false) w := by
  simp only [binOp]
  simp [Op.equal, Op.maxDepth, eql_func_in F 9999 w]
theorem eql_nil_in (d : Nat) (w : World) : (Op.equalIn (d + 1) 65 .nilFunc .nilFunc).run Try.prog w = .ok true w := by
  simp [Op.equalIn, run_underlying Try.underlying65]
theorem eql_nil (w : World) : (binOp .eql 65 .nilFunc .nilFunc).run Try.prog w = .ok (.bool true) w := by
  simp only [binOp]
  simp [Op.equal, Op.maxDepth, eql_nil_in 9999 w]
/-- put, as it is called -/
def PutQ (LB b : Nat) (r : Option Nat) (s : List Jo) (w w' : World) : Prop := ∃ r', Hq LB w' b r' s ∧ Mv b r w w' ∧ Nw w r r'
theorem put1_any (LB b : Nat) (r : Option Nat) (s : List Jo) (x : Jo) (P1 P2 : Nat) (w : World) (h : Hq LB w b r s) (hO : Ed.Own (x :: s)) (hl : s.length ≤ 80000) (h1 : w.cell? ⟨P1, 0, none⟩ = some (.pointer (some ⟨b, 0, none⟩))) (h2 : At4 w P2 0 x) :
    Calls Try.prog 43 #[.pointer (some ⟨P1, 0, none⟩), .pointer (some ⟨P2, 0, none⟩)] w fun e w' => e = .returned (.tuple #[]) ∧ PutQ LB b r (ins Ed.ahead x s) w w' := by
  obtain ⟨v, l, ht, hp, ho, rfl, rfl⟩ := h
  rw [sort_len] at hl
  have PI := Lib.hid (put_in LB b v l x w ht hp (by omega) (by have := ht.lt; have := ht.lb; omega))
  obtain ⟨x0, x1, x2, x3⟩ := h2
  have hOl : Ed.Own (l ++ [x]) := (hO.perm ((Hp.sort_perm l).cons x)).perm (List.perm_append_singleton x l).symm
  go_enter Try.func43, Try.ntmps43
  go_wp2_with fail
  (with_reducible refine PI.out.mono ?_)
  rintro e w1 ⟨rfl, v', m, ht', hp', hpm, hmv, hnw⟩
  have hOm : Ed.Own m := hOl.perm hpm.symm
  have F : Hid (PutQ LB b v.ownBlock (ins Ed.ahead x (sort Ed.ahead l)) w w1) := Lib.hid ⟨v'.ownBlock, ⟨v', m, ht', hp', hOm, by
    have h3 : sort Ed.ahead (l ++ [x]) = ins Ed.ahead x (sort Ed.ahead l) := sort_ins wk x l (own_an hOl)
    rw [← h3]; exact sort_eq wk (own_an hOm) hpm, rfl⟩, hmv, fun k hk => by rcases hnw with e | ⟨j, e, hj⟩; exact .inl (e.symm.trans hk); exact .inr (by rw [e] at hk; cases hk; exact hj)⟩
  clear PI ht' hp' hpm hmv hnw ht hp h1 x0 x1 x2 x3 hOl hOm hO ho
  go_wp2
  go_end0
  exact ⟨rfl, F.out⟩
/-- boxes were made ahead of it -/
theorem PutQ.boxed {LB b : Nat} {r : Option Nat} {s : List Jo} {w W w' : World} (h : PutQ LB b r s W w') (hb : Below w.heap.size w W) : PutQ LB b r s w w' := by
  obtain ⟨r', h1, h2, h3⟩ := h
  refine ⟨r', h1, (Mv.of_below hb).trans h2 (fun j e => .inl e), ?_⟩
  intro k hk
  rcases h3 k hk with e | e
  · exact .inl e
  · exact .inr (by have := hb.size; omega)
theorem put_any (LB b : Nat) (r : Option Nat) (s : List Jo) (x : Jo) (w : World) (h : Hq LB w b r s) (hO : Ed.Own (x :: s)) (hl : s.length ≤ 80000) :
    Calls Try.prog 31 #[.pointer (some ⟨b, 0, none⟩), .agg #[.int .i64 x.id, .int .i64 x.rel, .int .i64 x.dl, .int .i64 x.le]] w fun e w' => e = .returned (.bool true) ∧ PutQ LB b r (ins Ed.ahead x s) w w' := by
  have hmf : ∀ (fn : Fn) (first cap : Array Value) (w : World), (Instr.makeFunc fn first cap).run Try.prog w = .ok (.func fn first cap) w := fun _ _ _ _ => rfl
  have hB : Below w.heap.size w ((w.alloc (.cells #[.pointer (some ⟨b, 0, none⟩)] 59)).alloc (.cells #[.int .i64 x.id, .int .i64 x.rel, .int .i64 x.dl, .int .i64 x.le] 31)) := ((Below.refl _ w).alloc (Nat.le_refl _) _).alloc (by simp) _
  have h2 := h.call hB
  have c0 : ((w.alloc (.cells #[.pointer (some ⟨b, 0, none⟩)] 59)).alloc (.cells #[.int .i64 x.id, .int .i64 x.rel, .int .i64 x.dl, .int .i64 x.le] 31)).cell? ⟨b, 0, none⟩ = some (.func (.func 42) #[] #[]) := by obtain ⟨v, l, ht, -⟩ := h2; exact ht.c0
  have hbx : Bx ((w.alloc (.cells #[.pointer (some ⟨b, 0, none⟩)] 59)).alloc (.cells #[.int .i64 x.id, .int .i64 x.rel, .int .i64 x.dl, .int .i64 x.le] 31)) (w.heap.size + 1) x := by
    have := bx_new (w.alloc (.cells #[.pointer (some ⟨b, 0, none⟩)] 59)) x
    rw [World.size_alloc] at this; exact this
  have EN := Lib.hid (ends_any 43 #[] #[.pointer (some ⟨w.heap.size, 0, none⟩), .pointer (some ⟨w.heap.size + 1, 0, none⟩)] _ _ (enters_of Try.func43 (by kernel_rfl) rfl) (put1_any LB b r s x w.heap.size (w.heap.size + 1) _ h2 hO hl (by simp [go_sem]) hbx.at))
  have HB := Lib.hid hB
  have nf := neq_func
  clear h h2 hB hbx
  go_enter Try.func31, Try.ntmps31
  go_wp2_with fail
  (with_reducible refine EN.out.mono ?_)
  rintro e w1 ⟨rfl, hq⟩
  have F := Lib.hid (hq.boxed HB.out)
  clear hq EN HB c0
  go_wp2
  go_ret
  exact ⟨rfl, F.out⟩
/-- take, as it is called -/
def TakeQ (LB b : Nat) (r : Option Nat) (s : List Jo) (w w' : World) : Prop := Hq LB w' b r s.tail ∧ Mv b r w w'
theorem take_ht (LB b : Nat) (v : Value) (l : List Jo) (w : World) (ht : Ht LB w b v l) (hp : Hp.Hp Ed.ahead l) (hO : Ed.Own l) (hl : l.length ≤ 90000) (h0 : 0 < l.length) :
    Calls Try.prog 40 #[.pointer (some ⟨b, 0, none⟩)] w fun e w' => e = .returned (.tuple #[]) ∧ TakeQ LB b v.ownBlock (sort Ed.ahead l) w w' :=
  (take_in LB b v l w ht hp (by omega) h0).mono fun e w' ⟨he, v', a, m, ht', hp', ha, hpp, hmv, ho⟩ => ⟨he, ⟨v', m, ht', hp', (hO.perm hpp).tail, by rw [sort_take hO hp ha hpp]; rfl, ho⟩, hmv⟩
theorem min_sort {l : List Jo} (hp : Hp.Hp Ed.ahead l) (hO : Ed.Own l) : minR l = minR (sort Ed.ahead l) := by
  cases l with
  | nil => rfl
  | cons a t => rw [hp_head wk (own_an hO) hp]; rfl
theorem TakeQ.boxed {LB b : Nat} {r : Option Nat} {s : List Jo} {w W w' : World} (h : TakeQ LB b r s W w') (hb : Below w.heap.size w W) : TakeQ LB b r s w w' := ⟨h.1, (Mv.of_below hb).trans h.2 (fun j e => .inl e)⟩
theorem TakeQ.then {LB b : Nat} {r : Option Nat} {s : List Jo} {w W w' : World} (h : TakeQ LB b r s w W) (hb : Below W.heap.size W w') : TakeQ LB b r s w w' := ⟨h.1.call hb, h.2.trans (Mv.of_below (b := b) (r := none) hb) (fun j e => by cases e)⟩
theorem min_any (LB b : Nat) (r : Option Nat) (s : List Jo) (w : World) (h : Hq LB w b r s) :
    Calls Try.prog 26 #[.pointer (some ⟨b, 0, none⟩)] w fun e w' => e = .returned (.tuple #[.agg #[.int .i64 (minR s).1.id, .int .i64 (minR s).1.rel, .int .i64 (minR s).1.dl, .int .i64 (minR s).1.le], .bool (minR s).2]) ∧ Below w.heap.size w w' := by
  obtain ⟨v, l, ht, hp, ho, rfl, rfl⟩ := h
  rw [← min_sort hp ho]
  exact min_ht LB b v l w ht
theorem take_q (LB b : Nat) (r : Option Nat) (s : List Jo) (w : World) (h : Hq LB w b r s) (hl : s.length ≤ 80000) (h0 : 0 < s.length) :
    Calls Try.prog 40 #[.pointer (some ⟨b, 0, none⟩)] w fun e w' => e = .returned (.tuple #[]) ∧ TakeQ LB b r s w w' := by
  obtain ⟨v, l, ht, hp, ho, rfl, rfl⟩ := h
  rw [sort_len] at hl h0
  exact take_ht LB b v l w ht hp ho (by omega) h0
theorem Mv.alloc {b : Nat} {r : Option Nat} {u w : World} (h : Mv b r u w) (o : Obj) : Mv b r u (w.alloc o) :=
  h.trans (Mv.of_below (b := b) (r := none) ((Below.refl _ _).alloc (Nat.le_refl _) _)) (fun j e => by cases e)
theorem Bx.mvb {b X : Nat} {r : Option Nat} {w w' : World} {x : Jo} (h : Bx w X x) (m : Mv b r w w') (hb : X ≠ b) (hr : r ≠ some X) : Bx w' X x := h.of_block (m.block X (lt_of_heap h) hb hr)
theorem Hq.mv {LB b Y : Nat} {r : Option Nat} {s : List Jo} {w w' : World} (h : Hq LB w b r s) (m : Mv Y none w w') (hb : b ≠ Y) (hr : r ≠ some Y) : Hq LB w' b r s :=
  h.of_blocks (m.block b h.lt hb (by simp)) fun k hk => m.block k (h.rlt k hk).2 (by rintro rfl; exact hr hk) (by simp)
/-- a block of the call's own was written behind it -/
theorem TakeQ.wrote {LB b Y : Nat} {r : Option Nat} {s : List Jo} {w W w' : World} (h : TakeQ LB b r s w W) (m : Mv Y none W w') (hY : w.heap.size ≤ Y) (hb : b ≠ Y) (hr : r ≠ some Y) : TakeQ LB b r s w w' :=
  ⟨h.1.mv m hb hr, h.2.row1 m (.inr hY)⟩
set_option maxHeartbeats 1000000 in
/-- what Take tells and leaves -/
theorem take_any (LB b : Nat) (r : Option Nat) (s : List Jo) (w : World) (h : Hq LB w b r s) (hl : s.length ≤ 80000) :
    Calls Try.prog 28 #[.pointer (some ⟨b, 0, none⟩)] w fun e w' => e = .returned (.tuple #[.agg #[.int .i64 (minR s).1.id, .int .i64 (minR s).1.rel, .int .i64 (minR s).1.dl, .int .i64 (minR s).1.le], .bool (minR s).2]) ∧ TakeQ LB b r s w w' := by
  have hmf : ∀ (fn : Fn) (first cap : Array Value) (w : World), (Instr.makeFunc fn first cap).run Try.prog w = .ok (.func fn first cap) w := fun _ _ _ _ => rfl
  have b1 : Below w.heap.size w (w.alloc (.cells #[.int .i64 0, .int .i64 0, .int .i64 0, .int .i64 0] 31)) := (Below.refl _ w).alloc (Nat.le_refl _) _
  have H := Lib.hid (h.call b1)
  have HB := Lib.hid b1
  have HY := Lib.hid (bx_new w ⟨0, 0, 0, 0⟩)
  have hbY : b ≠ w.heap.size := by have := h.lt; omega
  have hrY : r ≠ some w.heap.size := fun e => by have := (h.rlt _ e).2; omega
  have EN := Lib.hid (fun W (hq : Hq LB W b r s) h0 => ends_any 40 #[.pointer (some ⟨b, 0, none⟩)] #[] W _ (enters_of Try.func40 (by kernel_rfl) rfl) (take_q LB b r s W hq hl h0))
  have MI := Lib.hid (fun W h => min_any LB b r s W h)
  obtain ⟨Y, hYe⟩ : ∃ Y, Y = w.heap.size := ⟨_, rfl⟩
  rw [← hYe] at HY hbY hrY
  clear h b1
  go_enter Try.func28, Try.ntmps28
  go_wp2_with fail
  rw [← hYe]
  generalize w.alloc (.cells #[.int .i64 0, .int .i64 0, .int .i64 0, .int .i64 0] 31) = W0 at *
  have HYe := Lib.hid hYe
  clear hYe
  (with_reducible refine (MI.out _ H.out).mono ?_)
  rintro e W1 ⟨rfl, b1⟩
  have H1 := Lib.hid (H.out.call b1)
  have HB1 := Lib.hid (HB.out.trans (b1.mono HB.out.size))
  have HY1 := Lib.hid (HY.out.call b1)
  have hYl := lt_of_heap HY1.out
  clear b1 H HB HY MI
  cases s with
  | nil =>
    unfold minR
    obtain ⟨y0, y1, y2, y3⟩ := HY1.out.at
    have f0 := HY1.out.free 0
    have f1 := HY1.out.free 1
    have f2 := HY1.out.free 2
    have f3 := HY1.out.free 3
    have T0 : Hid (TakeQ LB b r [] w W1) := Lib.hid ⟨H1.out, Mv.of_below HB1.out⟩
    clear EN
    have hYl2 : Y < W1.heap.size + 1 := by omega
    go_wp2
    refine bodyPost_ret (v := .tuple #[.agg #[.int .i64 0, .int .i64 0, .int .i64 0, .int .i64 0], .bool false]) (by simp [results, Try.results28, go_sem, y0, y1, y2, y3, hYl, hYl2]) rfl ⟨rfl, T0.out.wrote (Y := Y) ?_ (by rw [HYe.out]; exact Nat.le_refl _) hbY hrY⟩
    repeat (first | exact Mv.refl _ _ _ | refine Mv.set ?_ _ (.inl rfl) | refine Mv.alloc ?_ _)
  | cons a t =>
    have E2 := Lib.hid (fun W hq => EN.out W hq (by simp))
    unfold minR
    simp only
    have b2 : Below W1.heap.size W1 (W1.alloc (.cells #[.int .i64 a.id, .int .i64 a.rel, .int .i64 a.dl, .int .i64 a.le] 31)) := (Below.refl _ _).alloc (Nat.le_refl _) _
    have H2 := Lib.hid (H1.out.call b2)
    have HB2 := Lib.hid (HB1.out.trans (b2.mono HB1.out.size))
    have HY2 := Lib.hid (HY1.out.call b2)
    have HL2 := Lib.hid (bx_new W1 a)
    have hbL : W1.heap.size ≠ b := by have := H1.out.lt; omega
    have hrL : r ≠ some W1.heap.size := fun e => by have := (H1.out.rlt _ e).2; omega
    have hYL : Y ≠ W1.heap.size := by omega
    clear EN b2 H1 HB1 HY1
    go_wp2_with fail
    generalize W1.alloc (.cells #[.int .i64 a.id, .int .i64 a.rel, .int .i64 a.dl, .int .i64 a.le] 31) = W2 at *
    generalize W1.heap.size = L at *
    (with_reducible refine (E2.out W2 H2.out).mono ?_)
    rintro e W3 ⟨rfl, hq⟩
    have T3 : Hid (TakeQ LB b r (a :: t) w W3) := Lib.hid (hq.boxed HB2.out)
    have HL3 := HL2.out.mvb hq.2 hbL hrL
    have HY3 := HY2.out.mvb hq.2 (Ne.symm hbY) hrY
    obtain ⟨l0, l1, l2, l3⟩ := HL3.at
    obtain ⟨y0, y1, y2, y3⟩ := HY3.at
    have f0 := HY3.free 0
    have f1 := HY3.free 1
    have f2 := HY3.free 2
    have f3 := HY3.free 3
    have hYl3 := lt_of_heap HY3
    clear hq E2 H2 HB2 HY2 HL2 HL3 HY3 hYl
    go_wp2
    refine bodyPost_ret (v := .tuple #[.agg #[.int .i64 a.id, .int .i64 a.rel, .int .i64 a.dl, .int .i64 a.le], .bool true]) (by simp [results, Try.results28, go_sem, y0, y1, y2, y3]) rfl ⟨rfl, T3.out.wrote (Y := Y) ?_ (by rw [HYe.out]; exact Nat.le_refl _) hbY hrY⟩
    repeat (first | exact Mv.refl _ _ _ | refine Mv.set ?_ _ (.inl rfl) | refine Mv.alloc ?_ _)
end Go.Proofs.Yteagimnlhopjpaa.Hj
