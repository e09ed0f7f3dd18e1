/- Contracts of package heap's New, Len, Min, Put, Take and Change. -/
import Derived.Test.YtphnabnpapdpeaaHpE
namespace Go.Proofs.Ytphnabnpapdpeaa.Hp
open Go.ChangeShapes Go.WideShapes Go.ChangeAt Go.RowKit Go.Joins
set_option maxRecDepth 100000
set_option maxRecDepth 100000
set_option linter.unusedVariables false
set_option linter.unusedSimpArgs false
/-- a heap in block b, of these things, in order; r: the block in which they lie -/
def Hq (LB : Nat) (w : World) (b : Nat) (r : Option Nat) (s : List Int) : Prop := ∃ v l, Ht LB w b v l ∧ Hp ltI l ∧ sort ltI l = s ∧ v.ownBlock = r
/-- where they lie now: where they lay, or in a new block -/
def Nw (w : World) (r r' : Option Nat) : Prop := ∀ k, r' = some k → r = some k ∨ w.heap.size ≤ k
section
variable {LB b : Nat} {r : Option Nat} {s : List Int} {w w' : World}
theorem Hq.call (h : Hq LB w b r s) (hb : Below w.heap.size w w') : Hq LB w' b r s := by
  obtain ⟨v, l, ht, h2⟩ := h
  exact ⟨v, l, ht.call hb, h2⟩
theorem Hq.lt (h : Hq LB w b r s) : b < w.heap.size := by obtain ⟨v, l, ht, -⟩ := h; exact ht.lt
theorem Hq.lb (h : Hq LB w b r s) : LB ≤ b := by obtain ⟨v, l, ht, -⟩ := h; exact ht.lb
theorem Hq.rlt (h : Hq LB w b r s) : ∀ k, r = some k → LB ≤ k ∧ k < w.heap.size := by obtain ⟨v, l, ht, -, -, rfl⟩ := h; exact ht.row.lt
theorem Hq.head (h : Hq LB w b r s) : ∃ cs, w.heap[b]? = some (.cells cs 40 (0, 0)) := by obtain ⟨v, l, ht, -⟩ := h; exact ⟨_, ht.head⟩
theorem Hq.row (h : Hq LB w b r s) : ∀ k, r = some k → ∃ cs, w.heap[k]? = some (.cells cs 3 (0, 0)) := by obtain ⟨v, l, ht, -, -, rfl⟩ := h; exact ht.row.block
/-- another heap, or a row, has turned -/
theorem Hq.of_blocks (h : Hq LB w b r s) (hb : w'.heap[b]? = w.heap[b]?) (hr : ∀ k, r = some k → w'.heap[k]? = w.heap[k]?) : Hq LB w' b r s := by
  obtain ⟨v, l, ht, h2, h3, rfl⟩ := h
  exact ⟨v, l, ht.of_blocks hb hr, h2, h3, rfl⟩
theorem Hq.srt (h : Hq LB w b r s) : Srt ltI s := by obtain ⟨v, l, -, -, rfl, -⟩ := h; exact sort_srt ordI.wk l
end
theorem Nw.trans {u v : World} {r r1 r2 : Option Nat} (h : Nw u r r1) (k : Nw v r1 r2) (hs : u.heap.size ≤ v.heap.size) : Nw u r r2 := by
  intro j hj
  rcases k j hj with e | e
  · exact h j e
  · exact .inr (by omega)
theorem Nw.refl (w : World) (r : Option Nat) : Nw w r r := fun k hk => .inl hk
theorem new_any (w : World) :
    Calls Try.prog 9 #[.func (.func 10) #[] #[]] w fun e w' => e = .returned (.pointer (some ⟨w.heap.size, 0, none⟩)) ∧ w' = w.alloc (.cells #[.func (.func 10) #[] #[], .slice none 0 0] 40) := by
  go_enter Try.func9, Try.ntmps9
  go_wp2
  go_ret
  exact ⟨rfl, rfl⟩
theorem hq_new (w : World) : Hq w.heap.size (w.alloc (.cells #[.func (.func 10) #[] #[], .slice none 0 0] 40)) w.heap.size none [] :=
  ⟨.slice none 0 0, [], ⟨World.alloc_heap_new _ _, nrow_nil _ _, Nat.le_refl _⟩, hp_nil, rfl, rfl⟩
theorem len_ht (LB b : Nat) (v : Value) (l : List Int) (w : World) (h : Ht LB w b v l) :
    Calls Try.prog 22 #[.pointer (some ⟨b, 0, none⟩)] w fun e w' => e = .returned (.int .i64 (l.length : Int)) ∧ w' = w := by
  have c1 := h.c1
  obtain ⟨ao, cap, rfl, -, -⟩ := h.row.form
  clear h
  generalize l.length = n at *
  go_enter Try.func22, Try.ntmps22
  go_wp2
  go_ret
  exact ⟨rfl, rfl⟩
theorem len_any (LB b : Nat) (r : Option Nat) (s : List Int) (w : World) (h : Hq LB w b r s) :
    Calls Try.prog 22 #[.pointer (some ⟨b, 0, none⟩)] w fun e w' => e = .returned (.int .i64 (s.length : Int)) ∧ w' = w := by
  obtain ⟨v, l, ht, -, rfl, -⟩ := h
  rw [sort_len]
  exact len_ht LB b v l w ht
/-- the least one, and whether there is one -/
def minR : List Int → Int × Bool
  | [] => (0, false)
  | a :: _ => (a, true)
theorem min_ht (LB b : Nat) (v : Value) (l : List Int) (w : World) (h : Ht LB w b v l) (hl : l.length ≤ 900000) :
    Calls Try.prog 13 #[.pointer (some ⟨b, 0, none⟩)] w fun e w' => e = .returned (.tuple #[.int .i64 (minR l).1, .bool (minR l).2]) ∧ w' = w := by
  have LE := Lib.hid (fun w h => len_ht LB b v l w h)
  have H := Lib.hid h
  cases l with
  | nil =>
    clear h
    unfold minR
    simp only [List.length_nil] at *
    go_enter Try.func13, Try.ntmps13
    go_wp2_with fail
    (with_reducible refine (LE.out _ H.out).mono ?_)
    rintro e w1 ⟨rfl, rfl⟩
    go_wp2
    exact bodyPost_ret (v := .tuple #[.int .i64 0, .bool false]) (by simp [results, Try.results13, go_sem]) rfl ⟨rfl, rfl⟩
  | cons a t =>
    have c1 := h.c1
    obtain ⟨g, cap, rfl, -, -, hg⟩ := h.row.inBlock (by simp)
    have ca : w.cell? ⟨g, 0, none⟩ = some (.int .i64 a) := h.row.at (i := 0) rfl
    unfold minR
    simp only at *
    obtain ⟨n, hn⟩ : ∃ n, n = (a :: t).length := ⟨_, rfl⟩
    rw [← hn] at LE H c1
    have hn0 : (0 : Int) < (n : Int) := by rw [hn, List.length_cons]; omega
    have hnz : ((n : Int) == 0) = false := by rw [beq_eq_false_iff_ne]; omega
    clear h hn
    go_enter Try.func13, Try.ntmps13
    go_wp2_with fail
    (with_reducible refine (LE.out _ H.out).mono ?_)
    rintro e w1 ⟨rfl, rfl⟩
    go_wp2
    exact bodyPost_ret (v := .tuple #[.int .i64 a, .bool true]) (by simp [results, Try.results13, go_sem]) rfl ⟨rfl, rfl⟩
/-- functions, held against none -/
theorem neq_func_in (d : Nat) (w : World) : (Op.equalIn (d + 1) 26 (.func (.func 10) #[] #[]) .nilFunc).run Try.prog w = .ok false w := by
  simp [Op.equalIn, run_underlying Try.underlying26]
theorem neq_func (w : World) : (binOp .neq 26 (.func (.func 10) #[] #[]) .nilFunc).run Try.prog w = .ok (.bool true) w := by
  simp only [binOp]
  simp [Op.equal, Op.maxDepth, neq_func_in 9999 w]
theorem neq_nil_in (d : Nat) (w : World) : (Op.equalIn (d + 1) 26 .nilFunc .nilFunc).run Try.prog w = .ok true w := by
  simp [Op.equalIn, run_underlying Try.underlying26]
theorem neq_nil (w : World) : (binOp .neq 26 .nilFunc .nilFunc).run Try.prog w = .ok (.bool false) w := by
  simp only [binOp]
  simp [Op.equal, Op.maxDepth, neq_nil_in 9999 w]
theorem eql_func_in (F : Nat) (d : Nat) (w : World) : (Op.equalIn (d + 1) 32 (.func (.func F) #[] #[]) .nilFunc).run Try.prog w = .ok false w := by
  simp [Op.equalIn, run_underlying Try.underlying32]
theorem eql_func (F : Nat) (w : World) : (binOp .eql 32 (.func (.func F) #[] #[]) .nilFunc).run Try.prog w = .ok (.bool false) w := by
  simp only [binOp]
  simp [Op.equal, Op.maxDepth, eql_func_in F 9999 w]
theorem eql_nil_in (d : Nat) (w : World) : (Op.equalIn (d + 1) 32 .nilFunc .nilFunc).run Try.prog w = .ok true w := by
  simp [Op.equalIn, run_underlying Try.underlying32]
theorem eql_nil (w : World) : (binOp .eql 32 .nilFunc .nilFunc).run Try.prog w = .ok (.bool true) w := by
  simp only [binOp]
  simp [Op.equal, Op.maxDepth, eql_nil_in 9999 w]
/-- put, as it is called -/
def PutQ (LB b : Nat) (r : Option Nat) (s : List Int) (w w' : World) : Prop := ∃ r', Hq LB w' b r' s ∧ Mv b r w w' ∧ Nw w r r'
theorem put1_any (LB b : Nat) (r : Option Nat) (s : List Int) (x : Int) (P1 P2 : Nat) (w : World) (h : Hq LB w b r s) (hl : s.length ≤ 800000) (h1 : w.cell? ⟨P1, 0, none⟩ = some (.pointer (some ⟨b, 0, none⟩))) (h2 : w.cell? ⟨P2, 0, none⟩ = some (.int .i64 x)) :
    Calls Try.prog 29 #[.pointer (some ⟨P1, 0, none⟩), .pointer (some ⟨P2, 0, none⟩)] w fun e w' => e = .returned (.tuple #[]) ∧ PutQ LB b r (ins ltI x s) w w' := by
  obtain ⟨v, l, ht, hp, rfl, rfl⟩ := h
  rw [sort_len] at hl
  have PI := Lib.hid (put_in LB b v l x w ht hp (by omega) (by have := ht.lt; have := ht.lb; omega))
  go_enter Try.func29, Try.ntmps29
  go_wp2_with fail
  (with_reducible refine PI.out.mono ?_)
  rintro e w1 ⟨rfl, v', m, ht', hp', hpm, hmv, hnw⟩
  have F : Hid (PutQ LB b v.ownBlock (ins ltI x (sort ltI l)) w w1) := Lib.hid ⟨v'.ownBlock, ⟨v', m, ht', hp', by rw [← sort_ins ordI.wk x l (ordI.an _)]; exact sort_eq ordI.wk (ordI.an _) hpm, rfl⟩, hmv, fun k hk => by rcases hnw with e | ⟨j, e, hj⟩; exact .inl (e.symm.trans hk); exact .inr (by rw [e] at hk; cases hk; exact hj)⟩
  clear PI ht' hp' hpm hmv hnw ht hp h1 h2
  go_wp2
  go_end0
  exact ⟨rfl, F.out⟩
/-- boxes were made ahead of it -/
theorem PutQ.boxed {LB b : Nat} {r : Option Nat} {s : List Int} {w W w' : World} (h : PutQ LB b r s W w') (hb : Below w.heap.size w W) : PutQ LB b r s w w' := by
  obtain ⟨r', h1, h2, h3⟩ := h
  refine ⟨r', h1, (Mv.of_below hb).trans h2 (fun j e => .inl e), ?_⟩
  intro k hk
  rcases h3 k hk with e | e
  · exact .inl e
  · exact .inr (by have := hb.size; omega)
theorem put_any (LB b : Nat) (r : Option Nat) (s : List Int) (x : Int) (w : World) (h : Hq LB w b r s) (hl : s.length ≤ 800000) :
    Calls Try.prog 19 #[.pointer (some ⟨b, 0, none⟩), .int .i64 x] w fun e w' => e = .returned (.bool true) ∧ PutQ LB b r (ins ltI x s) w w' := by
  have hmf : ∀ (fn : Fn) (first cap : Array Value) (w : World), (Instr.makeFunc fn first cap).run Try.prog w = .ok (.func fn first cap) w := fun _ _ _ _ => rfl
  have hB : Below w.heap.size w ((w.alloc (.cells #[.pointer (some ⟨b, 0, none⟩)] 24)).alloc (.cells #[.int .i64 x] 3)) := ((Below.refl _ w).alloc (Nat.le_refl _) _).alloc (by simp) _
  have h2 := h.call hB
  have c0 : ((w.alloc (.cells #[.pointer (some ⟨b, 0, none⟩)] 24)).alloc (.cells #[.int .i64 x] 3)).cell? ⟨b, 0, none⟩ = some (.func (.func 10) #[] #[]) := by obtain ⟨v, l, ht, -⟩ := h2; exact ht.c0
  have EN := Lib.hid (ends_any 29 #[] #[.pointer (some ⟨w.heap.size, 0, none⟩), .pointer (some ⟨w.heap.size + 1, 0, none⟩)] _ _ (enters_of Try.func29 (by kernel_rfl) rfl) (put1_any LB b r s x w.heap.size (w.heap.size + 1) _ h2 hl (by simp [go_sem]) (by simp [go_sem])))
  have HB := Lib.hid hB
  have nf := neq_func
  clear h h2 hB
  go_enter Try.func19, Try.ntmps19
  go_wp2_with fail
  (with_reducible refine EN.out.mono ?_)
  rintro e w1 ⟨rfl, hq⟩
  have F := Lib.hid (hq.boxed HB.out)
  clear hq EN HB c0
  go_wp2
  go_ret
  exact ⟨rfl, F.out⟩
/-- take, as it is called -/
def TakeQ (LB b : Nat) (r : Option Nat) (s : List Int) (w w' : World) : Prop := Hq LB w' b r s.tail ∧ Mv b r w w'
theorem take_ht (LB b : Nat) (v : Value) (l : List Int) (w : World) (ht : Ht LB w b v l) (hp : Hp ltI l) (hl : l.length ≤ 900000) (h0 : 0 < l.length) :
    Calls Try.prog 24 #[.pointer (some ⟨b, 0, none⟩)] w fun e w' => e = .returned (.tuple #[]) ∧ TakeQ LB b v.ownBlock (sort ltI l) w w' :=
  (take_in LB b v l w ht hp hl h0).mono fun e w' ⟨he, v', a, m, ht', hp', ha, hpp, hmv, ho⟩ => ⟨he, ⟨v', m, ht', hp', by rw [sort_take hp ha hpp]; rfl, ho⟩, hmv⟩
theorem min_sort {l : List Int} (hp : Hp ltI l) : minR l = minR (sort ltI l) := by
  cases l with
  | nil => rfl
  | cons a t => rw [hp_head ordI.wk (ordI.an _) hp]; rfl
/-- what Take tells and leaves -/
theorem take_any (LB b : Nat) (r : Option Nat) (s : List Int) (w : World) (h : Hq LB w b r s) (hl : s.length ≤ 800000) :
    Calls Try.prog 11 #[.pointer (some ⟨b, 0, none⟩)] w fun e w' => e = .returned (.tuple #[.int .i64 (minR s).1, .bool (minR s).2]) ∧ TakeQ LB b r s w w' := by
  have hmf : ∀ (fn : Fn) (first cap : Array Value) (w : World), (Instr.makeFunc fn first cap).run Try.prog w = .ok (.func fn first cap) w := fun _ _ _ _ => rfl
  have H := Lib.hid h
  obtain ⟨v, l, ht, hp, rfl, rfl⟩ := h
  rw [sort_len] at hl
  have MI := Lib.hid (min_ht LB b v l w ht (by omega))
  have EN := Lib.hid (fun h0 => ends_any 24 #[.pointer (some ⟨b, 0, none⟩)] #[] _ _ (enters_of Try.func24 (by kernel_rfl) rfl) (take_ht LB b v l w ht hp (by omega) h0))
  rw [← min_sort hp]
  have hq := H.out
  clear H ht hp hl
  cases l with
  | nil =>
    have F : Hid (TakeQ LB b v.ownBlock (sort ltI []) w w) := Lib.hid ⟨hq, Mv.refl _ _ _⟩
    clear EN hq
    unfold minR at *
    go_enter Try.func11, Try.ntmps11
    go_wp2_with fail
    (with_reducible refine MI.out.mono ?_)
    rintro e w1 ⟨rfl, rfl⟩
    go_wp2
    exact bodyPost_ret (v := .tuple #[.int .i64 0, .bool false]) (by simp [results, Try.results11, go_sem]) rfl ⟨rfl, F.out⟩
  | cons a t =>
    have E2 := Lib.hid (EN.out (by simp))
    clear EN hq
    unfold minR at *
    simp only at *
    generalize sort ltI (a :: t) = s at *
    go_enter Try.func11, Try.ntmps11
    go_wp2_with fail
    (with_reducible refine MI.out.mono ?_)
    rintro e w1 ⟨rfl, rfl⟩
    go_wp2_with fail
    (with_reducible refine E2.out.mono ?_)
    rintro e w2 ⟨rfl, hq⟩
    have F := Lib.hid hq
    clear hq E2 MI
    go_wp2
    exact bodyPost_ret (v := .tuple #[.int .i64 a, .bool true]) (by simp [results, Try.results11, go_sem]) rfl ⟨rfl, F.out⟩
theorem min_any (LB b : Nat) (r : Option Nat) (s : List Int) (w : World) (h : Hq LB w b r s) (hl : s.length ≤ 800000) :
    Calls Try.prog 13 #[.pointer (some ⟨b, 0, none⟩)] w fun e w' => e = .returned (.tuple #[.int .i64 (minR s).1, .bool (minR s).2]) ∧ w' = w := by
  obtain ⟨v, l, ht, hp, rfl, rfl⟩ := h
  rw [sort_len] at hl
  rw [← min_sort hp]
  exact min_ht LB b v l w ht (by omega)
/-- change, as it is called -/
def ChangeQ (LB b : Nat) (r : Option Nat) (s : List Int) (w w' : World) : Prop := Hq LB w' b r s ∧ Mv b r w w'
theorem change1_any (LB b : Nat) (r : Option Nat) (s : List Int) (x : Int) (P1 P2 : Nat) (w : World) (h : Hq LB w b r s) (hl : s.length ≤ 800000) (h0 : 0 < s.length) (h1 : w.cell? ⟨P1, 0, none⟩ = some (.pointer (some ⟨b, 0, none⟩))) (h2 : w.cell? ⟨P2, 0, none⟩ = some (.int .i64 x)) :
    Calls Try.prog 25 #[.pointer (some ⟨P1, 0, none⟩), .pointer (some ⟨P2, 0, none⟩)] w fun e w' => e = .returned (.tuple #[]) ∧ ChangeQ LB b r (ins ltI x s.tail) w w' := by
  obtain ⟨v, l, ht, hp, rfl, rfl⟩ := h
  rw [sort_len] at hl h0
  have PI := Lib.hid (change_in LB b v l x w ht hp (by omega) h0)
  have HP := Lib.hid hp
  clear ht hp
  go_enter Try.func25, Try.ntmps25
  go_wp2_with fail
  (with_reducible refine PI.out.mono ?_)
  rintro e w1 ⟨rfl, m, ht', hp', hpm, hmv⟩
  have F : Hid (ChangeQ LB b v.ownBlock (ins ltI x (sort ltI l).tail) w w1) := Lib.hid ⟨⟨v, m, ht', hp', by
    cases l with
    | nil => simp at h0
    | cons a t =>
      rw [hp_head ordI.wk (ordI.an _) HP.out, List.tail_cons]
      rw [List.set_cons_zero] at hpm
      exact sort_eq ordI.wk (ordI.an _) hpm, rfl⟩, hmv⟩
  clear PI ht' hp' hpm hmv HP h1 h2
  go_wp2
  go_end0
  exact ⟨rfl, F.out⟩
theorem change_any (LB b : Nat) (r : Option Nat) (s : List Int) (x : Int) (w : World) (h : Hq LB w b r s) (hl : s.length ≤ 800000) :
    Calls Try.prog 14 #[.pointer (some ⟨b, 0, none⟩), .int .i64 x] w fun e w' => e = .returned (.bool (minR s).2) ∧ ChangeQ LB b r (if (minR s).2 = true then ins ltI x s.tail else s) w w' := by
  have hmf : ∀ (fn : Fn) (first cap : Array Value) (w : World), (Instr.makeFunc fn first cap).run Try.prog w = .ok (.func fn first cap) w := fun _ _ _ _ => rfl
  have hB : Below w.heap.size w ((w.alloc (.cells #[.pointer (some ⟨b, 0, none⟩)] 24)).alloc (.cells #[.int .i64 x] 3)) := ((Below.refl _ w).alloc (Nat.le_refl _) _).alloc (by simp) _
  have h2 := h.call hB
  have LE := Lib.hid (len_any LB b r s _ h2)
  have EN := Lib.hid (fun h0 => ends_any 25 #[] #[.pointer (some ⟨w.heap.size, 0, none⟩), .pointer (some ⟨w.heap.size + 1, 0, none⟩)] _ _ (enters_of Try.func25 (by kernel_rfl) rfl) (change1_any LB b r s x w.heap.size (w.heap.size + 1) _ h2 hl h0 (by simp [go_sem]) (by simp [go_sem])))
  have HB := Lib.hid hB
  have HQ := Lib.hid h2
  clear h h2 hB
  cases s with
  | nil =>
    unfold minR
    simp only [List.length_nil, Bool.false_eq_true, if_false] at *
    clear EN
    go_enter Try.func14, Try.ntmps14
    go_wp2_with fail
    (with_reducible refine LE.out.mono ?_)
    rintro e w1 ⟨rfl, rfl⟩
    go_wp2
    go_ret
    exact ⟨rfl, HQ.out, .of_below HB.out⟩
  | cons a t =>
    have E2 := Lib.hid (EN.out (by simp))
    unfold minR
    simp only [if_true, List.tail_cons] at *
    have hn : (0 : Int) < (((a :: t).length : Nat) : Int) := by rw [List.length_cons]; omega
    generalize (a :: t).length = n at *
    generalize ins ltI x t = s at *
    clear EN HQ
    go_enter Try.func14, Try.ntmps14
    go_wp2_with fail
    (with_reducible refine LE.out.mono ?_)
    rintro e w1 ⟨rfl, rfl⟩
    clear LE
    go_wp2_with fail
    (with_reducible refine E2.out.mono ?_)
    rintro e w1 ⟨rfl, hq⟩
    have F : Hid (ChangeQ LB b r s w w1) := Lib.hid ⟨hq.1, (Mv.of_below HB.out).trans hq.2 (fun j e => .inl e)⟩
    clear hq E2 HB
    go_wp2
    go_ret
    exact ⟨rfl, F.out⟩
end Go.Proofs.Ytphnabnpapdpeaa.Hp
