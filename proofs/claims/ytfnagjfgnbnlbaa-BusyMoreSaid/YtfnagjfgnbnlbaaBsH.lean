/- Contract of package busy's Steps. -/
import Derived.Test.YtfnagjfgnbnlbaaBsG
import Derived.Test.YtfnagjfgnbnlbaaDmN
namespace Go.Proofs.Ytfnagjfgnbnlbaa.Bs
open Go.ChangeShapes Go.WideShapes Go.ChangeAt Go.RowKit Go.Joins Go.Shelf
open Pm (Tk chk chk_iff rowB rowB_all rowB_len TkAt Ts TRow loadR)
open Dm (isTime isTime_iff nums NRow Ns nrow_nil nrow_append)
attribute [local go_sem] Oper.semAt_some
set_option maxRecDepth 100000
set_option maxRecDepth 100000
set_option linter.unusedVariables false
set_option linter.unusedSimpArgs false
theorem wpListIn_append_run {F : Fence} {n : Nat} {P : Program} (w : World) {ops : Array Oper} {rest : List Oper} {o : Oper} {a : Act} {Q : Exit → Act → World → Prop} (hgd : o.guard = none) (s x : Operand) (t tn : TypeId)
    (hop : o.op = .call { callee := .builtin .append, args := #[s, x], argTypes := #[t, tn] }) (vs vx : Value) (hs : a.eval s = vs) (hx : a.eval x = vx)
    (v' : Value) (w' : World) (hr : (Builtin.append_ #[t, tn] o.type #[vs, vx]).run P w = .ok v' w') (h : wpListIn F n P ops Q rest (a.put o.dst v') w') : wpListIn F n P ops Q (o :: rest) a w := by
  refine wpListIn_plain hgd fun K hK' => ?_
  unfold Oper.wpIn
  refine ⟨?_, ?_⟩
  · simp [Oper.about, hop, resolve, Target.leads, Sem.run_pure]
  · rw [Oper.semAt_plain F _ _ (by rw [hop]; intro c hc'; cases hc')]
    simp [execOp, hop, resolve, invoke, builtin, hs, hx, hr, Result.andThen]
    exact hK' _ _ h
/-- each one is the work of the one ahead of it; all but the last one are below m, which is the last one -/
def fullW (l : List Tk) (m : Int) : Int → List Int → Prop
  | _, [] => False
  | x, y :: r => y = workR l x ∧ ((r = [] ∧ y = m) ∨ (y < m ∧ fullW l m y r))
theorem fullW_uniq {l : List Tk} {m : Int} : ∀ {r s : List Int} {x : Int}, fullW l m x r → fullW l m x s → r = s := by
  intro r
  induction r with
  | nil => intro s x h; exact h.elim
  | cons y r ih =>
    intro s x h k
    cases s with
    | nil => exact k.elim
    | cons z s =>
      obtain ⟨h1, h2⟩ := h
      obtain ⟨k1, k2⟩ := k
      obtain rfl : y = z := by omega
      congr 1
      rcases h2 with ⟨rfl, h2⟩ | ⟨h2, h3⟩
      · rcases k2 with ⟨rfl, k2⟩ | ⟨k2, k3⟩
        · rfl
        · omega
      · rcases k2 with ⟨rfl, k2⟩ | ⟨k2, k3⟩
        · omega
        · exact ih h3 k3
theorem fullW_snoc {l : List Tk} {m : Int} : ∀ {r : List Int} {x y : Int}, chainW l x (r ++ [y]) → (∀ z ∈ r, z < m) → y = m → fullW l m x (r ++ [y]) := by
  intro r
  induction r with
  | nil => intro x y h _ hy; exact ⟨h.1, .inl ⟨rfl, hy⟩⟩
  | cons z r ih => intro x y h hm hy; exact ⟨h.1, .inr ⟨hm z (by simp), ih h.2 (fun a ha => hm a (by simp [ha])) hy⟩⟩
/-- what Steps tells -/
def StepsOf (l : List Tk) (r : List Int) : Prop := (((lengthR l).e ≠ 0 ∨ l = []) ∧ r = []) ∨ ((lengthR l).e = 0 ∧ l ≠ [] ∧ fullW l (lengthR l).n 1 r)
theorem StepsOf.uniq {l : List Tk} {r s : List Int} (h : StepsOf l r) (k : StepsOf l s) : r = s := by
  rcases h with ⟨h1, rfl⟩ | ⟨h1, h2, h3⟩
  · rcases k with ⟨k1, rfl⟩ | ⟨k1, k2, k3⟩
    · rfl
    · rcases h1 with h1 | h1
      · exact absurd k1 h1
      · exact absurd h1 k2
  · rcases k with ⟨k1, rfl⟩ | ⟨k1, k2, k3⟩
    · rcases k1 with k1 | k1
      · exact absurd h1 k1
      · exact absurd k1 h2
    · exact fullW_uniq h3 k3
/-- Steps' own blocks: the length, the row so far -/
structure SpI (w : World) (L : Nat) (m : Int) (pre : List Int) (W : World) : Prop where
  len : W.heap[L]? = some (.cells #[.int .i64 m] 2 (0, 0))
  bel : Below w.heap.size w W
  h1 : (pre.length : Int) ≤ lastI 0 pre
  h2 : lastI 0 pre < m
  h3 : ∀ z ∈ pre, z < m
  row : ∃ v, W.heap[L + 1]? = some (.cells #[v] 43 (0, 0)) ∧ NRow (L + 7) W v pre
def SpX (id : Nat) (l : List Tk) (w : World) (L : Nat) (m : Int) (c : Code) (pre : List Int) (W : World) : Prop :=
  c = .exit id ∧ fullW l m 1 pre ∧ Below w.heap.size w W ∧ ∃ v, W.heap[L + 1]? = some (.cells #[v] 43 (0, 0)) ∧ NRow (L + 7) W v pre
theorem row_off {L lo hi : Nat} {A B : World} {v : Value} {r : List Int} (h : NRow (L + 7) A v r) (o : Off lo hi A B) (h1 : hi ≤ L + 7) : NRow (L + 7) B v r :=
  h.of_blocks fun k hk => o.block k (h.lt k hk).2 (.inr (by have := (h.lt k hk).1; omega))
theorem spI_off {w : World} {L : Nat} {m : Int} (h1 : w.heap.size ≤ L) (pre : List Int) (A B : World) (h : SpI w L m pre A) (o : Off (L + 3) (L + 7) A B) : SpI w L m pre B := by
  obtain ⟨a, b, c, d, e, v, f, g⟩ := h
  exact ⟨o.at (by omega) a, o.below (by omega) b (Nat.le_refl _), c, d, e, v, o.at (by omega) f, row_off g o (by omega)⟩
theorem spX_off {id : Nat} {l : List Tk} {w : World} {L : Nat} {m : Int} (h1 : w.heap.size ≤ L) (c : Code) (pre : List Int) (A B : World) (h : SpX id l w L m c pre A) (o : Off (L + 3) (L + 7) A B) : SpX id l w L m c pre B := by
  obtain ⟨a, b, c, v, f, g⟩ := h
  exact ⟨a, b, o.below (by omega) c (Nat.le_refl _), v, o.at (by omega) f, row_off g o (by omega)⟩
/-- one number more -/
theorem SpI.app {w W : World} {L : Nat} {m x : Int} {pre : List Int} {v : Value} (hw : w.heap.size ≤ L) (hz : L + 7 ≤ W.heap.size) (hlen : W.heap[L]? = some (.cells #[.int .i64 m] 2 (0, 0))) (hb : Below w.heap.size w W)
    (hv : W.heap[L + 1]? = some (.cells #[v] 43 (0, 0))) (hr : NRow (L + 7) W v pre) (hn : pre.length ≤ 4000000) :
    ∃ v' w', (Builtin.append_ #[43, 43] 43 #[v, .slice (some ⟨W.heap.size, 0, none⟩) 1 1]).run Try.prog (W.alloc (.cells #[.int .i64 x] 2)) = .ok v' w' ∧ w'.cell? ⟨L + 1, 0, none⟩ = some v ∧ w'.frozen? ⟨L + 1, 0, none⟩ = false ∧
      (w'.setCell ⟨L + 1, 0, none⟩ v').cell? ⟨L, 0, none⟩ = some (.int .i64 m) ∧
      (w'.setCell ⟨L + 1, 0, none⟩ v').heap[L]? = some (.cells #[.int .i64 m] 2 (0, 0)) ∧ (w'.setCell ⟨L + 1, 0, none⟩ v').heap[L + 1]? = some (.cells #[v'] 43 (0, 0)) ∧ NRow (L + 7) (w'.setCell ⟨L + 1, 0, none⟩ v') v' (pre ++ [x]) ∧ Below w.heap.size w (w'.setCell ⟨L + 1, 0, none⟩ v') ∧
      (∀ k, k < L + 7 → k ≠ L + 1 → (w'.setCell ⟨L + 1, 0, none⟩ v').heap[k]? = W.heap[k]?) ∧ KeepsFrom (L + 3) W (w'.setCell ⟨L + 1, 0, none⟩ v') := by
  obtain ⟨v', w', hap, ho, hbw, hk, hs⟩ := nrow_append (L + 7) W v pre x hr hz hn
  have hlt := fun k e => (hr.lt k e).1
  have b1 : w'.heap[L + 1]? = some (.cells #[v] 43 (0, 0)) := (hk _ (by omega) (fun e => by have := hlt _ e; omega)).trans hv
  have b0 : w'.heap[L]? = some (.cells #[.int .i64 m] 2 (0, 0)) := (hk _ (by omega) (fun e => by have := hlt _ e; omega)).trans hlen
  have other : ∀ k, k ≠ L + 1 → (w'.setCell ⟨L + 1, 0, none⟩ v').heap[k]? = w'.heap[k]? := fun k hn => Below.heap_setCell _ _ _ _ hn
  have hsz : (w'.setCell ⟨L + 1, 0, none⟩ v').heap.size = w'.heap.size := by simp [World.setCell]
  have c0 : (w'.setCell ⟨L + 1, 0, none⟩ v').heap[L]? = some (.cells #[.int .i64 m] 2 (0, 0)) := (other _ (by omega)).trans b0
  refine ⟨v', w', hap, by rw [Lib.cell_of_heap b1]; rfl, Lib.frozen_of_heap b1 0, by rw [Lib.cell_of_heap c0]; rfl, c0, ?_, ho.of_blocks fun k hk => other k (fun e => by have := (ho.lt k hk).1; omega), hb.trans ((hbw.mono (by have := hb.size; omega)).setCell (by simp; have := hb.size; omega) _), fun k hk1 hn1 => (other k hn1).trans (hk k (by omega) (fun e => by have := hlt _ e; omega)), ⟨by omega, fun k o hk1 ho1 hc1 => ?_⟩⟩
  · simp [World.setCell, Array.getElem?_modify, b1]
  · have hkl := (Array.getElem?_eq_some_iff.1 ho1).1
    rw [other k (fun e => by subst e; rw [hv] at ho1; cases ho1; cases hc1), hk k hkl (fun e => by obtain ⟨cur, hc⟩ := hr.block k e; rw [hc] at ho1; cases ho1; cases hc1)]
    exact ho1
set_option maxHeartbeats 4000000 in
theorem bsteps_any (l : List Tk) (ao : Option Addr) (cap : Nat) (w : World) (hT : Ts ao l w) (hl : l.length ≤ 1000000) :
    Calls Try.prog 19 #[.slice ao l.length cap] w fun e w' => ∃ v r, e = .returned v ∧ NRow w.heap.size w' v r ∧ StepsOf l r ∧ Below w.heap.size w w' := by
  have LE := Lib.hid (length_any l ao cap w hT hl)
  have SS := Lib.hid (fun w => steps_any ao l.length cap w)
  by_cases he : (lengthR l).e = 0
  · have hg : ∃ m, Good l m ∧ lengthR l = ⟨m, 0⟩ := by
      by_cases h1 : (loadR l).e = 0
      · by_cases h2 : (loadR l).n ≤ (loadR l).p
        · exact good_of h1 h2
        · rw [lengthR_over h1 (by omega)] at he; cases he
      · rw [lengthR_bad h1] at he; exact absurd he h1
    obtain ⟨m, hg, hE⟩ := hg
    rw [hE] at LE
    simp only at LE
    by_cases hm : m = 0
    · subst hm
      have E : Hid (StepsOf l []) := Lib.hid (.inl ⟨.inr (by
        rcases hg.2.2 with ⟨h, -⟩ | ⟨-, -, h⟩
        · exact h
        · have := h.pos; omega), rfl⟩)
      clear he hg hE SS
      go_enter Try.func19, Try.ntmps19
      go_wp2_with fail
      go_step3
      go_wp2_with fail
      (with_reducible refine LE.out.mono ?_)
      rintro e w1 ⟨rfl, b1⟩
      have K1 := Lib.hid (b1.alloc b1.size (.cells #[.int .i64 0] 2))
      clear b1 hT LE
      go_wp2
      try simp only [Exit.noGoto]
      exact bodyPost_ret (v := .slice none 0 0) (by simp [results, Try.results19, go_sem]) rfl ⟨_, _, rfl, nrow_nil _ _, E.out, K1.out⟩
    · have hne : l ≠ [] := by
        rcases hg.2.2 with ⟨-, h⟩ | ⟨h, -, -⟩
        · exact absurd h hm
        · exact h
      have m0 : 0 < m := by have := hg.1; omega
      have SO : Hid (∀ r, fullW l m 1 r → StepsOf l r) := Lib.hid (fun r h => .inr ⟨he, hne, by rw [hE]; exact h⟩)
      clear he hE hne
      have e0 : (m == 0) = false := by simpa using hm
      refine (callsIn_wide (n := 3)).1 ?_
      refine callsIn_of_wp_marks Try.func19 rfl trivial ?_ rfl
      simp only [Try.ntmps19, List.size_toArray, List.length_cons, List.length_nil, Nat.reduceAdd, Nat.reduceSub, Array.replicate_succ, Array.replicate_zero, List.push_toArray, List.append_toArray, List.nil_append, List.cons_append]
      refine wpIn_wide.2 ?_
      go_wp2_with fail
      go_step3
      go_wp2_with fail
      (with_reducible refine LE.out.mono ?_)
      rintro e w1 ⟨rfl, b1⟩
      have T1 := hT.call b1
      have K1 := b1
      have z1 := b1.size
      clear b1 LE
      go_wp2_with fail
      go_step3
      go_wp2_with fail
      (with_reducible refine (SS.out _).mono ?_)
      rintro e w2 ⟨rfl, e2⟩
      clear SS
      have b2 : Below w1.heap.size w1 w2 := by rw [e2]; exact (((Below.refl _ _).alloc (Nat.le_refl _) _).alloc (by simp) _).alloc (by simp; omega) _
      have lay : w2.heap[w1.heap.size]? = some (.cells #[.int .i64 m] 2 (0, 0)) ∧ w2.heap[w1.heap.size + 1]? = some (.cells #[.slice none 0 0] 43 (0, 0)) ∧ w2.heap[w1.heap.size + 2]? = some (.cells #[.slice ao l.length cap] 22 (0, 0)) ∧ w2.heap.size = w1.heap.size + 3 := by
        rw [e2]
        refine ⟨?_, ?_, ?_, by simp⟩
        all_goals simp only [World.alloc, Array.getElem?_push, Array.size_push]
        · rw [if_neg (by omega), if_neg (by omega), if_pos trivial]
        · rw [if_neg (by omega), if_pos trivial]
        · rw [if_pos trivial]
      have he2 : ((w1.alloc (.cells #[.int .i64 m] 2)).alloc (.cells #[.slice none 0 0] 43)).heap.size = w1.heap.size + 1 + 1 := by simp
      simp only [he2]
      clear e2 he2
      obtain ⟨y0, y1, y2, z2⟩ := lay
      have T2 := T1.call b2
      have K2 := K1.trans (b2.mono z1)
      obtain ⟨b, hb, hbo⟩ : ∃ b, (b < w.heap.size ∨ b = w1.heap.size + 2) ∧ (0 < l.length → ∀ k off, ao = some ⟨k, off, none⟩ → k = b) := by
        by_cases h0 : 0 < l.length
        · obtain ⟨g, off, rfl, hg, -⟩ := hT h0
          exact ⟨g, .inl hg, fun _ k o e => by cases e; rfl⟩
        · exact ⟨w1.heap.size + 2, .inr rfl, fun h => absurd h h0⟩
      clear T1 K1 b2 hT
      have GN := Lib.hid (fun (pre : List Int) (x : Int) hc h1 h2 => good_next hg (pre := pre) (x := x) hc h1 h2)
      have cX : w2.cell? ⟨w1.heap.size + 2, 0, none⟩ = some (.slice ao l.length cap) := by rw [Lib.cell_of_heap y2]; rfl
      have I0 : SpI w w1.heap.size m [] w2 := ⟨y0, K2, by simp [lastI], by simpa [lastI] using m0, by simp, _, y1, nrow_nil _ _⟩
      have m1 := hg.2.1
      clear hg y0 y1 y2 K2
      generalize w1.heap.size = L at *
      go_wp2_with fail
      refine (wpIn_wide (n := 3)).1 ?_
      refine range_steps 3 (by omega) l ao cap (L + 2) b 1048576 (by omega) hbo rfl rfl cX T2 (by omega)
        (SpI w L m) (SpX 0 l w L m) (by rw [z2]; exact spI_off z1) (by rw [z2]; exact spX_off z1) (fun pre A h => by have := h.h1; have := h.h2; omega) I0
        (fun x => { tmps := #[.slice ao l.length cap, undef, .slice none 0 0, .pointer (some ⟨L, 0, none⟩), .int .i64 0, .pointer (some ⟨L + 1, 0, none⟩), .int .i64 x, .tuple #[.int .i64 m, .int .i64 0], .slice ao l.length cap, .tuple #[.int .i64 m, .int .i64 0], .int .i64 m, .int .i64 0, .int .i64 0, .bool false, .bool false, .int .i64 m, .bool false, .bool false, .slice ao l.length cap, .func (.func 38) #[] #[.pointer (some ⟨L + 1 + 1, 0, none⟩)], .int .i64 x, undef, undef, undef, undef, undef, undef, undef, undef], defers := [] }) ?assign ?body ?stop
      case assign =>
        intro Y x W K hK
        simp only [encS]
        gi_wp2
        exact hK
      case body =>
        rintro Y pre x W hz ⟨i1, i2, i3, i4, i5, v, i6, i7⟩ hc
        rw [z2] at hz
        have ct : W.cell? ⟨L + 1, 0, none⟩ = some v := by rw [Lib.cell_of_heap i6]; rfl
        have cl : W.cell? ⟨L, 0, none⟩ = some (.int .i64 m) := by rw [Lib.cell_of_heap i1]; rfl
        obtain ⟨h4, h5⟩ : lastI 0 pre < x ∧ x ≤ m := by
          rcases GN.out pre x hc i3 (by omega) with ⟨h6, h7⟩ | ⟨h6, h7⟩
          · omega
          · exact h7
        obtain ⟨v', w', hap, ct2, ft2, cl2, r1, r2, r3, r4, r5, r6⟩ := SpI.app (x := x) z1 (by omega) i1 i2 i6 i7 (by omega)
        obtain ⟨pa, pc, rfl, -, -⟩ := i7.form
        obtain ⟨pb, pd, rfl, -, -⟩ := r3.form
        have KQ : Hid (KeepsFrom w2.heap.size W (w'.setCell ⟨L + 1, 0, none⟩ (.slice pb (pre ++ [x]).length pd)) ∧ Kq b (w2.heap.size + 2) W (w'.setCell ⟨L + 1, 0, none⟩ (.slice pb (pre ++ [x]).length pd))) := Lib.hid (by
          rw [z2]
          exact ⟨r6, r5 _ (by omega) (by omega), r5 _ (by omega) (by omega), r5 _ (by omega) (by omega), r6.size⟩)
        by_cases hx : x = m
        · have FIN : Hid (SpX 0 l w L m (.exit 0) (pre ++ [x]) (w'.setCell ⟨L + 1, 0, none⟩ (.slice pb (pre ++ [x]).length pd))) := Lib.hid ⟨rfl, fullW_snoc hc i5 hx, r4, _, r2, r3⟩
          subst hx
          clear i1 i2 i3 i4 i5 i6 i7 hc r1 r2 r3 r4 r5 r6 T2 cX I0 h4 h5
          generalize (pre ++ [x]).length = n2 at *
          generalize pre.length = n at *
          gi_wp2_with (gi_at_builtin; refine wpListIn_append_run _ rfl _ _ _ _ rfl _ _ rfl rfl _ _ hap ?_)
          exact ⟨KQ.out.1, FIN.out⟩
        · have FIN : Hid (SpI w L m (pre ++ [x]) (w'.setCell ⟨L + 1, 0, none⟩ (.slice pb (pre ++ [x]).length pd))) := Lib.hid ⟨r1, r4, by rw [lastI_snoc]; simp only [List.length_append, List.length_singleton]; omega, by rw [lastI_snoc]; omega, fun z hz => by
            rcases List.mem_append.1 hz with hz | hz
            · exact i5 z hz
            · obtain rfl : z = x := by simpa using hz
              omega, _, r2, r3⟩
          have e4 : (x == m) = false := by simpa using hx
          clear i1 i2 i3 i4 i5 i6 i7 hc r1 r2 r3 r4 r5 r6 T2 cX I0 h4 h5 hx
          generalize (pre ++ [x]).length = n2 at *
          generalize pre.length = n at *
          gi_wp2_with (gi_at_builtin; refine wpListIn_append_run _ rfl _ _ _ _ rfl _ _ rfl rfl _ _ hap ?_)
          exact ⟨KQ.out.1, KQ.out.2, FIN.out⟩
      case stop =>
        rintro c pre W hc ⟨rfl, hf, hB, v, hv, hrow⟩ hD
        have c5 : W.cell? ⟨L + 1, 0, none⟩ = some v := by rw [Lib.cell_of_heap hv]; rfl
        have HD := Lib.hid hD
        have o1 := Off.put (lo := L + 3) (hi := L + 7) (k := w2.heap.size) W (.deferred none) (by omega) (by omega)
        have FIN : Hid (NRow w.heap.size (W.putObj w2.heap.size (.deferred none)) v pre ∧ Below w.heap.size w (W.putObj w2.heap.size (.deferred none))) := Lib.hid ⟨(row_off hrow o1 (by omega)).mono (by omega), o1.below (by omega) hB (Nat.le_refl _)⟩
        have S := Lib.hid (SO.out _ hf)
        obtain ⟨pa, pc, rfl, -, -⟩ := hrow.form
        refine wpIn_wide.2 ?_
        clear hc hf hB hD T2 I0 cX hv hrow o1
        generalize pre.length = n at *
        go_wp2
        simp only [Exit.noGoto]
        refine ⟨by simp, .inl ⟨_, _, rfl, run_takeDeferred HD.out, ?_⟩⟩
        exact ⟨_, by simp [results, Try.results19, go_sem], _, _, rfl, FIN.out.1, S.out, FIN.out.2⟩
  · have E : Hid (StepsOf l []) := Lib.hid (.inl ⟨.inl he, rfl⟩)
    generalize (lengthR l).e = e0 at *
    generalize (lengthR l).n = n0 at *
    have h1 : (e0 == 0) = false := by simpa using he
    have h2 : (e0 != 0) = true := by simpa using he
    clear he SS
    go_enter Try.func19, Try.ntmps19
    go_wp2_with fail
    go_step3
    go_wp2_with fail
    (with_reducible refine LE.out.mono ?_)
    rintro e w1 ⟨rfl, b1⟩
    have K1 := Lib.hid (b1.alloc b1.size (.cells #[.int .i64 n0] 2))
    clear b1 hT LE
    go_wp2
    try simp only [Exit.noGoto]
    exact bodyPost_ret (v := .slice none 0 0) (by simp [results, Try.results19, go_sem]) rfl ⟨_, _, rfl, nrow_nil _ _, E.out, K1.out⟩
end Go.Proofs.Ytfnagjfgnbnlbaa.Bs
