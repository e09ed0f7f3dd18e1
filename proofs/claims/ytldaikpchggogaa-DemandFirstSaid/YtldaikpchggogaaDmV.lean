/- Contract of package demand's Points. -/
import Derived.Sort.CutIn
import Derived.Lib.Builder
import Derived.Test.YtldaikpchggogaaDmU
import Derived.Test.YtldaikpchggogaaDmQ
namespace Go.Proofs.Ytldaikpchggogaa.Dm
open Go.ChangeShapes Go.WideShapes Go.ChangeAt Go.RowKit Go.Joins Go.Shelf
open Pm (Tk chk chk_iff rowB rowB_all rowB_len TkAt Ts TRow)
attribute [local go_sem] Oper.semAt_some
set_option maxRecDepth 100000
set_option maxRecDepth 100000
set_option linter.unusedVariables false
set_option linter.unusedSimpArgs false
theorem wpListIn_append_run {F : Fence} {n : Nat} {P : Program} (w : World) {ops : Array Oper} {rest : List Oper} {o : Oper} {a : Act} {Q : Exit → Act → World → Prop} (hgd : o.guard = none) (s x : Operand) (t tn : TypeId)
    (hop : o.op = .call { callee := .builtin .append, args := #[s, x], argTypes := #[t, tn] }) (vs vx : Value) (hs : a.eval s = vs) (hx : a.eval x = vx)
    (v' : Value) (w' : World) (hr : (Builtin.append_ #[t, tn] o.type #[vs, vx]).run P w = .ok v' w') (h : wpListIn F n P ops Q rest (a.put o.dst v') w') : wpListIn F n P ops Q (o :: rest) a w := by
  refine wpListIn_plain hgd fun K hK' => ?_
  unfold Oper.wpIn
  refine ⟨?_, ?_⟩
  · simp [Oper.about, hop, resolve, Target.leads, Sem.run_pure]
  · rw [Oper.semAt_plain F _ _ (by rw [hop]; intro c hc'; cases hc')]
    simp [execOp, hop, resolve, invoke, builtin, hs, hx, hr, Result.andThen]
    exact hK' _ _ h
theorem lt_of_heap {w : World} {k : Nat} {o : Obj} (h : w.heap[k]? = some o) : k < w.heap.size := (Array.getElem?_eq_some_iff.1 h).1
/-- what Points tells -/
def ptsR (l : List Tk) (most : Int) : List Int := if isTime most = true then pts l most 4096 0 else []
/-- a chain that ends where it may is what Points tells -/
theorem pts_chain {l : List Tk} {most : Int} : ∀ {n : Nat} {q : List Int} {x : Int}, chain l x q → (∀ y ∈ q, y ≤ most) → q.length ≤ n → (q.length = n ∨ nextR l (lastOf x q) = none ∨ ∃ z, nextR l (lastOf x q) = some z ∧ most < z) → pts l most n x = q := by
  intro n
  induction n with
  | zero =>
    intro q x _ _ hn _
    have : q = [] := List.eq_nil_of_length_eq_zero (by omega)
    rw [this]; rfl
  | succ n ih =>
    intro q x hc hq hn he
    cases q with
    | nil =>
      rw [pts]
      rcases he with h | h | ⟨z, h, hz⟩
      · simp at h
      · simp only [lastOf] at h; rw [h]
      · simp only [lastOf] at h; rw [h]; simp only; rw [if_pos hz]
    | cons y q =>
      obtain ⟨h1, h2⟩ := hc
      rw [pts, h1]
      simp only
      have hy := hq y (by simp)
      rw [if_neg (by omega)]
      congr 1
      refine ih h2 (fun z hz => hq z (by simp [hz])) (by simp at hn; omega) ?_
      rcases he with h | h | h
      · left; simp at h; omega
      · right; left; exact h
      · right; right; exact h
theorem chain_cut {l : List Tk} : ∀ {q : List Int} {x z : Int}, chain l x (q ++ [z]) → chain l x q ∧ nextR l (lastOf x q) = some z := by
  intro q
  induction q with
  | nil => intro x z h; exact ⟨trivial, h.1⟩
  | cons y q ih =>
    intro x z h
    have := ih h.2
    exact ⟨⟨h.1, this.1⟩, this.2⟩
/-- Points' own blocks: w the world ahead; v the row so far -/
structure Pt (w : World) (most : Int) (vl : Value) (v : Value) (pre : List Int) (W : World) : Prop where
  most : W.heap[w.heap.size]? = some (.cells #[.int .i64 most] 2 (0, 0))
  told : W.heap[w.heap.size + 1]? = some (.cells #[v] 40 (0, 0))
  box : W.heap[w.heap.size + 2]? = some (.cells #[vl] 22 (0, 0))
  row : NRow (w.heap.size + 3) W v pre
  bel : Below w.heap.size w W
section
variable {w : World} {most : Int} {vl v : Value} {pre : List Int} {W W' : World}
theorem Pt.of_cells (h : Pt w most vl v pre W) (e : ∀ (k : Nat) (cs : Array Value) (T : TypeId) (fz : Nat × Nat), W.heap[k]? = some (Obj.cells cs T fz) → W'.heap[k]? = W.heap[k]?) (b : Below w.heap.size w W') : Pt w most vl v pre W' := by
  refine ⟨(e _ _ _ _ h.most).trans h.most, (e _ _ _ _ h.told).trans h.told, (e _ _ _ _ h.box).trans h.box, h.row.of_blocks fun k hk => ?_, b⟩
  obtain ⟨cur, hc⟩ := h.row.block k hk
  exact e _ _ _ _ hc
theorem Pt.grown {row : Option Nat} (h : Pt w most vl v pre W) (hg : W.grownBy W' row) (hr : ∀ r, row = some r → w.heap.size ≤ r ∧ ∃ o : Obj, W.heap[r]? = some o ∧ o.isCells = false) : Pt w most vl v pre W' := by
  refine h.of_cells (fun k cs T fz hk => hg.block k (lt_of_heap hk) (fun e => ?_)) ⟨hg.os.trans h.bel.os, hg.tape.trans h.bel.tape, hg.output.trans h.bel.output, Nat.le_trans h.bel.size hg.size, fun k hk => ?_⟩
  · obtain ⟨_, o, ho, hc⟩ := hr k e.symm
    rw [hk] at ho; cases ho; cases hc
  · rw [hg.block k (Nat.lt_of_lt_of_le hk h.bel.size) (fun e => by have := (hr k e.symm).1; omega), h.bel.block k hk]
theorem Pt.cmost (h : Pt w most vl v pre W) : W.cell? ⟨w.heap.size, 0, none⟩ = some (.int .i64 most) := by rw [Lib.cell_of_heap h.most]; rfl
theorem Pt.ctold (h : Pt w most vl v pre W) : W.cell? ⟨w.heap.size + 1, 0, none⟩ = some v := by rw [Lib.cell_of_heap h.told]; rfl
theorem Pt.ftold (h : Pt w most vl v pre W) : W.frozen? ⟨w.heap.size + 1, 0, none⟩ = false := Lib.frozen_of_heap h.told 0
theorem Pt.cbox (h : Pt w most vl v pre W) : W.cell? ⟨w.heap.size + 2, 0, none⟩ = some vl := by rw [Lib.cell_of_heap h.box]; rfl
theorem Pt.size (h : Pt w most vl v pre W) : w.heap.size + 3 ≤ W.heap.size := by have := lt_of_heap h.box; omega
/-- one number more -/
theorem Pt.app (h : Pt w most vl v pre W) (x : Int) (hn : pre.length ≤ 100000) :
    ∃ v' w', (Builtin.append_ #[40, 40] 40 #[v, .slice (some ⟨W.heap.size, 0, none⟩) 1 1]).run Try.prog (W.alloc (.cells #[.int .i64 x] 2)) = .ok v' w' ∧ w'.cell? ⟨w.heap.size + 1, 0, none⟩ = some v ∧ w'.frozen? ⟨w.heap.size + 1, 0, none⟩ = false ∧
      Pt w most vl v' (pre ++ [x]) (w'.setCell ⟨w.heap.size + 1, 0, none⟩ v') ∧
      (∀ k, k < W.heap.size → k ≠ w.heap.size + 1 → v.ownBlock ≠ some k → (w'.setCell ⟨w.heap.size + 1, 0, none⟩ v').heap[k]? = W.heap[k]?) ∧ W.heap.size ≤ (w'.setCell ⟨w.heap.size + 1, 0, none⟩ v').heap.size := by
  have hz := h.size
  obtain ⟨v', w', hr, ho, hb, hk, hs⟩ := nrow_append (w.heap.size + 3) W v pre x h.row hz hn
  have hlt := fun k e => (h.row.lt k e).1
  have b1 : w'.heap[w.heap.size + 1]? = some (.cells #[v] 40 (0, 0)) := (hk _ (by omega) (fun e => by have := hlt _ e; omega)).trans h.told
  have b0 : w'.heap[w.heap.size]? = some (.cells #[.int .i64 most] 2 (0, 0)) := (hk _ (by omega) (fun e => by have := hlt _ e; omega)).trans h.most
  have b2 : w'.heap[w.heap.size + 2]? = some (.cells #[vl] 22 (0, 0)) := (hk _ (by omega) (fun e => by have := hlt _ e; omega)).trans h.box
  have other : ∀ k, k ≠ w.heap.size + 1 → (w'.setCell ⟨w.heap.size + 1, 0, none⟩ v').heap[k]? = w'.heap[k]? := fun k hn => Below.heap_setCell _ _ _ _ hn
  have hsz : (w'.setCell ⟨w.heap.size + 1, 0, none⟩ v').heap.size = w'.heap.size := by simp [World.setCell]
  refine ⟨v', w', hr, by rw [Lib.cell_of_heap b1]; rfl, Lib.frozen_of_heap b1 0, ⟨(other _ (by omega)).trans b0, ?_, (other _ (by omega)).trans b2, ho.of_blocks fun k hk => other k (fun e => by have := (ho.lt k hk).1; omega), ?_⟩, fun k hk1 hn1 hn2 => (other k hn1).trans (hk k hk1 hn2), by omega⟩
  · simp [World.setCell, Array.getElem?_modify, b1]
  · exact h.bel.trans ((hb.mono (by omega)).setCell (by simp) _)
end
theorem keeps_row {N : Nat} {W W' : World} (hs : W.heap.size ≤ W'.heap.size) (h : ∀ (k : Nat) (o : Obj), W.heap[k]? = some o → o.isCells = false → W'.heap[k]? = W.heap[k]?) : KeepsFrom N W W' := ⟨hs, fun k o _ hk ho => (h k o hk ho).trans hk⟩
theorem deadlines_any (ao : Option Addr) (n cap : Nat) (w : World) :
    Calls Try.prog 37 #[.slice ao n cap] w fun e w' => e = .returned (.func (.func 38) #[] #[.pointer (some ⟨w.heap.size, 0, none⟩)]) ∧ w' = w.alloc (.cells #[.slice ao n cap] 22) := by
  go_enter Try.func37, Try.ntmps37
  go_wp2
  go_ret
  exact ⟨rfl, rfl⟩
theorem deadlines_stops (n : Nat) (hn : 1 ≤ n) (X b : Nat) (l : List Tk) (ao : Option Addr) (cap : Nat) (hl : l.length ≤ 9223372036854775807) (hbo : 0 < l.length → ∀ k off, ao = some ⟨k, off, none⟩ → k = b) (w : World) (hX : X < w.heap.size) (hb : b < w.heap.size)
    (cX : w.cell? ⟨X, 0, none⟩ = some (.slice ao l.length cap)) (hT : Ts ao l w) :
    SeqStopsK Fence.wide n Try.prog 38 #[.pointer (some ⟨X, 0, none⟩)] encD (Kp X b) (fun ys => chain l 0 ys ∧ nextR l (lastOf 0 ys) = none) (fun pre => ∃ q z, pre = q ++ [z] ∧ chain l 0 pre) 1099511627776 w := fun Y J Jx W hW hJ hJx hY h0 =>
  deadlines1_in n hn Y X b W.heap.size l ao cap hl hbo J Jx hJ hY W ((hW.cell (p := ⟨X, 0, none⟩) hX).trans cX) (hT.call hW) (Nat.lt_of_lt_of_le hb hW.size) h0
def PtI (most : Int) (vl : Value) (w : World) (pre : List Int) (W : World) : Prop := (∀ y ∈ pre, y ≤ most) ∧ pre.length ≤ 4096 ∧ ∃ v, Pt w most vl v pre W
def PtX (id : Nat) (most : Int) (vl : Value) (w : World) (c : Code) (pre : List Int) (W : World) : Prop :=
  c = .exit id ∧ ∃ q z, pre = q ++ [z] ∧ (∀ y ∈ q, y ≤ most) ∧ q.length ≤ 4096 ∧ (most < z ∨ q.length = 4096) ∧ ∃ v, Pt w most vl v q W
theorem ptI_own {most : Int} {vl : Value} {w : World} {N : Nat} (hN : w.heap.size ≤ N) : OwnFrom N (PtI most vl w) := fun pre X Y row hs hg hr => by
  obtain ⟨h1, h2, v, h⟩ := hs
  exact ⟨h1, h2, v, h.grown hg (fun r e => ⟨Nat.le_trans hN (hr r e).1, (hr r e).2⟩)⟩
theorem ptX_own {id : Nat} {most : Int} {vl : Value} {w : World} {N : Nat} (hN : w.heap.size ≤ N) (c : Code) : OwnFrom N (PtX id most vl w c) := fun pre X Y row hs hg hr => by
  obtain ⟨h1, q, z, h2, h3, h4, h5, v, h⟩ := hs
  exact ⟨h1, q, z, h2, h3, h4, h5, v, h.grown hg (fun r e => ⟨Nat.le_trans hN (hr r e).1, (hr r e).2⟩)⟩
theorem pt_start (w : World) (most : Int) (vl : Value) : Pt w most vl (.slice none 0 0) [] (((w.alloc (.cells #[.int .i64 most] 2)).alloc (.cells #[.slice none 0 0] 40)).alloc (.cells #[vl] 22)) := by
  have b1 := (Below.refl w.heap.size w).alloc (Nat.le_refl _) (.cells #[.int .i64 most] 2)
  have b2 := b1.alloc (by simp) (.cells #[.slice none 0 0] 40)
  have b3 := b2.alloc (by simp; omega) (.cells #[vl] 22)
  refine ⟨?_, ?_, ?_, nrow_nil _ _, b3⟩
  all_goals simp only [World.alloc, Array.getElem?_push, Array.size_push]
  · rw [if_neg (by omega), if_neg (by omega), if_pos trivial]
  · rw [if_neg (by omega), if_pos trivial]
  · rw [if_pos trivial]
set_option maxHeartbeats 4000000 in
theorem points_any (l : List Tk) (ao : Option Addr) (cap : Nat) (most : Int) (w : World) (hT : Ts ao l w) (hl : l.length ≤ 9223372036854775807) :
    Calls Try.prog 24 #[.slice ao l.length cap, .int .i64 most] w fun e w' => ∃ v, e = .returned v ∧ NRow w.heap.size w' v (ptsR l most) ∧ Below w.heap.size w w' := by
  have TM := Lib.hid (isTime_any most)
  cases hx : isTime most with
  | false =>
    rw [hx] at TM
    have E : Hid (ptsR l most = []) := Lib.hid (by unfold ptsR; rw [if_neg (by rw [hx]; simp)])
    generalize ptsR l most = r at *
    clear hx
    go_enter Try.func24, Try.ntmps24
    have KA := Lib.hid ((Below.refl w.heap.size w).alloc (Nat.le_refl _) (.cells #[.int .i64 most] 2))
    go_wp2_with fail
    go_step3
    go_wp2_with fail
    (with_reducible refine (TM.out _).mono ?_)
    rintro e w1 ⟨rfl, rfl⟩
    go_wp2
    try simp only [Exit.noGoto]
    exact bodyPost_ret (v := .slice none 0 0) (by simp [results, Try.results24, go_sem]) rfl ⟨_, rfl, by rw [E.out]; exact nrow_nil _ _, KA.out⟩
  | true =>
    rw [hx] at TM
    have E : Hid (ptsR l most = pts l most 4096 0) := Lib.hid (by unfold ptsR; rw [if_pos hx])
    generalize ptsR l most = r at *
    refine (callsIn_wide (n := 3)).1 ?_
    refine callsIn_of_wp_marks Try.func24 rfl trivial ?_ rfl
    simp only [Try.ntmps24, List.size_toArray, List.length_cons, List.length_nil, Nat.reduceAdd, Nat.reduceSub, Array.replicate_succ, Array.replicate_zero, List.push_toArray, List.append_toArray, List.nil_append, List.cons_append]
    have S0 := pt_start w most (.slice ao l.length cap)
    refine wpIn_wide.2 ?_
    have PL := Lib.hid (fun w => deadlines_any ao l.length cap w)
    go_wp2_with fail
    go_step3
    go_wp2_with fail
    (with_reducible refine (TM.out _).mono ?_)
    rintro e w1 ⟨rfl, rfl⟩
    clear TM
    go_wp2_with fail
    go_step3
    go_wp2_with fail
    (with_reducible refine (PL.out _).mono ?_)
    rintro e w1 ⟨rfl, rfl⟩
    clear PL
    go_wp2_with fail
    have hsz : (((w.alloc (.cells #[.int .i64 most] 2)).alloc (.cells #[.slice none 0 0] 40)).alloc (.cells #[.slice ao l.length cap] 22)).heap.size = w.heap.size + 3 := by simp
    generalize (((w.alloc (.cells #[.int .i64 most] 2)).alloc (.cells #[.slice none 0 0] 40)).alloc (.cells #[.slice ao l.length cap] 22)) = W0 at *
    have hTW := hT.call S0.bel
    obtain ⟨b, hb, hbo⟩ : ∃ b, (b < w.heap.size ∨ b = w.heap.size + 2) ∧ (0 < l.length → ∀ k off, ao = some ⟨k, off, none⟩ → k = b) := by
      by_cases h0 : 0 < l.length
      · obtain ⟨g, off, rfl, hg, -⟩ := hT h0
        exact ⟨g, .inl hg, fun _ k o e => by cases e; rfl⟩
      · exact ⟨w.heap.size + 2, .inr rfl, fun h => absurd h h0⟩
    refine (wpIn_wide (n := 3)).1 ?_
    refine wpIn_rangeFunc_ownG rfl (by omega) (gf := 38) (lb := #[.pointer (some ⟨w.heap.size + 1 + 1, 0, none⟩)]) rfl trivial (enters_of Try.func38 (by kernel_rfl) rfl)
      (deadlines_stops _ (by omega) (w.heap.size + 2) b l ao cap hl hbo W0 (by omega) (by omega) S0.cbox hTW) Kp.trans (Kp.put (by omega) (by omega)) (Below.refl _ _) (fun _ => rfl)
      (PtI most (.slice ao l.length cap) w) (PtX 0 most (.slice ao l.length cap) w) (ptI_own (by omega)) (fun c => ptX_own (by omega) c)
      ⟨by simp, by simp, _, S0⟩
      (fun x => { tmps := #[.slice ao l.length cap, .int .i64 most, undef, .pointer (some ⟨w.heap.size, 0, none⟩), .slice none 0 0, .pointer (some ⟨w.heap.size + 1, 0, none⟩), .int .i64 x, .int .i64 most, .bool true, .bool false, .slice ao l.length cap, .func (.func 38) #[] #[.pointer (some ⟨w.heap.size + 1 + 1, 0, none⟩)], .int .i64 x, undef, undef, undef, undef, undef, undef, undef, undef, undef, undef, undef, undef, undef], defers := [] }) ?assign ?body ?done ?stop
    case assign =>
      intro Y x W K hK
      simp only [encD]
      gi_wp2
      exact hK
    case body =>
      rintro Y pre x W ⟨hle, hlen, v, pt⟩ hpl
      have PT := Lib.hid pt
      have cm := pt.cmost
      have ct := pt.ctold
      obtain ⟨pa, pc, rfl, -, -⟩ := pt.row.form
      have HLE := Lib.hid hle
      clear hle hpl pt hTW S0 E hT
      by_cases hx2 : most < x
      · have FIN : Hid (PtX 0 most (.slice ao l.length cap) w (.exit 0) (pre ++ [x]) W) := Lib.hid ⟨rfl, pre, x, rfl, HLE.out, hlen, .inl hx2, _, PT.out⟩
        have hgt : x > most := hx2
        clear PT HLE
        gi_wp2
        exact ⟨KeepsFrom.refl _ _, FIN.out⟩
      · have hx3 : x ≤ most := by omega
        by_cases h4 : pre.length = 4096
        · have FIN : Hid (PtX 0 most (.slice ao l.length cap) w (.exit 0) (pre ++ [x]) W) := Lib.hid ⟨rfl, pre, x, rfl, HLE.out, hlen, .inr h4, _, PT.out⟩
          have e4 : ((pre.length : Int) == 4096) = true := by rw [h4]; rfl
          clear PT HLE hx2
          generalize pre.length = n at *
          subst h4
          gi_wp2
          exact ⟨KeepsFrom.refl _ _, FIN.out⟩
        · have e4 : ((pre.length : Int) == 4096) = false := beq_eq_false_iff_ne.2 (by omega)
          obtain ⟨v', w', hap, ct2, ft2, pt2, hk2, hs2⟩ := PT.out.app x (by omega)
          have FIN : Hid (KeepsFrom W0.heap.size W (w'.setCell ⟨w.heap.size + 1, 0, none⟩ v') ∧ Kp (w.heap.size + 2) b W (w'.setCell ⟨w.heap.size + 1, 0, none⟩ v') ∧ PtI most (.slice ao l.length cap) w (pre ++ [x]) (w'.setCell ⟨w.heap.size + 1, 0, none⟩ v')) := Lib.hid (by
            have hz := PT.out.size
            have hrow := fun k e => (PT.out.row.lt k e).1
            refine ⟨keeps_row (by omega) (fun k o hk ho => hk2 k (lt_of_heap hk) (fun e => ?_) (fun e => ?_)), ⟨hk2 _ (by omega) (by omega) (fun e => by have := hrow _ e; omega), hk2 _ (by omega) (by omega) (fun e => by have := hrow _ e; omega), by omega⟩, fun y hy => ?_, by simp; omega, v', pt2⟩
            · subst e; rw [PT.out.told] at hk; cases hk; cases ho
            · obtain ⟨cur, hc⟩ := PT.out.row.block k e; rw [hc] at hk; cases hk; cases ho
            · rcases List.mem_append.1 hy with hy | hy
              · exact HLE.out y hy
              · obtain rfl : y = x := by simpa using hy
                exact hx3)
          obtain ⟨pb, pd, rfl, -, -⟩ := pt2.row.form
          have h4' : (pre.length : Int) ≠ 4096 := by omega
          clear PT HLE hx2 pt2 hk2 hs2 h4 hlen
          generalize (pre ++ [x]).length = n2 at *
          generalize pre.length = n at *
          gi_wp2_with (gi_at_builtin; refine wpListIn_append_run _ rfl _ _ _ _ rfl _ _ rfl rfl _ _ hap ?_)
          exact FIN.out
    case done =>
      rintro D xs W hD ⟨hc, hn⟩ ⟨hle, hlen, v, pt⟩ hK
      have E2 : Hid (r = xs) := Lib.hid (by rw [E.out]; exact pts_chain hc hle hlen (.inr (.inl hn)))
      obtain ⟨pa, pc, rfl, -, -⟩ := pt.row.form
      have ct := pt.ctold
      have PT := Lib.hid (pt.grown (grownBy_putObj' _ D (.deferred none)) (fun r e => by cases e; exact ⟨by omega, _, hK, rfl⟩))
      have HK := Lib.hid hK
      clear pt hK hc hle S0 hTW E hT
      generalize xs.length = n at *
      go_wp2_with fail
      go_wp2
      simp only [Exit.noGoto]
      refine ⟨by simp, .inl ⟨_, _, rfl, run_takeDeferred HK.out, ?_⟩⟩
      exact ⟨.slice pa n pc, by simp [results, Try.results24, go_sem], ⟨_, rfl, by rw [E2.out]; exact PT.out.row.mono (by omega), PT.out.bel⟩⟩
    case stop =>
      rintro D c pre W hD ⟨q0, z0, rfl, hc⟩ ⟨rfl, q, z, he, hle, hlen, hst, v, pt⟩ hK
      obtain ⟨rfl, hz⟩ := List.append_inj' he rfl
      obtain rfl : z0 = z := by simpa using hz
      obtain ⟨hc1, hn⟩ := chain_cut hc
      have E2 : Hid (r = q0) := Lib.hid (by rw [E.out]; exact pts_chain hc1 hle hlen (by rcases hst with h | h; exact .inr (.inr ⟨_, hn, h⟩); exact .inl h))
      refine wpIn_wide.2 ?_
      obtain ⟨pa, pc, rfl, -, -⟩ := pt.row.form
      have ct := pt.ctold
      have PT := Lib.hid (pt.grown (grownBy_putObj' _ D (.deferred none)) (fun r e => by cases e; exact ⟨by omega, _, hK, rfl⟩))
      have HK := Lib.hid hK
      clear pt hK hc hc1 hn hst he hz hle S0 hTW E hT
      generalize q0.length = n at *
      go_wp2_with fail
      go_wp2
      simp only [Exit.noGoto]
      refine ⟨by simp, .inl ⟨_, _, rfl, run_takeDeferred HK.out, ?_⟩⟩
      exact ⟨.slice pa n pc, by simp [results, Try.results24, go_sem], ⟨_, rfl, by rw [E2.out]; exact PT.out.row.mono (by omega), PT.out.bel⟩⟩
end Go.Proofs.Ytldaikpchggogaa.Dm
