/- How package heap goes over its things: the function that takes them one by one from a heap of its own, for whatever body. -/
import Derived.RangeFuncNested
import Derived.RangeFuncBound
import Derived.RangeFuncCalls
import Derived.RangeFuncLeaves
import Derived.RangeFuncBox
import Derived.Maps.AppendAt
import Derived.Shelf.Abstract
import Derived.Shelf.RegionOpen
import Derived.OwnWalkIn
import Derived.TacticsInMore
import Derived.LoopNIn
import Derived.LoopIn
import Derived.Sort.LoopGhostIn
import Derived.Stop.RegionWithIn
import Derived.Test.YteagimnlhopjpaaHjC
namespace Go.Proofs.Yteagimnlhopjpaa.Hj
open Go.ChangeShapes Go.WideShapes Go.ChangeAt Go.RowKit Go.Joins Go.Shelf
open Hp (Wk An Srt le ins sort sort_len sort_min sort_srt sort_ins sort_eq hp_nil hp_min hp_head)
open Ed (Jo wk own_an)
attribute [local go_sem] Oper.semAt_some
set_option maxRecDepth 100000
set_option maxRecDepth 100000
set_option linter.unusedVariables false
set_option linter.unusedSimpArgs false
/-- all of a row, in a new one -/
theorem copy_row (ao : Option Addr) (cap : Nat) (l : List Jo) (w : World) (h : Ns ao l w) (hl : l.length ≤ 90000) :
    ∃ v w', (Builtin.append_ #[27, 27] 27 #[.slice none 0 0, .slice ao l.length cap]).run Try.prog w = .ok v w' ∧ NRow w.heap.size w' v l ∧ Below w.heap.size w w' := by
  cases ao with
  | none =>
    have h0 : l = [] := by
      rcases Nat.eq_zero_or_pos l.length with e | e
      · exact List.eq_nil_of_length_eq_zero e
      · obtain ⟨b, off, e, -⟩ := h e; cases e
    subst h0
    exact ⟨_, w, Ge.all_none elJ w _ none none 0 0 cap (by omega), nrow_nil _ _, Below.refl _ _⟩
  | some ad =>
    obtain ⟨v', w', h1, h2, h3, -⟩ := Ge.row_all elJ (c := cap) (ty := 27) (Ge.row_nil w.heap.size w) h (Nat.le_refl _) (by simp; omega)
    exact ⟨v', w', h1, h2, h3⟩
theorem taken_any (p : Option Addr) (w : World) :
    Calls Try.prog 54 #[.pointer p] w fun e w' => e = .returned (.func (.func 58) #[] #[.pointer (some ⟨w.heap.size, 0, none⟩)]) ∧ w' = w.alloc (.cells #[.pointer p] 59) := by
  have hmf : ∀ (fn : Fn) (first cap : Array Value) (w : World), (Instr.makeFunc fn first cap).run Try.prog w = .ok (.func fn first cap) w := fun _ _ _ _ => rfl
  go_enter Try.func54, Try.ntmps54
  go_wp2
  go_ret
  exact ⟨rfl, rfl⟩
/-- the blocks that the going has of its own -/
structure Mine (Q : Nat) (R : Option Nat) (A : World) : Prop where
  head : ∃ cs, A.heap[Q]? = some (.cells cs 77 (0, 0))
  row : ∀ k, R = some k → ∃ cs, A.heap[k]? = some (.cells cs 31 (0, 0))
/-- one thing handed to the body: its own are as they were -/
def Keeps (Q : Nat) (R : Option Nat) (A A' : World) : Prop := A.heap.size ≤ A'.heap.size ∧ A'.heap[Q]? = A.heap[Q]? ∧ ∀ k, R = some k → A'.heap[k]? = A.heap[k]?
/-- what the going leaves ahead of a round: k things are left -/
def TaRel (N : Nat) (LB Q : Nat) (R : Option Nat) (s : List Jo) (J : Nat → Option Nat → List Jo → World → Prop) (k : Nat) (wr : World) : Prop :=
  ∃ v m pre, Ht LB wr Q v m ∧ Hp.Hp Ed.ahead m ∧ Ed.Own m ∧ v.ownBlock = R ∧ m.length = k ∧ pre ++ sort Ed.ahead m = s ∧ J Q R pre wr ∧ N ≤ wr.heap.size
/-- the going, begun -/
theorem begun (LB b : Nat) (v : Value) (l : List Jo) (W : World) (h : Ht LB W b v l) (hp : Hp.Hp Ed.ahead l) (hO : Ed.Own l) (hl : l.length ≤ 90000)
    (J : Nat → Option Nat → List Jo → World → Prop) (hJ0 : ∀ A Q R, Below W.heap.size W A → W.heap.size ≤ Q → (∀ k, R = some k → W.heap.size ≤ k) → J Q R [] A) :
    ∃ ao cap, v = .slice ao l.length cap ∧ ∀ A, Below W.heap.size W A → W.heap.size ≤ A.heap.size → ∃ u A', (Builtin.append_ #[27, 27] 27 #[.slice none 0 0, .slice ao l.length cap]).run Try.prog A = .ok u A' ∧ Below W.heap.size W A' ∧ (∃ a c, u = .slice a l.length c) ∧
      ∀ A2, Below A'.heap.size A' A2 → TaRel W.heap.size W.heap.size A2.heap.size u.ownBlock (sort Ed.ahead l) J l.length (A2.alloc (.cells #[.func (.func 42) #[] #[], u] 77)) := by
  obtain ⟨ao, cap, rfl, -, hn⟩ := h.row.form
  refine ⟨ao, cap, rfl, fun A hA hs => ?_⟩
  obtain ⟨u, A', hr, hrow, hb⟩ := copy_row ao cap l A (hn.call hA) hl
  obtain ⟨a, c, rfl, -, -⟩ := hrow.form
  refine ⟨_, A', hr, hA.trans (hb.mono hs), ⟨a, c, rfl⟩, fun A2 h2 => ?_⟩
  have hsz := h2.size
  have hb2 := hb.size
  have al : Below A2.heap.size A2 (A2.alloc (.cells #[.func (.func 42) #[] #[], .slice a l.length c] 77)) := (Below.refl _ A2).alloc (Nat.le_refl _) _
  have r2 := (hrow.call h2).call al
  refine ⟨_, l, [], ⟨World.alloc_heap_new _ _, r2.mono hs, by omega⟩, hp, hO, rfl, rfl, rfl, hJ0 _ _ _ (((hA.trans (hb.mono hs)).trans (h2.mono (by omega))).trans (al.mono (by omega))) (by omega) (fun k hk => by have := (r2.lt k hk).1; omega), by simp; omega⟩
theorem TaRel.mine {N LB Q k : Nat} {R : Option Nat} {s : List Jo} {J : Nat → Option Nat → List Jo → World → Prop} {wr : World} (h : TaRel N LB Q R s J k wr) : Mine Q R wr := by
  obtain ⟨v, m, pre, ht, -, -, rfl, -⟩ := h
  exact ⟨⟨_, ht.head⟩, fun k hk => ht.row.block k hk⟩
theorem sort_take {m m' : List Jo} {a : Jo} (hO : Ed.Own m) (hp : Hp.Hp Ed.ahead m) (ha : m[0]? = some a) (hm : m.Perm (a :: m')) : sort Ed.ahead m = a :: sort Ed.ahead m' :=
  sort_min wk (own_an hO) hm (fun y hy => by
    obtain ⟨i, hi⟩ := List.mem_iff_getElem?.1 (hm.mem_iff.2 (List.mem_cons_of_mem a hy))
    exact hp_min wk hp ha i i y (Nat.le_refl _) hi)
set_option maxHeartbeats 4000000 in
theorem taken1_in (n : Nat) (hn : 1 ≤ n) (Y X LB b : Nat) (v : Value) (l : List Jo) (W : World) (hX : W.cell? ⟨X, 0, none⟩ = some (.pointer (some ⟨b, 0, none⟩))) (h : Ht LB W b v l) (hp : Hp.Hp Ed.ahead l) (hO : Ed.Own l) (hl : l.length ≤ 90000)
    (J : Nat → Option Nat → List Jo → World → Prop) (hJ0 : ∀ A Q R, Below W.heap.size W A → W.heap.size ≤ Q → (∀ k, R = some k → W.heap.size ≤ k) → J Q R [] A)
    (hJm : ∀ Q R pre A A', J Q R pre A → W.heap.size ≤ Q → (∀ k, R = some k → W.heap.size ≤ k) → Mv Q R A A' → J Q R pre A')
    (hY : ∀ Q R pre x A, J Q R pre A → Mine Q R A → pre.length < l.length → YieldAt Fence.wide (n - 1) Try.prog Y #[.agg #[.int .i64 x.id, .int .i64 x.rel, .int .i64 x.dl, .int .i64 x.le]] A fun e A' => e = .returned (.bool true) ∧ J Q R (pre ++ [x]) A' ∧ Keeps Q R A A') :
    CallsIn Fence.wide n Try.prog 58 #[.func (.yield Y) #[] #[], .pointer (some ⟨X, 0, none⟩)] W fun e A' => (∃ v, e = .returned v) ∧ ∃ Q R, J Q R (sort Ed.ahead l) A' := by
  obtain ⟨ao, cap, rfl, hbg⟩ := begun LB b v l W h hp hO hl J hJ0
  have BG := Lib.hid hbg
  refine callsIn_of_wp Try.func58 rfl trivial ?_ rfl
  simp only [Try.ntmps58, List.size_toArray, List.length_cons, List.length_nil, Nat.reduceAdd, Nat.reduceSub, Array.replicate_succ, Array.replicate_zero, List.push_toArray, List.append_toArray, List.nil_append, List.cons_append]
  have c0 := h.c0
  have c1 := h.c1
  have HJ := Lib.hid hJm
  have HY := Lib.hid hY
  clear h hp hJ0 hJm hY hbg
  refine wpIn_wide.2 ?_
  have S0 := Lib.hid (show W.drew.cell? ⟨X, 0, none⟩ = some (.pointer (some ⟨b, 0, none⟩)) ∧ W.drew.cell? ⟨b, 0, none⟩ = some (.func (.func 42) #[] #[]) ∧ W.drew.cell? ⟨b, 1, none⟩ = some (.slice ao l.length cap) from ⟨hX, c0, c1⟩)
  have ST : Hid (∀ A A', Below A.heap.size A A' → (A.cell? ⟨X, 0, none⟩ = some (.pointer (some ⟨b, 0, none⟩)) ∧ A.cell? ⟨b, 0, none⟩ = some (.func (.func 42) #[] #[]) ∧ A.cell? ⟨b, 1, none⟩ = some (.slice ao l.length cap)) → A'.cell? ⟨X, 0, none⟩ = some (.pointer (some ⟨b, 0, none⟩)) ∧ A'.cell? ⟨b, 0, none⟩ = some (.func (.func 42) #[] #[]) ∧ A'.cell? ⟨b, 1, none⟩ = some (.slice ao l.length cap)) := Lib.hid (fun A A' hb hs => ⟨carry hb hs.1, carry hb hs.2.1, carry hb hs.2.2⟩)
  obtain ⟨u, A1, hap, b1, ⟨ua, uc, rfl⟩, hta⟩ := BG.out W.drew ((Below.refl _ W).drew) (Nat.le_refl _)
  have TA := Lib.hid (hta A1 (Below.refl _ _))
  have B1 := Lib.hid (show Below W.drew.heap.size W.drew A1 from ⟨b1.os, b1.tape, b1.output, b1.size, b1.block⟩)
  clear BG hta b1 c0 c1 hX
  go_wp2_with fail
  refine wp_region_held_drew (S := (fun W' => W'.cell? ⟨X, 0, none⟩ = some (.pointer (some ⟨b, 0, none⟩)) ∧ W'.cell? ⟨b, 0, none⟩ = some (.func (.func 42) #[] #[]) ∧ W'.cell? ⟨b, 1, none⟩ = some (.slice ao l.length cap))) (by kernel_rfl) (S0.out) (fun hHeld => ?_)
  refine Gh.tk 0 ?_
  refine Gh.tk 1 ?_
  refine Gh.tk 2 ?_
  refine Gh.tk 3 ?_
  refine Gh.tk 4 ?_
  refine Gh.tk 5 ?_
  refine Gh.tk 6 ?_
  refine Gh.tk 7 ?_
  refine Gh.rd 8 (fun K hK => ?_)
  rw [if_pos (by rfl)]
  refine Lib.wp_append_run _ _ _ _ _ rfl _ _ rfl rfl _ _ hap ?_
  refine hK.out _ _ (ST.out _ _ B1.out S0.out) (fun hHeld => ?_)
  clear hK K
  refine Gh.pt ?_
  refine Gh.tk 9 ?_
  refine Gh.rd 10 (fun K hK => ?_)
  go_simp
  refine hK.out _ _ (ST.out _ _ ((Below.refl _ _).alloc (Nat.le_refl _) _) (ST.out _ _ B1.out S0.out)) (fun hHeld => ?_)
  clear hK K
  refine Gh.pt ?_
  refine Gh.tk 11 ?_
  refine wpAnyH_done (by kernel_rfl) ?_ _
  clear hHeld
  clear hHeld
  clear hHeld S0 ST hap B1
  go_wp2_with fail
  generalize (Value.slice ua l.length uc).ownBlock = R at *
  generalize A1.alloc (.cells #[.func (.func 42) #[] #[], .slice ua l.length uc] 77) = W1 at *
  generalize A1.heap.size = Q at *
  refine (wpIn_wide (n := n)).1 ?_
  gi_loopg [4] l.length (fun (k : Nat) (s : Value) (wr : World) => TaRel W.heap.size W.heap.size Q R (sort Ed.ahead l) J k wr)
  case atStart => exact TA.out
  case round =>
    have MI := Lib.hid (TaRel.mine hrel)
    obtain ⟨v, m, pre, ht, hpm, hOm, hR, hlen, hs, hj, hN⟩ := hrel
    have HT := Lib.hid ht
    have HJ2 := Lib.hid hj
    rcases Nat.eq_zero_or_pos gk with h0 | h0
    · subst h0
      obtain rfl : m = [] := List.eq_nil_of_length_eq_zero hlen
      have F : Hid (∃ Q R, J Q R (sort Ed.ahead l) wr) := Lib.hid ⟨Q, R, by rw [← hs]; simp only [sort, List.append_nil]; exact hj⟩
      obtain ⟨ao2, cap2, rfl, -, -⟩ := ht.row.form
      have c1 := ht.c1
      clear HJ HY TA MI ht hpm hR hlen hs hj HT HJ2
      simp only [List.length_nil] at c1
      gi_wp2
      go_end0
      exact ⟨⟨_, rfl⟩, F.out⟩
    · obtain ⟨g, cg, rfl, -, hg1, hg2⟩ := ht.row.inBlock (by omega)
      obtain ⟨a, ha⟩ : ∃ a, m[0]? = some a := ⟨_, List.getElem?_eq_getElem (by omega)⟩
      have c1 := ht.c1
      obtain ⟨a0, a1, a2, a3⟩ := ht.row.at ha
      simp only [Nat.zero_mul, Nat.zero_add] at a0 a1 a2 a3
      have b4 : Below wr.heap.size wr (wr.alloc (.cells #[.int .i64 a.id, .int .i64 a.rel, .int .i64 a.dl, .int .i64 a.le] 31)) := (Below.refl _ wr).alloc (Nat.le_refl _) _
      have ht4 := ht.call b4
      have BX := Lib.hid (bx_new wr a)
      have TK := Lib.hid ((callsIn_wide (n := n - 1)).2 (take_in _ _ _ m _ ht4 hpm (by rw [hlen]; have := congrArg List.length hs; simp only [List.length_append, sort_len] at this; omega) (by omega)))
      have HA := Lib.hid ha
      have HS := Lib.hid hs
      have HL := Lib.hid hlen
      have HP := Lib.hid hpm
      have hgk : (0 : Int) < (gk : Int) := by omega
      have hQ := ht.lb
      have hPL : pre.length < l.length := by have := congrArg List.length hs; simp only [List.length_append, sort_len] at this; omega
      have RB : Hid (∀ k, R = some k → W.heap.size ≤ k) := Lib.hid (fun k hk => by rw [← hR] at hk; exact (ht.row.lt k hk).1)
      rw [hlen] at c1
      have HR0 := Lib.hid hR
      have HO := Lib.hid hOm
      have J4 : Hid (J Q R pre (wr.alloc (.cells #[.int .i64 a.id, .int .i64 a.rel, .int .i64 a.dl, .int .i64 a.le] 31))) := Lib.hid (HJ.out _ _ _ _ _ HJ2.out hQ RB.out (Mv.of_below b4))
      have HQl := Lib.hid ht.lt
      have RL : Hid (∀ k, R = some k → k < wr.heap.size) := Lib.hid (fun k hk => by rw [← hR] at hk; exact (ht.row.lt k hk).2)
      clear ht ht4 b4 hpm hOm hR hs hj HT ha hlen MI
      gi_wp2
      refine ⟨trivial, TK.out.mono ?_⟩
      rintro e w1 ⟨rfl, v', a', m', ht', hp', ha', hpp, hmv, ho⟩
      have hR' := HR0.out
      obtain rfl : a = a' := by have := HA.out; rw [ha'] at this; exact (Option.some.inj this).symm
      have hst := sort_take HO.out HP.out ha' hpp
      have hOm' : Ed.Own m' := (HO.out.perm hpp).tail
      have BX1 := Lib.hid (BX.out.of_block (hmv.block wr.heap.size (by simp) (by have := HQl.out; omega) (fun e => by have := RL.out _ (HR0.out.symm.trans e); omega)))
      obtain ⟨z0, z1, z2, z3⟩ := BX1.out.at
      rw [hR'] at hmv ho
      have hj1 := HJ.out _ _ _ _ _ J4.out hQ RB.out hmv
      have hlen' : m'.length + 1 = gk := by have := hpp.length_eq; rw [List.length_cons] at this; rw [← HL.out]; omega
      obtain ⟨fn, tmps, assign, body, hy, hrd⟩ := HY.out Q R pre a w1 hj1 ⟨⟨_, ht'.head⟩, fun k hk => ht'.row.block k (ho.trans hk)⟩ hPL
      have HRD := Lib.hid hrd
      have NX : Hid (∀ A', J Q R (pre ++ [a]) A' → Keeps Q R w1 A' → TaRel W.heap.size W.heap.size Q R (sort Ed.ahead l) J (gk - 1) A') := Lib.hid (fun A' hj hk => by
        refine ⟨v', m', pre ++ [a], ht'.of_blocks hk.2.1 (fun k e => hk.2.2 k (ho.symm.trans e)), hp', hOm', ho, by omega, ?_, hj, by have := hk.1; have := hmv.size; simp at this; omega⟩
        rw [List.append_assoc, List.singleton_append, ← hst]; exact HS.out)
      clear ht' hp' ha' hpp hmv ho hst hj1 hrd TK HJ HY HJ2 HA HS HP RB HR0 hR' hlen' c1 a0 a1 a2 a3 hOm' BX1 BX J4
      gi_wp2
      refine HRD.out.mono ?_
      rintro e W3 ⟨rfl, hJ3, hk3⟩
      have F := Lib.hid (NX.out W3 hJ3 hk3)
      clear hJ3 hk3 NX HRD
      gi_wp2
      gi_roundg (gk - 1)
      case measure => omega
      case rel => exact F.out
end Go.Proofs.Yteagimnlhopjpaa.Hj
