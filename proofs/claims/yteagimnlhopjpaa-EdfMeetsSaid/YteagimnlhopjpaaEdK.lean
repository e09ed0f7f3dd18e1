/- How the arguments of the statements of layer 18 are opened; the job that a step means; awake. -/
import Derived.Test.YteagimnlhopjpaaEdZ
import Derived.ChangeOld
import Derived.ShutString
import Derived.ChangeMaps5
import Derived.ChangeSlices
import Derived.Deep.Slices
namespace Go.Proofs.Yteagimnlhopjpaa.Hj
open Go.ChangeShapes Go.WideShapes Go.ChangeAt Go.RowKit Go.Joins
open Ed (Jo wk own_an hasR lateR leftR addR runR mayJ)
open Ge (El Seen Row)
set_option maxRecDepth 100000
set_option maxRecDepth 100000
set_option linter.unusedVariables false
set_option linter.unusedSimpArgs false
theorem own : ownKnob Try.prog.godebug = none := by kernel_rfl
theorem laidOut : laidOutB Try.prog = true := by kernel_rfl
theorem and_pow (n m : Int) (k : Nat) (hk : k ≤ 62) (hm : (BitVec.ofInt 64 m).toNat = 2 ^ k - 1) : bits .and .i64 n m = n % ((2 ^ k : Nat) : Int) := by
  have key : (BitVec.ofInt 64 n &&& BitVec.ofInt 64 m).toNat = (n % ((2 ^ 64 : Nat) : Int)).toNat % 2 ^ k := by
    rw [BitVec.toNat_and, BitVec.toNat_ofInt, hm, Nat.and_two_pow_sub_one_eq_mod]
  show IntKind.i64.wrap ((BitVec.ofInt 64 n &&& BitVec.ofInt 64 m).toNat : Nat) = n % ((2 ^ k : Nat) : Int)
  rw [key, IntKind.wrap_i64]
  have h2 : 2 ^ k ∣ 2 ^ 64 := Nat.pow_dvd_pow 2 (by omega)
  have h3 : 2 ^ k ≤ 2 ^ 62 := Nat.pow_le_pow_right (by omega) hk
  have h4 : 0 < 2 ^ k := Nat.pow_pos (by omega)
  generalize 2 ^ k = p at *
  have e : n % (p : Int) = (((n % ((2 ^ 64 : Nat) : Int)).toNat % p : Nat) : Int) := by
    rw [Int.natCast_emod, Int.toNat_of_nonneg (Int.emod_nonneg _ (by decide))]
    rw [Int.emod_emod_of_dvd]
    exact Int.natCast_dvd_natCast.2 h2
  rw [e]
  have := Nat.mod_lt (n % ((2 ^ 64 : Nat) : Int)).toNat h4
  omega
theorem wf_in {a : Int} (h : (Lit.int .i64 a).wf = true) : -9223372036854775808 ≤ a ∧ a ≤ 9223372036854775807 := by
  simp only [Lit.wf, Bool.and_eq_true, decide_eq_true_eq] at h
  exact ⟨Int.le_trans (by decide) h.1, Int.le_trans h.2 (by decide)⟩
theorem one_of {cs : List Value} {j : Nat} (h : j < cs.length) : (cs.drop j).take 1 = [cs[j]] := by
  rw [List.drop_eq_getElem_cons h]; rfl
theorem open_jc {H : Type} {enc : TypeId × Value → H} {W : World} {base : Nat} {spare : Nat → Bool} {held : Bool} {fuel : Nat} {cs : List Value} {x : DataW H × List MemPlace} (hl : cs.length = 4)
    (hf : DataW.trod enc Try.prog W base spare held fuel 31 cs = some x) : ∃ n : Jo, cs = jc n ∧ I64 n.id := by
  have ci : Try.prog.cellsOf 3 = 1 := by kernel_rfl
  have c6 : Try.prog.cellsOf 2 = 1 := by kernel_rfl
  obtain ⟨ys, n', hn', hy, hlen, hyl, hfd⟩ := DataW.trod_struct Try.underlying31 hf
  have g0 : DataW.trod enc Try.prog W base spare held n' 3 ((cs.drop 0).take (Try.prog.cellsOf 3)) = ys[0]? := hfd 0 _ rfl
  have g1 : DataW.trod enc Try.prog W base spare held n' 2 ((cs.drop 1).take (Try.prog.cellsOf 2)) = ys[1]? := hfd 1 _ rfl
  have g2 : DataW.trod enc Try.prog W base spare held n' 2 ((cs.drop 2).take (Try.prog.cellsOf 2)) = ys[2]? := hfd 2 _ rfl
  have g3 : DataW.trod enc Try.prog W base spare held n' 2 ((cs.drop 3).take (Try.prog.cellsOf 2)) = ys[3]? := hfd 3 _ rfl
  have hy4 : ys.length = 4 := by rw [hyl]; rfl
  rw [ci, one_of (j := 0) (by omega), List.getElem?_eq_getElem (by omega)] at g0
  obtain ⟨z0, e0, -, w0⟩ := DataW.trod_int Try.underlying3 g0
  rw [c6, one_of (j := 1) (by omega), List.getElem?_eq_getElem (by omega)] at g1
  obtain ⟨z1, e1, -, w1⟩ := DataW.trod_int Try.underlying2 g1
  rw [c6, one_of (j := 2) (by omega), List.getElem?_eq_getElem (by omega)] at g2
  obtain ⟨z2, e2, -, w2⟩ := DataW.trod_int Try.underlying2 g2
  rw [c6, one_of (j := 3) (by omega), List.getElem?_eq_getElem (by omega)] at g3
  obtain ⟨z3, e3, -, w3⟩ := DataW.trod_int Try.underlying2 g3
  refine ⟨⟨z0, z1, z2, z3⟩, ?_, wf_in w0⟩
  clear hfd hy g0 g1 g2 g3 hf
  match cs, hl, e0, e1, e2, e3 with
  | [u0, u1, u2, u3], _, e0, e1, e2, e3 =>
    simp at e0 e1 e2 e3
    subst e0 e1 e2 e3
    rfl
theorem open_els {α : Type} [Inhabited α] {H : Type} {enc : TypeId × Value → H} {W : World} {base : Nat} {spare : Nat → Bool} {held : Bool} {fuel : Nat} {T ST : TypeId} {n : Nat} {f : α → List Value} {v : Value} {x : DataW H × List MemPlace} (hST : Try.prog.underlying ST = some (.slice T)) (hC : Try.prog.cellsOf T = n) (hn : 0 < n) (hlen : ∀ y, (f y).length = n)
    (hel : ∀ (m : Nat) (cs : List Value) (z : DataW H × List MemPlace), cs.length = n → DataW.trod enc Try.prog W base spare held m T cs = some z → ∃ y, cs = f y)
    (hf : DataW.trod enc Try.prog W base spare held fuel ST [v] = some x) :
    ∃ (ao : Option Addr) (l : List α) (cap : Nat), v = .slice ao l.length cap ∧ l.length ≤ 9223372036854775807 ∧ l.length ≤ cap ∧ (ao = none → cap = 0) ∧ Seen f n ao l W := by
  rcases Go.Deep.open_slice hST hf with ⟨hcs, hx⟩ | ⟨a, len, cap, m, k, D, Pl, hcs, _, hl, hm, hmm, hx, hi⟩
  · simp at hcs
    subst hcs
    exact ⟨none, [], 0, rfl, by simp, by simp, fun _ => rfl, Ge.seen_nil _ _⟩
  · simp at hcs
    subst hcs
    have hml : len ≤ m := by rw [hmm]; split <;> omega
    rw [hC] at hi
    have key : ∀ i, i < len → ∃ y : α, ∀ j u, (f y)[j]? = some u → W.cell? ((a.add (i * n)).add j) = some u := by
      intro i hil
      obtain ⟨cs, hc, ht⟩ := hi i (by omega)
      obtain ⟨_, hcl, hat⟩ := World.cells?_some hc
      obtain ⟨y, rfl⟩ := hel _ cs _ hcl ht
      refine ⟨y, fun j u hj => ?_⟩
      have hjl := (List.getElem?_eq_some_iff.1 hj).1
      have := hat j (by rw [hlen] at hjl; exact hjl)
      rw [hj] at this
      exact this
    obtain ⟨g, hg⟩ := Go.Deep.choose_lt key
    have hlenm : ((List.range len).map g).length = len := by simp
    refine ⟨some a, (List.range len).map g, cap, by rw [hlenm], by rw [hlenm]; unfold maxLen at hm; omega, by rw [hlenm]; exact hl, ⟨fun h => by simp at h, fun h0 => ?_⟩⟩
    rw [hlenm] at h0
    obtain ⟨b, off, spot⟩ := a
    have h00 : (f (g 0))[0]? = some ((f (g 0))[0]'(by rw [hlen]; exact hn)) := List.getElem?_eq_getElem _
    have c0 := hg 0 h0 0 _ h00
    have hspot : spot = none := by simpa [Addr.add] using World.cell?_spot c0
    subst hspot
    refine ⟨b, off, rfl, World.block_lt_of_cell? _ _ (by rw [Ge.addr_add, Ge.addr_add] at c0; exact c0), fun i y hiy j u hj => ?_⟩
    obtain ⟨hi2, rfl⟩ := List.getElem?_eq_some_iff.1 hiy
    simp only [List.getElem_map, List.getElem_range] at hj
    have := hg i (by omega) j u hj
    rw [Ge.addr_add, Ge.addr_add] at this
    exact this
instance : Inhabited Jo := ⟨⟨0, 0, 0, 0⟩⟩
theorem open_jobs {H : Type} {enc : TypeId × Value → H} {W : World} {r : Reach} {b0 base : Nat} {spare : Nat → Bool} {held : Bool} {v : Value} {d : DataW H} {p : List MemPlace}
    (hok : Value.okWide Try.prog W r b0 27 v) (h : DataW.Trod enc Try.prog W base spare held 27 v d p) :
    ∃ (ao : Option Addr) (l : List Jo) (cap : Nat), v = .slice ao l.length cap ∧ l.length ≤ 9223372036854775807 ∧ Ns ao l W := by
  obtain ⟨ao, len, cap, rfl⟩ := okWide_slice Try.underlying27 hok
  obtain ⟨fuel, hf⟩ := h
  obtain ⟨ao', l, cap', e, h1, h2, -, h3⟩ := open_els (f := jc) (n := 4) Try.underlying27 (by kernel_rfl) (by omega) jc_len (fun m cs z hl ht => by obtain ⟨n, h, -⟩ := open_jc hl ht; exact ⟨n, h⟩) (by simpa [Value.cells] using hf)
  exact ⟨ao', l, cap', e, h1, h3⟩
/-- a step -/
structure Stp where
  kind : Int
  job : Jo
  near : Bool
  drops : Bool
instance : Inhabited Stp := ⟨⟨0, ⟨0, 0, 0, 0⟩, false, false⟩⟩
def oc (o : Stp) : List Value := [.int .i64 o.kind, .int .i64 o.job.id, .int .i64 o.job.rel, .int .i64 o.job.dl, .int .i64 o.job.le, .bool o.near, .bool o.drops]
/-- the job that is meant -/
def jobR (near : Bool) (j : Jo) : Jo := if near = true then ⟨j.id % 8, j.rel % 16, j.rel % 16 + 1 + j.dl % 16, 1 + j.le % 4⟩ else j
theorem job_any (k : Int) (j : Jo) (near drops : Bool) (w : World) :
    Calls Try.prog 15 #[.agg #[.int .i64 k, .int .i64 j.id, .int .i64 j.rel, .int .i64 j.dl, .int .i64 j.le, .bool near, .bool drops]] w fun e w' => e = .returned (.agg #[.int .i64 (jobR near j).id, .int .i64 (jobR near j).rel, .int .i64 (jobR near j).dl, .int .i64 (jobR near j).le]) ∧ Below w.heap.size w w' := by
  cases near with
  | false =>
    go_enter Try.func15, Try.ntmps15
    go_wp2
    refine bodyPost_ret (v := .agg #[.int .i64 j.id, .int .i64 j.rel, .int .i64 j.dl, .int .i64 j.le]) (by simp [results, Try.results15, go_sem]) rfl ⟨rfl, ?_⟩
    repeat (first | exact Below.refl _ _ | refine Below.setCell ?_ (by first | omega | (simp; done) | (simp; omega)) _ | refine Below.alloc ?_ (by first | omega | (simp; done) | (simp; omega)) _)
  | true =>
    have m1 : bits .and .i64 j.id 7 = j.id % 8 := and_pow j.id 7 3 (by decide) (by decide)
    have m2 : bits .and .i64 j.rel 15 = j.rel % 16 := and_pow j.rel 15 4 (by decide) (by decide)
    have m3 : bits .and .i64 j.dl 15 = j.dl % 16 := and_pow j.dl 15 4 (by decide) (by decide)
    have m4 : bits .and .i64 j.le 3 = j.le % 4 := and_pow j.le 3 2 (by decide) (by decide)
    have e : jobR true j = ⟨j.id % 8, j.rel % 16, j.rel % 16 + 1 + j.dl % 16, 1 + j.le % 4⟩ := rfl
    rw [e]
    have n1 : 0 ≤ j.rel % 16 ∧ j.rel % 16 < 16 := by omega
    have n2 : 0 ≤ j.dl % 16 ∧ j.dl % 16 < 16 := by omega
    have n3 : 0 ≤ j.le % 4 ∧ j.le % 4 < 4 := by omega
    generalize j.id % 8 = a at *
    generalize j.rel % 16 = b at *
    generalize j.dl % 16 = c at *
    generalize j.le % 4 = d at *
    have w1 : IntKind.i64.wrap (b + 1) = b + 1 := IntWalk.i64_in _ (by omega)
    have w2 : IntKind.i64.wrap (b + 1 + c) = b + 1 + c := IntWalk.i64_in _ (by omega)
    have w3 : IntKind.i64.wrap (1 + d) = 1 + d := IntWalk.i64_in _ (by omega)
    clear n1 n2 n3 e
    go_enter Try.func15, Try.ntmps15
    go_wp2
    refine bodyPost_ret (v := .agg #[.int .i64 a, .int .i64 b, .int .i64 (b + 1 + c), .int .i64 (1 + d)]) (by simp [results, Try.results15, go_sem]) rfl ⟨rfl, ?_⟩
    repeat (first | exact Below.refl _ _ | refine Below.setCell ?_ (by first | omega | (simp; done) | (simp; omega)) _ | refine Below.alloc ?_ (by first | omega | (simp; done) | (simp; omega)) _)
theorem open_oc {H : Type} {enc : TypeId × Value → H} {W : World} {base : Nat} {spare : Nat → Bool} {held : Bool} {fuel : Nat} {cs : List Value} {x : DataW H × List MemPlace} (hl : cs.length = 7)
    (hf : DataW.trod enc Try.prog W base spare held fuel 33 cs = some x) : ∃ n : { o : Stp // I64 o.job.id }, cs = oc n.1 := by
  have ci : Try.prog.cellsOf 3 = 1 := by kernel_rfl
  have cj : Try.prog.cellsOf 31 = 4 := by kernel_rfl
  have cb : Try.prog.cellsOf 4 = 1 := by kernel_rfl
  obtain ⟨ys, n', hn', hy, hlen, hyl, hfd⟩ := DataW.trod_struct Try.underlying33 hf
  have g0 : DataW.trod enc Try.prog W base spare held n' 3 ((cs.drop 0).take (Try.prog.cellsOf 3)) = ys[0]? := hfd 0 _ rfl
  have g1 : DataW.trod enc Try.prog W base spare held n' 31 ((cs.drop 1).take (Try.prog.cellsOf 31)) = ys[1]? := hfd 1 _ rfl
  have g2 : DataW.trod enc Try.prog W base spare held n' 4 ((cs.drop 5).take (Try.prog.cellsOf 4)) = ys[2]? := hfd 2 _ rfl
  have g3 : DataW.trod enc Try.prog W base spare held n' 4 ((cs.drop 6).take (Try.prog.cellsOf 4)) = ys[3]? := hfd 3 _ rfl
  have hy4 : ys.length = 4 := by rw [hyl]; rfl
  rw [ci, one_of (j := 0) (by omega), List.getElem?_eq_getElem (by omega)] at g0
  obtain ⟨z0, e0, -, w0⟩ := DataW.trod_int Try.underlying3 g0
  rw [cj, List.getElem?_eq_getElem (by omega)] at g1
  obtain ⟨j, ej, hji⟩ := open_jc (by simp; omega) g1
  rw [cb, one_of (j := 5) (by omega), List.getElem?_eq_getElem (by omega)] at g2
  obtain ⟨z2, e2, -⟩ := DataW.trod_bool Try.underlying4 g2
  rw [cb, one_of (j := 6) (by omega), List.getElem?_eq_getElem (by omega)] at g3
  obtain ⟨z3, e3, -⟩ := DataW.trod_bool Try.underlying4 g3
  refine ⟨⟨⟨z0, j, z2, z3⟩, hji⟩, ?_⟩
  clear hfd hy g0 g1 g2 g3 hf
  match cs, hl, e0, ej, e2, e3 with
  | [u0, u1, u2, u3, u4, u5, u6], _, e0, ej, e2, e3 =>
    simp [jc] at e0 ej e2 e3
    obtain ⟨a1, a2, a3, a4⟩ := ej
    subst e0 a1 a2 a3 a4 e2 e3
    rfl
instance : Inhabited { o : Stp // I64 o.job.id } := ⟨⟨⟨0, ⟨0, 0, 0, 0⟩, false, false⟩, by unfold I64; simp⟩⟩
theorem seen_sub {α : Type} {p : α → Prop} {f : α → List Value} {n : Nat} {ao : Option Addr} {l : List { a : α // p a }} {w : World} (h : Seen (fun y : { a : α // p a } => f y.1) n ao l w) : Seen f n ao (l.map (·.1)) w := fun h0 => by
  obtain ⟨b, off, e, h1, h2⟩ := h (by simpa using h0)
  refine ⟨b, off, e, h1, fun i x hx j u hu => ?_⟩
  rw [List.getElem?_map] at hx
  obtain ⟨y, hy, rfl⟩ := Option.map_eq_some_iff.1 hx
  exact h2 i y hy j u hu
theorem job_id {near : Bool} {j : Jo} (h : I64 j.id) : I64 (jobR near j).id := by
  unfold jobR
  split
  · show I64 (j.id % 8)
    unfold I64
    omega
  · exact h
theorem job_near (j : Jo) : I64 (jobR true j).id := by
  show I64 (j.id % 8)
  unfold I64
  omega
theorem open_ops {H : Type} {enc : TypeId × Value → H} {W : World} {r : Reach} {b0 base : Nat} {spare : Nat → Bool} {held : Bool} {v : Value} {d : DataW H} {p : List MemPlace}
    (hok : Value.okWide Try.prog W r b0 22 v) (h : DataW.Trod enc Try.prog W base spare held 22 v d p) :
    ∃ (ao : Option Addr) (l : List Stp) (cap : Nat), v = .slice ao l.length cap ∧ l.length ≤ 9223372036854775807 ∧ Seen oc 7 ao l W ∧ ∀ o ∈ l, I64 o.job.id := by
  obtain ⟨ao, len, cap, rfl⟩ := okWide_slice Try.underlying22 hok
  obtain ⟨fuel, hf⟩ := h
  obtain ⟨ao', l, cap', e, h1, h2, -, h3⟩ := open_els (f := fun o : { o : Stp // I64 o.job.id } => oc o.1) (n := 7) Try.underlying22 (by kernel_rfl) (by omega) (fun _ => rfl) (fun m cs z hl ht => open_oc hl ht) (by simpa [Value.cells] using hf)
  exact ⟨ao', l.map (·.1), cap', by rw [List.length_map]; exact e, by rw [List.length_map]; exact h1, seen_sub h3, fun o ho => by obtain ⟨q, -, rfl⟩ := List.mem_map.1 ho; exact q.2⟩
theorem seen_op {ao : Option Addr} {l : List Stp} {w : World} (h : Seen oc 7 ao l w) {i : Nat} {x : Stp} (hx : l[i]? = some x) : ∃ b off, ao = some ⟨b, off, none⟩ ∧ w.cell? ⟨b, off + i * 7, none⟩ = some (.int .i64 x.kind) ∧ w.cell? ⟨b, off + i * 7 + 1, none⟩ = some (.int .i64 x.job.id) ∧ w.cell? ⟨b, off + i * 7 + 2, none⟩ = some (.int .i64 x.job.rel) ∧
    w.cell? ⟨b, off + i * 7 + 3, none⟩ = some (.int .i64 x.job.dl) ∧ w.cell? ⟨b, off + i * 7 + 4, none⟩ = some (.int .i64 x.job.le) ∧ w.cell? ⟨b, off + i * 7 + 5, none⟩ = some (.bool x.near) ∧ w.cell? ⟨b, off + i * 7 + 6, none⟩ = some (.bool x.drops) := by
  obtain ⟨b, off, e, -, hc⟩ := h (by have := (List.getElem?_eq_some_iff.1 hx).1; omega)
  exact ⟨b, off, e, by simpa using hc i x hx 0 _ rfl, hc i x hx 1 _ rfl, hc i x hx 2 _ rfl, hc i x hx 3 _ rfl, hc i x hx 4 _ rfl, hc i x hx 5 _ rfl, hc i x hx 6 _ rfl⟩
/-- what a run told, in a block of its own -/
def RanAt (w : World) (q : Nat) (id : Int) (d : Bool) : Prop := w.heap[q]? = some (.cells #[.int .i64 id, .bool d] 35 (0, 0))
theorem RanAt.call {w w' : World} {q : Nat} {id : Int} {d : Bool} (h : RanAt w q id d) (hb : Below w.heap.size w w') : RanAt w' q id d := (hb.block q (lt_of_heap h)).trans h
theorem RanAt.mvk {w w' : World} {q : Nat} {id : Int} {d : Bool} {K K' : List Nat} (h : RanAt w q id d) (m : MvK K w w') (n : NwK w K K') (hq : q ∉ K) : RanAt w' q id d ∧ q ∉ K' :=
  ⟨(m.block q (lt_of_heap h) hq).trans h, fun hk => by rcases n q hk with e | e; exact hq e; have := lt_of_heap h; omega⟩
theorem RanAt.cells {w : World} {q : Nat} {id : Int} {d : Bool} (h : RanAt w q id d) : w.cell? ⟨q, 0, none⟩ = some (.int .i64 id) ∧ w.cell? ⟨q, 1, none⟩ = some (.bool d) := ⟨by rw [Lib.cell_of_heap h]; rfl, by rw [Lib.cell_of_heap h]; rfl⟩
set_option maxHeartbeats 4000000 in
theorem awake_any (w : World) : Calls Try.prog 7 #[] w fun e w' => e = .returned (.bool true) ∧ Below w.heap.size w w' := by
  have NW := Lib.hid xnew_any
  have AD := Lib.hid (fun LB x K s j hi hl W h => xadd_any LB x K s j hi hl W h)
  have RU := Lib.hid (fun LB x K s hl W h => xrun_any LB x K s hl W h)
  have ID := Lib.hid (fun LB x K s hl W h => xidle_any LB x K s hl W h)
  have A1 : addR [] ⟨1, 0, 9, 2⟩ = ([⟨1, 0, 9, 2⟩], 0) := by decide
  have A2 : addR [⟨1, 0, 9, 2⟩] ⟨2, 0, 5, 1⟩ = ([⟨2, 0, 5, 1⟩, ⟨1, 0, 9, 2⟩], 0) := by decide
  have A3 : addR [⟨2, 0, 5, 1⟩, ⟨1, 0, 9, 2⟩] ⟨0, 0, 9, 1⟩ = ([⟨2, 0, 5, 1⟩, ⟨0, 0, 9, 1⟩, ⟨1, 0, 9, 2⟩], 0) := by decide
  have R1 : runR [⟨2, 0, 5, 1⟩, ⟨0, 0, 9, 1⟩, ⟨1, 0, 9, 2⟩] = ([⟨0, 0, 9, 1⟩, ⟨1, 0, 9, 2⟩], 2, true) := by decide
  have R2 : runR [⟨0, 0, 9, 1⟩, ⟨1, 0, 9, 2⟩] = ([⟨1, 0, 9, 2⟩], 0, true) := by decide
  have R3 : runR [⟨1, 0, 9, 2⟩] = ([⟨1, 0, 9, 1⟩], 1, false) := by decide
  have R4 : runR [⟨1, 0, 9, 1⟩] = ([], 1, true) := by decide
  have FA := Lib.hid (And.intro A1 (And.intro A2 A3))
  have FR := Lib.hid (And.intro R1 (And.intro R2 (And.intro R3 R4)))
  clear A1 A2 A3 R1 R2 R3 R4
  go_enter Try.func7, Try.ntmps7
  go_wp2_with fail
  (with_reducible refine (NW.out _).mono ?_)
  rintro e w1 ⟨x, K1, rfl, h1, b1⟩
  have X1 := Lib.hid h1
  have B1 := Lib.hid b1
  clear h1 b1 NW
  go_wp2_with fail
  (with_reducible refine (AD.out _ _ _ [] ⟨1, 0, 9, 2⟩ (by unfold I64; decide) (by decide) _ X1.out).mono ?_)
  rintro e w2 ⟨rfl, K2, h2, m2, -⟩
  rw [FA.out.1] at h2
  have B2 := Lib.hid (m2.below X1.out B1.out)
  have X2 := Lib.hid (show Xq w.heap.size w2 x K2 _ from h2)
  simp only [FA.out.1]
  clear h2 m2 X1 B1
  go_wp2_with fail
  (with_reducible refine (AD.out _ _ _ [⟨1, 0, 9, 2⟩] ⟨2, 0, 5, 1⟩ (by unfold I64; decide) (by decide) _ X2.out).mono ?_)
  rintro e w3 ⟨rfl, K3, h3, m3, -⟩
  rw [FA.out.2.1] at h3
  have B3 := Lib.hid (m3.below X2.out B2.out)
  have X3 := Lib.hid (show Xq w.heap.size w3 x K3 _ from h3)
  simp only [FA.out.2.1]
  clear h3 m3 X2 B2
  go_wp2_with fail
  (with_reducible refine (AD.out _ _ _ [⟨2, 0, 5, 1⟩, ⟨1, 0, 9, 2⟩] ⟨0, 0, 9, 1⟩ (by unfold I64; decide) (by decide) _ X3.out).mono ?_)
  rintro e w4 ⟨rfl, K4, h4, m4, -⟩
  rw [FA.out.2.2] at h4
  have B4 := Lib.hid (m4.below X3.out B3.out)
  have X4 := Lib.hid (show Xq w.heap.size w4 x K4 _ from h4)
  simp only [FA.out.2.2]
  clear h4 m4 X3 B3
  go_wp2_with fail
  (with_reducible refine (RU.out _ _ _ [⟨2, 0, 5, 1⟩, ⟨0, 0, 9, 1⟩, ⟨1, 0, 9, 2⟩] (by decide) _ X4.out).mono ?_)
  rintro e w5 ⟨rfl, K5, h5, m5, n5⟩
  rw [FR.out.1] at h5
  have B5 := Lib.hid (m5.below X4.out B4.out)
  have X5 := Lib.hid (show Xq w.heap.size w5 x K5 _ from h5)
  simp only [FR.out.1]
  clear h5 m5 n5 X4 B4
  go_wp2_with fail
  have b5 : Below w5.heap.size w5 (w5.alloc (.cells #[.int .i64 2, .bool true] 35)) := (Below.refl _ _).alloc (Nat.le_refl _) _
  have Y5 := Lib.hid (X5.out.call b5)
  have D5 := Lib.hid (B5.out.trans (b5.mono B5.out.size))
  have r5 : Hid (RanAt (w5.alloc (.cells #[.int .i64 2, .bool true] 35)) w5.heap.size 2 true ∧ w5.heap.size ∉ K5) := Lib.hid ⟨heap_alloc_new w5 _, fun hk => by have := (X5.out.lt _ hk).2; omega⟩
  clear X5 B5 b5
  generalize w5.alloc (.cells #[.int .i64 2, .bool true] 35) = v5 at *
  obtain ⟨q5, hq5⟩ : ∃ q, q = w5.heap.size := ⟨_, rfl⟩
  rw [← hq5] at r5
  rw [← hq5]
  clear hq5
  (with_reducible refine (RU.out _ _ _ [⟨0, 0, 9, 1⟩, ⟨1, 0, 9, 2⟩] (by decide) _ Y5.out).mono ?_)
  rintro e w6 ⟨rfl, K6, h6, m6, n6⟩
  rw [FR.out.2.1] at h6
  have B6 := Lib.hid (m6.below Y5.out D5.out)
  have X6 := Lib.hid (show Xq w.heap.size w6 x K6 _ from h6)
  simp only [FR.out.2.1]
  replace r5 := Lib.hid (r5.out.1.mvk m6 n6 r5.out.2)
  clear h6 m6 n6 Y5 D5
  go_wp2_with fail
  have b6 : Below w6.heap.size w6 (w6.alloc (.cells #[.int .i64 0, .bool true] 35)) := (Below.refl _ _).alloc (Nat.le_refl _) _
  have Y6 := Lib.hid (X6.out.call b6)
  have D6 := Lib.hid (B6.out.trans (b6.mono B6.out.size))
  have r6 : Hid (RanAt (w6.alloc (.cells #[.int .i64 0, .bool true] 35)) w6.heap.size 0 true ∧ w6.heap.size ∉ K6) := Lib.hid ⟨heap_alloc_new w6 _, fun hk => by have := (X6.out.lt _ hk).2; omega⟩
  replace r5 : Hid (RanAt (w6.alloc (.cells #[.int .i64 0, .bool true] 35)) q5 2 true ∧ q5 ∉ K6) := Lib.hid ⟨r5.out.1.call b6, r5.out.2⟩
  clear X6 B6 b6
  generalize w6.alloc (.cells #[.int .i64 0, .bool true] 35) = v6 at *
  obtain ⟨q6, hq6⟩ : ∃ q, q = w6.heap.size := ⟨_, rfl⟩
  rw [← hq6] at r6
  rw [← hq6]
  clear hq6
  (with_reducible refine (RU.out _ _ _ [⟨1, 0, 9, 2⟩] (by decide) _ Y6.out).mono ?_)
  rintro e w7 ⟨rfl, K7, h7, m7, n7⟩
  rw [FR.out.2.2.1] at h7
  have B7 := Lib.hid (m7.below Y6.out D6.out)
  have X7 := Lib.hid (show Xq w.heap.size w7 x K7 _ from h7)
  simp only [FR.out.2.2.1]
  replace r5 := Lib.hid (r5.out.1.mvk m7 n7 r5.out.2)
  replace r6 := Lib.hid (r6.out.1.mvk m7 n7 r6.out.2)
  clear h7 m7 n7 Y6 D6
  go_wp2_with fail
  have b7 : Below w7.heap.size w7 (w7.alloc (.cells #[.int .i64 1, .bool false] 35)) := (Below.refl _ _).alloc (Nat.le_refl _) _
  have Y7 := Lib.hid (X7.out.call b7)
  have D7 := Lib.hid (B7.out.trans (b7.mono B7.out.size))
  have r7 : Hid (RanAt (w7.alloc (.cells #[.int .i64 1, .bool false] 35)) w7.heap.size 1 false ∧ w7.heap.size ∉ K7) := Lib.hid ⟨heap_alloc_new w7 _, fun hk => by have := (X7.out.lt _ hk).2; omega⟩
  replace r5 : Hid (RanAt (w7.alloc (.cells #[.int .i64 1, .bool false] 35)) q5 2 true ∧ q5 ∉ K7) := Lib.hid ⟨r5.out.1.call b7, r5.out.2⟩
  replace r6 : Hid (RanAt (w7.alloc (.cells #[.int .i64 1, .bool false] 35)) q6 0 true ∧ q6 ∉ K7) := Lib.hid ⟨r6.out.1.call b7, r6.out.2⟩
  clear X7 B7 b7
  generalize w7.alloc (.cells #[.int .i64 1, .bool false] 35) = v7 at *
  obtain ⟨q7, hq7⟩ : ∃ q, q = w7.heap.size := ⟨_, rfl⟩
  rw [← hq7] at r7
  rw [← hq7]
  clear hq7
  (with_reducible refine (RU.out _ _ _ [⟨1, 0, 9, 1⟩] (by decide) _ Y7.out).mono ?_)
  rintro e w8 ⟨rfl, K8, h8, m8, n8⟩
  rw [FR.out.2.2.2] at h8
  have B8 := Lib.hid (m8.below Y7.out D7.out)
  have X8 := Lib.hid (show Xq w.heap.size w8 x K8 _ from h8)
  simp only [FR.out.2.2.2]
  replace r5 := Lib.hid (r5.out.1.mvk m8 n8 r5.out.2)
  replace r6 := Lib.hid (r6.out.1.mvk m8 n8 r6.out.2)
  replace r7 := Lib.hid (r7.out.1.mvk m8 n8 r7.out.2)
  clear h8 m8 n8 Y7 D7
  go_upto_region 11 with (fail)
  have b8 : Below w8.heap.size w8 (w8.alloc (.cells #[.int .i64 1, .bool true] 35)) := (Below.refl _ _).alloc (Nat.le_refl _) _
  have Y8 := Lib.hid (X8.out.call b8)
  have D8 := Lib.hid (B8.out.trans (b8.mono B8.out.size))
  have r8 : Hid (RanAt (w8.alloc (.cells #[.int .i64 1, .bool true] 35)) w8.heap.size 1 true) := Lib.hid (heap_alloc_new w8 _)
  have s5 := Lib.hid (r5.out.1.call b8)
  have s6 := Lib.hid (r6.out.1.call b8)
  have s7 := Lib.hid (r7.out.1.call b8)
  generalize w8.alloc (.cells #[.int .i64 1, .bool true] 35) = v8 at *
  generalize w8.heap.size = q8 at *
  obtain ⟨a0, a1⟩ := s5.out.cells
  obtain ⟨c0, c1⟩ := s6.out.cells
  obtain ⟨d0, d1⟩ := s7.out.cells
  obtain ⟨e0, e1⟩ := r8.out.cells
  clear X8 B8 b8 r5 r6 r7 s5 s6 s7 r8
  go_wp2_with fail
  (with_reducible refine (ID.out _ _ _ [] (by decide) _ Y8.out).mono ?_)
  rintro e w9 ⟨rfl, b9⟩
  have F9 := Lib.hid (D8.out.trans (b9.mono D8.out.size))
  clear b9 Y8 D8
  go_wp2
  go_ret
  exact ⟨rfl, F9.out⟩
end Go.Proofs.Yteagimnlhopjpaa.Hj
