/- Two things in memory that share nothing; rows of fates that a law makes. -/
import Derived.Test.YtcbemjckcmcelaaDkL
namespace Go.Proofs.Ytcbemjckcmcelaa.Dk
open Go.ChangeShapes Go.WideShapes Go.ChangeAt Go.RowKit Go.Joins
set_option maxRecDepth 100000
set_option linter.unusedVariables false
set_option linter.unusedSimpArgs false
def Apt (w : World) (a b : Nat) : Prop := ∀ k, Own w a k → ¬ Own w b k
theorem Apt.symm {w : World} {a b : Nat} (h : Apt w a b) : Apt w b a := fun k hb ha => h k ha hb
theorem Apt.moved {w w' : World} {a b : Nat} (h : Apt w a b) (m : Moved a w w') (hb : ∀ k, Own w b k → k < w.heap.size) : Apt w' a b := by
  have e : w'.heap[b]? = w.heap[b]? := m.block b (hb b (.inl rfl)) (fun e => h b e (.inl rfl))
  intro k ka kb
  have kb' := kb.of_block e
  rcases m.own k ka with ka | ka
  · exact h k ka kb'
  · have := hb k kb'; omega
theorem Apt.call {w w' : World} {a b : Nat} (h : Apt w a b) (hb : Below w.heap.size w w') (la : a < w.heap.size) (lb : b < w.heap.size) : Apt w' a b := fun k ka kb =>
  h k (ka.of_block (hb.block a la)) (kb.of_block (hb.block b lb))
/-- two disks -/
structure Two (B a b : Nat) (sa sb : DS) (w : World) : Prop where
  fst : Dk B a sa w
  snd : Dk B b sb w
  apt : Apt w a b
theorem Two.left {B a b : Nat} {sa sb sa' : DS} {w w' : World} (h : Two B a b sa sb w) (k : Dk B a sa' w') (m : Moved a w w') : Two B a b sa' sb w' :=
  ⟨k, h.snd.moved m (fun k hk hc => h.apt k hc hk), h.apt.moved m (fun k hk => (h.snd.ownLt hk).2)⟩
theorem Two.right {B a b : Nat} {sa sb sb' : DS} {w w' : World} (h : Two B a b sa sb w) (k : Dk B b sb' w') (m : Moved b w w') : Two B a b sa sb' w' :=
  ⟨h.fst.moved m h.apt, k, (h.apt.symm.moved m (fun k hk => (h.fst.ownLt hk).2)).symm⟩
theorem Two.call {B a b : Nat} {sa sb : DS} {w w' : World} (h : Two B a b sa sb w) (hb : Below w.heap.size w w') : Two B a b sa sb w' :=
  ⟨h.fst.call hb, h.snd.call hb, h.apt.call hb h.fst.lt h.snd.lt⟩
theorem two_new {B a b A : Nat} {sa sb : DS} {w w' : World} (ha : Dk B a sa w) (hb : Dk A b sb w') (hA : w.heap.size ≤ A) (hBA : B ≤ A) (h : Below w.heap.size w w') : Two B a b sa sb w' := by
  refine ⟨ha.call h, hb.mono hBA, fun k ka kb => ?_⟩
  have h1 := (ha.ownLt (ka.of_block (h.block a ha.lt))).2
  have h2 := (hb.ownLt kb).1
  omega
def fateCells (n : Nat) : List Value := (List.replicate n [Value.int .i64 1, Value.int .i64 0]).flatten
def FRow (B : Nat) (w : World) (v : Value) (n : Nat) : Prop := w.ownsRow B 89 2 v n (fateCells n)
theorem FRow.of_block {B : Nat} {w w' : World} {v : Value} {n : Nat} (h : FRow B w v n) (e : ∀ k, v.ownBlock = some k → w'.heap[k]? = w.heap[k]?) : FRow B w' v n := by
  refine ⟨h.1, ?_⟩
  rcases h.2 with hn | ⟨g, cap, cur, rfl, hB, hg, rest⟩
  · exact .inl hn
  · exact .inr ⟨g, cap, cur, rfl, hB, by rw [e g rfl]; exact hg, rest⟩
theorem FRow.block {B : Nat} {w : World} {v : Value} {n : Nat} (h : FRow B w v n) {k : Nat} (e : v.ownBlock = some k) : ∃ cur, w.heap[k]? = some (.cells cur 89 (0, 0)) := by
  rcases h.2 with ⟨rfl, _⟩ | ⟨g', cap, cur, rfl, _, hg, _⟩
  · simp [Value.ownBlock] at e
  · simp [Value.ownBlock] at e; subst e; exact ⟨cur, hg⟩
theorem FRow.call {B : Nat} {w w' : World} {v : Value} {n : Nat} (h : FRow B w v n) (hb : Below w.heap.size w w') : FRow B w' v n :=
  h.of_block fun k hk => hb.block k (h.lt k hk).2
theorem FRow.off {B b : Nat} {s : DS} {w : World} {v : Value} {n : Nat} (h : FRow B w v n) (d : Dk B b s w) {k : Nat} (e : v.ownBlock = some k) : ¬ Own w b k := by
  obtain ⟨g, u, d⟩ := d
  obtain ⟨cur, hc⟩ := h.block e
  exact d.keepT hc (by decide) (by decide) (by decide)
theorem FRow.disk {B b : Nat} {s : DS} {w w' : World} {v : Value} {n : Nat} (h : FRow B w v n) (d : Dk B b s w) (m : Moved b w w') : FRow B w' v n :=
  h.of_block fun k hk => m.block k (h.lt k hk).2 (h.off d hk)
theorem infoF : (Try.prog.info? 89).map (fun i => (i.zero, i.size, i.bytes)) = some (some (.agg #[.int .i64 0, .int .i64 0]), 2, 16) := by kernel_rfl
theorem frow_append (B : Nat) (w : World) (v : Value) (n : Nat) (h : FRow B w v n) (hn : n ≤ 1000000) (hB : B ≤ w.heap.size) :
    ∃ v' w', (Builtin.append_ #[33, 33] 33 #[v, .slice (some ⟨w.heap.size, 0, none⟩) 1 1]).run Try.prog (w.alloc (.cells #[.int .i64 1, .int .i64 0] 89)) = .ok v' w' ∧ FRow B w' v' (n + 1) ∧ (∀ k, k < w.heap.size → v.ownBlock ≠ some k → w'.heap[k]? = w.heap[k]?) ∧ Below B w w' ∧ w.heap.size ≤ w'.heap.size := by
  have h1 := h.call ((Below.refl _ w).alloc (Nat.le_refl _) (.cells #[.int .i64 1, .int .i64 0] 89))
  obtain ⟨g, cap, w', hr, ho, hg, -⟩ := append_one (P := Try.prog) (w.alloc (.cells #[.int .i64 1, .int .i64 0] 89)) B 33 33 89 _ 2 16 Try.underlying33 infoF rfl (by omega) (by omega) v n _ h1 ⟨w.heap.size, 0, none⟩ [.int .i64 1, .int .i64 0] rfl (fun j u hj => by
    rw [addr_add, Nat.zero_add, Lib.cell_of_heap (heap_alloc_new _ _)]; simpa using hj) (fun u hu => by simp at hu; rcases hu with rfl | rfl <;> rfl) hn (by simp; omega)
  refine ⟨_, w', hr, ?_, fun k hk hne => ?_, ?_, Nat.le_trans (by simp) hg.size⟩
  · unfold FRow fateCells
    rw [List.replicate_succ', List.flatten_append]
    simpa [fateCells] using ho
  · rw [hg.block k (by simp; omega) (fun e => hne e.symm), Below.heap_alloc _ _ _ hk]
  · exact ((Below.refl B w).alloc hB _).grown hg (by simp; omega) (fun k hk => (h1.lt k hk).1)
theorem FRow.fats {B : Nat} {w : World} {v : Value} {n : Nat} (h : FRow B w v n) : ∃ ao cap, v = .slice ao (List.replicate n ((1 : Int), (0 : Int))).length cap ∧ Fats ao (List.replicate n (1, 0)) w ∧ (∀ k off, ao = some ⟨k, off, none⟩ → v.ownBlock = some k) := by
  rcases h.2 with ⟨rfl, rfl⟩ | ⟨g, cap, cur, rfl, hB, hg, hc, hm, hs, ht⟩
  · exact ⟨none, 0, rfl, ⟨fun p hp => by simp at hp, fun h => by simp at h⟩, fun k off e => by cases e⟩
  · refine ⟨some ⟨g, 0, none⟩, cap, by simp, ⟨fun p hp => ?_, fun h0 => ⟨g, 0, rfl, lt_of_heap hg, fun i hi => ?_⟩⟩, fun k off e => by simp at e; simp [Value.ownBlock, e]⟩
    · simp at hp
      rw [hp.2]
      unfold In64
      omega
    · have hi' : i < n := by simpa using hi
      have key : ∀ j, j < 2 → w.cell? ⟨g, i * 2 + j, none⟩ = [Value.int .i64 1, Value.int .i64 0][j]? := by
        intro j hj
        have e := World.ownsRow.cellAt h (i * 2 + j) (by omega)
        rw [e]
        unfold fateCells
        have := flat_get (m := 2) (L := List.replicate n [Value.int .i64 1, Value.int .i64 0]) (by intro x hx; simp at hx; rw [hx.2]; rfl) (i := i) (j := j) (by simpa using hi') hj
        rw [show i * 2 + j = 2 * i + j by omega, this]
        simp
      have k0 := key 0 (by omega)
      have k1 := key 1 (by omega)
      rw [Nat.zero_add]
      simp only [Nat.add_zero] at k0
      exact ⟨by rw [k0]; simp, by rw [k1]; simp⟩
theorem laid_congr {S : List (List UInt8)} {O : List (Nat × List UInt8)} {k k' : Nat → Nat} (n : Nat) (h : ∀ j, j < n → k j = k' j) : laid S O k n = laid S O k' n := by
  induction n with
  | zero => rfl
  | succ n ih =>
    simp only [laid, ih (fun j hj => h j (by omega)), h n (by omega)]
theorem kept_ones {n j : Nat} (h : j < n) : keptAt (List.replicate n (1, 0)) j = 64 := by
  rw [keptAt_lt (by simpa using h)]
  simp [keepOf]
theorem broken_ones (n m : Nat) (h : m ≤ n) : brokenTo (List.replicate n (1, 0)) m = 0 := by
  induction m with
  | zero => rfl
  | succ m ih => rw [brokenTo, ih (by omega), kept_ones (by omega)]; rfl
theorem crash_ones (s : DS) : crashR s (List.replicate s.opn.length (1, 0)) = (⟨flushedS s, [], 0, 0⟩, 0) := by
  unfold crashR crashedS flushedS
  rw [broken_ones _ _ (Nat.le_refl _), laid_congr (k' := fun _ => 64) _ (fun j hj => kept_ones hj)]
theorem crash_none (s : DS) : crashR s [] = (⟨s.sec, [], 0, 0⟩, s.opn.length) := by
  unfold crashR crashedS
  have h := laid_rest (S := s.sec) (O := s.opn) (k := keptAt []) (m := 0) (fun j _ => keptAt_ge (by simp)) s.opn.length
  have h2 := brokenTo_rest (l := []) (m := 0) (fun j _ => keptAt_ge (by simp)) s.opn.length
  rw [Nat.zero_add] at h h2
  rw [h, h2]
  simp [laid, brokenTo]
theorem fats_nil (w : World) : Fats none [] w := ⟨fun p hp => (by cases hp), fun h => by simp at h⟩
theorem off_nil (b : Nat) (w : World) : Off none b w := fun k off e => by cases e
end Go.Proofs.Ytcbemjckcmcelaa.Dk
