/- horariumlaw02.CrcTurned answers true at every text, number and two bytes, and leaves its arguments as they were: a text of which one byte, or two that stand beside one another, are other ones, has another sum. No condition. -/
import Derived.Test.YtjogdkljimbpcaaCcG
import Derived.Test.YtjogdkljimbpcaaGnA
import Derived.Deep.RegionHeld3
import Derived.Deep.DeepCutAuto
import Derived.Laws.IdiomStrings
import Derived.Deep.OwnRows
namespace Go.Proofs.Ytjogdkljimbpcaa.crcTurned
open Go.ChangeShapes Go.WideShapes Go.ChangeAt Go.RowKit Go.Joins
set_option linter.unusedVariables false
set_option linter.unusedSimpArgs false
theorem is8_wf {n : Int} (h : (Lit.int .u8 n).wf = true) : ∃ x : Nat, n = (x : Int) ∧ x < 256 := by
  have := bounds_u8 h
  exact ⟨n.toNat, by omega, by omega⟩

/-- two texts of n bytes that are alike but at k and k + 1 have one sum only where they are one -/
def ex (x s : ByteArray) (j : Nat) : Nat := byteAt x j ^^^ byteAt s j
theorem ex_lt (x s : ByteArray) (j : Nat) : ex x s j < 256 := Nat.xor_lt_two_pow (n := 8) (byteAt_lt _ _) (byteAt_lt _ _)
def df (z : Nat) (x s : ByteArray) (i : Nat) : Nat := part z x i ^^^ part z s i
theorem df_zero (z : Nat) (x s : ByteArray) : df z x s 0 = 0 := by unfold df; rw [part_zero, part_zero, Nat.xor_self]
theorem df_succ (z : Nat) (x s : ByteArray) (i : Nat) (hx : i < x.size) (hs : i < s.size) : df z x s (i + 1) = step (df z x s i) (ex x s i) := by
  unfold df ex; rw [part_succ _ _ _ hx, part_succ _ _ _ hs, step_xor]
theorem df_is32 {z : Nat} (hz : Is32 z) (x s : ByteArray) (i : Nat) : Is32 (df z x s i) := is32_xor (part_is32 hz x i) (part_is32 hz s i)
theorem tab_zero {x : Nat} (h : Is32 x) (k : tab x = 0) : x = 0 := shN_eq_zero h k
theorem tab_of_zero : tab 0 = 0 := by decide
theorem step_right0 (d : Nat) : step d 0 = tab d := by rw [← step_words, Nat.xor_zero]
theorem step_left0 (c : Nat) : step 0 c = tab c := by rw [← step_words, Nat.zero_xor]
theorem byteAt_ext {x s : ByteArray} (hn : x.size = s.size) (h : ∀ j, j < x.size → byteAt x j = byteAt s j) : x = s := by
  apply ByteArray.ext
  apply Array.ext
  · exact hn
  · intro i h1 h2
    have := h i h1
    rw [← byteAt_eq h1, ← byteAt_eq (s := s) h2] at this
    exact UInt8.toNat_inj.1 this
theorem one_sum {x s : ByteArray} {n k : Nat} (hx : x.size = n) (hs : s.size = n) (hk : k < n) (he : ∀ j, j < n → j ≠ k → j ≠ k + 1 → byteAt x j = byteAt s j) (h : more 0 x = more 0 s) : x = s := by
  have z32 : Is32 ones := is32_ones
  have e0 : ∀ j, j < n → j ≠ k → j ≠ k + 1 → ex x s j = 0 := fun j h1 h2 h3 => by unfold ex; rw [he j h1 h2 h3, Nat.xor_self]
  have hD : df ones x s n = 0 := by
    have e := congrArg (· ^^^ ones) h
    simp only [more, xor_ones_ones, Nat.zero_xor] at e
    have a1 := part_all ones x
    have a2 := part_all ones s
    rw [hx] at a1
    rw [hs] at a2
    unfold df
    rw [a1, a2, e, Nat.xor_self]
  have low : ∀ i, i ≤ k → df ones x s i = 0 := by
    intro i
    induction i with
    | zero => intro _; exact df_zero _ _ _
    | succ i ih =>
      intro hi
      rw [df_succ _ _ _ _ (by omega) (by omega), ih (by omega), e0 i (by omega) (by omega) (by omega), step_left0, tab_of_zero]
  have back : ∀ m i, i + m = n → k + 2 ≤ i → df ones x s i = 0 := by
    intro m
    induction m with
    | zero => intro i h1 h2; rw [show i = n by omega]; exact hD
    | succ m ih =>
      intro i h1 h2
      have := ih (i + 1) (by omega) (by omega)
      rw [df_succ _ _ _ _ (by omega) (by omega), e0 i (by omega) (by omega) (by omega), step_right0] at this
      exact tab_zero (df_is32 z32 _ _ _) this
  have k1 : df ones x s (k + 1) = tab (ex x s k) := by rw [df_succ _ _ _ _ (by omega) (by omega), low k (Nat.le_refl _), step_left0]
  have ek : ∀ j, j < n → ex x s j = 0 := by
    intro j hj
    by_cases hl : k + 1 < n
    · have h2 := back (n - (k + 2)) (k + 2) (by omega) (Nat.le_refl _)
      rw [df_succ _ _ _ _ (by omega) (by omega), k1, ← step_words] at h2
      have i1 : Is32 (ex x s k) := by have := ex_lt x s k; unfold Is32; omega
      have i2 : Is32 (ex x s (k + 1)) := by have := ex_lt x s (k + 1); unfold Is32; omega
      have h3 : tab (ex x s k) = ex x s (k + 1) := eq_of_xor (tab_zero (is32_xor (shN_is32 i1) i2) h2)
      rw [← tab_256 (ex x s (k + 1))] at h3
      have h4 : tab (ex x s k ^^^ 256 * ex x s (k + 1)) = 0 := by rw [tab_xor, h3, Nat.xor_self]
      have l1 := ex_lt x s k
      have l2 := ex_lt x s (k + 1)
      have h5 := eq_of_xor (tab_zero (is32_xor i1 (by unfold Is32; omega)) h4)
      have h6 : ex x s k = 0 ∧ ex x s (k + 1) = 0 := by omega
      by_cases a1 : j = k
      · subst a1; exact h6.1
      · by_cases a2 : j = k + 1
        · subst a2; exact h6.2
        · exact e0 j hj a1 a2
    · have hn : n = k + 1 := by omega
      rw [hn, k1] at hD
      have h3 := tab_zero (x := ex x s k) (by have := ex_lt x s k; unfold Is32; omega) hD
      by_cases a1 : j = k
      · subst a1; exact h3
      · exact e0 j hj a1 (by omega)
  exact byteAt_ext (by omega) fun j hj => eq_of_xor (ek j (by omega))
def tl (f : Nat → Nat) (n : Nat) : List UInt8 := (List.range n).map fun j => UInt8.ofNat (f j)
def tx (f : Nat → Nat) (n : Nat) : ByteArray := ⟨(tl f n).toArray⟩
theorem tl_length (f : Nat → Nat) (n : Nat) : (tl f n).length = n := by simp [tl]
theorem tx_size (f : Nat → Nat) (n : Nat) : (tx f n).size = n := by
  show (tl f n).toArray.size = n
  simp [tl]
theorem tl_get {f : Nat → Nat} {n j : Nat} (hf : f j < 256) (h : j < (tl f n).length) : ((tl f n)[j]).toNat = f j := by
  simp only [tl, List.getElem_map, List.getElem_range, UInt8.toNat_ofNat']
  omega
theorem tx_byte {f : Nat → Nat} {n j : Nat} (hf : f j < 256) (h : j < n) : byteAt (tx f n) j = f j := by
  have h' : j < (tx f n).size := by rw [tx_size]; exact h
  rw [← byteAt_eq h']
  show (tl f n)[j].toNat = _
  exact tl_get hf (by rw [tl_length]; exact h)
/-- the table, the row of bytes f, the array of the two that turn; of what was there before nothing has turned -/
structure Mem (w : World) (t g p n y0 y1 : Nat) (f : Nat → Nat) (wx : World) : Prop where
  tb : Tbl wx t
  put : ∀ j, j < n → wx.cell? ⟨g, j, none⟩ = some (.int .u8 (f j : Int)) ∧ wx.frozen? ⟨g, j, none⟩ = false
  own : g < wx.heap.size
  p0 : wx.cell? ⟨p, 0, none⟩ = some (.int .u8 (y0 : Int))
  p1 : wx.cell? ⟨p, 1, none⟩ = some (.int .u8 (y1 : Int))
  bel : Below w.heap.size w wx
theorem Mem.drew {w wx : World} {t g p n y0 y1 : Nat} {f : Nat → Nat} (h : Mem w t g p n y0 y1 f wx) : Mem w t g p n y0 y1 f wx.drew :=
  ⟨h.tb.call (Below.refl _ _).drew, fun j hj => by rw [World.cell?_drew]; exact ⟨(h.put j hj).1, by simp [go_sem, (h.put j hj).2]⟩, h.own, by rw [World.cell?_drew]; exact h.p0, by rw [World.cell?_drew]; exact h.p1, h.bel.drew⟩
theorem Mem.next {w wx : World} {t g p n y0 y1 i q : Nat} {f f' : Nat → Nat} (h : Mem w t g p n y0 y1 f wx) (hg : w.heap.size ≤ g) (ht : t ≠ g) (hp : p ≠ g) (hi : i < n) (e1 : f' i = q) (e2 : ∀ j, j < n → j ≠ i → f' j = f j) :
    Mem w t g p n y0 y1 f' (wx.setCell ⟨g, i, none⟩ (.int .u8 (q : Int))) := by
  refine ⟨h.tb.apart ((Apart.refl g wx).setCell i _) ht, fun j hj => ⟨?_, by simp [(h.put j hj).2]⟩, by simpa using h.own, ?_, ?_, h.bel.setCell hg _⟩
  · by_cases e : j = i
    · subst e; rw [World.cell?_setCell_same _ _ _ (h.put j hi).1, e1]
    · rw [World.cell?_setCell_other _ _ _ _ (by first | (simp; done) | (simp; omega)), e2 j hj e]; exact (h.put j hj).1
  · rw [World.cell?_setCell_other _ _ _ _ (by first | (simp; done) | (simp; omega))]; exact h.p0
  · rw [World.cell?_setCell_other _ _ _ _ (by first | (simp; done) | (simp; omega))]; exact h.p1
theorem Mem.text {w wx : World} {t g p n y0 y1 cap : Nat} {f : Nat → Nat} (h : Mem w t g p n y0 y1 f wx) (hf : ∀ j, j < n → f j < 256) :
    (convert 50 9 (.slice (some ⟨g, 0, none⟩) n cap)).run Try.prog wx = .ok (.string (tx f n)) wx := by
  have := run_convert_bytes_back (P := Try.prog) wx 50 9 5 ⟨g, 0, none⟩ cap (tl f n) Try.underlying50 Try.underlying5 Try.underlying9 (fun j hj => by
    rw [tl_length] at hj
    rw [addr_add, Nat.zero_add, tl_get (hf j hj)]
    exact (h.put j hj).1)
  rw [tl_length] at this
  exact this
theorem cell_alloc (w : World) (C : Array Value) (e : TypeId) (fr : Nat × Nat) (j : Nat) : (w.drew.alloc (.cells C e fr)).cell? ⟨w.heap.size, j, none⟩ = C[j]? := by
  have : (w.drew.alloc (.cells C e fr)).heap[w.heap.size]? = some (.cells C e fr) := by
    show (w.heap.push (.cells C e fr))[w.heap.size]? = _
    simp
  unfold World.cell?
  rw [this]
  rfl
theorem frozen_alloc {w : World} {C : Array Value} {e : TypeId} {a j : Nat} (h : j < a) : (w.drew.alloc (.cells C e (a, a + 1))).frozen? ⟨w.heap.size, j, none⟩ = false := by
  have : (w.drew.alloc (.cells C e (a, a + 1))).heap[w.heap.size]? = some (.cells C e (a, a + 1)) := by
    show (w.heap.push (.cells C e (a, a + 1)))[w.heap.size]? = _
    simp
  unfold World.frozen?
  rw [this]
  simp
  omega
theorem mem_new {w wx : World} {t p y0 y1 cap a : Nat} {s : ByteArray} (ht : Tbl wx t) (h0 : wx.cell? ⟨p, 0, none⟩ = some (.int .u8 (y0 : Int))) (h1 : wx.cell? ⟨p, 1, none⟩ = some (.int .u8 (y1 : Int))) (hb : Below w.heap.size w wx) (ha : a = (bytesRow s cap).size) (e : TypeId) :
    Mem w t wx.heap.size p s.size y0 y1 (byteAt s) (wx.drew.alloc (.cells (bytesRow s cap) e (a, a + 1))) := by
  have bl : Below wx.heap.size wx (wx.drew.alloc (.cells (bytesRow s cap) e (a, a + 1))) := (Below.refl _ _).drew.alloc (Nat.le_refl _) _
  refine ⟨ht.call bl, fun j hj => ⟨?_, ?_⟩, by simp, carry bl h0, carry bl h1, hb.trans (bl.mono hb.size)⟩
  · have hh : (bytesRow s cap)[j]? = some (.int .u8 (byteAt s j : Int)) := by
      unfold bytesRow
      rw [Array.getElem?_append_left (by simpa using hj), Array.getElem?_map]
      have : s.data[j]? = some s.data[j] := Array.getElem?_eq_getElem hj
      rw [this]
      rw [← byteAt_eq hj]
      rfl
    rw [cell_alloc]; exact hh
  · have : j < a := by rw [ha]; unfold bytesRow; simp; omega
    exact frozen_alloc this
set_option maxRecDepth 100000 in
set_option maxHeartbeats 8000000 in
theorem walk (s : ByteArray) (a : Int) (y0 y1 : Nat) (w : World) (h0 : y0 < 256) (h1 : y1 < 256) :
    Calls Try.prog 5 #[.string s, .int .i64 a, .agg #[.int .u8 (y0 : Int), .int .u8 (y1 : Int)]] w fun e w' => e = .returned (.bool true) ∧ Below w.heap.size w w' := by
  have S1 : Hid (∀ w : World, Calls Try.prog 10 #[.string s, .int .i64 300] w fun e w' => e = .returned (.string (cut s 300)) ∧ w' = w) := Lib.hid (fun w => short_any s 300 w (by omega))
  have z1 := cut_size s 300
  generalize cut s 300 = s1 at *
  have hcv0 := fun (W : World) => run_bytes_of_string (P := Try.prog) W 9 50 5 s1 Try.underlying9 Try.underlying50 Try.underlying5
  go_enter Try.func5, Try.ntmps5
  go_wp2_with fail
  (with_reducible refine (awake_any _).mono ?_)
  rintro e w1 ⟨rfl, b1⟩
  have c0 := carry b1 (p := ⟨w.heap.size, 0, none⟩) (v := .int .u8 (y0 : Int)) (by simp [go_sem])
  have c1 := carry b1 (p := ⟨w.heap.size, 1, none⟩) (v := .int .u8 (y1 : Int)) (by simp [go_sem])
  replace b1 : Below w.heap.size w w1 := ((Below.refl _ _).alloc (Nat.le_refl _) _).trans (b1.mono (by simp))
  have zp : w.heap.size ≤ w.heap.size := Nat.le_refl _
  generalize hp : w.heap.size = p at c0 c1
  go_wp2_with fail
  (with_reducible refine (S1.out _).mono ?_)
  rintro e w2 ⟨rfl, rfl⟩
  clear S1
  go_wp2_with fail
  (with_reducible refine (new_any _).mono ?_)
  rintro e w3 ⟨rfl, hw⟩
  have t3 : Tbl w3 w2.heap.size := by rw [hw]; exact (fresh_new _ _).tbl
  have al : Below w2.heap.size w2 w3 := by rw [hw]; exact (Below.refl _ _).alloc (Nat.le_refl _) _
  replace c0 := carry al c0
  replace c1 := carry al c1
  have b3 : Below w.heap.size w w3 := b1.trans (al.mono b1.size)
  have zb : w.heap.size ≤ w2.heap.size := b1.size
  generalize w2.heap.size = t at *
  clear hw b1 al
  by_cases hn0 : s1.size = 0
  · have e0 : s1 = ⟨#[]⟩ := byteAt_ext hn0 (fun j hj => by omega)
    have RA : Hid (∀ w : World, Tbl w t → Calls Try.prog 18 #[.pointer (some ⟨t, 0, none⟩), .string s1, .int .u32 0] w fun e w' => e = .returned (.bool true) ∧ Full w' t ∧ Apart t w w') := Lib.hid (fun w ht => by
      have := right_any t s1 0 w ht (by omega)
      rw [decide_eq_true (by rw [e0]; exact more_empty 0)] at this
      exact this)
    clear e0
    go_wp2_with fail
    (with_reducible refine (RA.out _ t3).mono ?_)
    rintro e w4 ⟨rfl, t4, a4⟩
    replace b3 := b3.trans (a4.far zb b3.size)
    clear a4 t4 t3 RA
    go_wp2
    go_ret
    exact ⟨rfl, b3⟩
  · obtain ⟨q, hq⟩ : ∃ q : Int, a.tmod (s1.size : Int) = q := ⟨_, rfl⟩
    have q1 : -((s1.size : Int)) < q ∧ q < s1.size := by
      have := Int.tmod_lt_of_pos a (b := (s1.size : Int)) (by omega)
      have := Int.lt_tmod_of_pos a (b := (s1.size : Int)) (by omega)
      omega
    obtain ⟨q2, q3⟩ := q1
    have k0 : 0 ≤ (q + (s1.size : Int)) % (s1.size : Int) := Int.emod_nonneg _ (by omega)
    have k1 : (q + (s1.size : Int)) % (s1.size : Int) < (s1.size : Int) := Int.emod_lt_of_pos _ (by omega)
    obtain ⟨k, hk⟩ := Int.eq_ofNat_of_zero_le k0
    have hk' : (q + (s1.size : Int)).tmod (s1.size : Int) = (k : Int) := by rw [Int.tmod_eq_emod_of_nonneg (by omega)]; exact hk
    rw [hk] at k1
    have nz : ¬ (s1.size : Int) = 0 := by omega
    have zq : k < s1.size := by omega
    have zi : (k : Int) < (s1.size : Int) := by omega
    have zg : w.heap.size ≤ w3.heap.size := b3.size
    have tg : t ≠ w3.heap.size := by have := t3.lt; omega
    have pg : p ≠ w3.heap.size := by have := lt_of_cell c0; simp at this; omega
    have M0 : Hid (Mem w t w3.heap.size p s1.size y0 y1 (byteAt s1) (w3.alloc (Obj.cells (bytesRow s1 (grownCap w3 s1.size 0 5)) 5 ((bytesRow s1 (grownCap w3 s1.size 0 5)).size, (bytesRow s1 (grownCap w3 s1.size 0 5)).size + 1))).drew) := Lib.hid (mem_new (w := w) (s := s1) (cap := grownCap w3 s1.size 0 5) t3 c0 c1 b3 rfl 5)
    clear k0 k1 t3 c0 c1 b3 
    go_wp2_with fail
    generalize grownCap w3 s1.size 0 5 = cap at *
    generalize (w3.alloc (Obj.cells (bytesRow s1 cap) 5 ((bytesRow s1 cap).size, (bytesRow s1 cap).size + 1))).drew = wm at *
    generalize w3.heap.size = g at *
    clear hcv0 hq hk hk' q2 q3 hn0
    have gk := (M0.out.put k zq).1
    have gz := (M0.out.put k zq).2
    have gp := M0.out.p0
    have x0 : bits .xor .u8 (byteAt s1 k : Int) (y0 : Int) = ((byteAt s1 k ^^^ y0 : Nat) : Int) := u8_xor_nat _ _ (byteAt_lt _ _) h0
    have l0 : byteAt s1 k ^^^ y0 < 256 := Nat.xor_lt_two_pow (n := 8) (byteAt_lt _ _) h0
    have M1 : Hid (Mem w t g p s1.size y0 y1 (fun j => if j = k then byteAt s1 k ^^^ y0 else byteAt s1 j) (wm.setCell ⟨g, k, none⟩ (.int .u8 ((byteAt s1 k ^^^ y0 : Nat) : Int))).drew) := Lib.hid (M0.out.next zg tg pg zq (by simp) (fun j _ hj => by simp [hj])).drew
    have F1 : Hid (∀ j, j < s1.size → (fun j => if j = k then byteAt s1 k ^^^ y0 else byteAt s1 j) j < 256) := Lib.hid (fun j hj => by
      show (if j = k then _ else _) < 256
      split
      · exact l0
      · exact byteAt_lt _ _)
    have E1 : Hid (∀ j, j < s1.size → j ≠ k → j ≠ k + 1 → (fun j => if j = k then byteAt s1 k ^^^ y0 else byteAt s1 j) j = byteAt s1 j) := Lib.hid (fun j _ hj _ => if_neg hj)
    generalize (fun j => if j = k then byteAt s1 k ^^^ y0 else byteAt s1 j) = f1 at *
    generalize byteAt s1 k ^^^ y0 = q0 at *
    generalize byteAt s1 k = r0 at *
    clear M0 h0
    go_region
    all_goals
      generalize (wm.setCell ⟨g, k, none⟩ (.int .u8 (q0 : Int))).drew = wn at *
      clear gk gz gp x0 l0
      by_cases hl : k + 1 < s1.size
      · have hl' : (k : Int) + 1 < (s1.size : Int) := by omega
        go_wp2_with fail
        have gk := (M1.out.put (k + 1) hl).1
        have gz := (M1.out.put (k + 1) hl).2
        have gp := M1.out.p1
        have lk := F1.out (k + 1) hl
        have M2 : Hid (Mem w t g p s1.size y0 y1 (fun j => if j = k + 1 then f1 (k + 1) ^^^ y1 else f1 j) (wn.setCell ⟨g, k + 1, none⟩ (.int .u8 ((f1 (k + 1) ^^^ y1 : Nat) : Int))).drew) := Lib.hid (M1.out.next zg tg pg hl (by simp) (fun j _ hj => by simp [hj])).drew
        have x1 : bits .xor .u8 (f1 (k + 1) : Int) (y1 : Int) = ((f1 (k + 1) ^^^ y1 : Nat) : Int) := u8_xor_nat _ _ lk h1
        have l1 : f1 (k + 1) ^^^ y1 < 256 := Nat.xor_lt_two_pow (n := 8) lk h1
        have F2 : Hid (∀ j, j < s1.size → (fun j => if j = k + 1 then f1 (k + 1) ^^^ y1 else f1 j) j < 256) := Lib.hid (fun j hj => by
          show (if j = k + 1 then _ else _) < 256
          split
          · exact l1
          · exact F1.out j hj)
        have E2 : Hid (∀ j, j < s1.size → j ≠ k → j ≠ k + 1 → (fun j => if j = k + 1 then f1 (k + 1) ^^^ y1 else f1 j) j = byteAt s1 j) := Lib.hid (fun j h2 h3 h4 => (if_neg h4).trans (E1.out j h2 h3 h4))
        generalize (fun j => if j = k + 1 then f1 (k + 1) ^^^ y1 else f1 j) = f2 at *
        generalize f1 (k + 1) ^^^ y1 = q1 at *
        generalize f1 (k + 1) = r1 at *
        clear M1 F1 E1
        go_region
        all_goals
          generalize (wn.setCell ⟨g, k + 1, none⟩ (.int .u8 (q1 : Int))).drew = wz at *
          clear gk gz gp x1 l1 lk
          have hcv := M2.out.text (cap := cap) F2.out
          have ONE := Lib.hid (one_sum (x := tx f2 s1.size) (tx_size _ _) rfl zq (fun j h1 h2 h3 => by rw [tx_byte (F2.out j h1) h1]; exact E2.out j h1 h2 h3))
          have sx : (tx f2 s1.size).size ≤ 1000 := by rw [tx_size]; omega
          generalize tx f2 s1.size = x at *
          have tb := M2.out.tb
          have bel := M2.out.bel
          clear M2 F2 E2
          have SB := Lib.hid (fun w ht => sum_any t s1 w ht (by omega))
          by_cases hxs : x = s1
          · rw [hxs] at hcv
            have RA : Hid (∀ w : World, Tbl w t → Calls Try.prog 18 #[.pointer (some ⟨t, 0, none⟩), .string s1, .int .u32 (more 0 s1 : Int)] w fun e w' => e = .returned (.bool true) ∧ Full w' t ∧ Apart t w w') := Lib.hid (fun w ht => by
              have := right_any t s1 (more 0 s1) w ht (by omega)
              rw [decide_eq_true rfl] at this
              exact this)
            clear ONE sx hxs
            go_wp2_with fail
            (with_reducible refine (SB.out _ tb).mono ?_)
            rintro e w' ⟨rfl, tf, ap⟩
            replace tb := tf.tbl
            replace bel := bel.trans (ap.far zb bel.size)
            clear tf ap
            go_wp2_with fail
            (with_reducible refine (SB.out _ tb).mono ?_)
            rintro e w' ⟨rfl, tf, ap⟩
            replace tb := tf.tbl
            replace bel := bel.trans (ap.far zb bel.size)
            clear tf ap
            go_wp2_with fail
            (with_reducible refine (SB.out _ tb).mono ?_)
            rintro e w' ⟨rfl, tf, ap⟩
            replace tb := tf.tbl
            replace bel := bel.trans (ap.far zb bel.size)
            clear tf ap
            go_wp2_with fail
            (with_reducible refine (RA.out _ tb).mono ?_)
            rintro e w' ⟨rfl, tf, ap⟩
            replace tb := tf.tbl
            replace bel := bel.trans (ap.far zb bel.size)
            clear tf ap
            go_wp2
            go_ret
            exact ⟨rfl, bel⟩
          · have hne : more 0 x ≠ more 0 s1 := fun e => hxs (ONE.out e)
            have SA := Lib.hid (fun w ht => sum_any t x w ht sx)
            have RA : Hid (∀ w : World, Tbl w t → Calls Try.prog 18 #[.pointer (some ⟨t, 0, none⟩), .string x, .int .u32 (more 0 s1 : Int)] w fun e w' => e = .returned (.bool false) ∧ Full w' t ∧ Apart t w w') := Lib.hid (fun w ht => by
              have := right_any t x (more 0 s1) w ht sx
              rw [decide_eq_false hne] at this
              exact this)
            have d1 : ((more 0 x : Int) == (more 0 s1 : Int)) = false := by simp; omega
            have d3 : ¬ x.toList = s1.toList := fun e => hxs (by rw [ByteArray.toList_eq, ByteArray.toList_eq] at e; exact ByteArray.ext (Array.toList_inj.1 e))
            have d2 : (x.toList == s1.toList) = false := by simpa using d3
            clear ONE sx hne
            go_wp2_with fail
            (with_reducible refine (SA.out _ tb).mono ?_)
            rintro e w' ⟨rfl, tf, ap⟩
            replace tb := tf.tbl
            replace bel := bel.trans (ap.far zb bel.size)
            clear tf ap
            go_wp2_with fail
            (with_reducible refine (SB.out _ tb).mono ?_)
            rintro e w' ⟨rfl, tf, ap⟩
            replace tb := tf.tbl
            replace bel := bel.trans (ap.far zb bel.size)
            clear tf ap
            go_wp2_with fail
            (with_reducible refine (SB.out _ tb).mono ?_)
            rintro e w' ⟨rfl, tf, ap⟩
            replace tb := tf.tbl
            replace bel := bel.trans (ap.far zb bel.size)
            clear tf ap
            go_wp2_with fail
            (with_reducible refine (RA.out _ tb).mono ?_)
            rintro e w' ⟨rfl, tf, ap⟩
            replace tb := tf.tbl
            replace bel := bel.trans (ap.far zb bel.size)
            clear tf ap
            go_wp2
            go_ret
            exact ⟨rfl, bel⟩
      · have hl' : ¬ (k : Int) + 1 < (s1.size : Int) := by omega
        have hcv := M1.out.text (cap := cap) F1.out
        have ONE := Lib.hid (one_sum (x := tx f1 s1.size) (tx_size _ _) rfl zq (fun j h1 h2 h3 => by rw [tx_byte (F1.out j h1) h1]; exact E1.out j h1 h2 h3))
        have sx : (tx f1 s1.size).size ≤ 1000 := by rw [tx_size]; omega
        generalize tx f1 s1.size = x at *
        have tb := M1.out.tb
        have bel := M1.out.bel
        clear M1 F1 E1
        have SB := Lib.hid (fun w ht => sum_any t s1 w ht (by omega))
        by_cases hxs : x = s1
        · rw [hxs] at hcv
          have RA : Hid (∀ w : World, Tbl w t → Calls Try.prog 18 #[.pointer (some ⟨t, 0, none⟩), .string s1, .int .u32 (more 0 s1 : Int)] w fun e w' => e = .returned (.bool true) ∧ Full w' t ∧ Apart t w w') := Lib.hid (fun w ht => by
            have := right_any t s1 (more 0 s1) w ht (by omega)
            rw [decide_eq_true rfl] at this
            exact this)
          clear ONE sx hxs
          go_wp2_with fail
          (with_reducible refine (SB.out _ tb).mono ?_)
          rintro e w' ⟨rfl, tf, ap⟩
          replace tb := tf.tbl
          replace bel := bel.trans (ap.far zb bel.size)
          clear tf ap
          go_wp2_with fail
          (with_reducible refine (SB.out _ tb).mono ?_)
          rintro e w' ⟨rfl, tf, ap⟩
          replace tb := tf.tbl
          replace bel := bel.trans (ap.far zb bel.size)
          clear tf ap
          go_wp2_with fail
          (with_reducible refine (SB.out _ tb).mono ?_)
          rintro e w' ⟨rfl, tf, ap⟩
          replace tb := tf.tbl
          replace bel := bel.trans (ap.far zb bel.size)
          clear tf ap
          go_wp2_with fail
          (with_reducible refine (RA.out _ tb).mono ?_)
          rintro e w' ⟨rfl, tf, ap⟩
          replace tb := tf.tbl
          replace bel := bel.trans (ap.far zb bel.size)
          clear tf ap
          go_wp2
          go_ret
          exact ⟨rfl, bel⟩
        · have hne : more 0 x ≠ more 0 s1 := fun e => hxs (ONE.out e)
          have SA := Lib.hid (fun w ht => sum_any t x w ht sx)
          have RA : Hid (∀ w : World, Tbl w t → Calls Try.prog 18 #[.pointer (some ⟨t, 0, none⟩), .string x, .int .u32 (more 0 s1 : Int)] w fun e w' => e = .returned (.bool false) ∧ Full w' t ∧ Apart t w w') := Lib.hid (fun w ht => by
            have := right_any t x (more 0 s1) w ht sx
            rw [decide_eq_false hne] at this
            exact this)
          have d1 : ((more 0 x : Int) == (more 0 s1 : Int)) = false := by simp; omega
          have d3 : ¬ x.toList = s1.toList := fun e => hxs (by rw [ByteArray.toList_eq, ByteArray.toList_eq] at e; exact ByteArray.ext (Array.toList_inj.1 e))
          have d2 : (x.toList == s1.toList) = false := by simpa using d3
          clear ONE sx hne
          go_wp2_with fail
          (with_reducible refine (SA.out _ tb).mono ?_)
          rintro e w' ⟨rfl, tf, ap⟩
          replace tb := tf.tbl
          replace bel := bel.trans (ap.far zb bel.size)
          clear tf ap
          go_wp2_with fail
          (with_reducible refine (SB.out _ tb).mono ?_)
          rintro e w' ⟨rfl, tf, ap⟩
          replace tb := tf.tbl
          replace bel := bel.trans (ap.far zb bel.size)
          clear tf ap
          go_wp2_with fail
          (with_reducible refine (SB.out _ tb).mono ?_)
          rintro e w' ⟨rfl, tf, ap⟩
          replace tb := tf.tbl
          replace bel := bel.trans (ap.far zb bel.size)
          clear tf ap
          go_wp2_with fail
          (with_reducible refine (RA.out _ tb).mono ?_)
          rintro e w' ⟨rfl, tf, ap⟩
          replace tb := tf.tbl
          replace bel := bel.trans (ap.far zb bel.size)
          clear tf ap
          go_wp2
          go_ret
          exact ⟨rfl, bel⟩

set_option maxRecDepth 100000 in
set_option maxHeartbeats 1600000 in
theorem lifted (os : Os) (started : os.Started) (H : Type) (enc : TypeId × Value → H) :
    ReturnsInHanded {} Try.checked os 5 .any (Rows.crcTurnedSpec.pre6 enc Try.prog Try.f5 Rows.crcTurnedRow.domain false) (Rows.crcTurnedSpec.post enc Try.prog Try.f5 false true false false) := by
  refine returnsInHanded_of_change (C := Try.checked) own started (by kernel_rfl) Try.func5
    (ChangeSpec.witness6 (enc := enc) (C := Try.checked) false ⟨#[], #[.string ⟨#[]⟩, .int .i64 0, .agg #[.int .u8 0, .int .u8 0]], []⟩ 8 (by kernel_rfl) (by kernel_rfl) (by kernel_rfl) (by kernel_rfl)) ?_
  intro W base args ds gs before hval0 hW hcnd _
  have hval : ∀ (j : Nat) t v, Try.f5.params[j]? = some t → args[j]? = some v → Value.okWide Try.prog W .any base t v := hval0
  have hW' := hW
  obtain ⟨p, q, hA0, hV, rfl, hfz, hnd⟩ := hW
  have hA : DataW.TrodAll enc Try.prog W 0 (fun _ => true) true Try.f5.params.toList args.toList ds p := hA0
  rw [Try.params5] at hA hval
  obtain ⟨v0, vs0, d0, ds0, p0, q0, hargs, rfl, rfl, h0, r0⟩ := trodAll_cons hA
  obtain ⟨v1, vs1, d1, ds1, p1, q1, rfl, rfl, rfl, h1, r1⟩ := trodAll_cons r0
  obtain ⟨v2, vs2, d2, ds2, p2, q2, rfl, rfl, rfl, h2, r2⟩ := trodAll_cons r1
  obtain ⟨rfl, rfl, rfl⟩ := trodAll_nil r2
  obtain rfl : args = #[v0, v1, v2] := by cases args; simp_all
  obtain ⟨rfl, rfl⟩ := trodVars_none hV
  have lt0 : ∀ x ∈ p0, x.block < W.heap.size := by obtain ⟨m, hm⟩ := h0; exact DataW.trod_lt m _ _ _ hm
  obtain ⟨s, e0, -, -, szs⟩ := Go.ChangeMaps.open_string Try.underlying9 (hval 0 9 v0 rfl rfl) h0
  subst e0
  have lt1 : ∀ x ∈ p1, x.block < W.heap.size := by obtain ⟨m, hm⟩ := h1; exact DataW.trod_lt m _ _ _ hm
  obtain ⟨a, e1, -, -, wfa⟩ := open_int Try.underlying3 (hval 1 3 v1 rfl rfl) h1
  subst e1
  have lt2 : ∀ x ∈ p2, x.block < W.heap.size := by obtain ⟨m, hm⟩ := h2; exact DataW.trod_lt m _ _ _ hm
  obtain ⟨zs, e2, hsz, hwf⟩ := open_ints Try.underlying49 Try.underlying5 (by kernel_rfl) (by kernel_rfl) (hval 2 49 v2 rfl rfl) h2
  obtain ⟨a0, a1, rfl⟩ := array2 hsz
  replace e2 : v2 = .agg #[.int .u8 a0, .int .u8 a1] := by rw [e2]; simp
  subst e2
  have wf0 : (Lit.int .u8 a0).wf = true := hwf 0 (by simp)
  have wf1 : (Lit.int .u8 a1).wf = true := hwf 1 (by simp)
  clear hwf hsz
  obtain ⟨y0, rfl, wy0⟩ := is8_wf wf0
  obtain ⟨y1, rfl, wy1⟩ := is8_wf wf1
  clear hA0 hval0
  refine (walk s a y0 y1 W wy0 wy1).mono fun e W' ⟨he, bel⟩ => ?_
  subst he
  exact ⟨_, rfl, _, _, _, [], _, [], hW', trodAll_mk1 (shut_bool Try.underlying4 _), (trodAll_cons_mk (Below.trod laidOut (by kernel_rfl) (of_decide_eq_true (by kernel_rfl)) h0 bel lt0) (trodAll_cons_mk (Below.trod laidOut (by kernel_rfl) (of_decide_eq_true (by kernel_rfl)) h1 bel lt1) (trodAll_cons_mk (Below.trod laidOut (by kernel_rfl) (of_decide_eq_true (by kernel_rfl)) h2 bel lt2) trodAll_mk0))), rfl, bel.frame _, fun h => by cases h⟩

theorem proved : Rows.CrcTurnedSaid :=
  OpenClaim.holds_of_wide 5 Try.f5 rfl rfl rfl rfl rfl rfl rfl ⟨rfl, rfl, rfl, rfl, rfl⟩ rfl rfl rfl rfl rfl (by kernel_rfl) Try.func5 (by kernel_rfl)
    (of_decide_eq_true (by kernel_rfl)) (by unfold Func.isWrapper; first | (rw [if_pos (by decide +kernel)]; kernel_rfl) | (rw [if_neg (by decide +kernel)]; exact ⟨rfl, rfl⟩))
    (fun os started H enc _ => lifted os started H enc)
#print axioms proved
end Go.Proofs.Ytjogdkljimbpcaa.crcTurned
