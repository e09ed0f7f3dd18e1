/- Contract of wide.Text. -/
import Derived.Test.YtdddafhalcbhaaaHwD
import Derived.Test.YtdddafhalcbhaaaHwTM
import Derived.WalkMore
import Derived.Laws.BytesString
import Derived.Deep.RegionWith
namespace Go.Proofs.Ytdddafhalcbhaaa
open Go.ChangeShapes Go.WideShapes Go.ChangeAt Go.RowKit Go.Joins
set_option linter.unusedVariables false
set_option linter.unusedSimpArgs false
/-- what a call of the closure leaves: a tenth stands in the captured cells; nothing else that was there has turned -/
def LastPost (B : Nat) (n : Int) (w : World) (e : Ending) (w' : World) : Prop :=
  e = .returned (.int .u8 (48 + n % 10)) ∧ Below B w w' ∧ w'.cell? ⟨B, 0, none⟩ = some (.int .u64 (hi (n / 10))) ∧ w'.cell? ⟨B, 1, none⟩ = some (.int .u64 (lo (n / 10))) ∧
    w'.frozen? ⟨B, 0, none⟩ = false ∧ w'.frozen? ⟨B, 1, none⟩ = false ∧ (∀ b o, B < b → b < w.heap.size → w'.cell? ⟨b, o, none⟩ = w.cell? ⟨b, o, none⟩) ∧ (∀ b o, B < b → b < w.heap.size → w'.frozen? ⟨b, o, none⟩ = w.frozen? ⟨b, o, none⟩) ∧ w.heap.size ≤ w'.heap.size
theorem last_post {B : Nat} {n : Int} {w w1 : World} (hB : B < w.heap.size) (hb1 : Below w.heap.size w w1) {a b x y : Value} (k0 : w1.cell? ⟨B, 0, none⟩ = some a) (k1 : w1.cell? ⟨B, 1, none⟩ = some b)
    (g0 : w1.frozen? ⟨B, 0, none⟩ = false) (g1 : w1.frozen? ⟨B, 1, none⟩ = false) (hx : x = .int .u64 (hi (n / 10))) (hy : y = .int .u64 (lo (n / 10))) {t : TypeId} {c : Array Value} {e : Ending} (he : e = .returned (.int .u8 (48 + n % 10))) :
    LastPost B n w e (((w1.setCell ⟨B, 0, none⟩ x).setCell ⟨B, 1, none⟩ y).alloc (.cells c t)) := by
  have hz := hb1.size
  have hB1 : B < w1.heap.size := by omega
  subst hx hy he
  refine ⟨rfl, ?_, ?_, ?_, ?_, ?_, ?_, ?_, ?_⟩
  · exact (((hb1.mono (by omega)).setCell (by simp) _).setCell (by simp) _).alloc (by simp; omega) _
  · simp [go_sem, hB1, k0, k1]
  · simp [go_sem, hB1, k0, k1]
  · simp [go_sem, hB1, g0]
  · simp [go_sem, hB1, g1]
  · intro b o h1 h2
    have h3 : b < w1.heap.size := by omega
    have h4 : ¬ b = B := by omega
    have := hb1.cell (p := ⟨b, o, none⟩) h2
    simp [go_sem, h3, h4, this]
  · intro b o h1 h2
    have h3 : b < w1.heap.size := by omega
    have := hb1.frozen (p := ⟨b, o, none⟩) h2
    simp [go_sem, h3, this]
  · simp; omega
theorem last_any (B : Nat) (a b : Int) (w : World) (ha : Is64 a) (hb : Is64 b) (hB : B < w.heap.size) (hc0 : w.cell? ⟨B, 0, none⟩ = some (.int .u64 a)) (hc1 : w.cell? ⟨B, 1, none⟩ = some (.int .u64 b))
    (hf0 : w.frozen? ⟨B, 0, none⟩ = false) (hf1 : w.frozen? ⟨B, 1, none⟩ = false) :
    Calls Try.prog 34 #[.pointer (some ⟨B, 0, none⟩)] w (LastPost B (V a b) w) := by
  have hm : 0 ≤ V a b % 10 ∧ V a b % 10 < 10 := by omega
  generalize hn : V a b = n at hm ⊢
  generalize hr : n % 10 = r at hm
  have hN := Lib.hid hn
  have hR := Lib.hid hr
  clear hn hr
  obtain ⟨hm0, hm1⟩ := hm
  go_enter Try.func34, Try.ntmps34
  go_wp2_with fail
  (with_reducible refine (div_any a b 10 _ ha hb (by unfold Is64; omega) rfl).mono ?_)
  rintro e w1 ⟨rfl, hb1⟩
  obtain ⟨hcl, hfr⟩ := bcell hb1
  have hz := hb1.size
  have hB1 : B < w1.heap.size := by omega
  have k0 := hcl B 0 hB
  have k1 := hcl B 1 hB
  have g0 := hfr B 0 hB
  have g1 := hfr B 1 hB
  rw [hc0] at k0; rw [hc1] at k1; rw [hf0] at g0; rw [hf1] at g1
  clear hcl hfr
  rw [hN.out, hR.out]
  go_wp2
  go_ret
  exact last_post hB hb1 k0 k1 g0 g1 rfl rfl (show Ending.returned (.int .u8 (48 + r)) = _ by rw [hR.out])
theorem zero_cells (w : World) (C : Array Value) (t : TypeId) (m : Nat) (v : Value) (hC : C = Array.replicate m v) (g j : Nat) (hg : g = w.heap.size) (hj : j < m) : (w.alloc (.cells C t)).cell? ⟨g, j, none⟩ = some v ∧ (w.alloc (.cells C t)).frozen? ⟨g, j, none⟩ = false := by
  subst hC hg
  simp [go_sem, hj]
/-- what the memory holds when k digits stand: q is what is left -/
def TextMem (w : World) (n k q : Nat) (w' : World) : Prop :=
  w'.cell? ⟨w.heap.size, 0, none⟩ = some (.int .u64 (hi (q : Int))) ∧ w'.cell? ⟨w.heap.size, 1, none⟩ = some (.int .u64 (lo (q : Int))) ∧
    w'.frozen? ⟨w.heap.size, 0, none⟩ = false ∧ w'.frozen? ⟨w.heap.size, 1, none⟩ = false ∧
    (∀ j, j < 39 → w'.cell? ⟨w.heap.size + 1, j, none⟩ = some (.int .u8 (if 39 - k ≤ j then 48 + ((n / 10 ^ (38 - j) % 10 : Nat) : Int) else 0))) ∧
    (∀ j, j < 39 → w'.frozen? ⟨w.heap.size + 1, j, none⟩ = false) ∧ Below w.heap.size w w' ∧ w.heap.size + 1 < w'.heap.size
/-- what holds at the loop's head when k digits stand -/
def TextRel (w : World) (n : Nat) (g : Nat) (at' : Value) (w' : World) : Prop :=
  ∃ k : Nat, g = 39 - k ∧ k ≤ 38 ∧ (k = 0 ∨ 0 < n / 10 ^ k) ∧ at' = .int .i64 (39 - k) ∧ TextMem w n k (n / 10 ^ k) w'
theorem text_step {w wr w2 w3 : World} {n k m q r : Nat} {e : Ending} (hk : k ≤ 38) (hm : n / 10 ^ k = m) (hq : (m : Int) / 10 = q) (hr : (m : Int) % 10 = r) (h : TextMem w n k m wr) (hl : LastPost w.heap.size (m : Int) wr e w2)
    (h3 : Below (w2.setCell ⟨w.heap.size + 1, 39 - k - 1, none⟩ (.int .u8 (48 + r))).drew.heap.size (w2.setCell ⟨w.heap.size + 1, 39 - k - 1, none⟩ (.int .u8 (48 + r))).drew w3) : TextMem w n (k + 1) q w3 := by
  obtain ⟨hc0, hc1, hf0, hf1, hd, hfd, hB, hsz⟩ := h
  obtain ⟨-, hB2, c0, c1, f0, f1, hoc, hof, hsz2⟩ := hl
  rw [hq] at c0 c1
  obtain ⟨hcl, hfr⟩ := bcell h3
  have z3 := h3.size
  simp at z3
  have hd0 := hoc (w.heap.size + 1) (39 - k - 1) (by omega) hsz
  rw [hd (39 - k - 1) (by omega), if_neg (by omega)] at hd0
  refine ⟨?_, ?_, ?_, ?_, ?_, ?_, ?_, ?_⟩
  · rw [hcl _ _ (by simp; omega)]; simp [go_sem, c0]
  · rw [hcl _ _ (by simp; omega)]; simp [go_sem, c1]
  · rw [hfr _ _ (by simp; omega)]; simp [go_sem, f0]
  · rw [hfr _ _ (by simp; omega)]; simp [go_sem, f1]
  · intro j hj
    rw [hcl _ _ (by simp; omega)]
    by_cases e : j = 39 - k - 1
    · subst e
      rw [if_pos (by omega)]
      have e2 : 38 - (39 - k - 1) = k := by omega
      rw [e2, hm]
      have e3 : ((m % 10 : Nat) : Int) = r := by omega
      rw [e3]
      simp [go_sem, hd0]
    · have hj' := hoc (w.heap.size + 1) j (by omega) hsz
      rw [hd j hj] at hj'
      have e4 : (39 - (k + 1) ≤ j) ↔ (39 - k ≤ j) := by omega
      simp only [e4]
      have e5 : ¬ 39 - k - 1 = j := by omega
      simp [go_sem, e, e5, hj']
  · intro j hj
    rw [hfr _ _ (by simp; omega)]
    have hj' := hof (w.heap.size + 1) j (by omega) hsz
    rw [hfd j hj] at hj'
    simp [go_sem, hj']
  · exact ((hB.trans hB2).setCell (by simp) _).drew.trans (h3.mono (by simp; omega))
  · omega
theorem addr_add (b o j : Nat) : (⟨b, o, none⟩ : Addr).add j = ⟨b, o + j, none⟩ := by
  unfold Addr.add
  by_cases h : j = 0 <;> simp [h]
theorem arr39 : Try.prog.arrayLen 58 = 39 := by kernel_rfl
theorem arr39u : Try.prog.underlying 58 = some (.array (Try.prog.arrayLen 58) (Try.prog.elem 58)) := by kernel_rfl
theorem arr39e (w : World) : (sizeOf (Try.prog.elem 58)).run Try.prog w = .ok 1 w := by kernel_rfl
theorem slice_run (B k : Nat) (w : World) (hk : k ≤ 38) : (Instr.sliceAt 58 (.pointer (some ⟨B, 0, none⟩)) (some (.int .i64 (39 - (k : Int) - 1))) none none).run Try.prog w = .ok (.slice (some ⟨B, 39 - k - 1, none⟩) (k + 1) (k + 1)) w := by
  have e1 : (39 - (k : Int) - 1).toNat = 39 - k - 1 := by omega
  have e2 : 39 - (39 - k - 1) = k + 1 := by omega
  rw [run_sliceAt_array_l w _ _ arr39u .i64 (39 - (k : Int) - 1) (by omega) (by rw [arr39]; omega), arr39e]
  simp only [Result.andThen, slicedAt, arr39, e1, e2]
  rw [if_neg (by omega)]
  simp [Addr.add]
  omega
theorem conv_run {w w3 : World} {n k : Nat} (hn : n < 10 ^ 41) (hk : k ≤ 38) (hpos : k = 0 ∨ 0 < n / 10 ^ k) (hq : n / 10 ^ (k + 1) = 0) (h : TextMem w n (k + 1) 0 w3) :
    (convert 59 9 (.slice (some ⟨w.heap.size + 1, 39 - k - 1, none⟩) (k + 1) (k + 1))).run Try.prog w3 = .ok (.string (dec n)) w3 := by
  have hnd : ndig n = k + 1 := by
    refine ndig_eq hn (by omega) ?_ ?_
    · rcases Nat.lt_or_ge n (10 ^ (k + 1)) with h | h
      · exact h
      · have := Nat.div_pos h (Nat.pow_pos (by decide)); omega
    · rcases hpos with h | h
      · exact .inl (by omega)
      · right
        have : k + 1 - 1 = k := by omega
        rw [this]
        rcases Nat.lt_or_ge n (10 ^ k) with h' | h'
        · rw [Nat.div_eq_of_lt h'] at h; omega
        · exact h'
  have hl := run_loadCells (P := Try.prog) (w := w3) ⟨w.heap.size + 1, 39 - k - 1, none⟩ (k + 1) (fun t => .int .u8 (48 + ((n / 10 ^ (k - t) % 10 : Nat) : Int))) (by
    intro j hj
    obtain ⟨-, -, -, -, hd, -⟩ := h
    have := hd (39 - k - 1 + j) (by omega)
    rw [if_pos (by omega)] at this
    have e : 38 - (39 - k - 1 + j) = k - j := by omega
    rw [e] at this
    rw [addr_add]; exact this)
  have hm : ((List.range (k + 1)).map fun t => Value.int .u8 (48 + ((n / 10 ^ (k - t) % 10 : Nat) : Int))) = ((List.range (k + 1)).map fun t => (48 + ((n / 10 ^ (k - t) % 10 : Nat) : Int))).map (Value.int .u8) := by
    rw [List.map_map]; rfl
  rw [hm] at hl
  rw [run_convert_bytes_string w3 _ _ _ _ _ _ Try.underlying59 Try.underlying5 Try.underlying9, run_bytesToString w3 _ _ _ _ hl]
  unfold dec
  rw [hnd, decK_foldl n (k + 1) _ (by simp)]
  intro t ht
  rw [List.getElem?_map, List.getElem?_range ht]
  rfl
set_option maxHeartbeats 1000000 in
theorem text_any (a b : Int) (n : Nat) (w : World) (ha : Is64 a) (hb : Is64 b) (hn : V a b = n) :
    Calls Try.prog 22 #[.agg #[.int .u64 a, .int .u64 b]] w fun e w' => e = .returned (.string (dec n)) ∧ Below w.heap.size w w' := by
  have HN := Lib.hid hn
  have Hlt : Hid (n < 340282366920938463463374607431768211456) := by
    have := is128_V ha hb
    rw [hn] at this; unfold Is128 at this
    exact Lib.hid (by omega)
  clear hn
  go_enter Try.func22, Try.ntmps22
  go_wp2_with fail
  go_step3
  go_wp2_with fail
  go_step3
  go_wp2_with fail
  go_loopg [5] 39 (TextRel w n)
  case atStart =>
    refine ⟨0, rfl, by omega, .inl rfl, rfl, ?_, ?_, ?_, ?_, ?_, ?_, ?_, ?_⟩
    · simp [go_sem]; rw [← HN.out, hi_V hb]
    · simp [go_sem]; rw [← HN.out, lo_V hb]
    · simp [go_sem]
    · simp [go_sem]
    · intro j hj
      rw [if_neg (by omega)]
      exact (zero_cells _ _ _ 39 _ rfl _ j (by simp) hj).1
    · intro j hj
      exact (zero_cells _ _ _ 39 _ rfl _ j (by simp) hj).2
    · exact below_alloc2 _ _ _
    · simp
  case round =>
    obtain ⟨k, rfl, hk, hpos, rfl, hmem⟩ := hrel
    have hle : n / 10 ^ k ≤ n := Nat.div_le_self _ _
    generalize hm : n / 10 ^ k = m at hpos hmem hle
    have HMem := Lib.hid hmem
    obtain ⟨hc0, hc1, hf0, hf1, hd, hfd, hB, hsz⟩ := hmem
    have hqq : m / 10 = n / 10 ^ (k + 1) := by rw [← hm, Nat.pow_succ, Nat.div_div_eq_div_mul]
    have h128 : Is128 (m : Int) := by have h2 := Hlt.out; unfold Is128; omega
    have hs1 := is64_hi h128
    have hs2 := is64_lo (m : Int)
    obtain ⟨q, hq⟩ : ∃ q : Nat, (m : Int) / 10 = q := ⟨m / 10, by omega⟩
    obtain ⟨r, hr⟩ : ∃ r : Nat, (m : Int) % 10 = r := ⟨m % 10, by omega⟩
    have hqe : n / 10 ^ (k + 1) = q := by omega
    have hre : m % 10 = r := by omega
    have HD := Lib.hid hd
    have HFD := Lib.hid hfd
    have HP := Lib.hid hpos
    have HM := Lib.hid hm
    have HQ := Lib.hid hq
    have HR := Lib.hid hr
    have HQE := Lib.hid hqe
    have HRE := Lib.hid hre
    clear hd hfd hpos hm hqq hle hq hr hqe hre
    have hk0 : (0 : Int) < 39 - k := by omega
    have hBz : w.heap.size < wr.heap.size := by omega
    go_wp2_with fail
    (with_reducible refine (last_any _ _ _ _ hs1 hs2 hBz hc0 hc1 hf0 hf1).mono ?_)
    intro e w2 hlast
    rw [V_hi_lo] at hlast
    have HL := Lib.hid hlast
    obtain ⟨rfl, hB2, c0, c1, f0, f1, hoc, hof, hsz2⟩ := hlast
    rw [HQ.out] at c0 c1
    rw [HR.out]
    have hd0 := hoc (w.heap.size + 1) (39 - k - 1) (by omega) hsz
    have hf2 := hof (w.heap.size + 1) (39 - k - 1) (by omega) hsz
    rw [HD.out (39 - k - 1) (by omega), if_neg (by omega)] at hd0
    rw [HFD.out (39 - k - 1) (by omega)] at hf2
    have HOC := Lib.hid hoc
    have HOF := Lib.hid hof
    clear hoc hof
    clear hc0 hc1 hf0 hf1
    have hw2 : w.heap.size < w2.heap.size := by omega
    have hw3 : w.heap.size + 1 < w2.heap.size := by omega
    by_cases hq0 : q = 0
    · have x0 : hi ((q : Nat) : Int) = 0 := by rw [hq0]; rfl
      have x1 : lo ((q : Nat) : Int) = 0 := by rw [hq0]; rfl
      rw [x0] at c0
      rw [x1] at c1
      have HZ := Lib.hid hq0
      clear x0 x1 hq0
      go_wp2_with fail
      go_region_with (go_at_call 19; refine (of_any _ _).mono ?_; rintro e w3 ⟨rfl, hb3⟩; obtain ⟨hcl, hfr⟩ := bcell hb3)
      all_goals
        have hnx := Lib.hid (text_step hk HM.out HQ.out HR.out HMem.out HL.out hb3)
        clear hcl hfr
        obtain rfl : q = 0 := HZ.out
        have hsl := slice_run (w.heap.size + 1) k w3 hk
        have hcv := conv_run (lt41 Hlt.out) hk (by have := HP.out; rw [← HM.out] at this; exact this) HQE.out hnx.out
        go_wp2
        try rw [Exit.noGoto_ret]
        go_ret
        exact ⟨rfl, hnx.out.2.2.2.2.2.2.1⟩
    · have hx : ¬ hi ((q : Nat) : Int) = 0 ∨ (hi ((q : Nat) : Int) = 0 ∧ ¬ lo ((q : Nat) : Int) = 0) := by
        have := V_hi_lo ((q : Nat) : Int)
        unfold V at this
        omega
      have HZ := Lib.hid hq0
      clear hq0
      have hk38 : k < 38 := by
        rcases Nat.lt_or_ge k 38 with h | h
        · exact h
        · obtain rfl : k = 38 := by omega
          exfalso
          apply HZ.out
          have h1 := HQE.out
          rw [Nat.div_eq_of_lt (lt128 Hlt.out)] at h1
          omega
      rcases hx with hx | ⟨hx0, hx⟩
      · have hx1 : (hi ((q : Nat) : Int) == 0) = false := by simpa using hx
        go_wp2_with fail
        go_region_with (go_at_call 19; refine (of_any _ _).mono ?_; rintro e w3 ⟨rfl, hb3⟩; obtain ⟨hcl, hfr⟩ := bcell hb3)
        all_goals
          have hnx := Lib.hid (text_step hk HM.out HQ.out HR.out HMem.out HL.out hb3)
          clear hcl hfr
          go_wp2
          go_roundg (39 - (k + 1))
          case measure => omega
          case rel =>
            refine ⟨k + 1, rfl, by omega, .inr (by rw [HQE.out]; have := HZ.out; omega), by go_num, ?_⟩
            rw [HQE.out]; exact hnx.out
      · rw [hx0] at c0
        have hx1 : (lo ((q : Nat) : Int) == 0) = false := by simpa using hx
        have HX := Lib.hid hx0
        clear hx0
        go_wp2_with fail
        go_region_with (go_at_call 19; refine (of_any _ _).mono ?_; rintro e w3 ⟨rfl, hb3⟩; obtain ⟨hcl, hfr⟩ := bcell hb3)
        all_goals
          have hnx := Lib.hid (text_step hk HM.out HQ.out HR.out HMem.out HL.out hb3)
          clear hcl hfr
          go_wp2
          go_roundg (39 - (k + 1))
          case measure => omega
          case rel =>
            refine ⟨k + 1, rfl, by omega, .inr (by rw [HQE.out]; have := HZ.out; omega), by go_num, ?_⟩
            rw [HQE.out]; exact hnx.out
end Go.Proofs.Ytdddafhalcbhaaa
