/- horariumlaw02.CrcLinear answers true at every three texts, and leaves its arguments as they were: the sums of three texts of one length, turned together, are that of the three turned together. No condition. -/
import Derived.Test.YtjogdkljimbpcaaCcG
import Derived.Deep.RegionHeld3
import Derived.Deep.DeepCutAuto
import Derived.Laws.IdiomStrings
import Derived.Deep.OwnRows
namespace Go.Proofs.Ytjogdkljimbpcaa.crcLinear
open Go.ChangeShapes Go.WideShapes Go.ChangeAt Go.RowKit Go.Joins
set_option linter.unusedVariables false
set_option linter.unusedSimpArgs false

/-- the byte at j of the three turned together -/
def x3 (a b c : ByteArray) (j : Nat) : Nat := byteAt a j ^^^ byteAt b j ^^^ byteAt c j
theorem x3_lt (a b c : ByteArray) (j : Nat) : x3 a b c j < 256 := Nat.xor_lt_two_pow (n := 8) (Nat.xor_lt_two_pow (n := 8) (byteAt_lt _ _) (byteAt_lt _ _)) (byteAt_lt _ _)
def xl (a b c : ByteArray) (n : Nat) : List UInt8 := (List.range n).map fun j => UInt8.ofNat (x3 a b c j)
def xt (a b c : ByteArray) (n : Nat) : ByteArray := ⟨(xl a b c n).toArray⟩
theorem xl_length (a b c : ByteArray) (n : Nat) : (xl a b c n).length = n := by simp [xl]
theorem xt_size (a b c : ByteArray) (n : Nat) : (xt a b c n).size = n := by
  show (xl a b c n).toArray.size = n
  simp [xl]
theorem xl_get (a b c : ByteArray) (n j : Nat) (h : j < (xl a b c n).length) : ((xl a b c n)[j]).toNat = x3 a b c j := by
  have := x3_lt a b c j
  simp only [xl, List.getElem_map, List.getElem_range, UInt8.toNat_ofNat']
  omega
theorem xt_byte {a b c : ByteArray} {n j : Nat} (h : j < n) : byteAt (xt a b c n) j = x3 a b c j := by
  have h' : j < (xt a b c n).size := by rw [xt_size]; exact h
  rw [← byteAt_eq h']
  show (xl a b c n)[j].toNat = _
  exact xl_get _ _ _ _ _ (by rw [xl_length]; exact h)
theorem part_three {a b c : ByteArray} {n : Nat} (ha : n ≤ a.size) (hb : n ≤ b.size) (hc : n ≤ c.size) (z : Nat) : ∀ i, i ≤ n → part z (xt a b c n) i = part z a i ^^^ part z b i ^^^ part z c i
  | 0, _ => by rw [part_zero, part_zero, part_zero, part_zero, Nat.xor_self, Nat.zero_xor]
  | i + 1, h => by
    rw [part_succ _ _ _ (by rw [xt_size]; omega), part_succ _ _ _ (by omega), part_succ _ _ _ (by omega), part_succ _ _ _ (by omega), part_three ha hb hc z i (by omega), xt_byte (by omega)]
    unfold x3
    rw [step_xor, step_xor]
theorem more_cut (s : ByteArray) (n : Nat) : more 0 (s.extract 0 n) = part ones s n ^^^ ones := by
  unfold more part
  rw [Nat.zero_xor, ByteArray.data_extract]
  congr 2
  simp
theorem more_xt (a b c : ByteArray) (n : Nat) : more 0 (xt a b c n) = part ones (xt a b c n) n ^^^ ones := by
  have := part_all ones (xt a b c n)
  rw [xt_size] at this
  unfold more
  rw [Nat.zero_xor, this]
theorem more_three {a b c : ByteArray} {n : Nat} (ha : n ≤ a.size) (hb : n ≤ b.size) (hc : n ≤ c.size) :
    more 0 (xt a b c n) = more 0 (a.extract 0 n) ^^^ more 0 (b.extract 0 n) ^^^ more 0 (c.extract 0 n) := by
  rw [more_xt, more_cut, more_cut, more_cut, part_three ha hb hc ones n (Nat.le_refl _), xor_swap4 (part ones a n) ones (part ones b n) ones, Nat.xor_self, Nat.xor_zero, Nat.xor_assoc (part ones a n ^^^ part ones b n)]
/-- the table, the row of the first i bytes turned; of what was there before nothing has turned -/
structure Row (w : World) (a b c : ByteArray) (n t g i : Nat) (wx : World) : Prop where
  tb : Tbl wx t
  put : ∀ j, j < i → wx.cell? ⟨g, j, none⟩ = some (.int .u8 (x3 a b c j : Int))
  there : ∀ j, j < n → (∃ v, wx.cell? ⟨g, j, none⟩ = some v) ∧ wx.frozen? ⟨g, j, none⟩ = false
  own : g < wx.heap.size
  bel : Below w.heap.size w wx
theorem Row.call {w wx wy : World} {a b c : ByteArray} {n t g i : Nat} (h : Row w a b c n t g i wx) (hb : Below wx.heap.size wx wy) : Row w a b c n t g i wy :=
  ⟨h.tb.call hb, fun j hj => by rw [hb.cell (p := ⟨g, j, none⟩) h.own]; exact h.put j hj,
    fun j hj => by rw [hb.cell (p := ⟨g, j, none⟩) h.own, hb.frozen (p := ⟨g, j, none⟩) h.own]; exact h.there j hj, Nat.lt_of_lt_of_le h.own hb.size, h.bel.trans (hb.mono h.bel.size)⟩
theorem Row.drew {w wx : World} {a b c : ByteArray} {n t g i : Nat} (h : Row w a b c n t g i wx) : Row w a b c n t g i wx.drew := h.call (Below.refl _ _).drew
theorem Row.asked {w wx wy : World} {a b c : ByteArray} {n t g i : Nat} (h : Row w a b c n t g i wx) (ht : w.heap.size ≤ t) (hn : g ≠ t) (f : Full wy t) (ap : Apart t wx wy) : Row w a b c n t g i wy := by
  have hbl := ap.block g h.own hn
  exact ⟨f.tbl, fun j hj => by rw [World.cell?_of_block (w := wx) hbl]; exact h.put j hj,
    fun j hj => by rw [World.cell?_of_block (w := wx) hbl, World.frozen?_of_block (w := wx) hbl]; exact h.there j hj, Nat.lt_of_lt_of_le h.own ap.size, h.bel.trans (ap.far ht h.bel.size)⟩
theorem Row.next {w wx : World} {a b c : ByteArray} {n t g i : Nat} {v : Value} (h : Row w a b c n t g i wx) (hg : w.heap.size ≤ g) (hn : t ≠ g) (hi : i < n) (hv : wx.cell? ⟨g, i, none⟩ = some v) :
    Row w a b c n t g (i + 1) (wx.setCell ⟨g, i, none⟩ (.int .u8 (x3 a b c i : Int))) := by
  refine ⟨h.tb.apart ((Apart.refl g wx).setCell i _) hn, fun j hj => ?_, fun j hj => ⟨?_, by simp [(h.there j hj).2]⟩, by simpa using h.own, h.bel.setCell hg _⟩
  · by_cases e : j = i
    · subst e; exact World.cell?_setCell_same _ _ _ hv
    · rw [World.cell?_setCell_other _ _ _ _ (by first | (simp; done) | (simp; omega))]; exact h.put j (by omega)
  · by_cases e : j = i
    · subst e; exact ⟨_, World.cell?_setCell_same _ _ _ hv⟩
    · rw [World.cell?_setCell_other _ _ _ _ (by first | (simp; done) | (simp; omega))]; exact (h.there j hj).1
theorem Row.text {w wx : World} {a b c : ByteArray} {n t g : Nat} (h : Row w a b c n t g n wx) :
    (convert 50 9 (.slice (some ⟨g, 0, none⟩) n n)).run Try.prog wx = .ok (.string (xt a b c n)) wx := by
  have := run_convert_bytes_back (P := Try.prog) wx 50 9 5 ⟨g, 0, none⟩ n (xl a b c n) Try.underlying50 Try.underlying5 Try.underlying9 (fun j hj => by
    rw [addr_add, Nat.zero_add, xl_get]
    exact h.put j (by rwa [xl_length] at hj))
  rw [xl_length] at this
  exact this
theorem row_sum {w : World} {a b c : ByteArray} {n t g y : Nat} (s : ByteArray) (hs : s.size ≤ 1000) (hy : more 0 s = y) (ht : w.heap.size ≤ t) (hn : g ≠ t) (wx : World) (h : Row w a b c n t g n wx) :
    Calls Try.prog 14 #[.pointer (some ⟨t, 0, none⟩), .string s] wx fun e w' => e = .returned (.int .u32 (y : Int)) ∧ Row w a b c n t g n w' :=
  (sum_any t s wx h.tb hs).mono fun e w' ⟨he, f, ap⟩ => ⟨by rw [he, hy], h.asked ht hn f ap⟩
theorem made_get {n j : Nat} (h : j < n) : (madeCells #[.int .u8 0] n)[j]? = some (.int .u8 0) := by
  simp [madeCells, h, Nat.mod_one]
theorem row_new {w wx : World} {a b c : ByteArray} {n t : Nat} (ht : Tbl wx t) (hb : Below w.heap.size w wx) :
    Row w a b c n t wx.heap.size 0 (wx.alloc (.cells (madeCells #[.int .u8 0] n) 5)) :=
  ⟨ht.call ((Below.refl _ _).alloc (Nat.le_refl _) _), fun j hj => by omega, fun j hj => ⟨⟨.int .u8 0, by simp [go_sem, made_get hj]⟩, by simp [go_sem]⟩, by simp, hb.alloc hb.size _⟩
def LinRel (w : World) (a b c : ByteArray) (n t g k : Nat) (s11 : Value) (wx : World) : Prop := ∃ i : Nat, i + k = n ∧ s11 = .int .i64 (i : Int) ∧ Row w a b c n t g i wx
theorem infoB : (Try.prog.info? 5).map (fun i => (i.zero, i.size, i.bytes)) = some (some (.int .u8 0), 1, 1) := by kernel_rfl
theorem min4 (ts : Array TypeId) (ty : TypeId) (x y z u : Nat) (w : World) :
    (Builtin.min_ ts ty #[.int .i64 (x : Int), .int .i64 (y : Int), .int .i64 (z : Int), .int .i64 (u : Int)]).run Try.prog w = .ok (.int .i64 ((min (min (min x y) z) u : Nat) : Int)) w := by
  simp [Builtin.min_, Builtin.min2]
  repeat' split
  all_goals omega
set_option maxRecDepth 100000 in
set_option maxHeartbeats 8000000 in
theorem walk (a b c : ByteArray) (w : World) :
    Calls Try.prog 8 #[.string a, .string b, .string c] w fun e w' => e = .returned (.bool true) ∧ Below w.heap.size w w' := by
  have hmin : ∀ (ts : Array TypeId) (ty : TypeId) (w : World), (Builtin.min_ ts ty #[.int .i64 (a.size : Int), .int .i64 (b.size : Int), .int .i64 (c.size : Int), .int .i64 100]).run Try.prog w = .ok (.int .i64 ((min (min (min a.size b.size) c.size) 100 : Nat) : Int)) w := fun ts ty w => min4 ts ty a.size b.size c.size 100 w
  obtain ⟨n, hn⟩ : ∃ n, n = min (min (min a.size b.size) c.size) 100 := ⟨_, rfl⟩
  rw [← hn] at hmin
  have na : n ≤ a.size := by omega
  have nb : n ≤ b.size := by omega
  have nc : n ≤ c.size := by omega
  have n1 : n ≤ 100 := by omega
  clear hn
  have hmk := run_make_row' (P := Try.prog) 50 5 (.int .u8 0) 1 Try.underlying50 infoB rfl .i64 .i64 n (by omega) (by omega)
  go_enter Try.func8, Try.ntmps8
  go_wp2_with fail
  (with_reducible refine (awake_any _).mono ?_)
  rintro e w1 ⟨rfl, b1⟩
  go_wp2_with fail
  (with_reducible refine (new_any _).mono ?_)
  rintro e w2 ⟨rfl, hw⟩
  have t2 : Tbl w2 w1.heap.size := by rw [hw]; exact (fresh_new _ _).tbl
  have b2 : Below w.heap.size w w2 := by rw [hw]; exact b1.alloc b1.size _
  have zb : w.heap.size ≤ w1.heap.size := b1.size
  generalize w1.heap.size = t at *
  clear hw b1
  have hne : w2.heap.size ≠ t := by have := t2.lt; omega
  have zg : w.heap.size ≤ w2.heap.size := b2.size
  have R0 := Lib.hid (row_new (w := w) (a := a) (b := b) (c := c) (n := n) t2 b2)
  clear t2 b2
  go_wp2_with fail
  go_loopg [11] n (LinRel w a b c n t w2.heap.size)
  case atStart => exact ⟨0, by omega, rfl, R0.out⟩
  case round =>
    clear R0
    obtain ⟨i, hk, rfl, hr⟩ := hrel
    generalize w2.heap.size = g at *
    have HR := Lib.hid hr
    rcases Nat.lt_or_ge i n with hlt | hge
    · have la : i < a.size := by omega
      have lb : i < b.size := by omega
      have lc : i < c.size := by omega
      have la' : (i : Int) < (a.size : Int) := by omega
      have lb' : (i : Int) < (b.size : Int) := by omega
      have lc' : (i : Int) < (c.size : Int) := by omega
      have ln' : (i : Int) < (n : Int) := by omega
      have ea := byteAt_eq la
      have eb := byteAt_eq lb
      have ec := byteAt_eq lc
      have x1 : bits .xor .u8 (byteAt a i : Int) (byteAt b i : Int) = ((byteAt a i ^^^ byteAt b i : Nat) : Int) := u8_xor_nat _ _ (byteAt_lt _ _) (byteAt_lt _ _)
      have x2 : bits .xor .u8 ((byteAt a i ^^^ byteAt b i : Nat) : Int) (byteAt c i : Int) = (x3 a b c i : Int) := u8_xor_nat _ _ (Nat.xor_lt_two_pow (n := 8) (byteAt_lt _ _) (byteAt_lt _ _)) (byteAt_lt _ _)
      obtain ⟨v, hv⟩ := (hr.there i hlt).1
      have hz := (hr.there i hlt).2
      have HN := Lib.hid (HR.out.drew.next zg (fun e => hne e.symm) hlt (v := v) (by simp [hv]))
      generalize x3 a b c i = q at *
      generalize byteAt a i ^^^ byteAt b i = p at *
      generalize byteAt a i = p1 at *
      generalize byteAt b i = p2 at *
      generalize byteAt c i = p3 at *
      clear hr HR hmin hmk
      go_wp2
      go_region
      all_goals
        go_wp2
        go_roundg (gk - 1)
        case measure => omega
        case rel => exact ⟨i + 1, by omega, rfl, HN.out⟩
    · obtain rfl : i = n := by omega
      have i1 : Is32 (more 0 (a.extract 0 i)) := more_is32 (by unfold Is32; omega)
      have i2 : Is32 (more 0 (b.extract 0 i)) := more_is32 (by unfold Is32; omega)
      have i3 : Is32 (more 0 (c.extract 0 i)) := more_is32 (by unfold Is32; omega)
      have q1 := bits_xor32 i1 i2
      have q2 := bits_xor32 (is32_xor i1 i2) i3
      have za : (a.extract 0 i).size ≤ 1000 := by rw [ByteArray.size_extract]; omega
      have zb' : (b.extract 0 i).size ≤ 1000 := by rw [ByteArray.size_extract]; omega
      have zc : (c.extract 0 i).size ≤ 1000 := by rw [ByteArray.size_extract]; omega
      have C1 := Lib.hid (row_sum (w := w) (a := a) (b := b) (c := c) (n := i) (t := t) (g := g) (xt a b c i) (by rw [xt_size]; omega) (more_three na nb nc) zb hne)
      have C2 := Lib.hid (row_sum (w := w) (a := a) (b := b) (c := c) (n := i) (t := t) (g := g) (a.extract 0 i) za rfl zb hne)
      have C3 := Lib.hid (row_sum (w := w) (a := a) (b := b) (c := c) (n := i) (t := t) (g := g) (b.extract 0 i) zb' rfl zb hne)
      have C4 := Lib.hid (row_sum (w := w) (a := a) (b := b) (c := c) (n := i) (t := t) (g := g) (c.extract 0 i) zc rfl zb hne)
      have hcv := fun (W : World) (h : Row w a b c i t g i W) => h.text
      have la' : (i : Int) ≤ (a.size : Int) := by omega
      have lb' : (i : Int) ≤ (b.size : Int) := by omega
      have lc' : (i : Int) ≤ (c.size : Int) := by omega
      generalize more 0 (a.extract 0 i) = sa at *
      generalize more 0 (b.extract 0 i) = sb at *
      generalize more 0 (c.extract 0 i) = sc at *
      generalize xt a b c i = xs at *
      have HK := Lib.hid hr.drew
      clear hr HR hmin hmk i1 i2 i3 za zb' zc
      go_upto_region 11 with (fail)
      go_region_held3 (fun w' => Row w a b c i t g i w') (first | exact HK.out | assumption | exact kA | exact kB | exact kC | exact kD)
        (first
          | (go_at_call 14; (with_reducible refine (C1.out _ (by first | assumption | exact HK.out)).mono ?_); rintro e wA ⟨rfl, kA⟩)
          | (go_at_call 14; (with_reducible refine (C2.out _ (by first | assumption | exact HK.out)).mono ?_); rintro e wB ⟨rfl, kB⟩)
          | (go_at_call 14; (with_reducible refine (C3.out _ (by first | assumption | exact HK.out)).mono ?_); rintro e wC ⟨rfl, kC⟩)
          | (go_at_call 14; (with_reducible refine (C4.out _ (by first | assumption | exact HK.out)).mono ?_); rintro e wD ⟨rfl, kD⟩))
      all_goals
        go_wp2
        all_goals (go_ret; exact ⟨rfl, by first | exact kD.bel | exact kA.bel | exact kC.bel | exact kB.bel⟩)

set_option maxRecDepth 100000 in
theorem lifted (os : Os) (started : os.Started) (H : Type) (enc : TypeId × Value → H) :
    ReturnsInHanded {} Try.checked os 8 .any (Rows.crcLinearSpec.pre6 enc Try.prog Try.f8 Rows.crcLinearRow.domain false) (Rows.crcLinearSpec.post enc Try.prog Try.f8 false true false false) := by
  refine returnsInHanded_of_change (C := Try.checked) own started (by kernel_rfl) Try.func8
    (ChangeSpec.witness6 (enc := enc) (C := Try.checked) false ⟨#[], #[.string ⟨#[]⟩, .string ⟨#[]⟩, .string ⟨#[]⟩], []⟩ 8 (by kernel_rfl) (by kernel_rfl) (by kernel_rfl) (by kernel_rfl)) ?_
  intro W base args ds gs before hval0 hW hcnd _
  have hval : ∀ (j : Nat) t v, Try.f8.params[j]? = some t → args[j]? = some v → Value.okWide Try.prog W .any base t v := hval0
  have hW' := hW
  obtain ⟨p, q, hA0, hV, rfl, hfz, hnd⟩ := hW
  have hA : DataW.TrodAll enc Try.prog W 0 (fun _ => true) true Try.f8.params.toList args.toList ds p := hA0
  rw [Try.params8] at hA hval
  obtain ⟨v0, vs0, d0, ds0, p0, q0, hargs, rfl, rfl, h0, r0⟩ := trodAll_cons hA
  obtain ⟨v1, vs1, d1, ds1, p1, q1, rfl, rfl, rfl, h1, r1⟩ := trodAll_cons r0
  obtain ⟨v2, vs2, d2, ds2, p2, q2, rfl, rfl, rfl, h2, r2⟩ := trodAll_cons r1
  obtain ⟨rfl, rfl, rfl⟩ := trodAll_nil r2
  obtain rfl : args = #[v0, v1, v2] := by cases args; simp_all
  obtain ⟨rfl, rfl⟩ := trodVars_none hV
  have lt0 : ∀ x ∈ p0, x.block < W.heap.size := by obtain ⟨m, hm⟩ := h0; exact DataW.trod_lt m _ _ _ hm
  obtain ⟨a, e0, -, -, sza⟩ := Go.ChangeMaps.open_string Try.underlying9 (hval 0 9 v0 rfl rfl) h0
  subst e0
  have lt1 : ∀ x ∈ p1, x.block < W.heap.size := by obtain ⟨m, hm⟩ := h1; exact DataW.trod_lt m _ _ _ hm
  obtain ⟨b, e1, -, -, szb⟩ := Go.ChangeMaps.open_string Try.underlying9 (hval 1 9 v1 rfl rfl) h1
  subst e1
  have lt2 : ∀ x ∈ p2, x.block < W.heap.size := by obtain ⟨m, hm⟩ := h2; exact DataW.trod_lt m _ _ _ hm
  obtain ⟨c, e2, -, -, szc⟩ := Go.ChangeMaps.open_string Try.underlying9 (hval 2 9 v2 rfl rfl) h2
  subst e2
  clear hA0 hval0
  refine (walk a b c W).mono fun e W' ⟨he, bel⟩ => ?_
  subst he
  exact ⟨_, rfl, _, _, _, [], _, [], hW', trodAll_mk1 (shut_bool Try.underlying4 _), (trodAll_cons_mk (Below.trod laidOut (by kernel_rfl) (of_decide_eq_true (by kernel_rfl)) h0 bel lt0) (trodAll_cons_mk (Below.trod laidOut (by kernel_rfl) (of_decide_eq_true (by kernel_rfl)) h1 bel lt1) (trodAll_cons_mk (Below.trod laidOut (by kernel_rfl) (of_decide_eq_true (by kernel_rfl)) h2 bel lt2) trodAll_mk0))), rfl, bel.frame _, fun h => by cases h⟩

theorem proved : Rows.CrcLinearSaid :=
  OpenClaim.holds_of_wide 8 Try.f8 rfl rfl rfl rfl rfl rfl rfl ⟨rfl, rfl, rfl, rfl, rfl⟩ rfl rfl rfl rfl rfl (by kernel_rfl) Try.func8 (by kernel_rfl)
    (of_decide_eq_true (by kernel_rfl)) (by unfold Func.isWrapper; first | (rw [if_pos (by decide +kernel)]; kernel_rfl) | (rw [if_neg (by decide +kernel)]; exact ⟨rfl, rfl⟩))
    (fun os started H enc _ => lifted os started H enc)
#print axioms proved
end Go.Proofs.Ytjogdkljimbpcaa.crcLinear
