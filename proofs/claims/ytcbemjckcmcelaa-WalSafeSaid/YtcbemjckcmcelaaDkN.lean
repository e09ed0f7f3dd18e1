/- Contracts of package disk's put and newest, and of the laws' fill. -/
import Derived.Test.YtcbemjckcmcelaaDkA
namespace Go.Proofs.Ytcbemjckcmcelaa.Dk
open Go.ChangeShapes Go.WideShapes Go.ChangeAt Go.RowKit Go.Joins
set_option maxRecDepth 100000
set_option linter.unusedVariables false
set_option linter.unusedSimpArgs false
theorem infoByte : (Try.prog.info? 5).map (fun i => (i.zero, i.size, i.bytes)) = some (some (.int .u8 0), 1, 1) := by kernel_rfl
theorem sizeByte : (Try.prog.info? 5).map (·.size) = some 1 := by kernel_rfl
theorem made_bytes (n : Nat) : madeCells #[.int .u8 0] n = (Lib.byteCells (List.replicate n 0)).toArray := by
  apply Array.ext
  · simp [size_madeCells, Lib.byteCells]
  · intro i h1 h2
    simp [madeCells, Lib.byteCells, Nat.mod_one]
theorem make64 (w : World) :
    (Instr.makeSlice 55 (.int .i64 64) (.int .i64 64)).run Try.prog w = .ok (.slice (some ⟨w.heap.size, 0, none⟩) 64 64) (w.alloc (.cells (Lib.byteCells (List.replicate 64 0)).toArray 5)) := by
  rw [← made_bytes]
  exact run_make_row' (P := Try.prog) 55 5 (.int .u8 0) 1 Try.underlying55 infoByte rfl .i64 .i64 64 (by omega) (by omega) w
/-- a sector of one byte, its first i bytes laid -/
def fillTo (c : UInt8) (i : Nat) : List UInt8 := List.replicate i c ++ List.replicate (64 - i) 0
theorem fillTo_len (c : UInt8) {i : Nat} (h : i ≤ 64) : (fillTo c i).length = 64 := by simp [fillTo]; omega
theorem fillTo_set (c : UInt8) {i : Nat} (h : i < 64) : (fillTo c i).set i c = fillTo c (i + 1) := by
  unfold fillTo
  rw [show 64 - i = (64 - (i + 1)) + 1 by omega, List.replicate_succ, List.set_append_right _ _ (by simp)]
  simp [List.replicate_succ']
def FiRel (w : World) (c : UInt8) (g : Nat) (s4 : Value) (wx : World) : Prop := ∃ i : Nat, i + g = 64 ∧ s4 = .int .i64 (i : Int) ∧ RowB wx w.heap.size 5 (fillTo c i) ∧ Below w.heap.size w wx
theorem arrS : Try.prog.arrayLen 84 = 64 := by kernel_rfl
theorem arrSu : Try.prog.underlying 84 = some (.array (Try.prog.arrayLen 84) (Try.prog.elem 84)) := by kernel_rfl
theorem arrSe (w : World) : (sizeOf (Try.prog.elem 84)).run Try.prog w = .ok 1 w := by kernel_rfl
theorem sliceS (b o : Nat) (w : World) : (Instr.sliceAt 84 (.pointer (some ⟨b, o, none⟩)) none none none).run Try.prog w = .ok (.slice (some ⟨b, o, none⟩) 64 64) w := by
  rw [run_sliceAt_array_all w _ _ arrSu, arrSe]
  simp only [Result.andThen, slicedAt, arrS]
  simp [Addr.add]
theorem sliceSk (b o k : Nat) (hk : k ≤ 64) (w : World) : (Instr.sliceAt 84 (.pointer (some ⟨b, o, none⟩)) none (some (.int .i64 (k : Int))) none).run Try.prog w = .ok (.slice (some ⟨b, o, none⟩) k 64) w := by
  rw [run_sliceAt_array_h w _ _ arrSu .i64 k (by omega) (by rw [arrS]; omega), arrSe]
  simp only [Result.andThen, slicedAt, arrS]
  simp [Addr.add]
theorem DkAt.setRow {B b g : Nat} {v : Value} {s : DS} {w : World} (h : DkAt B b g v s w) (S : List (List UInt8)) (hl : S.length = s.sec.length) (hS : ∀ x ∈ S, x.length = 64) :
    DkAt B b g v ⟨S, s.opn, s.fail, s.reads⟩ (w.setRow g (Lib.byteCells S.flatten).toArray) := by
  refine ⟨⟨by show S.length ≤ _; rw [hl]; exact h.ok.len, hS, fun p hp => by show p.1 < S.length ∧ _; rw [hl]; exact h.ok.opn p hp⟩, h.hb, h.hg, ?_, h.row.put _, h.own.kept (row := some g) ⟨rfl, rfl, rfl, by simp [World.setRow], fun k _ hk => setRow_other _ _ _ _ (fun e => hk (by simp [e]))⟩ ?_⟩
  · rw [setRow_other _ _ _ _ (fun e => h.ne e.symm)]
    show _ = some (Obj.cells #[.slice (some ⟨g, 0, none⟩) S.length S.length, _, _, _] _ _)
    rw [hl]
    exact h.blk
  · exact .inr (fun e => (h.ownNe e).2 rfl)
set_option maxRecDepth 100000 in
set_option maxHeartbeats 1000000 in
theorem put_any (B b g : Nat) (v : Value) (s : DS) (a : Nat) (bs : List UInt8) (k : Nat) (w : World) (h : DkAt B b g v s w) (ha : a < s.sec.length) (hbs : bs.length = 64) (hk : k ≤ 64) :
    Calls Try.prog 39 #[ptr b, .agg (putCells (a, bs)).toArray, .int .i64 (k : Int)] w fun e w' => e = .returned (.tuple #[]) ∧ DkAt B b g v ⟨putS s.sec a bs k, s.opn, s.fail, s.reads⟩ w' ∧ Moved b w w' := by
  have hl := h.ok.len
  have hlt := h.lt
  have ha1 : (a : Int) < (s.sec.length : Int) := by omega
  have n0 : (w.alloc (.cells (putCells (a, bs)).toArray 86)).cell? ⟨w.heap.size, 0, none⟩ = some (.int .i64 (a : Int)) := by simp [go_sem, putCells]
  have nr : ∀ j u, (Lib.byteCells (bs.take k))[j]? = some u → (w.alloc (.cells (putCells (a, bs)).toArray 86)).cell? ((⟨w.heap.size, 1, none⟩ : Addr).add j) = some u := by
    intro j u hu
    rw [addr_add]
    have hj : j < k := by have := (List.getElem?_eq_some_iff.1 hu).1; rw [byteCells_len, List.length_take] at this; omega
    have e : (Lib.byteCells bs)[j]? = some u := by
      simp [Lib.byteCells, hj] at hu ⊢; exact hu
    simp [go_sem, putCells, Nat.add_comm 1 j, e]
  have h1 := (h.alloc (.cells (putCells (a, bs)).toArray 86)).drew
  have m1 := ((Moved.refl b w).alloc hlt (.cells (putCells (a, bs)).toArray 86)).drew
  generalize (putCells (a, bs)).toArray = C at *
  have lc : (Lib.byteCells (bs.take k)).length = k := by rw [byteCells_len, List.length_take]; omega
  have hfl : s.sec.flatten.length = 64 * s.sec.length := flat_len h.ok.sec
  have cp := run_copy_row (P := Try.prog) (w.alloc (.cells C 86)).drew 55 55 3 5 g (64 * a) 64 64 ⟨w.heap.size, 1, none⟩ k 64 (Lib.byteCells s.sec.flatten).toArray 84 (Lib.byteCells (bs.take k)) Try.underlying55 sizeByte h1.row (by rw [lc]; exact (Nat.min_eq_left hk).symm) (fun j u hu => by rw [World.cell?_drew]; exact nr j u hu) (by rw [lc]; simp [byteCells_len, hfl]; omega) (byteCells_one _)
  have FIN : Hid (DkAt B b g v ⟨putS s.sec a bs k, s.opn, s.fail, s.reads⟩ ((w.alloc (.cells C 86)).drew.setRow g (Lib.byteCells (putS s.sec a bs k).flatten).toArray) ∧ Moved b w ((w.alloc (.cells C 86)).drew.setRow g (Lib.byteCells (putS s.sec a bs k).flatten).toArray)) :=
    Lib.hid ⟨h1.setRow _ (putS_length _ _ _ _) (putS_sec h.ok.sec ha hbs hk), m1.row h.ne (h1.owns.2 (.inr (.inl rfl))) _⟩
  have e2 : ((Lib.byteCells s.sec.flatten).toArray.toList.take (64 * a) ++ Lib.byteCells (bs.take k) ++ (Lib.byteCells s.sec.flatten).toArray.toList.drop (64 * a + (Lib.byteCells (bs.take k)).length)).toArray = (Lib.byteCells (putS s.sec a bs k).flatten).toArray := by
    rw [putS_flat h.ok.sec ha hbs hk, lc]
    simp [Lib.byteCells, List.map_take, List.map_drop]
  rw [e2, lc, Nat.mul_comm] at cp
  clear e2
  generalize (Lib.byteCells (putS s.sec a bs k).flatten).toArray = M at *
  have c0 : (w.alloc (.cells C 86)).cell? ⟨b, 0, none⟩ = some (.slice (some ⟨g, 0, none⟩) s.sec.length s.sec.length) := by have := h1.c0; rwa [World.cell?_drew] at this
  have s1 := sliceS g
  have s2 := sliceSk w.heap.size 1 k hk
  clear h h1 m1 nr hfl lc
  go_enter Try.func39, Try.ntmps39
  go_wp2
  generalize w.alloc (.cells C 86) = W at *
  go_still_tail 11, (by kernel_rfl)
  change wpList _ _ _ _ _ W.drew
  go_wp2
  go_end0
  exact ⟨rfl, FIN.out⟩
theorem zeroS : (∀ w, (zeroValue 84).run Try.prog w = .ok (.agg (Lib.byteCells (List.replicate 64 0)).toArray) w) ∧ (Try.prog.info? 84).map (·.size) = some 64 := zero_of_info (by kernel_rfl)
theorem undS : Try.prog.underlying 84 = some (.array 64 5) := by kernel_rfl
theorem byteA_size {l : List UInt8} (h : l.length = 64) : (Lib.byteCells l).toArray.size = 64 := by simp [Lib.byteCells, h]
theorem results_cell {fn : Func} {p : Tmp} {ty : TypeId} (h : fn.results = #[.cell p ty]) (tmps : Array Value) (P : Program) (w : World) :
    (results fn tmps).run P w = ((asAddr (tmps.getD p undef)).run P w).andThen fun a w₁ => (loadVar ty a).run P w₁ := by
  simp only [results, h]
  simp [Sem.run_bind, Result.andThen]
theorem RowB.there {w : World} {g : Nat} {T : TypeId} {l : List UInt8} (h : RowB w g T l) (hl : l.length = 64) : w.there g 0 64 := fun j hj => by
  rw [Nat.zero_add, h.cell (by omega)]; exact ⟨rfl, h.frozen j⟩
theorem below_setCells {B : Nat} {w0 : World} (b : Nat) (hb : B ≤ b) : ∀ (vs : List Value) (o : Nat) (w : World), Below B w0 w → Below B w0 (w.setCells b o vs) := by
  intro vs
  induction vs with
  | nil => intro o w h; exact h
  | cons v vs ih => intro o w h; exact ih _ _ (h.setCell hb v)
theorem load_back {w : World} {R : Nat} {l : List UInt8} (hl : l.length = 64) (ht : w.there R 0 64) : (loadVar 84 ⟨R, 0, none⟩).run Try.prog (w.setCells R 0 (Lib.byteCells l).toArray.toList) = .ok (.agg (Lib.byteCells l).toArray) (w.setCells R 0 (Lib.byteCells l).toArray.toList) := by
  have e : (Lib.byteCells l).toArray.toList = Lib.byteCells l := by simp
  have hr : (w.setCells R 0 (Lib.byteCells l).toArray.toList).rangeAt R 0 (Lib.byteCells l) := by
    rw [e]; exact World.rangeAt_setCells_same w R 0 _ (by rw [byteCells_len, hl]; exact ht)
  exact run_loadVar_mid _ R 0 _ _ _ hr undS rfl (by rw [byteCells_len, hl]; exact zeroS.2)
theorem ret_sec (tmps : Array Value) (R : Nat) (l : List UInt8) (w : World) (h4 : tmps.getD 4 undef = .pointer (some ⟨R, 0, none⟩)) (hl : l.length = 64) (ht : w.there R 0 64) :
    (results Try.f59 tmps).run Try.prog (w.setCells R 0 (Lib.byteCells l).toArray.toList) = .ok (.agg (Lib.byteCells l).toArray) (w.setCells R 0 (Lib.byteCells l).toArray.toList) := by
  rw [results_cell rfl, h4]
  exact load_back hl ht
def NwRel (s : DS) (a : Nat) (w W : World) (g : Nat) (s5 : Value) (wx : World) : Prop := g ≤ s.opn.length ∧ s5 = .int .i64 ((g : Int) - 1) ∧ lastOf (s.opn.drop g) a = none ∧ wx = W
set_option maxRecDepth 100000 in
set_option maxHeartbeats 1000000 in
theorem newest_any (B b : Nat) (s : DS) (a : Nat) (w : World) (h : Dk B b s w) (ha : a < s.sec.length) (hn : s.opn.length ≤ 1000000) :
    Calls Try.prog 59 #[ptr b, .int .i64 (a : Int)] w fun e w' => e = .returned (.agg (Lib.byteCells (newestOf s a)).toArray) ∧ Below w.heap.size w w' := by
  obtain ⟨g, v, h⟩ := h
  have z := zeroS.1
  have hl := h.ok.len
  have hlt := h.lt
  have r0 := rowB_new w (List.replicate 64 0) 84
  have h1 := h.alloc (.cells (Lib.byteCells (List.replicate 64 0)).toArray 84)
  have TH := Lib.hid (r0.there (by simp))
  have B1 := Lib.hid ((Below.refl w.heap.size w).alloc (Nat.le_refl _) (.cells (Lib.byteCells (List.replicate 64 0)).toArray 84))
  have NL := Lib.hid (newestOf_length h.ok ha)
  have OPN := Lib.hid h.ok.opn
  have SEC := Lib.hid h.ok.sec
  clear r0 h
  generalize (Lib.byteCells (List.replicate 64 0)).toArray = M at *
  have c0 := h1.c0
  have c1 := h1.c1
  obtain ⟨p, cap, hv, hp⟩ : ∃ p cap, v = .slice p s.opn.length cap ∧ (0 < s.opn.length → ∃ k, p = some ⟨k, 0, none⟩) := by
    rcases h1.own.2 with ⟨rfl, h0⟩ | ⟨g', cap, cur, rfl, _⟩
    · exact ⟨none, 0, by rw [h0], by omega⟩
    · exact ⟨_, cap, rfl, fun _ => ⟨_, rfl⟩⟩
  subst hv
  have H1 := Lib.hid h1
  have HP := Lib.hid hp
  clear h1 hp
  go_enter Try.func59, Try.ntmps59
  go_wp2
  generalize hW : w.alloc (.cells M 84) = W at *
  clear hW z
  go_loopg [5] (s.opn.length) (NwRel s a w W)
  case atStart => exact ⟨Nat.le_refl _, rfl, by simp [lastOf], rfl⟩
  case round =>
    obtain ⟨hg, rfl, hno, rfl⟩ := hrel
    rcases Nat.eq_zero_or_pos gk with rfl | hpos
    · have E : Hid (newestOf s a = s.sec[a]) := Lib.hid (by
        unfold newestOf
        rw [List.drop_zero] at hno
        rw [hno]; simp [ha])
      have R := Lib.hid (H1.out.sect ha)
      have ha1 : (a : Int) < (s.sec.length : Int) := by omega
      have hsl : s.sec[a].length = 64 := SEC.out _ (List.getElem_mem ha)
      clear hno
      go_wp2_with (first
        | (refine wpList_load_mid rfl 84 (.tmp 39) rfl g (a * 64) rfl (Lib.byteCells s.sec[a]) (.array 64 5) R.out undS rfl (by rw [byteCells_len, hsl]; exact zeroS.2) ?_)
        | (refine wpList_store_mid rfl 84 (.tmp 4) (.tmp 40) rfl w.heap.size 0 (Lib.byteCells s.sec[a]).toArray rfl rfl (by rw [byteA_size hsl]; exact TH.out) (by rw [byteA_size hsl]; exact zeroS.2) (all_oneCell_toArray (byteCells_one _)) ?_))
      refine bodyPost_ret (ret_sec _ w.heap.size s.sec[a] _ rfl hsl TH.out) rfl ⟨by rw [E.out], below_setCells _ (Nat.le_refl _) _ _ _ B1.out⟩
    · obtain ⟨i, rfl⟩ : ∃ i, gk = i + 1 := ⟨gk - 1, by omega⟩
      have hi : i < s.opn.length := by omega
      obtain ⟨k, rfl⟩ := HP.out (by omega)
      have R := H1.out.put rfl hi
      have hlen : s.opn[i].2.length = 64 := (OPN.out _ (List.getElem_mem hi)).2
      have R0 : wr.cell? ⟨k, i * 65, none⟩ = some (.int .i64 (s.opn[i].1 : Int)) := by
        have := R 0 (.int .i64 (s.opn[i].1 : Int)) rfl
        rwa [Nat.add_zero] at this
      have R1 := Lib.hid (show wr.rangeAt k (i * 65 + 1) (Lib.byteCells s.opn[i].2) from fun j u hu => by
        have := R (j + 1) u (by simpa [putCells] using hu)
        rwa [show i * 65 + 1 + j = i * 65 + (j + 1) by omega])
      clear R
      have x1 : ((i + 1 : Nat) : Int) - 1 = (i : Int) := by omega
      rw [x1]
      by_cases he : s.opn[i].1 = a
      · have E : Hid (newestOf s a = s.opn[i].2) := Lib.hid (by unfold newestOf; rw [lastOf_at hi hno he]; rfl)
        have t : ((s.opn[i].1 : Int) == (a : Int)) = true := by simp [he]
        generalize s.opn[i].1 = q at *
        generalize s.opn[i].2 = bs at *
        clear hno he x1
        go_wp2_with (first
          | (refine wpList_load_mid rfl 84 (.tmp 32) rfl k (i * 65 + 1) rfl (Lib.byteCells bs) (.array 64 5) R1.out undS rfl (by rw [byteCells_len, hlen]; exact zeroS.2) ?_)
          | (refine wpList_store_mid rfl 84 (.tmp 4) (.tmp 33) rfl w.heap.size 0 (Lib.byteCells bs).toArray rfl rfl (by rw [byteA_size hlen]; exact TH.out) (by rw [byteA_size hlen]; exact zeroS.2) (all_oneCell_toArray (byteCells_one _)) ?_))
        refine bodyPost_ret (ret_sec _ w.heap.size bs _ rfl hlen TH.out) rfl ⟨by rw [E.out], below_setCells _ (Nat.le_refl _) _ _ _ B1.out⟩
      · have N1 := Lib.hid (lastOf_not hi hno he)
        have t : ((s.opn[i].1 : Int) == (a : Int)) = false := by simp; omega
        generalize s.opn[i].1 = q at *
        clear hno he x1
        go_wp2
        go_roundg i
        case measure => omega
        case rel => exact ⟨by omega, rfl, N1.out, rfl⟩
end Go.Proofs.Ytcbemjckcmcelaa.Dk
