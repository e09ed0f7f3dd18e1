/- Package judge's Gone. -/
import Derived.Test.YtgbnoifaknlkhaaJuE
namespace Go.Proofs.Ytgbnoifaknlkhaa.Ju
open Go.ChangeShapes Go.WideShapes Go.ChangeAt Go.RowKit Go.Joins
open Pm (Tk chk chk_iff)
open Ge (El Seen Row)
open Ox (Od chkR chkR_iff tk0)
open Tb
set_option maxRecDepth 100000
set_option maxRecDepth 100000
set_option linter.unusedVariables false
set_option linter.unusedSimpArgs false
theorem row_setT {L : List (Nat × Array Value × Nat)} {w W : World} {B : Nat} {v : Value} {l : List Tk} (hr : Row tcs 5 32 B W v l) (h : Bos L w W) {p : Nat} {cs : Array Value} {T : Nat} (i : Nat) (hi : L[i]? = some (p, cs, T)) (hT : T ≠ 32) (o : Nat) (x : Value) : Row tcs 5 32 B (W.setCell ⟨p, o, none⟩ x) v l :=
  hr.of_blocks fun k hk => Below.heap_setCell _ _ _ _ (fun e => row_neT hr (h.at_ _ (List.mem_of_getElem? hi)).1 hT (by rw [hk]; simp only at e; rw [e]))
theorem gone_no {a b : Tb.Tb} (h : chkT a = false ∨ chkT b = false) : goneR a b = [] := by
  unfold goneR
  rw [if_neg]
  rintro ⟨h1, h2⟩
  rcases h with h | h
  · rw [h1] at h; cases h
  · rw [h2] at h; cases h
/-- a step of Gone: what is gone of one row more -/
theorem gone_step {ma mb : Int} {b l : List Rw} {i : Nat} (h : i < l.length) (hb : ∀ q ∈ b, chk q.t = true) (hr : chk l[i].t = true) : goneL ma mb b (l.take (i + 1)) = if bt ma l[i].t = true ∧ keptR mb b l[i] < l[i].t.c then goneL ma mb b (l.take i) ++ [{ l[i].t with c := l[i].t.c - keptR mb b l[i] }] else goneL ma mb b (l.take i) := by
  rw [goneL_take h, goneOne_kept hb hr]
  by_cases h1 : bt ma l[i].t = true
  · by_cases h2 : keptR mb b l[i] < l[i].t.c
    · rw [if_pos h1, if_pos h2, if_pos ⟨h1, h2⟩]
    · rw [if_pos h1, if_neg h2, if_neg (fun h => h2 h.2), List.append_nil]
  · rw [if_neg h1, if_neg (fun h => h1 h.1), List.append_nil]
theorem no3 {p q r : Nat} {a b c : Array Value} : ∀ y ∈ ([(p, a, 48), (q, b, 29), (r, c, 29)] : List (Nat × Array Value × Nat)), y.2.2 ≠ 32 := by
  intro y hy
  simp only [List.mem_cons, List.not_mem_nil, or_false] at hy
  rcases hy with rfl | rfl | rfl
  · exact (by decide : (48 : Nat) ≠ 32)
  · exact (by decide : (29 : Nat) ≠ 32)
  · exact (by decide : (29 : Nat) ≠ 32)
def GoRel (a b : Tb.Tb) (L : List (Nat × Array Value × Nat)) (w : World) (g : Nat) (s t : Value) (wx : World) : Prop :=
  ∃ (i : Nat) (v : Value), i + g = a.rows.length ∧ s = .int .i64 (i : Int) ∧ v = t ∧ Row tcs 5 32 w.heap.size wx v (goneL a.mode b.mode b.rows (a.rows.take i)) ∧ Bos L w wx
set_option maxHeartbeats 8000000 in
theorem gone_any (a b : Tb.Tb) (ao : Option Addr) (ac : Nat) (bo : Option Addr) (bc : Nat) (w : World) (hA : Seen Rw.cs 6 ao a.rows w) (hB : Seen Rw.cs 6 bo b.rows w) (h1 : a.rows.length ≤ 1000) (h2 : b.rows.length ≤ 1000) :
    Calls Try.prog 18 #[tv ao a.rows.length ac a.mode, tv bo b.rows.length bc b.mode] w fun e w' => ∃ v, e = .returned v ∧ Row tcs 5 32 w.heap.size w' v (goneR a b) ∧ Below w.heap.size w w' := by
  have CA : Hid (∀ W, Below w.heap.size w W → Calls Try.prog 35 #[tv ao a.rows.length ac a.mode] W fun e w' => e = .returned (.bool (chkT a)) ∧ Below W.heap.size W w') := Lib.hid (fun W hb => check_any a ao ac W (hA.below hb (Nat.le_refl _)) h1)
  have CB : Hid (∀ W, Below w.heap.size w W → Calls Try.prog 35 #[tv bo b.rows.length bc b.mode] W fun e w' => e = .returned (.bool (chkT b)) ∧ Below W.heap.size W w') := Lib.hid (fun W hb' => check_any b bo bc W (hB.below hb' (Nat.le_refl _)) h2)
  have NO : Hid (chkT a = false ∨ chkT b = false → goneR a b = []) := Lib.hid gone_no
  have YES : Hid (chkT a = true → chkT b = true → goneR a b = goneL a.mode b.mode b.rows a.rows) := Lib.hid (fun h1 h2 => if_pos ⟨h1, h2⟩)
  have H0 := Lib.hid (((bos_nil w).new #[.slice ao a.rows.length ac, .int .i64 a.mode] 29).new #[.slice bo b.rows.length bc, .int .i64 b.mode] 29)
  rw [World.size_alloc] at H0
  have SA := Lib.hid hA
  have SB := Lib.hid hB
  have K1 : Hid (chkT a = true → 0 ≤ a.mode ∧ a.mode ≤ 3 ∧ ∀ q ∈ a.rows, chk q.t = true) := Lib.hid (fun h => by
    obtain ⟨c1, -, -, c4, c5⟩ := chkT_iff.1 h
    exact ⟨c4, c5, fun q hq => (okW_iff.1 (c1 q hq)).1⟩)
  have K2 : Hid (chkT b = true → ∀ q ∈ b.rows, chk q.t = true) := Lib.hid (fun h => by
    obtain ⟨c1, -, -, c4, c5⟩ := chkT_iff.1 h
    exact fun q hq => (okW_iff.1 (c1 q hq)).1)
  have GO : Hid (chkT b = true → ∀ (r : Rw) (p : Nat) (W : World), Below w.heap.size w W → W.cell? ⟨p, 0, none⟩ = some (.slice bo b.rows.length bc) → W.cell? ⟨p, 1, none⟩ = some (.int .i64 b.mode) → Calls Try.prog 36 #[r.v, .pointer (some ⟨p, 0, none⟩)] W fun e w' => e = .returned (.int .i64 (keptR b.mode b.rows r)) ∧ Below W.heap.size W w') := Lib.hid (fun hc r p W hb' c0 c1 => gone1_any b r p bo bc W c0 c1 (hB.below hb' (Nat.le_refl _)) hc)
  generalize goneR a b = R at *
  generalize chkT a = qa at *
  generalize chkT b = qb at *
  obtain ⟨A, ma⟩ := a
  obtain ⟨B, mb⟩ := b
  unfold tv at *
  simp only at *
  generalize B.length = bn at *
  clear hA hB
  obtain ⟨a0, a1⟩ := cell2 (H0.out.cell 1 rfl)
  obtain ⟨b0, b1⟩ := cell2 (H0.out.cell 0 rfl)
  go_enter Try.func18, Try.ntmps18
  go_wp2_with fail
  go_step3
  go_wp2_with fail
  (with_reducible refine (CA.out _ H0.out.bl).mono ?_)
  rintro e w1 ⟨rfl, x1⟩
  have H1 := Lib.hid (H0.out.call x1)
  clear x1 CA H0 a0 a1 b0 b1
  obtain ⟨a0, a1⟩ := cell2 (H1.out.cell 1 rfl)
  obtain ⟨b0, b1⟩ := cell2 (H1.out.cell 0 rfl)
  cases qa
  · have E := Lib.hid (NO.out (.inl rfl))
    clear NO YES CB GO K1 K2
    go_wp2
    try simp only [Exit.noGoto]
    exact bodyPost_ret (v := .slice none 0 0) (by simp [results, Try.results18, go_sem]) rfl ⟨_, rfl, by rw [E.out]; exact Ge.row_nil _ _, H1.out.bl⟩
  go_wp2_with fail
  (with_reducible refine (CB.out _ H1.out.bl).mono ?_)
  rintro e w2 ⟨rfl, x2⟩
  have H2 := Lib.hid (H1.out.call x2)
  clear x2 CB H1 a0 a1 b0 b1
  obtain ⟨a0, a1⟩ := cell2 (H2.out.cell 1 rfl)
  obtain ⟨b0, b1⟩ := cell2 (H2.out.cell 0 rfl)
  cases qb
  · have E := Lib.hid (NO.out (.inr rfl))
    clear NO YES GO K1 K2
    go_wp2
    try simp only [Exit.noGoto]
    exact bodyPost_ret (v := .slice none 0 0) (by simp [results, Try.results18, go_sem]) rfl ⟨_, rfl, by rw [E.out]; exact Ge.row_nil _ _, H2.out.bl⟩
  obtain ⟨hk0, hk1, hkA⟩ := K1.out (by first | exact trivial | rfl)
  have KA := Lib.hid hkA
  have KB := Lib.hid (K2.out (by first | exact trivial | rfl))
  have GC := Lib.hid (GO.out (by first | exact trivial | rfl))
  have E := Lib.hid (YES.out (by first | exact trivial | rfl) (by first | exact trivial | rfl))
  have IS : Hid (∀ (r : Rw) W, Calls Try.prog 38 #[r.v, .int .i64 ma] W fun e w' => e = .returned (.bool (bt ma r.t)) ∧ Below W.heap.size W w') := Lib.hid (fun r W => isin_any r ma ⟨hk0, hk1⟩ W)
  have FL : Hid (goneL ma mb B (A.take A.length) = goneL ma mb B A) := Lib.hid (by rw [List.take_length])
  clear NO YES GO K1 K2 hkA
  have G : Hid (GoRel ⟨A, ma⟩ ⟨B, mb⟩ [(w.heap.size + 1, #[.slice bo bn bc, .int .i64 mb], 29), (w.heap.size, #[.slice ao A.length ac, .int .i64 ma], 29)] w A.length (.int .i64 0) (.slice none 0 0) w2) := Lib.hid ⟨0, _, by simp, rfl, rfl, Ge.row_nil _ _, H2.out⟩
  go_wp2_with fail
  go_step3
  go_wp2_with fail
  go_loopg [22, 6] A.length (GoRel ⟨A, ma⟩ ⟨B, mb⟩ [(w.heap.size + 1, #[.slice bo bn bc, .int .i64 mb], 29), (w.heap.size, #[.slice ao A.length ac, .int .i64 ma], 29)] w)
  case atStart => exact G.out
  case round =>
    obtain ⟨i, v, hi, rfl, rfl, hr, hB⟩ := hrel
    simp only at hi hr
    have HI := Lib.hid hi
    clear G H2 a0 a1 b0 b1
    obtain ⟨qa, qk, qc, rfl⟩ : ∃ a k c, v = Value.slice a k c := by obtain ⟨ao, cap, e, -⟩ := Row.form tcs_len hr; exact ⟨_, _, _, e⟩
    by_cases hlt : i < A.length
    · obtain ⟨b', off, rfl, hb, hat⟩ := (SA.out.below hB.bl (Nat.le_refl _)) (by omega)
      have hx := row_cells hat (List.getElem?_eq_getElem hlt)
      have hlt' : (i : Int) < (A.length : Int) := by omega
      have hg0 : 0 < gk := by omega
      have TK := Lib.hid (gone_step (ma := ma) (mb := mb) (b := B) hlt KB.out (KA.out _ (List.getElem_mem hlt)))
      have hxc := (chk_iff.1 (KA.out _ (List.getElem_mem hlt)))
      have hkr := kept_in (mb := mb) (r := A[i]) KB.out
      have hlen : (goneL ma mb B (A.take i)).length ≤ 90000 := by have := goneL_len ma mb B (A.take i); rw [List.length_take] at this; omega
      have GX := Lib.hid (GC.out A[i])
      have IX := Lib.hid (IS.out A[i])
      generalize keptR mb B A[i] = K at *
      generalize bt ma A[i].t = q at *
      generalize A[i] = x at *
      obtain ⟨⟨xi, xc, xd, xt, xm⟩, xs⟩ := x
      unfold Rw.v at *
      simp only at hx TK hxc hkr GX IX
      have hxc1 : 1 ≤ xc ∧ xc ≤ 2147483648 := by omega
      obtain ⟨r0, r1, r2, r3, r4, r5⟩ := hx
      have ba : Below wr.heap.size wr (wr.alloc (.cells #[.int .i64 xi, .int .i64 xc, .int .i64 xd, .int .i64 xt, .int .i64 xm, .bool xs] 48)) := (Below.refl _ _).alloc (Nat.le_refl _) _
      have HN := Lib.hid (hB.new #[.int .i64 xi, .int .i64 xc, .int .i64 xd, .int .i64 xt, .int .i64 xm, .bool xs] 48)
      have RN := Lib.hid (hr.call ba)
      obtain ⟨c0, c1, c2, c3, c4, c5⟩ := cell6 (HN.out.cell 0 rfl)
      have bc := cell2 (HN.out.cell 1 rfl)
      have CC := Lib.hid (GX.out _ _ HN.out.bl bc.1 bc.2)
      clear hi hat hr hB hb ba bc GX GC IS hxc SA SB KA KB
      go_wp2_with fail
      (with_reducible refine CC.out.mono ?_)
      rintro e w3 ⟨rfl, b3⟩
      have H3 := Lib.hid (HN.out.call b3)
      have R3 := Lib.hid (RN.out.call b3)
      clear b3 CC HN RN c0 c1 c2 c3 c4 c5
      obtain ⟨c0, c1, c2, c3, c4, c5⟩ := cell6 (H3.out.cell 0 rfl)
      obtain ⟨a0, a1⟩ := cell2 (H3.out.cell 2 rfl)
      go_wp2_with fail
      (with_reducible refine (IX.out _).mono ?_)
      rintro e w4 ⟨rfl, b4⟩
      have H4 := Lib.hid (H3.out.call b4)
      have R4 := Lib.hid (R3.out.call b4)
      clear b4 IX H3 R3 c0 c1 c2 c3 c4 c5 a0 a1
      obtain ⟨c0, c1, c2, c3, c4, c5⟩ := cell6 (H4.out.cell 0 rfl)
      by_cases hq : q = true ∧ K < xc
      · have TN := Lib.hid (TK.out.trans (if_pos hq))
        obtain ⟨rfl, hk⟩ := hq
        have hsub : IntKind.i64.wrap (xc - K) = xc - K := IntWalk.i64_in _ (by omega)
        have cf := H4.out.fz 0 rfl
        have H5 : Hid (Bos [(wr.heap.size, #[.int .i64 xi, .int .i64 (xc - K), .int .i64 xd, .int .i64 xt, .int .i64 xm, .bool xs], 48), (w.heap.size + 1, #[.slice bo bn bc, .int .i64 mb], 29), (w.heap.size, #[.slice (some ⟨b', off, none⟩) A.length ac, .int .i64 ma], 29)] w (w4.setCell ⟨wr.heap.size, 1, none⟩ (.int .i64 (xc - K)))) := Lib.hid (H4.out.set 0 rfl 1 (.int .i64 (xc - K)))
        have R5 := row_setT R4.out H4.out 0 rfl (by decide) 1 (.int .i64 (xc - K))
        obtain ⟨d0, d1, d2, d3, d4, d5⟩ := cell6 (H5.out.cell 0 rfl)
        obtain ⟨v5, w5, ap5, r5', h5⟩ := app_el elT (⟨xi, xc - K, xd, xt, xm⟩ : Tk) #[.int .i64 xi, .int .i64 (xc - K), .int .i64 xd, .int .i64 xt, .int .i64 xm] rfl H5.out no3 R5 hlen
        rw [← TN.out] at r5'
        rw [World.size_setCell] at ap5
        have R6 := Lib.hid r5'
        have H6 := Lib.hid (h5.sub (List.sublist_cons_self _ _))
        clear R5 r5' h5 H5 TN TK H4 R4
        go_wp2_with (at_builtin; refine Lib.wpList_append_run _ rfl _ _ _ _ rfl _ _ rfl rfl _ _ ap5 ?_)
        go_roundg (gk - 1)
        case measure => omega
        case rel => exact ⟨i + 1, _, by have := HI.out; simp only; omega, by go_num, rfl, R6.out, H6.out⟩
      · have TN := TK.out.trans (if_neg hq)
        have R5 : Hid (Row tcs 5 32 w.heap.size w4 (.slice qa qk qc) (goneL ma mb B (A.take (i + 1)))) := Lib.hid (by rw [TN]; exact R4.out)
        have H5 := Lib.hid (H4.out.sub (List.sublist_cons_self _ _))
        clear TN TK H4 R4
        cases q
        · clear hq
          go_wp2
          go_roundg (gk - 1)
          case measure => omega
          case rel => exact ⟨i + 1, _, by have := HI.out; simp only; omega, by go_num, rfl, R5.out, H5.out⟩
        · have hk : xc ≤ K := by simp at hq; omega
          clear hq
          go_wp2
          go_roundg (gk - 1)
          case measure => omega
          case rel => exact ⟨i + 1, _, by have := HI.out; simp only; omega, by go_num, rfl, R5.out, H5.out⟩
    · have hge : (A.length : Int) ≤ (i : Int) := by omega
      obtain rfl : i = A.length := by omega
      rw [FL.out, ← E.out] at hr
      have RW := Lib.hid hr
      have KB := Lib.hid hB.bl
      clear hB hi hr hlt GC IS
      go_wp2
      try simp only [Exit.noGoto]
      exact bodyPost_ret (v := .slice qa qk qc) (by simp [results, Try.results18, go_sem]) rfl ⟨_, rfl, RW.out, KB.out⟩
end Go.Proofs.Ytgbnoifaknlkhaa.Ju
