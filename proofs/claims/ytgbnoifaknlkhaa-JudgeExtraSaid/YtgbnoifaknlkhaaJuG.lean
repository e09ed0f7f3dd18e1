/- The document's Gone. -/
import Derived.Test.YtgbnoifaknlkhaaJuF
namespace Go.Proofs.Ytgbnoifaknlkhaa.Ju
open Go.ChangeShapes Go.WideShapes Go.ChangeAt Go.RowKit Go.Joins
open Pm (Tk chk chk_iff)
open Ge (El Seen Row)
open Ox (Od chkR chkR_iff tk0)
open Tb
set_option maxRecDepth 100000
set_option maxRecDepth 100000
set_option linter.unusedVariables false
set_option linter.unusedSimpArgs false
theorem cell5 {W : World} {p : Nat} {a b c d e : Value} (h : ∀ o, W.cell? ⟨p, o, none⟩ = (#[a, b, c, d, e] : Array Value)[o]?) : W.cell? ⟨p, 0, none⟩ = some a ∧ W.cell? ⟨p, 1, none⟩ = some b ∧ W.cell? ⟨p, 2, none⟩ = some c ∧ W.cell? ⟨p, 3, none⟩ = some d ∧ W.cell? ⟨p, 4, none⟩ = some e := ⟨h 0, h 1, h 2, h 3, h 4⟩
theorem no4 {p q r s : Nat} {a b c d : Array Value} : ∀ y ∈ ([(s, d, 48), (p, a, 48), (q, b, 29), (r, c, 29)] : List (Nat × Array Value × Nat)), y.2.2 ≠ 32 := by
  intro y hy
  simp only [List.mem_cons, List.not_mem_nil, or_false] at hy
  rcases hy with rfl | rfl | rfl | rfl
  · exact (by decide : (48 : Nat) ≠ 32)
  · exact (by decide : (48 : Nat) ≠ 32)
  · exact (by decide : (29 : Nat) ≠ 32)
  · exact (by decide : (29 : Nat) ≠ 32)
theorem bne_bit (k : Int) (x : Tk) : (bits .and .i64 (x.m / 2 ^ k.toNat) 1 == 0) = !bt k x := bit_two k x
/-- the row stands where a newer block is written -/
theorem row_setN {B : Nat} {W : World} {v : Value} {l : List Tk} (hr : Row tcs 5 32 B W v l) (p : Nat) (hp : ∀ k, v.ownBlock = some k → k < p) (o : Nat) (x : Value) : Row tcs 5 32 B (W.setCell ⟨p, o, none⟩ x) v l :=
  hr.of_blocks fun k hk => Below.heap_setCell _ _ _ _ (fun e => by have := hp k hk; simp only at e; omega)
set_option maxHeartbeats 8000000 in
theorem rgone_any (a b : Tb.Tb) (ao : Option Addr) (ac : Nat) (bo : Option Addr) (bc : Nat) (w : World) (hA : Seen Rw.cs 6 ao a.rows w) (hB : Seen Rw.cs 6 bo b.rows w) (h1 : a.rows.length ≤ 1000) (h2 : b.rows.length ≤ 1000) :
    Calls Try.prog 27 #[tv ao a.rows.length ac a.mode, tv bo b.rows.length bc b.mode] w fun e w' => ∃ v, e = .returned v ∧ Row tcs 5 32 w.heap.size w' v (goneR a b) ∧ Below w.heap.size w w' := by
  have CA : Hid (∀ W, Below w.heap.size w W → Calls Try.prog 16 #[tv ao a.rows.length ac a.mode] W fun e w' => e = .returned (.bool (chkT a)) ∧ Below W.heap.size W w') := Lib.hid (fun W hb => rcheck_any a ao ac W (hA.below hb (Nat.le_refl _)) h1)
  have CB : Hid (∀ W, Below w.heap.size w W → Calls Try.prog 16 #[tv bo b.rows.length bc b.mode] W fun e w' => e = .returned (.bool (chkT b)) ∧ Below W.heap.size W w') := Lib.hid (fun W hb' => rcheck_any b bo bc W (hB.below hb' (Nat.le_refl _)) h2)
  have NO : Hid (chkT a = false ∨ chkT b = false → goneR a b = []) := Lib.hid gone_no
  have YES : Hid (chkT a = true → chkT b = true → goneR a b = goneL a.mode b.mode b.rows a.rows) := Lib.hid (fun h1 h2 => if_pos ⟨h1, h2⟩)
  have H0 := Lib.hid (((bos_nil w).new #[.slice ao a.rows.length ac, .int .i64 a.mode] 29).new #[.slice bo b.rows.length bc, .int .i64 b.mode] 29)
  rw [World.size_alloc] at H0
  have SA := Lib.hid hA
  have K1 : Hid (chkT a = true → 0 ≤ a.mode ∧ a.mode ≤ 3 ∧ ∀ q ∈ a.rows, chk q.t = true) := Lib.hid (fun h => by
    obtain ⟨c1, -, -, c4, c5⟩ := chkT_iff.1 h
    exact ⟨c4, c5, fun q hq => (okW_iff.1 (c1 q hq)).1⟩)
  have K2 : Hid (chkT b = true → 0 ≤ b.mode ∧ b.mode ≤ 3 ∧ ∀ q ∈ b.rows, chk q.t = true) := Lib.hid (fun h => by
    obtain ⟨c1, -, -, c4, c5⟩ := chkT_iff.1 h
    exact ⟨c4, c5, fun q hq => (okW_iff.1 (c1 q hq)).1⟩)
  have FI : Hid (∀ (id : Int) (W : World), Below w.heap.size w W → Calls Try.prog 19 #[tv bo b.rows.length bc b.mode, .int .i64 id] W fun e w' => e = .returned (.tuple #[(findR b.rows id).1.v, .bool (findR b.rows id).2]) ∧ Below W.heap.size W w') := Lib.hid (fun id W hb' => rfind_any b id bo bc W (hB.below hb' (Nat.le_refl _)) h2)
  generalize goneR a b = R at *
  generalize chkT a = qa at *
  generalize chkT b = qb at *
  obtain ⟨A, ma⟩ := a
  obtain ⟨B, mb⟩ := b
  unfold tv at *
  simp only at *
  generalize B.length = bn at *
  clear hA hB
  obtain ⟨a0, a1⟩ := cell2 (H0.out.cell 1 rfl)
  obtain ⟨b0, b1⟩ := cell2 (H0.out.cell 0 rfl)
  go_enter Try.func27, Try.ntmps27
  go_wp2_with fail
  (with_reducible refine (CA.out _ H0.out.bl).mono ?_)
  rintro e w1 ⟨rfl, x1⟩
  have H1 := Lib.hid (H0.out.call x1)
  clear x1 CA H0 a0 a1 b0 b1
  obtain ⟨a0, a1⟩ := cell2 (H1.out.cell 1 rfl)
  obtain ⟨b0, b1⟩ := cell2 (H1.out.cell 0 rfl)
  go_wp2_with fail
  (with_reducible refine (CB.out _ H1.out.bl).mono ?_)
  rintro e w2 ⟨rfl, x2⟩
  have H2 := Lib.hid (H1.out.call x2)
  clear x2 CB H1 a0 a1 b0 b1
  by_cases hno : qa = false ∨ qb = false
  · have E := Lib.hid (NO.out hno)
    have two : ((A.length : Int) ≤ 0) ∨ ((0 : Int) < (A.length : Int) ∧ qa = false) ∨ ((0 : Int) < (A.length : Int) ∧ qa = true ∧ qb = false) := by
      rcases hno with h | h
      · subst h; by_cases h0 : (A.length : Int) ≤ 0
        · exact .inl h0
        · exact .inr (.inl ⟨by omega, rfl⟩)
      · subst h; by_cases h0 : (A.length : Int) ≤ 0
        · exact .inl h0
        · cases qa
          · exact .inr (.inl ⟨by omega, rfl⟩)
          · exact .inr (.inr ⟨by omega, rfl, rfl⟩)
    clear NO YES K1 K2 FI hno SA
    generalize A.length = n at *
    go_wp2_with fail
    go_loopg [7, 8] 0 (NoRel [(w.heap.size + 1, #[.slice bo bn bc, .int .i64 mb], 29), (w.heap.size, #[.slice ao n ac, .int .i64 ma], 29)] w)
    case atStart => exact ⟨rfl, rfl, rfl, H2.out⟩
    case round =>
      obtain ⟨hg, rfl, rfl, hB⟩ := hrel
      have HB := Lib.hid hB
      obtain ⟨a0, a1⟩ := cell2 (HB.out.cell 1 rfl)
      clear hB H2
      rcases two with t1 | ⟨t1, rfl⟩ | ⟨t1, rfl, rfl⟩ <;>
      · go_wp2
        go_ret
        exact ⟨_, rfl, by rw [E.out]; exact Ge.row_nil _ _, HB.out.bl⟩
  obtain rfl : qa = true := by cases qa; exact absurd (.inl rfl) hno; rfl
  obtain rfl : qb = true := by cases qb; exact absurd (.inr rfl) hno; rfl
  clear hno
  obtain ⟨hk0, hk1, hkA⟩ := K1.out (by first | exact trivial | rfl)
  obtain ⟨hj0, hj1, hkB⟩ := K2.out (by first | exact trivial | rfl)
  have KA := Lib.hid hkA
  have KB := Lib.hid hkB
  have E := Lib.hid (YES.out (by first | exact trivial | rfl) (by first | exact trivial | rfl))
  have FL : Hid (goneL ma mb B (A.take A.length) = goneL ma mb B A) := Lib.hid (by rw [List.take_length])
  clear NO YES K1 K2 hkA hkB
  have um : IntKind.u64.wrap ma = ma := IntWalk.u64_in _ (by omega)
  have um2 : ma % 18446744073709551616 = ma := by omega
  have uj : IntKind.u64.wrap mb = mb := IntWalk.u64_in _ (by omega)
  have uj2 : mb % 18446744073709551616 = mb := by omega
  have G : Hid (GoRel ⟨A, ma⟩ ⟨B, mb⟩ [(w.heap.size + 1, #[.slice bo bn bc, .int .i64 mb], 29), (w.heap.size, #[.slice ao A.length ac, .int .i64 ma], 29)] w A.length (.int .i64 0) (.slice none 0 0) w2) := Lib.hid ⟨0, _, by simp, rfl, rfl, Ge.row_nil _ _, H2.out⟩
  clear H2
  go_wp2_with fail
  go_loopg [8, 7] A.length (GoRel ⟨A, ma⟩ ⟨B, mb⟩ [(w.heap.size + 1, #[.slice bo bn bc, .int .i64 mb], 29), (w.heap.size, #[.slice ao A.length ac, .int .i64 ma], 29)] w)
  case atStart => exact G.out
  case round =>
    obtain ⟨i, v, hi, rfl, rfl, hr, hB⟩ := hrel
    simp only at hi hr
    have HI := Lib.hid hi
    clear G
    obtain ⟨a0, a1⟩ := cell2 (hB.cell 1 rfl)
    obtain ⟨qa, qk, qc, rfl⟩ : ∃ a k c, v = Value.slice a k c := by obtain ⟨ao, cap, e, -⟩ := Row.form tcs_len hr; exact ⟨_, _, _, e⟩
    by_cases hlt : i < A.length
    · obtain ⟨b', off, rfl, hb, hat⟩ := (SA.out.below hB.bl (Nat.le_refl _)) (by omega)
      have hx := row_cells hat (List.getElem?_eq_getElem hlt)
      have hlt' : (i : Int) < (A.length : Int) := by omega
      have hg0 : 0 < gk := by omega
      have TK := Lib.hid (gone_step (ma := ma) (mb := mb) (b := B) hlt KB.out (KA.out _ (List.getElem_mem hlt)))
      have hxc := (chk_iff.1 (KA.out _ (List.getElem_mem hlt)))
      have hlen : (goneL ma mb B (A.take i)).length ≤ 90000 := by have := goneL_len ma mb B (A.take i); rw [List.length_take] at this; omega
      have hbit := bit_two ma A[i].t
      have KN : Hid (find B A[i].t.id = none → keptR mb B A[i] = 0) := Lib.hid kept_none
      have KS : Hid (∀ s, find B A[i].t.id = some s → keptR mb B A[i] = if bt mb s.t = true ∧ alk A[i] s = true then s.t.c else 0) := Lib.hid (fun s => kept_some)
      have FF := Lib.hid (find_findR B A[i].t.id)
      have FX := Lib.hid (FI.out A[i].t.id)
      generalize keptR mb B A[i] = K at *
      generalize bt ma A[i].t = q at *
      generalize A[i] = x at *
      obtain ⟨⟨xi, xc, xd, xt, xm⟩, xs⟩ := x
      simp only at hx TK hxc hbit KN KS FF FX
      have hxc1 : 1 ≤ xc ∧ xc ≤ 2147483648 := by omega
      obtain ⟨r0, r1, r2, r3, r4, r5⟩ := hx
      have ba : Below wr.heap.size wr (wr.alloc (.cells #[.int .i64 xi, .int .i64 xc, .int .i64 xd, .int .i64 xt, .int .i64 xm, .bool xs] 48)) := (Below.refl _ _).alloc (Nat.le_refl _) _
      have HN := Lib.hid (hB.new #[.int .i64 xi, .int .i64 xc, .int .i64 xd, .int .i64 xt, .int .i64 xm, .bool xs] 48)
      have RN := Lib.hid (hr.call ba)
      obtain ⟨c0, c1, c2, c3, c4, c5⟩ := cell6 (HN.out.cell 0 rfl)
      obtain ⟨a0, a1⟩ := cell2 (HN.out.cell 2 rfl)
      obtain ⟨b0, b1⟩ := cell2 (HN.out.cell 1 rfl)
      clear hi hat hr hB hb ba hxc SA FI
      cases q
      · have TN := TK.out.trans (if_neg (by simp))
        have R5 : Hid (Row tcs 5 32 w.heap.size (wr.alloc (.cells #[.int .i64 xi, .int .i64 xc, .int .i64 xd, .int .i64 xt, .int .i64 xm, .bool xs] 48)) (.slice qa qk qc) (goneL ma mb B (A.take (i + 1)))) := Lib.hid (by rw [TN]; exact RN.out)
        have H5 := Lib.hid (HN.out.sub (List.sublist_cons_self _ _))
        clear TN TK HN RN KN KS FF FX KA KB
        go_wp2
        go_roundg (gk - 1)
        case measure => omega
        case rel => exact ⟨i + 1, _, by have := HI.out; simp only; omega, by go_num, rfl, R5.out, H5.out⟩
      have FC := Lib.hid (FX.out _ HN.out.bl)
      clear FX
      generalize findR B xi = F at *
      obtain ⟨s, th⟩ := F
      have SC : Hid (th = true → chk s.t = true) := Lib.hid (fun h => by
        rcases FF.out with ⟨-, h1⟩ | ⟨s', -, h2, h3⟩
        · cases h1; cases h
        · cases h3; exact KB.out _ h2)
      have EK : Hid (K = if th = true ∧ bt mb s.t = true ∧ alk ⟨⟨xi, xc, xd, xt, xm⟩, xs⟩ s = true then s.t.c else 0) := Lib.hid (by
        rcases FF.out with ⟨h0, h1⟩ | ⟨s', h1, h2, h3⟩
        · cases h1; rw [KN.out h0, if_neg (by simp)]
        · cases h3; rw [KS.out _ h1]; simp)
      have EA : Hid (alk ⟨⟨xi, xc, xd, xt, xm⟩, xs⟩ s = decide (xd = s.t.d ∧ xt = s.t.t ∧ xs = s.s)) := Lib.hid rfl
      have hbs := bit_two mb s.t
      obtain ⟨⟨si, sc, sd, st, sm⟩, ss⟩ := s
      unfold Rw.v at FC
      simp only at FC hbs EA EK SC
      generalize bt mb ⟨si, sc, sd, st, sm⟩ = z at *
      clear KN KS FF KA KB
      go_wp2_with fail
      (with_reducible refine FC.out.mono ?_)
      rintro e w3 ⟨rfl, b3⟩
      have H3 := Lib.hid ((HN.out.call b3).new #[.int .i64 si, .int .i64 sc, .int .i64 sd, .int .i64 st, .int .i64 sm, .bool ss] 48)
      have R3 := Lib.hid ((RN.out.call b3).call ((Below.refl _ _).alloc (Nat.le_refl _) (.cells #[.int .i64 si, .int .i64 sc, .int .i64 sd, .int .i64 st, .int .i64 sm, .bool ss] 48)))
      have H4 := Lib.hid (H3.out.new #[.int .i64 xi, .int .i64 xc, .int .i64 xd, .int .i64 xt, .int .i64 xm] 32)
      have R4 := Lib.hid (R3.out.call ((Below.refl _ _).alloc (Nat.le_refl _) (.cells #[.int .i64 xi, .int .i64 xc, .int .i64 xd, .int .i64 xt, .int .i64 xm] 32)))
      have LT : Hid (∀ k, (Value.slice qa qk qc).ownBlock = some k → k < w3.heap.size + 1) := Lib.hid (fun k hk => by have := (R3.out.lt k hk).2; rw [World.size_alloc] at this; exact this)
      rw [World.size_alloc] at H4
      obtain ⟨f0, f1, f2, f3, f4, f5⟩ := cell6 (H3.out.cell 1 rfl)
      have k4 := cell5 (H4.out.cell 0 rfl)
      have s4 := cell6 (H4.out.cell 1 rfl)
      have x4 := cell6 (H4.out.cell 2 rfl)
      have b4 := cell2 (H4.out.cell 3 rfl)
      have kf := H4.out.fz 0 rfl
      clear b3 FC HN RN c0 c1 c2 c3 c4 c5 a0 a1 b0 b1
      obtain ⟨y0, y1, y2, y3, y4⟩ := k4
      obtain ⟨d0, d1, d2, d3, d4, d5⟩ := s4
      obtain ⟨c0, c1, c2, c3, c4, c5⟩ := x4
      obtain ⟨b0, b1⟩ := b4
      by_cases hall : th = true ∧ z = true ∧ xd = sd ∧ xt = st ∧ xs = ss
      case neg =>
        have five : th = false ∨ (th = true ∧ z = false) ∨ (th = true ∧ z = true ∧ (sd != xd) = true) ∨ (th = true ∧ z = true ∧ (sd != xd) = false ∧ (st != xt) = true) ∨ (th = true ∧ z = true ∧ (sd != xd) = false ∧ (st != xt) = false ∧ xs = true ∧ ss = false) ∨ (th = true ∧ z = true ∧ (sd != xd) = false ∧ (st != xt) = false ∧ xs = false ∧ ss = true) := by
          cases th
          · exact .inl rfl
          cases z
          · exact .inr (.inl ⟨rfl, rfl⟩)
          by_cases e1 : xd = sd
          · by_cases e2 : xt = st
            · by_cases e3 : xs = ss
              · exact absurd ⟨rfl, rfl, e1, e2, e3⟩ hall
              · cases xs
                · cases ss
                  · exact absurd rfl e3
                  · exact .inr (.inr (.inr (.inr (.inr ⟨rfl, rfl, by simp [e1], by simp [e2], rfl, rfl⟩))))
                · cases ss
                  · exact .inr (.inr (.inr (.inr (.inl ⟨rfl, rfl, by simp [e1], by simp [e2], rfl, rfl⟩))))
                  · exact absurd rfl e3
            · exact .inr (.inr (.inr (.inl ⟨rfl, rfl, by simp [e1], by simp; exact fun h => e2 h.symm⟩)))
          · exact .inr (.inr (.inl ⟨rfl, rfl, by simp; exact fun h => e1 h.symm⟩))
        have K0 : K = 0 := EK.out.trans (if_neg (by
          rintro ⟨h1, h2, h3⟩
          rw [EA.out] at h3
          exact hall ⟨h1, h2, of_decide_eq_true h3⟩))
        have TN := TK.out
        rw [K0, if_pos (by simp; omega), Int.sub_zero] at TN
        obtain ⟨v5, w5, ap5, r5', h5⟩ := app_el elT (⟨xi, xc, xd, xt, xm⟩ : Tk) #[.int .i64 xi, .int .i64 xc, .int .i64 xd, .int .i64 xt, .int .i64 xm] rfl (H4.out.sub (List.sublist_cons_self _ _)) no4 R4.out hlen
        rw [← TN] at r5'
        rw [World.size_alloc, World.size_alloc] at ap5
        have R6 := Lib.hid r5'
        have H6 := Lib.hid ((h5.sub (List.sublist_cons_self _ _)).sub (List.sublist_cons_self _ _))
        clear r5' h5 TN TK H4 R4 H3 R3 K0 EK EA hall LT SC
        rcases five with rfl | ⟨rfl, rfl⟩ | ⟨rfl, rfl, e1⟩ | ⟨rfl, rfl, e1, e2⟩ | ⟨rfl, rfl, e1, e2, rfl, rfl⟩ | ⟨rfl, rfl, e1, e2, rfl, rfl⟩ <;>
        · go_wp2_with (at_builtin; refine Lib.wpList_append_run _ rfl _ _ _ _ rfl _ _ rfl rfl _ _ ap5 ?_)
          go_roundg (gk - 1)
          case measure => omega
          case rel => exact ⟨i + 1, _, by have := HI.out; simp only; omega, by go_num, rfl, R6.out, H6.out⟩
      obtain ⟨rfl, rfl, rfl, rfl, rfl⟩ := hall
      have e1 : (xd != xd) = false := by simp
      have e2 : (xt != xt) = false := by simp
      have e3 : (xs != xs) = false := by simp
      have hsc := chk_iff.1 (SC.out (by first | exact trivial | rfl))
      simp only at hsc
      have KE : K = sc := EK.out.trans (if_pos ⟨rfl, rfl, by rw [EA.out]; simp⟩)
      subst KE
      have hK : 1 ≤ K ∧ K ≤ 2147483648 := by omega
      clear hsc SC EK EA
      by_cases hk : K < xc
      · have TN := TK.out.trans (if_pos (by simpa using hk))
        have hsub : IntKind.i64.wrap (xc - K) = xc - K := IntWalk.i64_in _ (by omega)
        have H5 := Lib.hid (H3.out.new #[.int .i64 xi, .int .i64 (xc - K), .int .i64 xd, .int .i64 xt, .int .i64 xm] 32)
        have R5 := R3.out.call ((Below.refl _ _).alloc (Nat.le_refl _) (.cells #[.int .i64 xi, .int .i64 (xc - K), .int .i64 xd, .int .i64 xt, .int .i64 xm] 32))
        rw [World.size_alloc] at H5
        obtain ⟨v5, w5, ap5, r5', h5⟩ := app_el elT (⟨xi, xc - K, xd, xt, xm⟩ : Tk) #[.int .i64 xi, .int .i64 (xc - K), .int .i64 xd, .int .i64 xt, .int .i64 xm] rfl (H5.out.sub (List.sublist_cons_self _ _)) no4 R5 hlen
        rw [← TN] at r5'
        rw [World.size_alloc, World.size_alloc] at ap5
        have R6 := Lib.hid r5'
        have H6 := Lib.hid ((h5.sub (List.sublist_cons_self _ _)).sub (List.sublist_cons_self _ _))
        obtain ⟨u0, u1, u2, u3, u4⟩ := cell5 (H5.out.cell 0 rfl)
        clear R5 r5' h5 H5 TN TK H4 R4 H3 R3 LT
        go_wp2_with (at_builtin; refine Lib.wpList_append_run _ rfl _ _ _ _ rfl _ _ rfl rfl _ _ ap5 ?_)
        go_roundg (gk - 1)
        case measure => omega
        case rel => exact ⟨i + 1, _, by have := HI.out; simp only; omega, by go_num, rfl, R6.out, H6.out⟩
      · have TN := TK.out.trans (if_neg (by simpa using hk))
        have R5 : Hid (Row tcs 5 32 w.heap.size ((w3.alloc (.cells #[.int .i64 si, .int .i64 K, .int .i64 xd, .int .i64 xt, .int .i64 sm, .bool xs] 48)).alloc (.cells #[.int .i64 xi, .int .i64 xc, .int .i64 xd, .int .i64 xt, .int .i64 xm] 32)) (.slice qa qk qc) (goneL ma mb B (A.take (i + 1)))) := Lib.hid (by rw [TN]; exact R4.out)
        have H5 := Lib.hid (((H4.out.sub (List.sublist_cons_self _ _)).sub (List.sublist_cons_self _ _)).sub (List.sublist_cons_self _ _))
        have hk' : xc ≤ K := by omega
        clear TN TK H4 R4 H3 R3 LT hk
        go_wp2
        go_roundg (gk - 1)
        case measure => omega
        case rel => exact ⟨i + 1, _, by have := HI.out; simp only; omega, by go_num, rfl, R5.out, H5.out⟩
    · have hge : (A.length : Int) ≤ (i : Int) := by omega
      obtain rfl : i = A.length := by omega
      rw [FL.out, ← E.out] at hr
      have RW := Lib.hid hr
      have KB := Lib.hid hB.bl
      clear hB hi hr hlt
      go_wp2
      go_ret
      exact ⟨_, rfl, RW.out, KB.out⟩
end Go.Proofs.Ytgbnoifaknlkhaa.Ju
