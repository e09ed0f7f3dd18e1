/- horariumlaw07.WalSafe answers true at every byte and every row of tries: whatever a crash does to an Append, or a fault, Scan tells the records ahead of it, and perhaps the new one; of an Append that was told as done the new one. No condition. -/
import Derived.Test.YtcbemjckcmcelaaWlJ
import Derived.Test.YtcbemjckcmcelaaGnP
import Derived.Test.YtcbemjckcmcelaaWlH
import Derived.Test.YtcbemjckcmcelaaDkG
import Derived.Deep.DeepCutAuto
import Derived.Deep.RegionHeld3
import Derived.BigQuiet
namespace Go.Proofs.Ytcbemjckcmcelaa.walSafe
open Go.ChangeShapes Go.WideShapes Go.ChangeAt Go.RowKit Go.Joins
set_option maxRecDepth 100000
set_option linter.unusedVariables false
set_option linter.unusedSimpArgs false
open Dk (own laidOut in64_wf ptr DS)
open Sl (Mv)
open Wl (Lg WS Inv rw_ Ep)
theorem short43 (l : List UInt8) (w : World) :
    Calls Try.prog 24 #[.string (mkB l), .int .i64 43] w fun e w' => e = .returned (.string (mkB (l.take 43))) ∧ w' = w := Wl.short_any l 43 w (by omega)
theorem log8 (B b : Nat) (s : DS) (w0 w : World) (h : Dk.Dk B b s w) (hb : Below B w0 w) (h3 : s.sec.length = 8) :
    Calls Try.prog 11 #[ptr b, .int .i64 0, .int .i64 8] w fun e w' => e = .returned (ptr w.heap.size) ∧ Lg B b w.heap.size ⟨0, 8, none⟩ s w0 w' ∧ Below w.heap.size w w' := Wl.log_t B b s 0 8 w0 w h hb (by omega) (by omega)
theorem exec_none {P : Program} {w w' : World} {op : Oper} {a : Act} {v : Value} {ty : TypeId} {n : Nat} (ho : op.op = .buildSlice ty n #[]) (hr : (Instr.buildSlice ty n #[]).run P w = .ok v w') : (execOp a.eval op).run P w = .ok (.value v) w' :=
  Dk.exec_buildSlice ho (by simpa using hr)
def NRel (E : Nat) (w : World) (s7 : Value) (wx : World) : Prop := s7 = .int .u64 (E : Int) ∧ wx = w
structure Sf (B d E : Nat) (S : List (List UInt8)) (r : Nat) (rs : List (List UInt8)) (v : Value) (w wx : World) : Prop where
  dk : Dk.Dk B d ⟨S, [], 0, r⟩ wx
  rd : r ≤ 8
  st : Strs B wx v rs
  len : S.length = 8
  few : rs.length ≤ 8
  inv : Inv (rw_ S 0 8) E rs
  small : Wl.Small S
  bel : Below B w wx
def SfRel (B d E : Nat) (w : World) (m : Nat) (s8 s9 : Value) (wx : World) : Prop :=
  ∃ i S r rs, i + m = 10 ∧ s9 = .int .i64 (i : Int) ∧ Sf B d E S r rs s8 w wx
/-- a try in its block -/
def ObAt (w : World) (p : Nat) (t : ByteArray) (n : Int) (v : Value) : Prop := w.heap[p]? = some (.cells #[.string t, .int .i64 n, v] 53 (0, 0))
theorem ObAt.c0 {w : World} {p : Nat} {t : ByteArray} {n : Int} {v : Value} (h : ObAt w p t n v) : w.cell? ⟨p, 0, none⟩ = some (.string t) := by rw [Lib.cell_of_heap h]; rfl
theorem ObAt.c1 {w : World} {p : Nat} {t : ByteArray} {n : Int} {v : Value} (h : ObAt w p t n v) : w.cell? ⟨p, 1, none⟩ = some (.int .i64 n) := by rw [Lib.cell_of_heap h]; rfl
theorem ObAt.c2 {w : World} {p : Nat} {t : ByteArray} {n : Int} {v : Value} (h : ObAt w p t n v) : w.cell? ⟨p, 2, none⟩ = some v := by rw [Lib.cell_of_heap h]; rfl
theorem ObAt.call {w w' : World} {p : Nat} {t : ByteArray} {n : Int} {v : Value} (h : ObAt w p t n v) (hb : Below w.heap.size w w') : ObAt w' p t n v := by unfold ObAt at *; rw [hb.block p (Dk.lt_of_heap h)]; exact h
theorem ObAt.mv {B b q : Nat} {s : DS} {w w' : World} {p : Nat} {t : ByteArray} {n : Int} {v : Value} (h : ObAt w p t n v) (d : Dk.Dk B b s w) (m : Mv b q w w') (hq : p ≠ q) : ObAt w' p t n v := m.keep d h hq (by decide) (by decide) (by decide)
/-- what an Append and a crash behind it make of a log -/
structure Tried (S : List (List UInt8)) (E f r : Nat) (rs : List (List UInt8)) (p : List UInt8) (fs : List (Int × Int)) (err : Nat) (S' rs' : List (List UInt8)) : Prop where
  err : (Wl.appR ⟨S, [], f, r⟩ ⟨0, 8, some (E, rs.length)⟩ p).2.2 = err
  now : (Dk.crashR (Wl.appR ⟨S, [], f, r⟩ ⟨0, 8, some (E, rs.length)⟩ p).1 fs).1 = ⟨S', [], 0, 0⟩
  opn : (Wl.appR ⟨S, [], f, r⟩ ⟨0, 8, some (E, rs.length)⟩ p).1.opn.length ≤ 1
  len : S'.length = 8
  small : Wl.Small S'
  inv : Inv (rw_ S' 0 8) E rs'
theorem tried (S : List (List UInt8)) (E f r : Nat) (rs : List (List UInt8)) (p : List UInt8) (fs : List (Int × Int)) (hl : S.length = 8) (hs : Wl.Small S) (hi : Inv (rw_ S 0 8) E rs) (h8 : rs.length ≤ 8) (hE : E < 256) (hp : p.length ≤ 43) :
    ∃ err S' rs', Tried S E f r rs p fs err S' rs' ∧ ((rs' = rs ++ [p] ∧ rs.length < 8 ∧ (err = 0 ∨ err = 18)) ∨ (rs' = rs ∧ rs.length < 8 ∧ err = 18) ∨ (rs' = rs ∧ rs.length = 8 ∧ err = 22)) := by
  have hS : ∀ y ∈ S, y.length = 64 := fun y hy => (hs y hy).1
  rcases Nat.lt_or_ge rs.length 8 with hlt | hge
  · obtain ⟨j, h1, h2, h3, h4⟩ := Wl.app_crash (S := S) (t := ⟨0, 8, some (E, rs.length)⟩) (f := f) (r := r) hp rfl hlt (by show 0 + 8 ≤ S.length; omega) hS fs
    have hx : 0 + rs.length < S.length := by omega
    have sm := Wl.mix_small (p := p) (i := rs.length) (j := j) hp hE (by omega) (hs.get hx)
    have row : rw_ (S.set (0 + rs.length) (Sl.mix j (sec p E rs.length) S[0 + rs.length])) 0 8 = (rw_ S 0 8).set rs.length (Sl.mix j (sec p E rs.length) ((rw_ S 0 8)[rs.length]'(by rw [Wl.rw_length (by omega)]; exact hlt))) := by
      rw [Wl.rw_set (by omega) hlt, Wl.rw_get]
    have rl : (rw_ S 0 8).length = 8 := Wl.rw_length (by omega)
    have rsm : Wl.Small (rw_ S 0 8) := fun x hx => hs x (List.mem_of_mem_drop (List.mem_of_mem_take hx))
    have mk : ∀ err rs', (Wl.appR ⟨S, [], f, r⟩ ⟨0, 8, some (E, rs.length)⟩ p).2.2 = err → Inv ((rw_ S 0 8).set rs.length (Sl.mix j (sec p E rs.length) ((rw_ S 0 8)[rs.length]'(by rw [Wl.rw_length (by omega)]; exact hlt)))) E rs' → Tried S E f r rs p fs err (S.set (0 + rs.length) (Sl.mix j (sec p E rs.length) S[0 + rs.length])) rs' := fun err rs' he hI =>
      ⟨he, h1, h3, by rw [List.length_set]; exact hl, hs.set sm, by rw [row]; exact hI⟩
    rcases h2 with ⟨he, rfl⟩ | he
    · refine ⟨0, _, rs ++ [p], mk 0 _ he ?_, .inl ⟨rfl, hlt, .inl rfl⟩⟩
      rw [Sl.mix_all (sec_length hp E _) (rsm.get (by omega)).1 (Nat.le_refl _)]
      exact hi.push (by omega) hp
    · rcases hi.torn rsm (by omega) hp hE (by omega) j with h | h
      · exact ⟨18, _, rs ++ [p], mk 18 _ he h, .inl ⟨rfl, hlt, .inr rfl⟩⟩
      · exact ⟨18, _, rs, mk 18 _ he h, .inr (.inl ⟨rfl, hlt, rfl⟩)⟩
  · have h8' : rs.length = 8 := by omega
    have e : Wl.appR ⟨S, [], f, r⟩ ⟨0, 8, some (E, rs.length)⟩ p = (⟨S, [], f, r⟩, some (E, rs.length), 22) := Wl.appR_full hp rfl h8'
    exact ⟨22, S, rs, ⟨by rw [e], by rw [e]; rfl, by rw [e]; simp, hl, hs, hi⟩, .inr (.inr ⟨rfl, h8', rfl⟩)⟩

set_option maxRecDepth 100000 in
set_option maxHeartbeats 8000000 in
theorem walk (x : Nat) (ao : Option Addr) (len cap : Nat) (w : World) (hx : x < 256) (hl : len ≤ 9223372036854775807) (hT : Wl.Tries ao len w) :
    Calls Try.prog 4 #[.int .u8 (x : Int), .slice ao len cap] w fun e w' => e = .returned (.bool true) ∧ Below w.heap.size w w' := by
  obtain ⟨E, hE⟩ : ∃ E, E = if x = 0 then 1 else x := ⟨_, rfl⟩
  have E1 : 1 ≤ E := by rw [hE]; split <;> omega
  have E2 : E < 256 := by rw [hE]; split <;> omega
  have u1 : IntKind.u64.wrap (x : Int) = (x : Int) := IntWalk.u64_in _ (by omega)
  have u2 : (x : Int) % 18446744073709551616 = (x : Int) := by omega
  have AW := Lib.hid (fun w => Wl.awake_any w)
  have HT := Lib.hid hT
  clear hT
  go_enter Try.func4, Try.ntmps4
  go_wp2_with fail
  (with_reducible refine (AW.out _).mono ?_)
  rintro e w1 ⟨rfl, b1⟩
  clear AW
  have ND : Hid (Calls Try.prog 10 #[.int .i64 8] w1 _) := Lib.hid (Wl.disk_t 8 w w1 b1 (by omega) (by omega))
  have I0 : Inv (rw_ (List.replicate 8 (List.replicate 64 0)) 0 8) E [] := by
    have : rw_ (List.replicate 8 (List.replicate 64 (0 : UInt8))) 0 8 = List.replicate 8 (List.replicate 64 0) := by simp [rw_]
    rw [this]; exact Wl.inv_zero 8 E E1
  have M0 := Wl.small_zero 8
  generalize hS0 : List.replicate 8 (List.replicate 64 (0 : UInt8)) = S0 at *
  have SL : S0.length = 8 := by rw [← hS0]; simp
  clear hS0 b1
  go_wp2_with fail
  (with_reducible refine ND.out.mono ?_)
  rintro e w2 ⟨rfl, d2, b2⟩
  clear ND
  generalize w1.heap.size + 1 = d at *
  have S0' : Hid (Sf w.heap.size d E S0 0 [] (.slice none 0 0) w w2) := Lib.hid ⟨d2, by omega, strs_nil _ _, SL, by simp, I0, M0, b2⟩
  clear d2 b2 SL I0 M0
  go_upto_if 25 with (fail)
  go_cut [7] (NRel E w2)
  case first =>
    by_cases h0 : x = 0
    · rw [if_pos h0] at hE
      have c1 : ((x : Int) == 0) = true := by rw [h0]; rfl
      subst hE
      clear h0
      go_wp2_with fail
      go_meet
      exact ⟨rfl, rfl⟩
    · rw [if_neg h0] at hE
      have c1 : ((x : Int) == 0) = false := by simp; omega
      subst hE
      clear h0
      go_wp2_with fail
      go_meet
      exact ⟨rfl, rfl⟩
  case rest =>
   obtain ⟨rfl, rfl⟩ := hcut
   clear hE u1 u2 hx
   go_wp2_with fail
   go_loopg [8, 9] 10 (SfRel w.heap.size d E w)
   case atStart => exact ⟨0, S0, 0, [], rfl, rfl, S0'.out⟩
   case round =>
    clear S0'
    obtain ⟨i, S, r, rs, hi, rfl, hs⟩ := hrel
    rcases (show (i < len ∧ i < 10) ∨ (i < len ∧ i = 10) ∨ len ≤ i by omega) with ⟨hil, hi10⟩ | ⟨hil, hi10⟩ | hil
    · obtain ⟨tb, off, rfl, htb, hcs⟩ := HT.out (by omega)
      obtain ⟨tx, fl, fo, fs, fc, tr⟩ := hcs i hil
      have r0 : wr.cell? ⟨tb, off + i * 3, none⟩ = some (.string tx) := by rw [hs.bel.cell (p := ⟨tb, off + i * 3, none⟩) htb]; exact tr.c0
      have r1 : wr.cell? ⟨tb, off + i * 3 + 1, none⟩ = some (.int .i64 fl) := by rw [hs.bel.cell (p := ⟨tb, off + i * 3 + 1, none⟩) htb]; exact tr.c1
      have r2 : wr.cell? ⟨tb, off + i * 3 + 2, none⟩ = some (.slice fo fs.length fc) := by rw [hs.bel.cell (p := ⟨tb, off + i * 3 + 2, none⟩) htb]; exact tr.c2
      have FT := Lib.hid (And.intro tr.fats tr.len)
      have ifl := tr.i_n
      have il : (i : Int) < (len : Int) := by omega
      have il10 : (i : Int) < 10 := by omega
      have SF := Lib.hid hs
      obtain ⟨va, vc, hv⟩ := Wl.strs_form hs.st
      subst hv
      clear tr hcs hs HT
      have O1 : Hid (ObAt (wr.alloc (.cells #[.string tx, .int .i64 fl, .slice fo fs.length fc] 53)) wr.heap.size tx fl (.slice fo fs.length fc)) := Lib.hid (heap_alloc_new _ _)
      have D1 := Lib.hid (And.intro (SF.out.dk.call ((Below.refl _ _).alloc (Nat.le_refl _) (.cells #[.string tx, .int .i64 fl, .slice fo fs.length fc] 53))) (SF.out.bel.alloc SF.out.dk.le (.cells #[.string tx, .int .i64 fl, .slice fo fs.length fc] 53)))
      have V1 := Lib.hid (SF.out.st.call ((Below.refl _ _).alloc (Nat.le_refl _) (.cells #[.string tx, .int .i64 fl, .slice fo fs.length fc] 53)))
      have NS := Lib.hid (log8 w.heap.size d _ w _ D1.out.1 D1.out.2 SF.out.len)
      go_wp2_with fail
      (with_reducible refine NS.out.mono ?_)
      rintro e w3 ⟨rfl, l3, b3⟩
      have L3 := Lib.hid l3
      have O3 := Lib.hid (O1.out.call b3)
      have V3 := Lib.hid (V1.out.call b3)
      have oq : wr.heap.size ≠ (wr.alloc (.cells #[.string tx, .int .i64 fl, .slice fo fs.length fc] 53)).heap.size := by simp
      clear NS D1 O1 V1 l3 b3 r0 r1 r2
      generalize (wr.alloc (.cells #[.string tx, .int .i64 fl, .slice fo fs.length fc] 53)).heap.size = q at *
      generalize wr.heap.size = ob at *
      obtain ⟨T, rfl⟩ : ∃ T, tx = mkB T := ⟨tx.data.toList, (mkB_of tx).symm⟩
      have SC := Lib.hid (Wl.scan_t w.heap.size d q 0 8 _ S r E rs w w3 L3.out (by omega) (by have := SF.out.len; omega) E1 (by omega) SF.out.inv (by have := SF.out.rd; omega))
      go_wp2_with fail
      (with_reducible refine SC.out.mono ?_)
      rintro e w4 ⟨v4, rfl, st4, L4, m4⟩
      have O4 := Lib.hid (O3.out.mv L3.out.dk m4 oq)
      have V4 := Lib.hid (L3.out.strs m4 V3.out)
      have L4H := Lib.hid L4
      have SM := Lib.hid (Wl.same_any _ _ _ _ rs w4 st4 V4.out (by have := SF.out.few; omega))
      clear SC L3 O3 V3 m4 L4 st4
      go_wp2_with fail
      (with_reducible refine SM.out.mono ?_)
      rintro e w5 ⟨rfl, b5⟩
      have L5 := Lib.hid (L4H.out.call b5)
      have V5 := Lib.hid (V4.out.call b5)
      have O5 := Lib.hid (O4.out.call b5)
      clear SM L4H V4 O4 b5
      have few := SF.out.few
      have LN := Lib.hid (Wl.len_any w5 L5.out.wl (by show 1 ≤ 8; omega))
      have EL : ((Wl.lenOf (some (E, rs.length)) : Nat) : Int) = (rs.length : Int) := rfl
      dsimp only at LN
      rw [EL] at LN
      have z1 : ((rs.length : Int) != (rs.length : Int)) = false := by simp
      have z2 : (8 - (rs.length : Int) != 8 - (rs.length : Int)) = false := by simp
      have z3 : (rs.length : Int) ≤ 8 := by omega
      have z4 : 0 ≤ (rs.length : Int) := by omega
      go_wp2_with fail
      (with_reducible refine LN.out.mono ?_)
      rintro e w5b ⟨rfl, b5b⟩
      have L5b := Lib.hid (L5.out.call b5b)
      have V5b := Lib.hid (V5.out.call b5b)
      have O5b := Lib.hid (O5.out.call b5b)
      clear LN EL L5 V5 O5 b5b
      have LF := Lib.hid (Wl.left_any w5b L5b.out.wl (by show 1 ≤ 8; omega) (by show 8 ≤ 1024; omega) (by show rs.length ≤ 8; omega))
      have EF : ((Wl.leftOf 8 (some (E, rs.length)) : Nat) : Int) = 8 - (rs.length : Int) := by show ((8 - rs.length : Nat) : Int) = _; omega
      dsimp only at LF
      rw [EF] at LF
      go_wp2_with fail
      (with_reducible refine LF.out.mono ?_)
      rintro e w5c ⟨rfl, b5c⟩
      have L5c := Lib.hid (L5b.out.call b5c)
      have V5c := Lib.hid (V5b.out.call b5c)
      have O5c := Lib.hid (O5b.out.call b5c)
      clear LF EF L5b V5b O5b b5c
      have o0 := O5c.out.c0
      have o1 := O5c.out.c1
      have SH := Lib.hid (fun w => short43 T w)
      have p43 : (T.take 43).length ≤ 43 := by simp; omega
      generalize T.take 43 = p at *
      go_wp2_with fail
      (with_reducible refine (SH.out _).mono ?_)
      rintro e w5d ⟨rfl, rfl⟩
      clear SH
      obtain ⟨f, hf7, hf8⟩ := Dk.four fl
      have FA := Lib.hid (Dk.fail_any w.heap.size d _ (f : Int) w5d L5c.out.dk (by omega))
      go_wp2_with fail
      (with_reducible refine FA.out.mono ?_)
      rintro e w6 ⟨rfl, d6, m6⟩
      obtain ⟨r6, hr6⟩ : ∃ r6, r6 = r + Wl.readsN rs.length 8 := ⟨_, rfl⟩
      have L6 : Hid (Lg w.heap.size d q ⟨0, 8, some (E, rs.length)⟩ ⟨S, [], f, r6⟩ w w6) := Lib.hid (L5c.out.disk (by have := d6; unfold Dk.failR at this; rw [Int.toNat_natCast] at this; rw [hr6]; exact this) m6)
      have O6 := Lib.hid (O5c.out.mv L5c.out.dk (.of_moved m6) oq)
      have V6 := Lib.hid (L5c.out.strs (.of_moved m6) V5c.out)
      clear FA d6 m6 L5c O5c V5c o0 o1 hr6
      obtain ⟨err, S2, rs2, TR0, TI⟩ := tried S E f r6 rs p fs SF.out.len SF.out.small SF.out.inv few E2 p43
      have TR := Lib.hid TR0
      have WA := Lib.hid (Wl.append_any p w6 L6.out.wl L6.out.dk ⟨by show 1 ≤ 8; omega, by show 0 + 8 ≤ S.length; have := SF.out.len; omega, fun e' c' hh => by cases hh; exact ⟨E1, by omega, few⟩⟩ (by omega) (by show 0 ≤ 800000; omega) (by show f < 9223372036854775808; omega))
      rw [TR0.err] at WA
      have hg0 : 0 < gk := by omega
      clear TR0
      rcases TI with ⟨rfl, hlt, rfl | rfl⟩ | ⟨hrs, hlt, rfl⟩ | ⟨hrs, hlt, rfl⟩
      · skip
        go_wp2_with fail
        (with_reducible refine WA.out.mono ?_)
        rintro e w7 ⟨rfl, d7, l7, m7⟩
        have O7 := Lib.hid (O6.out.mv L6.out.dk m7 oq)
        have V7 := Lib.hid (L6.out.strs m7 V6.out)
        have L7 := Lib.hid (L6.out.go d7 l7 m7)
        clear WA d7 l7 m7 L6 O6 V6
        have fc7 : Dk.Fats fo fs w7 := FT.out.1.of_blocks L7.out.bel.size (fun k off e hk => L7.out.bel.block k hk)
        have of7 : 0 < fs.length → Dk.Off fo d w7 := fun h0 k off e h => by (obtain ⟨b9, off9, e9, hb9, _⟩ := FT.out.1.2 h0; rw [e9] at e; cases e; have := (L7.out.dk.ownLt h).1; omega)
        have CR := Lib.hid (Dk.crash_any w.heap.size d _ fo fs fc w7 L7.out.dk fc7 of7 (by have := TR.out.opn; omega) FT.out.2)
        rw [TR.out.now] at CR
        have o2 := O7.out.c2
        clear fc7 of7 O7
        go_wp2_with fail
        (with_reducible refine CR.out.mono ?_)
        rintro e w8 ⟨rfl, d8, m8⟩
        have V8 := Lib.hid (L7.out.strs (.of_moved m8) V7.out)
        have L8 := Lib.hid (L7.out.disk d8 m8)
        clear CR d8 m8 L7 o2 V7
        have SC := Lib.hid (Wl.scan_t w.heap.size d q 0 8 _ S2 0 E (rs ++ [p]) w w8 L8.out (by omega) (by have := TR.out.len; omega) E1 (by omega) TR.out.inv (by omega))
        go_wp2_with fail
        (with_reducible refine SC.out.mono ?_)
        rintro e w9 ⟨v9, rfl, st9, L9, m9⟩
        have V9 := Lib.hid (L8.out.strs m9 V8.out)
        have L9H := Lib.hid L9
        have LE9 := L8.out.dk.le
        clear SC L8 V8 m9 L9
        obtain ⟨b9, c9, hv9⟩ := Wl.strs_form st9
        subst hv9
        obtain ⟨M, hM⟩ : ∃ M, M = (rs ++ [p]).length := ⟨_, rfl⟩
        rw [← hM] at st9 ⊢
        have hMM : M = rs.length + 1 := by rw [hM]; simp
        obtain ⟨tk1, tk2⟩ := Wl.strs_take st9 (n := rs.length) (by rw [← hM]; omega)
        obtain ⟨u9, dr1, dr2⟩ := Wl.strs_drop st9 (n := rs.length) (by rw [← hM]; omega)
        have tk : (rs ++ [p]).take rs.length = rs := by simp
        have dp : (rs ++ [p]).drop rs.length = [p] := by simp
        rw [tk] at tk2
        rw [dp] at dr2
        have SM := Lib.hid (Wl.same_any _ _ _ _ rs w9 tk2 V9.out (by have := SF.out.few; omega))
        obtain ⟨g9, c9', he9, -, -, hcs9⟩ := st9.cell (by simp)
        rw [← hM] at he9
        cases he9
        have cn : w9.cell? ⟨g9, rs.length, none⟩ = some (.string (mkB p)) := by (rw [hcs9 rs.length (by simp)]; simp)
        clear hcs9
        have ST9 := Lib.hid st9
        have DR := Lib.hid dr2
        clear tk tk2 dp st9 dr2 hM
        have q1 : (rs.length : Int) ≤ (M : Int) := by omega
        have q2 : (M : Int) ≤ (rs.length : Int) + 1 := by omega
        have q3 : (rs.length : Int) ≤ 8 := by omega
        have q4 : 0 ≤ (rs.length : Int) := by omega
        have q5 : (rs.length : Int) < (M : Int) := by omega
        have q6 : ((M : Int) != (rs.length : Int) + 1) = false := by (simp; omega)
        have q7 : ((rs.length : Int) == 8) = false := by (simp; omega)
        have q8 : ((mkB p).toList != (mkB p).toList) = false := by simp
        have q9 : rs.length < M := by omega
        have HMM := Lib.hid hMM
        clear hMM
        go_wp2_with fail
        (with_reducible refine SM.out.mono ?_)
        rintro e w10 ⟨rfl, b10⟩
        have L10 := Lib.hid (L9H.out.call b10)
        have V10 := Lib.hid (V9.out.call b10)
        have U10 := Lib.hid (DR.out.of_cells (fun k hk => b10.block k hk))
        have cn10 := carry b10 cn
        clear cn
        clear SM L9H V9 ST9 DR b10
        go_upto_region 30 with (fail)
        have bA := (Below.refl w10.drew.heap.size w10.drew).alloc (Nat.le_refl _) (.cells #[] 9)
        have bD := (Below.refl w10.heap.size w10).drew
        have LA := Lib.hid ((L10.out.call bD).call bA)
        obtain ⟨v11, w11, hp1, s11, b11, z11, k11, n11⟩ := Wl.strs_all w10.drew.heap.size _ _ _ [] rs (Wl.strs_empty w10.drew) ((Wl.urow_of V10.out).of_cells (fun k hk => (bA.block k hk).trans (bD.block k hk))) bA.size (by simp; have := SF.out.few; omega)
        have U11 := U10.out.of_cells (w' := w11) (fun k hk => (n11 k (Nat.lt_of_lt_of_le hk bA.size) (fun e => by (simp [Value.ownBlock] at e; omega))).trans ((bA.block k hk).trans (bD.block k hk)))
        rw [List.nil_append] at s11
        obtain ⟨v12, w12, hp2, s12, b12, z12, k12, n12⟩ := Wl.strs_all w10.drew.heap.size w11 v11 u9 rs [p] s11 U11 (Nat.le_trans bA.size z11) (by simp; have := SF.out.few; omega)
        have wl : w.heap.size ≤ w10.drew.heap.size := L10.out.dk.le
        have L12 := (LA.out.rest k11 (b11.mono wl)).rest k12 (b12.mono wl)
        have rn := Wl.readsN_le (k := (rs ++ [p]).length) (n := 8) (by simp; omega)
        have N := Lib.hid (show SfRel w.heap.size d E w (gk - 1) v12 (.int .i64 ((i + 1 : Nat) : Int)) w12 from ⟨i + 1, S2, _, rs ++ [p], by omega, rfl, ⟨L12.dk, by omega, Sl.strs_mono s12 wl, TR.out.len, by simp; omega, TR.out.inv, TR.out.small, L12.bel⟩⟩)
        have HP1 := Lib.hid hp1
        have HP2 := Lib.hid hp2
        clear bA bD LA s11 b11 z11 k11 n11 U11 s12 b12 z12 k12 n12 L12 U10 V10 L10 TR SF hp1 hp2 rn wl
        have hp1 := HP1.out
        have hp2 := HP2.out
        clear HP1 HP2
        refine wp_region_any (by kernel_rfl) ?_
        (try (change wpAny _ _ _ _ _ _ _ (World.drew _)))
        refine wpAny_take (i := 1) (v := ?_) rfl (by kernel_rfl) (by kernel_rfl) (by kernel_rfl) (fun _ _ _ h => h) (Or.inl ⟨by rfl, ?_⟩) ?_
        rotate_left
        · (intro wS; go_simp; try with_reducible rfl)
        (try simp only [Act.put, List.getElem_toArray, List.getElem_cons_succ, List.getElem_cons_zero, List.setIfInBounds_toArray, List.set_cons_zero, List.set_cons_succ])
        refine wpAny_take (i := 3) (v := ?_) rfl (by kernel_rfl) (by kernel_rfl) (by kernel_rfl) (fun _ _ _ h => h) (Or.inl ⟨by rfl, ?_⟩) ?_
        rotate_left
        · (intro wS; go_simp; try with_reducible rfl)
        (try simp only [Act.put, List.getElem_toArray, List.getElem_cons_succ, List.getElem_cons_zero, List.setIfInBounds_toArray, List.set_cons_zero, List.set_cons_succ])
        refine wpAny_take (i := 4) (v := ?_) rfl (by kernel_rfl) (by kernel_rfl) (by kernel_rfl) (fun _ _ _ h => h) (Or.inl ⟨by rfl, ?_⟩) ?_
        rotate_left
        · (intro wS; go_simp; try with_reducible rfl)
        (try simp only [Act.put, List.getElem_toArray, List.getElem_cons_succ, List.getElem_cons_zero, List.setIfInBounds_toArray, List.set_cons_zero, List.set_cons_succ])
        refine wpAny_take (i := 5) (v := ?_) rfl (by kernel_rfl) (by kernel_rfl) (by kernel_rfl) (fun _ _ _ h => h) (Or.inl ⟨by rfl, ?_⟩) ?_
        rotate_left
        · (intro wS; go_simp; try with_reducible rfl)
        (try simp only [Act.put, List.getElem_toArray, List.getElem_cons_succ, List.getElem_cons_zero, List.setIfInBounds_toArray, List.set_cons_zero, List.set_cons_succ])
        refine wpAny_take (i := 6) (v := ?_) rfl (by kernel_rfl) (by kernel_rfl) (by kernel_rfl) (fun _ _ _ h => h) (Or.inl ⟨by rfl, ?_⟩) ?_
        rotate_left
        · (intro wS; go_simp; try with_reducible rfl)
        (try simp only [Act.put, List.getElem_toArray, List.getElem_cons_succ, List.getElem_cons_zero, List.setIfInBounds_toArray, List.set_cons_zero, List.set_cons_succ])
        refine wpAny_ready (rs := [0]) (by kernel_rfl) (by simp) ?_
        refine AllReady.cons rfl (fun K hK => ?_) ?_
        · rw [if_pos (by rfl)]
          refine Dk.wp_value (exec_none rfl (Wl.build_none _)) (hK _ _ ?_)
          clear hK K
          (try simp only [Act.put, List.getElem_toArray, List.getElem_cons_succ, List.getElem_cons_zero, List.setIfInBounds_toArray, List.set_cons_zero, List.set_cons_succ])
          refine wpAny_ready (rs := [2]) (by kernel_rfl) (by simp) ?_
          refine AllReady.cons rfl (fun K hK => ?_) ?_
          · rw [if_pos (by rfl)]
            refine Lib.wp_append_run _ _ _ _ _ rfl _ _ rfl rfl _ _ hp1 (hK _ _ ?_)
            clear hK K
            (try simp only [Act.put, List.getElem_toArray, List.getElem_cons_succ, List.getElem_cons_zero, List.setIfInBounds_toArray, List.set_cons_zero, List.set_cons_succ])
            refine wpAny_ready (rs := [7]) (by kernel_rfl) (by simp) ?_
            refine AllReady.cons rfl (fun K hK => ?_) ?_
            · rw [if_pos (by rfl)]
              refine Lib.wp_append_run _ _ _ _ _ rfl _ _ rfl rfl _ _ hp2 (hK _ _ ?_)
              clear hK K
              (try simp only [Act.put, List.getElem_toArray, List.getElem_cons_succ, List.getElem_cons_zero, List.setIfInBounds_toArray, List.set_cons_zero, List.set_cons_succ])
              refine wpAny_take (i := 8) (v := ?_) rfl (by kernel_rfl) (by kernel_rfl) (by kernel_rfl) (fun _ _ _ h => h) (Or.inl ⟨by rfl, ?_⟩) ?_
              rotate_left
              · (intro wS; go_simp; try with_reducible rfl)
              (try simp only [Act.put, List.getElem_toArray, List.getElem_cons_succ, List.getElem_cons_zero, List.setIfInBounds_toArray, List.set_cons_zero, List.set_cons_succ])
              refine wpAny_done (by kernel_rfl) ?_ _
              go_wp2
              go_roundg (gk - 1)
              case measure => omega
              case rel => exact N.out
            exact AllReady.nil
          exact AllReady.nil
        exact AllReady.nil
      · skip
        go_wp2_with fail
        (with_reducible refine WA.out.mono ?_)
        rintro e w7 ⟨rfl, d7, l7, m7⟩
        have O7 := Lib.hid (O6.out.mv L6.out.dk m7 oq)
        have V7 := Lib.hid (L6.out.strs m7 V6.out)
        have L7 := Lib.hid (L6.out.go d7 l7 m7)
        clear WA d7 l7 m7 L6 O6 V6
        have fc7 : Dk.Fats fo fs w7 := FT.out.1.of_blocks L7.out.bel.size (fun k off e hk => L7.out.bel.block k hk)
        have of7 : 0 < fs.length → Dk.Off fo d w7 := fun h0 k off e h => by (obtain ⟨b9, off9, e9, hb9, _⟩ := FT.out.1.2 h0; rw [e9] at e; cases e; have := (L7.out.dk.ownLt h).1; omega)
        have CR := Lib.hid (Dk.crash_any w.heap.size d _ fo fs fc w7 L7.out.dk fc7 of7 (by have := TR.out.opn; omega) FT.out.2)
        rw [TR.out.now] at CR
        have o2 := O7.out.c2
        clear fc7 of7 O7
        go_wp2_with fail
        (with_reducible refine CR.out.mono ?_)
        rintro e w8 ⟨rfl, d8, m8⟩
        have V8 := Lib.hid (L7.out.strs (.of_moved m8) V7.out)
        have L8 := Lib.hid (L7.out.disk d8 m8)
        clear CR d8 m8 L7 o2 V7
        have SC := Lib.hid (Wl.scan_t w.heap.size d q 0 8 _ S2 0 E (rs ++ [p]) w w8 L8.out (by omega) (by have := TR.out.len; omega) E1 (by omega) TR.out.inv (by omega))
        go_wp2_with fail
        (with_reducible refine SC.out.mono ?_)
        rintro e w9 ⟨v9, rfl, st9, L9, m9⟩
        have V9 := Lib.hid (L8.out.strs m9 V8.out)
        have L9H := Lib.hid L9
        have LE9 := L8.out.dk.le
        clear SC L8 V8 m9 L9
        obtain ⟨b9, c9, hv9⟩ := Wl.strs_form st9
        subst hv9
        obtain ⟨M, hM⟩ : ∃ M, M = (rs ++ [p]).length := ⟨_, rfl⟩
        rw [← hM] at st9 ⊢
        have hMM : M = rs.length + 1 := by rw [hM]; simp
        obtain ⟨tk1, tk2⟩ := Wl.strs_take st9 (n := rs.length) (by rw [← hM]; omega)
        obtain ⟨u9, dr1, dr2⟩ := Wl.strs_drop st9 (n := rs.length) (by rw [← hM]; omega)
        have tk : (rs ++ [p]).take rs.length = rs := by simp
        have dp : (rs ++ [p]).drop rs.length = [p] := by simp
        rw [tk] at tk2
        rw [dp] at dr2
        have SM := Lib.hid (Wl.same_any _ _ _ _ rs w9 tk2 V9.out (by have := SF.out.few; omega))
        obtain ⟨g9, c9', he9, -, -, hcs9⟩ := st9.cell (by simp)
        rw [← hM] at he9
        cases he9
        have cn : w9.cell? ⟨g9, rs.length, none⟩ = some (.string (mkB p)) := by (rw [hcs9 rs.length (by simp)]; simp)
        clear hcs9
        have ST9 := Lib.hid st9
        have DR := Lib.hid dr2
        clear tk tk2 dp st9 dr2 hM
        have q1 : (rs.length : Int) ≤ (M : Int) := by omega
        have q2 : (M : Int) ≤ (rs.length : Int) + 1 := by omega
        have q3 : (rs.length : Int) ≤ 8 := by omega
        have q4 : 0 ≤ (rs.length : Int) := by omega
        have q5 : (rs.length : Int) < (M : Int) := by omega
        have q6 : ((M : Int) != (rs.length : Int) + 1) = false := by (simp; omega)
        have q7 : ((rs.length : Int) == 8) = false := by (simp; omega)
        have q8 : ((mkB p).toList != (mkB p).toList) = false := by simp
        have q9 : rs.length < M := by omega
        have HMM := Lib.hid hMM
        clear hMM
        go_wp2_with fail
        (with_reducible refine SM.out.mono ?_)
        rintro e w10 ⟨rfl, b10⟩
        have L10 := Lib.hid (L9H.out.call b10)
        have V10 := Lib.hid (V9.out.call b10)
        have U10 := Lib.hid (DR.out.of_cells (fun k hk => b10.block k hk))
        have cn10 := carry b10 cn
        clear cn
        clear SM L9H V9 ST9 DR b10
        go_upto_region 30 with (fail)
        have bA := (Below.refl w10.drew.heap.size w10.drew).alloc (Nat.le_refl _) (.cells #[] 9)
        have bD := (Below.refl w10.heap.size w10).drew
        have LA := Lib.hid ((L10.out.call bD).call bA)
        obtain ⟨v11, w11, hp1, s11, b11, z11, k11, n11⟩ := Wl.strs_all w10.drew.heap.size _ _ _ [] rs (Wl.strs_empty w10.drew) ((Wl.urow_of V10.out).of_cells (fun k hk => (bA.block k hk).trans (bD.block k hk))) bA.size (by simp; have := SF.out.few; omega)
        have U11 := U10.out.of_cells (w' := w11) (fun k hk => (n11 k (Nat.lt_of_lt_of_le hk bA.size) (fun e => by (simp [Value.ownBlock] at e; omega))).trans ((bA.block k hk).trans (bD.block k hk)))
        rw [List.nil_append] at s11
        obtain ⟨v12, w12, hp2, s12, b12, z12, k12, n12⟩ := Wl.strs_all w10.drew.heap.size w11 v11 u9 rs [p] s11 U11 (Nat.le_trans bA.size z11) (by simp; have := SF.out.few; omega)
        have wl : w.heap.size ≤ w10.drew.heap.size := L10.out.dk.le
        have L12 := (LA.out.rest k11 (b11.mono wl)).rest k12 (b12.mono wl)
        have rn := Wl.readsN_le (k := (rs ++ [p]).length) (n := 8) (by simp; omega)
        have N := Lib.hid (show SfRel w.heap.size d E w (gk - 1) v12 (.int .i64 ((i + 1 : Nat) : Int)) w12 from ⟨i + 1, S2, _, rs ++ [p], by omega, rfl, ⟨L12.dk, by omega, Sl.strs_mono s12 wl, TR.out.len, by simp; omega, TR.out.inv, TR.out.small, L12.bel⟩⟩)
        have HP1 := Lib.hid hp1
        have HP2 := Lib.hid hp2
        clear bA bD LA s11 b11 z11 k11 n11 U11 s12 b12 z12 k12 n12 L12 U10 V10 L10 TR SF hp1 hp2 rn wl
        have hp1 := HP1.out
        have hp2 := HP2.out
        clear HP1 HP2
        refine wp_region_any (by kernel_rfl) ?_
        (try (change wpAny _ _ _ _ _ _ _ (World.drew _)))
        refine wpAny_take (i := 1) (v := ?_) rfl (by kernel_rfl) (by kernel_rfl) (by kernel_rfl) (fun _ _ _ h => h) (Or.inl ⟨by rfl, ?_⟩) ?_
        rotate_left
        · (intro wS; go_simp; try with_reducible rfl)
        (try simp only [Act.put, List.getElem_toArray, List.getElem_cons_succ, List.getElem_cons_zero, List.setIfInBounds_toArray, List.set_cons_zero, List.set_cons_succ])
        refine wpAny_take (i := 3) (v := ?_) rfl (by kernel_rfl) (by kernel_rfl) (by kernel_rfl) (fun _ _ _ h => h) (Or.inl ⟨by rfl, ?_⟩) ?_
        rotate_left
        · (intro wS; go_simp; try with_reducible rfl)
        (try simp only [Act.put, List.getElem_toArray, List.getElem_cons_succ, List.getElem_cons_zero, List.setIfInBounds_toArray, List.set_cons_zero, List.set_cons_succ])
        refine wpAny_take (i := 4) (v := ?_) rfl (by kernel_rfl) (by kernel_rfl) (by kernel_rfl) (fun _ _ _ h => h) (Or.inl ⟨by rfl, ?_⟩) ?_
        rotate_left
        · (intro wS; go_simp; try with_reducible rfl)
        (try simp only [Act.put, List.getElem_toArray, List.getElem_cons_succ, List.getElem_cons_zero, List.setIfInBounds_toArray, List.set_cons_zero, List.set_cons_succ])
        refine wpAny_take (i := 5) (v := ?_) rfl (by kernel_rfl) (by kernel_rfl) (by kernel_rfl) (fun _ _ _ h => h) (Or.inl ⟨by rfl, ?_⟩) ?_
        rotate_left
        · (intro wS; go_simp; try with_reducible rfl)
        (try simp only [Act.put, List.getElem_toArray, List.getElem_cons_succ, List.getElem_cons_zero, List.setIfInBounds_toArray, List.set_cons_zero, List.set_cons_succ])
        refine wpAny_take (i := 6) (v := ?_) rfl (by kernel_rfl) (by kernel_rfl) (by kernel_rfl) (fun _ _ _ h => h) (Or.inl ⟨by rfl, ?_⟩) ?_
        rotate_left
        · (intro wS; go_simp; try with_reducible rfl)
        (try simp only [Act.put, List.getElem_toArray, List.getElem_cons_succ, List.getElem_cons_zero, List.setIfInBounds_toArray, List.set_cons_zero, List.set_cons_succ])
        refine wpAny_ready (rs := [0]) (by kernel_rfl) (by simp) ?_
        refine AllReady.cons rfl (fun K hK => ?_) ?_
        · rw [if_pos (by rfl)]
          refine Dk.wp_value (exec_none rfl (Wl.build_none _)) (hK _ _ ?_)
          clear hK K
          (try simp only [Act.put, List.getElem_toArray, List.getElem_cons_succ, List.getElem_cons_zero, List.setIfInBounds_toArray, List.set_cons_zero, List.set_cons_succ])
          refine wpAny_ready (rs := [2]) (by kernel_rfl) (by simp) ?_
          refine AllReady.cons rfl (fun K hK => ?_) ?_
          · rw [if_pos (by rfl)]
            refine Lib.wp_append_run _ _ _ _ _ rfl _ _ rfl rfl _ _ hp1 (hK _ _ ?_)
            clear hK K
            (try simp only [Act.put, List.getElem_toArray, List.getElem_cons_succ, List.getElem_cons_zero, List.setIfInBounds_toArray, List.set_cons_zero, List.set_cons_succ])
            refine wpAny_ready (rs := [7]) (by kernel_rfl) (by simp) ?_
            refine AllReady.cons rfl (fun K hK => ?_) ?_
            · rw [if_pos (by rfl)]
              refine Lib.wp_append_run _ _ _ _ _ rfl _ _ rfl rfl _ _ hp2 (hK _ _ ?_)
              clear hK K
              (try simp only [Act.put, List.getElem_toArray, List.getElem_cons_succ, List.getElem_cons_zero, List.setIfInBounds_toArray, List.set_cons_zero, List.set_cons_succ])
              refine wpAny_take (i := 8) (v := ?_) rfl (by kernel_rfl) (by kernel_rfl) (by kernel_rfl) (fun _ _ _ h => h) (Or.inl ⟨by rfl, ?_⟩) ?_
              rotate_left
              · (intro wS; go_simp; try with_reducible rfl)
              (try simp only [Act.put, List.getElem_toArray, List.getElem_cons_succ, List.getElem_cons_zero, List.setIfInBounds_toArray, List.set_cons_zero, List.set_cons_succ])
              refine wpAny_done (by kernel_rfl) ?_ _
              go_wp2
              go_roundg (gk - 1)
              case measure => omega
              case rel => exact N.out
            exact AllReady.nil
          exact AllReady.nil
        exact AllReady.nil
      · rw [hrs] at TR
        clear hrs
        go_wp2_with fail
        (with_reducible refine WA.out.mono ?_)
        rintro e w7 ⟨rfl, d7, l7, m7⟩
        have O7 := Lib.hid (O6.out.mv L6.out.dk m7 oq)
        have V7 := Lib.hid (L6.out.strs m7 V6.out)
        have L7 := Lib.hid (L6.out.go d7 l7 m7)
        clear WA d7 l7 m7 L6 O6 V6
        have fc7 : Dk.Fats fo fs w7 := FT.out.1.of_blocks L7.out.bel.size (fun k off e hk => L7.out.bel.block k hk)
        have of7 : 0 < fs.length → Dk.Off fo d w7 := fun h0 k off e h => by (obtain ⟨b9, off9, e9, hb9, _⟩ := FT.out.1.2 h0; rw [e9] at e; cases e; have := (L7.out.dk.ownLt h).1; omega)
        have CR := Lib.hid (Dk.crash_any w.heap.size d _ fo fs fc w7 L7.out.dk fc7 of7 (by have := TR.out.opn; omega) FT.out.2)
        rw [TR.out.now] at CR
        have o2 := O7.out.c2
        clear fc7 of7 O7
        go_wp2_with fail
        (with_reducible refine CR.out.mono ?_)
        rintro e w8 ⟨rfl, d8, m8⟩
        have V8 := Lib.hid (L7.out.strs (.of_moved m8) V7.out)
        have L8 := Lib.hid (L7.out.disk d8 m8)
        clear CR d8 m8 L7 o2 V7
        have SC := Lib.hid (Wl.scan_t w.heap.size d q 0 8 _ S2 0 E (rs) w w8 L8.out (by omega) (by have := TR.out.len; omega) E1 (by omega) TR.out.inv (by omega))
        go_wp2_with fail
        (with_reducible refine SC.out.mono ?_)
        rintro e w9 ⟨v9, rfl, st9, L9, m9⟩
        have V9 := Lib.hid (L8.out.strs m9 V8.out)
        have L9H := Lib.hid L9
        have LE9 := L8.out.dk.le
        clear SC L8 V8 m9 L9
        obtain ⟨b9, c9, hv9⟩ := Wl.strs_form st9
        subst hv9
        obtain ⟨tk1, tk2⟩ := Wl.strs_take st9 (n := rs.length) (Nat.le_refl _)
        obtain ⟨u9, dr1, dr2⟩ := Wl.strs_drop st9 (n := rs.length) (Nat.le_refl _)
        have tk : (rs).take rs.length = rs := by simp
        have dp : (rs).drop rs.length = [] := by simp
        rw [tk] at tk2
        rw [dp] at dr2
        have SM := Lib.hid (Wl.same_any _ _ _ _ rs w9 tk2 V9.out (by have := SF.out.few; omega))
        have ST9 := Lib.hid st9
        have DR := Lib.hid dr2
        clear tk tk2 dp st9 dr2
        have q3 : (rs.length : Int) ≤ 8 := by omega
        have q4 : 0 ≤ (rs.length : Int) := by omega
        have q7 : ((rs.length : Int) == 8) = false := by (simp; omega)
        go_wp2_with fail
        (with_reducible refine SM.out.mono ?_)
        rintro e w10 ⟨rfl, b10⟩
        have L10 := Lib.hid (L9H.out.call b10)
        have V10 := Lib.hid (V9.out.call b10)
        have U10 := Lib.hid (DR.out.of_cells (fun k hk => b10.block k hk))
        clear SM L9H V9 ST9 DR b10
        go_upto_region 30 with (fail)
        have bA := (Below.refl w10.drew.heap.size w10.drew).alloc (Nat.le_refl _) (.cells #[] 9)
        have bD := (Below.refl w10.heap.size w10).drew
        have LA := Lib.hid ((L10.out.call bD).call bA)
        obtain ⟨v11, w11, hp1, s11, b11, z11, k11, n11⟩ := Wl.strs_all w10.drew.heap.size _ _ _ [] rs (Wl.strs_empty w10.drew) ((Wl.urow_of V10.out).of_cells (fun k hk => (bA.block k hk).trans (bD.block k hk))) bA.size (by simp; have := SF.out.few; omega)
        have U11 := U10.out.of_cells (w' := w11) (fun k hk => (n11 k (Nat.lt_of_lt_of_le hk bA.size) (fun e => by (simp [Value.ownBlock] at e; omega))).trans ((bA.block k hk).trans (bD.block k hk)))
        rw [List.nil_append] at s11
        obtain ⟨v12, w12, hp2, s12, b12, z12, k12, n12⟩ := Wl.strs_all w10.drew.heap.size w11 v11 u9 rs [] s11 U11 (Nat.le_trans bA.size z11) (by simp; have := SF.out.few; omega)
        have wl : w.heap.size ≤ w10.drew.heap.size := L10.out.dk.le
        have L12 := (LA.out.rest k11 (b11.mono wl)).rest k12 (b12.mono wl)
        have rn := Wl.readsN_le (k := (rs).length) (n := 8) (by skip; omega)
        rw [List.append_nil] at s12
        have N := Lib.hid (show SfRel w.heap.size d E w (gk - 1) v12 (.int .i64 ((i + 1 : Nat) : Int)) w12 from ⟨i + 1, S2, _, rs, by omega, rfl, ⟨L12.dk, by omega, Sl.strs_mono s12 wl, TR.out.len, by skip; omega, TR.out.inv, TR.out.small, L12.bel⟩⟩)
        have HP1 := Lib.hid hp1
        have HP2 := Lib.hid hp2
        clear bA bD LA s11 b11 z11 k11 n11 U11 s12 b12 z12 k12 n12 L12 U10 V10 L10 TR SF hp1 hp2 rn wl
        have hp1 := HP1.out
        have hp2 := HP2.out
        clear HP1 HP2
        refine wp_region_any (by kernel_rfl) ?_
        (try (change wpAny _ _ _ _ _ _ _ (World.drew _)))
        refine wpAny_take (i := 1) (v := ?_) rfl (by kernel_rfl) (by kernel_rfl) (by kernel_rfl) (fun _ _ _ h => h) (Or.inl ⟨by rfl, ?_⟩) ?_
        rotate_left
        · (intro wS; go_simp; try with_reducible rfl)
        (try simp only [Act.put, List.getElem_toArray, List.getElem_cons_succ, List.getElem_cons_zero, List.setIfInBounds_toArray, List.set_cons_zero, List.set_cons_succ])
        refine wpAny_take (i := 3) (v := ?_) rfl (by kernel_rfl) (by kernel_rfl) (by kernel_rfl) (fun _ _ _ h => h) (Or.inl ⟨by rfl, ?_⟩) ?_
        rotate_left
        · (intro wS; go_simp; try with_reducible rfl)
        (try simp only [Act.put, List.getElem_toArray, List.getElem_cons_succ, List.getElem_cons_zero, List.setIfInBounds_toArray, List.set_cons_zero, List.set_cons_succ])
        refine wpAny_take (i := 4) (v := ?_) rfl (by kernel_rfl) (by kernel_rfl) (by kernel_rfl) (fun _ _ _ h => h) (Or.inl ⟨by rfl, ?_⟩) ?_
        rotate_left
        · (intro wS; go_simp; try with_reducible rfl)
        (try simp only [Act.put, List.getElem_toArray, List.getElem_cons_succ, List.getElem_cons_zero, List.setIfInBounds_toArray, List.set_cons_zero, List.set_cons_succ])
        refine wpAny_take (i := 5) (v := ?_) rfl (by kernel_rfl) (by kernel_rfl) (by kernel_rfl) (fun _ _ _ h => h) (Or.inl ⟨by rfl, ?_⟩) ?_
        rotate_left
        · (intro wS; go_simp; try with_reducible rfl)
        (try simp only [Act.put, List.getElem_toArray, List.getElem_cons_succ, List.getElem_cons_zero, List.setIfInBounds_toArray, List.set_cons_zero, List.set_cons_succ])
        refine wpAny_take (i := 6) (v := ?_) rfl (by kernel_rfl) (by kernel_rfl) (by kernel_rfl) (fun _ _ _ h => h) (Or.inl ⟨by rfl, ?_⟩) ?_
        rotate_left
        · (intro wS; go_simp; try with_reducible rfl)
        (try simp only [Act.put, List.getElem_toArray, List.getElem_cons_succ, List.getElem_cons_zero, List.setIfInBounds_toArray, List.set_cons_zero, List.set_cons_succ])
        refine wpAny_ready (rs := [0]) (by kernel_rfl) (by simp) ?_
        refine AllReady.cons rfl (fun K hK => ?_) ?_
        · rw [if_pos (by rfl)]
          refine Dk.wp_value (exec_none rfl (Wl.build_none _)) (hK _ _ ?_)
          clear hK K
          (try simp only [Act.put, List.getElem_toArray, List.getElem_cons_succ, List.getElem_cons_zero, List.setIfInBounds_toArray, List.set_cons_zero, List.set_cons_succ])
          refine wpAny_ready (rs := [2]) (by kernel_rfl) (by simp) ?_
          refine AllReady.cons rfl (fun K hK => ?_) ?_
          · rw [if_pos (by rfl)]
            refine Lib.wp_append_run _ _ _ _ _ rfl _ _ rfl rfl _ _ hp1 (hK _ _ ?_)
            clear hK K
            (try simp only [Act.put, List.getElem_toArray, List.getElem_cons_succ, List.getElem_cons_zero, List.setIfInBounds_toArray, List.set_cons_zero, List.set_cons_succ])
            refine wpAny_ready (rs := [7]) (by kernel_rfl) (by simp) ?_
            refine AllReady.cons rfl (fun K hK => ?_) ?_
            · rw [if_pos (by rfl)]
              refine Lib.wp_append_run _ _ _ _ _ rfl _ _ rfl rfl _ _ hp2 (hK _ _ ?_)
              clear hK K
              (try simp only [Act.put, List.getElem_toArray, List.getElem_cons_succ, List.getElem_cons_zero, List.setIfInBounds_toArray, List.set_cons_zero, List.set_cons_succ])
              refine wpAny_take (i := 8) (v := ?_) rfl (by kernel_rfl) (by kernel_rfl) (by kernel_rfl) (fun _ _ _ h => h) (Or.inl ⟨by rfl, ?_⟩) ?_
              rotate_left
              · (intro wS; go_simp; try with_reducible rfl)
              (try simp only [Act.put, List.getElem_toArray, List.getElem_cons_succ, List.getElem_cons_zero, List.setIfInBounds_toArray, List.set_cons_zero, List.set_cons_succ])
              refine wpAny_done (by kernel_rfl) ?_ _
              go_wp2
              go_roundg (gk - 1)
              case measure => omega
              case rel => exact N.out
            exact AllReady.nil
          exact AllReady.nil
        exact AllReady.nil
      · rw [hrs] at TR
        clear hrs
        have q7 : ((rs.length : Int) == 8) = true := by (simp; omega)
        have HLT := Lib.hid hlt
        clear hlt
        go_wp2_with fail
        (with_reducible refine WA.out.mono ?_)
        rintro e w7 ⟨rfl, d7, l7, m7⟩
        have O7 := Lib.hid (O6.out.mv L6.out.dk m7 oq)
        have V7 := Lib.hid (L6.out.strs m7 V6.out)
        have L7 := Lib.hid (L6.out.go d7 l7 m7)
        clear WA d7 l7 m7 L6 O6 V6
        have fc7 : Dk.Fats fo fs w7 := FT.out.1.of_blocks L7.out.bel.size (fun k off e hk => L7.out.bel.block k hk)
        have of7 : 0 < fs.length → Dk.Off fo d w7 := fun h0 k off e h => by (obtain ⟨b9, off9, e9, hb9, _⟩ := FT.out.1.2 h0; rw [e9] at e; cases e; have := (L7.out.dk.ownLt h).1; omega)
        have CR := Lib.hid (Dk.crash_any w.heap.size d _ fo fs fc w7 L7.out.dk fc7 of7 (by have := TR.out.opn; omega) FT.out.2)
        rw [TR.out.now] at CR
        have o2 := O7.out.c2
        clear fc7 of7 O7
        go_wp2_with fail
        (with_reducible refine CR.out.mono ?_)
        rintro e w8 ⟨rfl, d8, m8⟩
        have V8 := Lib.hid (L7.out.strs (.of_moved m8) V7.out)
        have L8 := Lib.hid (L7.out.disk d8 m8)
        clear CR d8 m8 L7 o2 V7
        have SC := Lib.hid (Wl.scan_t w.heap.size d q 0 8 _ S2 0 E (rs) w w8 L8.out (by omega) (by have := TR.out.len; omega) E1 (by omega) TR.out.inv (by omega))
        go_wp2_with fail
        (with_reducible refine SC.out.mono ?_)
        rintro e w9 ⟨v9, rfl, st9, L9, m9⟩
        have V9 := Lib.hid (L8.out.strs m9 V8.out)
        have L9H := Lib.hid L9
        have LE9 := L8.out.dk.le
        clear SC L8 V8 m9 L9
        obtain ⟨b9, c9, hv9⟩ := Wl.strs_form st9
        subst hv9
        obtain ⟨tk1, tk2⟩ := Wl.strs_take st9 (n := rs.length) (Nat.le_refl _)
        obtain ⟨u9, dr1, dr2⟩ := Wl.strs_drop st9 (n := rs.length) (Nat.le_refl _)
        have tk : (rs).take rs.length = rs := by simp
        have dp : (rs).drop rs.length = [] := by simp
        rw [tk] at tk2
        rw [dp] at dr2
        have SM := Lib.hid (Wl.same_any _ _ _ _ rs w9 tk2 V9.out (by have := SF.out.few; omega))
        have ST9 := Lib.hid st9
        have DR := Lib.hid dr2
        clear tk tk2 dp st9 dr2
        have q3 : (rs.length : Int) ≤ 8 := by omega
        have q4 : 0 ≤ (rs.length : Int) := by omega
        go_wp2_with fail
        (with_reducible refine SM.out.mono ?_)
        rintro e w10 ⟨rfl, b10⟩
        have L10 := Lib.hid (L9H.out.call b10)
        have V10 := Lib.hid (V9.out.call b10)
        have U10 := Lib.hid (DR.out.of_cells (fun k hk => b10.block k hk))
        clear SM L9H V9 ST9 DR b10
        go_upto_region 30 with (fail)
        have bA := (Below.refl w10.drew.heap.size w10.drew).alloc (Nat.le_refl _) (.cells #[] 9)
        have bD := (Below.refl w10.heap.size w10).drew
        have LA := Lib.hid ((L10.out.call bD).call bA)
        obtain ⟨v11, w11, hp1, s11, b11, z11, k11, n11⟩ := Wl.strs_all w10.drew.heap.size _ _ _ [] rs (Wl.strs_empty w10.drew) ((Wl.urow_of V10.out).of_cells (fun k hk => (bA.block k hk).trans (bD.block k hk))) bA.size (by simp; have := SF.out.few; omega)
        have U11 := U10.out.of_cells (w' := w11) (fun k hk => (n11 k (Nat.lt_of_lt_of_le hk bA.size) (fun e => by (simp [Value.ownBlock] at e; omega))).trans ((bA.block k hk).trans (bD.block k hk)))
        rw [List.nil_append] at s11
        obtain ⟨v12, w12, hp2, s12, b12, z12, k12, n12⟩ := Wl.strs_all w10.drew.heap.size w11 v11 u9 rs [] s11 U11 (Nat.le_trans bA.size z11) (by simp; have := SF.out.few; omega)
        have wl : w.heap.size ≤ w10.drew.heap.size := L10.out.dk.le
        have L12 := (LA.out.rest k11 (b11.mono wl)).rest k12 (b12.mono wl)
        have rn := Wl.readsN_le (k := (rs).length) (n := 8) (by skip; omega)
        rw [List.append_nil] at s12
        have N := Lib.hid (show SfRel w.heap.size d E w (gk - 1) v12 (.int .i64 ((i + 1 : Nat) : Int)) w12 from ⟨i + 1, S2, _, rs, by omega, rfl, ⟨L12.dk, by omega, Sl.strs_mono s12 wl, TR.out.len, by skip; omega, TR.out.inv, TR.out.small, L12.bel⟩⟩)
        have HP1 := Lib.hid hp1
        have HP2 := Lib.hid hp2
        clear bA bD LA s11 b11 z11 k11 n11 U11 s12 b12 z12 k12 n12 L12 U10 V10 L10 TR SF hp1 hp2 rn wl
        have hp1 := HP1.out
        have hp2 := HP2.out
        clear HP1 HP2
        refine wp_region_any (by kernel_rfl) ?_
        (try (change wpAny _ _ _ _ _ _ _ (World.drew _)))
        refine wpAny_take (i := 1) (v := ?_) rfl (by kernel_rfl) (by kernel_rfl) (by kernel_rfl) (fun _ _ _ h => h) (Or.inl ⟨by rfl, ?_⟩) ?_
        rotate_left
        · (intro wS; go_simp; try with_reducible rfl)
        (try simp only [Act.put, List.getElem_toArray, List.getElem_cons_succ, List.getElem_cons_zero, List.setIfInBounds_toArray, List.set_cons_zero, List.set_cons_succ])
        refine wpAny_take (i := 3) (v := ?_) rfl (by kernel_rfl) (by kernel_rfl) (by kernel_rfl) (fun _ _ _ h => h) (Or.inl ⟨by rfl, ?_⟩) ?_
        rotate_left
        · (intro wS; go_simp; try with_reducible rfl)
        (try simp only [Act.put, List.getElem_toArray, List.getElem_cons_succ, List.getElem_cons_zero, List.setIfInBounds_toArray, List.set_cons_zero, List.set_cons_succ])
        refine wpAny_take (i := 4) (v := ?_) rfl (by kernel_rfl) (by kernel_rfl) (by kernel_rfl) (fun _ _ _ h => h) (Or.inl ⟨by rfl, ?_⟩) ?_
        rotate_left
        · (intro wS; go_simp; try with_reducible rfl)
        (try simp only [Act.put, List.getElem_toArray, List.getElem_cons_succ, List.getElem_cons_zero, List.setIfInBounds_toArray, List.set_cons_zero, List.set_cons_succ])
        refine wpAny_take (i := 5) (v := ?_) rfl (by kernel_rfl) (by kernel_rfl) (by kernel_rfl) (fun _ _ _ h => h) (Or.inl ⟨by rfl, ?_⟩) ?_
        rotate_left
        · (intro wS; go_simp; try with_reducible rfl)
        (try simp only [Act.put, List.getElem_toArray, List.getElem_cons_succ, List.getElem_cons_zero, List.setIfInBounds_toArray, List.set_cons_zero, List.set_cons_succ])
        refine wpAny_take (i := 6) (v := ?_) rfl (by kernel_rfl) (by kernel_rfl) (by kernel_rfl) (fun _ _ _ h => h) (Or.inl ⟨by rfl, ?_⟩) ?_
        rotate_left
        · (intro wS; go_simp; try with_reducible rfl)
        (try simp only [Act.put, List.getElem_toArray, List.getElem_cons_succ, List.getElem_cons_zero, List.setIfInBounds_toArray, List.set_cons_zero, List.set_cons_succ])
        refine wpAny_ready (rs := [0]) (by kernel_rfl) (by simp) ?_
        refine AllReady.cons rfl (fun K hK => ?_) ?_
        · rw [if_pos (by rfl)]
          refine Dk.wp_value (exec_none rfl (Wl.build_none _)) (hK _ _ ?_)
          clear hK K
          (try simp only [Act.put, List.getElem_toArray, List.getElem_cons_succ, List.getElem_cons_zero, List.setIfInBounds_toArray, List.set_cons_zero, List.set_cons_succ])
          refine wpAny_ready (rs := [2]) (by kernel_rfl) (by simp) ?_
          refine AllReady.cons rfl (fun K hK => ?_) ?_
          · rw [if_pos (by rfl)]
            refine Lib.wp_append_run _ _ _ _ _ rfl _ _ rfl rfl _ _ hp1 (hK _ _ ?_)
            clear hK K
            (try simp only [Act.put, List.getElem_toArray, List.getElem_cons_succ, List.getElem_cons_zero, List.setIfInBounds_toArray, List.set_cons_zero, List.set_cons_succ])
            refine wpAny_ready (rs := [7]) (by kernel_rfl) (by simp) ?_
            refine AllReady.cons rfl (fun K hK => ?_) ?_
            · rw [if_pos (by rfl)]
              refine Lib.wp_append_run _ _ _ _ _ rfl _ _ rfl rfl _ _ hp2 (hK _ _ ?_)
              clear hK K
              (try simp only [Act.put, List.getElem_toArray, List.getElem_cons_succ, List.getElem_cons_zero, List.setIfInBounds_toArray, List.set_cons_zero, List.set_cons_succ])
              refine wpAny_take (i := 8) (v := ?_) rfl (by kernel_rfl) (by kernel_rfl) (by kernel_rfl) (fun _ _ _ h => h) (Or.inl ⟨by rfl, ?_⟩) ?_
              rotate_left
              · (intro wS; go_simp; try with_reducible rfl)
              (try simp only [Act.put, List.getElem_toArray, List.getElem_cons_succ, List.getElem_cons_zero, List.setIfInBounds_toArray, List.set_cons_zero, List.set_cons_succ])
              refine wpAny_done (by kernel_rfl) ?_ _
              go_wp2
              go_roundg (gk - 1)
              case measure => omega
              case rel => exact N.out
            exact AllReady.nil
          exact AllReady.nil
        exact AllReady.nil
    · subst hi10
      have FIN := Lib.hid hs.bel
      clear hs HT
      have il : ((10 : Nat) : Int) < (len : Int) := by omega
      go_wp2
      go_ret
      exact ⟨rfl, FIN.out⟩
    · have FIN := Lib.hid hs.bel
      have il : (len : Int) ≤ (i : Int) := by omega
      clear hs HT
      go_wp2
      go_ret
      exact ⟨rfl, FIN.out⟩

set_option maxRecDepth 100000 in
set_option maxHeartbeats 1600000 in
theorem lifted (os : Os) (started : os.Started) (H : Type) (enc : TypeId × Value → H) :
    ReturnsInHanded {} Try.checked os 4 .any (Rows.walSafeSpec.pre6 enc Try.prog Try.f4 Rows.walSafeRow.domain false) (Rows.walSafeSpec.post enc Try.prog Try.f4 false true false false) := by
  refine returnsInHanded_of_change (C := Try.checked) own started (by kernel_rfl) Try.func4
    (ChangeSpec.witness6 (enc := enc) (C := Try.checked) false ⟨#[], #[.int .u8 0, .slice none 0 0], []⟩ 8 (by kernel_rfl) (by kernel_rfl) (by kernel_rfl) (by kernel_rfl)) ?_
  intro W base args ds gs before hval0 hW hcnd _
  have hval : ∀ (j : Nat) t v, Try.f4.params[j]? = some t → args[j]? = some v → Value.okWide Try.prog W .any base t v := hval0
  have hW' := hW
  obtain ⟨p, q, hA0, hV, rfl, hfz, hnd⟩ := hW
  have hA : DataW.TrodAll enc Try.prog W 0 (fun _ => true) true Try.f4.params.toList args.toList ds p := hA0
  rw [Try.params4] at hA hval
  obtain ⟨v0, vs0, d0, ds0, p0, q0, hargs, rfl, rfl, h0, r0⟩ := trodAll_cons hA
  obtain ⟨v1, vs1, d1, ds1, p1, q1, rfl, rfl, rfl, h1, r1⟩ := trodAll_cons r0
  obtain ⟨rfl, rfl, rfl⟩ := trodAll_nil r1
  obtain rfl : args = #[v0, v1] := by cases args; simp_all
  obtain ⟨rfl, rfl⟩ := trodVars_none hV
  have lt0 : ∀ x ∈ p0, x.block < W.heap.size := by obtain ⟨m, hm⟩ := h0; exact DataW.trod_lt m _ _ _ hm
  obtain ⟨n0, e0, -, -, wfx⟩ := open_int Try.underlying5 (hval 0 5 v0 rfl rfl) h0
  subst e0
  obtain ⟨x, rfl, wx⟩ := Wl.is8_nat wfx
  have lt1 : ∀ x ∈ p1, x.block < W.heap.size := by obtain ⟨m, hm⟩ := h1; exact DataW.trod_lt m _ _ _ hm
  obtain ⟨ao, len, cap, rfl, le, tr⟩ := Wl.open_tries (hval 1 51 v1 rfl rfl) h1
  clear hA0 hval0
  refine (walk x _ _ _ W wx le tr).mono fun e W' ⟨he, bel⟩ => ?_
  subst he
  exact ⟨_, rfl, _, _, _, [], _, [], hW', trodAll_mk1 (shut_bool Try.underlying4 _), (trodAll_cons_mk (Below.trod laidOut (by kernel_rfl) (of_decide_eq_true (by kernel_rfl)) h0 bel lt0) (trodAll_cons_mk (Below.trod laidOut (by kernel_rfl) (of_decide_eq_true (by kernel_rfl)) h1 bel lt1) trodAll_mk0)), rfl, bel.frame _, fun h => by cases h⟩

theorem proved : Rows.WalSafeSaid :=
  OpenClaim.holds_of_wide 4 Try.f4 rfl rfl rfl rfl rfl rfl rfl ⟨rfl, rfl, rfl, rfl, rfl⟩ rfl rfl rfl rfl rfl (by kernel_rfl) Try.func4 (by kernel_rfl)
    (of_decide_eq_true (by kernel_rfl)) (by unfold Func.isWrapper; first | (rw [if_pos (by decide +kernel)]; kernel_rfl) | (rw [if_neg (by decide +kernel)]; exact ⟨rfl, rfl⟩))
    (fun os started H enc _ => lifted os started H enc)
#print axioms proved
end Go.Proofs.Ytcbemjckcmcelaa.walSafe
