/- Package ops' Bytes. -/
import Derived.Test.YticehebgkehipaaOpF
import Derived.Test.YticehebgkehipaaOpE
namespace Go.Proofs.Yticehebgkehipaa.Ox
open Go.ChangeShapes Go.WideShapes Go.ChangeAt Go.RowKit Go.Joins
open Oc
open Pm (Tk chk chk_iff)
set_option maxRecDepth 100000
set_option maxRecDepth 100000
set_option linter.unusedVariables false
set_option linter.unusedSimpArgs false
theorem Bd.call {B b p T : Nat} {cs : Array Value} {l : List UInt8} {w W W' : World} (h : Bd B b p T cs l w W) (hb : Below W.heap.size W W') : Bd B b p T cs l w W' :=
  ⟨h.wr.call hb, (hb.block p (lt_of_heap h.at_)).trans h.at_, h.ty, h.ne, h.mv.trans ⟨hb.os, hb.tape, hb.output, hb.size, fun k hk _ _ => hb.block k hk, fun k hk => .inl (by
    unfold bufOf at *
    rwa [hb.cell (p := ⟨b, 1, none⟩) h.wr.lt] at hk)⟩, Nat.le_trans h.sz hb.size⟩
theorem cons10 {W : World} {p : Nat} {a b c d e f g h i j : Value} (H : ∀ o, W.cell? ⟨p, o, none⟩ = (#[a, b, c, d, e, f, g, h, i, j] : Array Value)[o]?) : W.cell? ⟨p, 0, none⟩ = some a ∧ W.cell? ⟨p, 1, none⟩ = some b ∧ W.cell? ⟨p, 2, none⟩ = some c ∧ W.cell? ⟨p, 3, none⟩ = some d ∧ W.cell? ⟨p, 4, none⟩ = some e ∧ W.cell? ⟨p, 5, none⟩ = some f ∧ W.cell? ⟨p, 6, none⟩ = some g ∧ W.cell? ⟨p, 7, none⟩ = some h ∧ W.cell? ⟨p, 8, none⟩ = some i ∧ W.cell? ⟨p, 9, none⟩ = some j := ⟨H 0, H 1, H 2, H 3, H 4, H 5, H 6, H 7, H 8, H 9⟩
def bytesR (o : Od) : ByteArray × Int := if chkR o then (mkB (encO o), 0) else (⟨#[]⟩, 1)
theorem enc_of {o : Od} (h : chkR o = true) : encInt o.kind ++ bodyR (ofR o) = encO o := by
  rcases chkR_iff.1 h with ⟨t, s, rfl, hc, hs⟩ | ⟨i, rfl, h1, h2⟩ | ⟨i, c, rfl, h1, h2, h3, h4⟩ | ⟨m, rfl, h1, h2⟩
  · simp [ofR, bodyR, encO]
  · simp [ofR, bodyR, encO]
  · simp [ofR, bodyR, encO]
  · simp [ofR, bodyR, encO]
theorem kind_of {o : Od} (h : chkR o = true) : 0 ≤ o.kind ∧ o.kind ≤ 1000000 := by
  rcases chkR_iff.1 h with ⟨t, s, rfl, hc, hs⟩ | ⟨i, rfl, h1, h2⟩ | ⟨i, c, rfl, h1, h2, h3, h4⟩ | ⟨m, rfl, h1, h2⟩ <;> simp
theorem may_chk {o : Od} (h : chkR o = true) : mayF (ofR o) = true := by
  rw [may_of]; unfold chkR at h; rw [Bool.and_eq_true] at h; exact h.2
theorem bytes_no (o : Od) (w : World) (h : chkR o = false) :
    Calls Try.prog 20 #[o.v] w fun e w' => e = .returned (.tuple #[.string ⟨#[]⟩, .int .i64 1]) ∧ Below w.heap.size w w' := by
  have CK := Lib.hid (check_any o)
  rw [h] at CK
  have HZ := Lib.hid (box_call w o)
  have K0 := Lib.hid (box_cells w o)
  clear h
  obtain ⟨k, ⟨i, c, d, t, m⟩, s, id, cc, mo⟩ := o
  unfold Od.v Od.cs at *
  simp only at *
  obtain ⟨a0, a1, a2, a3, a4, a5, a6, a7, a8, a9⟩ := K0.out
  go_enter Try.func20, Try.ntmps20
  go_wp2_with fail
  (with_reducible refine (CK.out _).mono ?_)
  rintro e w1 ⟨rfl, b1⟩
  have B1 := Lib.hid (HZ.out w1 b1).2
  clear b1 HZ CK a0 a1 a2 a3 a4 a5 a6 a7 a8 a9
  go_wp2
  exact bodyPost_ret (v := .tuple #[.string ⟨#[]⟩, .int .i64 1]) (by simp [results, Try.results20, go_sem]) rfl ⟨rfl, B1.out⟩
set_option maxHeartbeats 4000000 in
theorem bytes_yes (o : Od) (w : World) (h : chkR o = true) :
    Calls Try.prog 20 #[o.v] w fun e w' => e = .returned (.tuple #[.string (mkB (encO o)), .int .i64 0]) ∧ Below w.heap.size w w' := by
  have CK := Lib.hid (check_any o)
  rw [h] at CK
  have HZ : Hid (∀ w1, Below (w.alloc (.cells o.cs 25)).heap.size (w.alloc (.cells o.cs 25)) w1 → Bd w1.heap.size w1.heap.size w.heap.size 25 o.cs [] (w1.alloc (.cells #[.pointer none, .slice none 0 0, .pointer none] 73)) (w1.alloc (.cells #[.pointer none, .slice none 0 0, .pointer none] 73)) ∧ Below w.heap.size w (w1.alloc (.cells #[.pointer none, .slice none 0 0, .pointer none] 73)) ∧ w.heap.size ≤ w1.heap.size) := Lib.hid (fun w1 h1 => by
    have hb : Below w.heap.size w (w.alloc (.cells o.cs 25)) := (Below.refl w.heap.size w).alloc (Nat.le_refl _) _
    have ha := (at_new w o).call h1
    have h2 : Below w1.heap.size w1 (w1.alloc (.cells #[.pointer none, .slice none 0 0, .pointer none] 73)) := (Below.refl _ _).alloc (Nat.le_refl _) _
    have hw : Below w.heap.size w w1 := hb.trans (h1.mono hb.size)
    exact ⟨⟨fresh_wr w1, ha.call h2, by decide, Nat.ne_of_lt ha.lt, Moved.refl _ _, by simp⟩, hw.trans (h2.mono hw.size), hw.size⟩)
  have K0 := Lib.hid (box_cells w o)
  have z := encO_len h
  have L1 : (encInt o.kind).length ≤ 800000 := by rw [← enc_of h, List.length_append] at z; omega
  have CI : Hid (∀ p T cs w, ∀ b W, Bd b b p T cs [] w W → Calls Try.prog 36 #[self b, .int .i64 o.kind] W fun e w' => e = .returned (self b) ∧ Bd b b p T cs (encInt o.kind) w w') := Lib.hid (fun p T cs w b W => by
    have := int_c (B := b) (b := b) (p := p) (T := T) (cs := cs) (w := w) [] o.kind (kind_of h) (by simp)
    rw [List.nil_append] at this
    exact this W)
  have OF := Lib.hid (of_any o)
  have PU : Hid (∀ p T cs w, ∀ b W, Bd b b p T cs (encInt o.kind) w W → Calls Try.prog 35 #[self b, (ofR o).v] W fun e w' => e = .returned (.tuple #[]) ∧ Bd b b p T cs (encO o) w w') := Lib.hid (fun p T cs w b W hW => by
    have := put_any (ofR o) W hW.wr hW.sz L1 (may_chk h)
    rw [enc_of h] at this
    exact this.mono fun e w' ⟨he, hw, hm⟩ => ⟨he, hW.moved hw hm⟩)
  have ST : Hid (∀ b W, Wr b b (encO o) W → Calls Try.prog 37 #[self b] W fun e w' => e = .returned (.string (mkB (encO o))) ∧ Wr b b (encO o) w' ∧ Moved b W w') := Lib.hid (fun b W k => wstring_any b b (encO o) W k (by omega))
  clear h z L1
  generalize encO o = E at *
  generalize (ofR o).v = fv at *
  obtain ⟨k, ⟨i, c, d, t, m⟩, s, id, cc, mo⟩ := o
  unfold Od.v Od.cs at *
  simp only at *
  generalize encInt k = l1 at *
  obtain ⟨a0, a1, a2, a3, a4, a5, a6, a7, a8, a9⟩ := K0.out
  go_enter Try.func20, Try.ntmps20
  go_wp2_with fail
  (with_reducible refine (CK.out _).mono ?_)
  rintro e w1 ⟨rfl, b1⟩
  obtain ⟨h0, f1, sz1⟩ := HZ.out w1 b1
  have H0 := Lib.hid h0
  have F1 := Lib.hid f1
  have D0 := Lib.hid h0.drew
  have K1 := Lib.hid (cons10 H0.out.cell)
  have K1d := Lib.hid (cons10 D0.out.cell)
  clear b1 HZ CK a0 a1 a2 a3 a4 a5 a6 a7 a8 a9 h0 f1 K0
  go_wp2_with fail
  go_region_held3 (fun w' => w'.cell? ⟨w.heap.size, 0, none⟩ = some (.int .i64 k) ∧ w'.cell? ⟨w.heap.size, 1, none⟩ = some (.int .i64 i) ∧ w'.cell? ⟨w.heap.size, 2, none⟩ = some (.int .i64 c) ∧ w'.cell? ⟨w.heap.size, 3, none⟩ = some (.int .i64 d) ∧ w'.cell? ⟨w.heap.size, 4, none⟩ = some (.int .i64 t) ∧ w'.cell? ⟨w.heap.size, 5, none⟩ = some (.int .i64 m) ∧ w'.cell? ⟨w.heap.size, 6, none⟩ = some (.bool s) ∧ w'.cell? ⟨w.heap.size, 7, none⟩ = some (.int .i64 id) ∧ w'.cell? ⟨w.heap.size, 8, none⟩ = some (.int .i64 cc) ∧ w'.cell? ⟨w.heap.size, 9, none⟩ = some (.int .i64 mo)) (first | exact K1d.out | exact K1.out | assumption | fail) (first
    | (go_at_call 36; (with_reducible refine (CI.out _ _ _ _ _ _ (by first | exact HF.out | exact D0.out)).mono ?_); rintro e wi ⟨rfl, hi⟩; (have ki := cons10 hi.cell); (have HI := Lib.hid hi); clear hi)
    | (go_at_call 22; (with_reducible refine (OF.out _).mono ?_); rintro e wf ⟨rfl, bf⟩; (first | (have HF := Lib.hid (HI.out.call bf)) | (have HF := Lib.hid (D0.out.call bf))); (have kf := cons10 HF.out.cell); clear bf)
    | (go_at_call 35; (first | (with_reducible refine (PU.out _ _ _ _ _ _ HF.out).mono ?_) | (with_reducible refine (PU.out _ _ _ _ _ _ HI.out).mono ?_)); rintro e wp ⟨rfl, hp⟩; (have kp := cons10 hp.cell); (have HP := Lib.hid hp); clear hp)
    | fail)
  all_goals
    go_wp2_with fail
    (with_reducible refine (ST.out _ _ HP.out.wr).mono ?_)
    rintro e w9 ⟨rfl, k9, m9⟩
    have FIN := Lib.hid (F1.out.trans ((H0.out.wr.below (HP.out.mv.trans m9) H0.out.sz).mono sz1))
    clear k9 m9
    go_wp2
    exact bodyPost_ret (v := .tuple #[.string (mkB E), .int .i64 0]) (by simp [results, Try.results20, go_sem]) rfl ⟨rfl, FIN.out⟩
theorem bytes_any (o : Od) (w : World) :
    Calls Try.prog 20 #[o.v] w fun e w' => e = .returned (.tuple #[.string (bytesR o).1, .int .i64 (bytesR o).2]) ∧ Below w.heap.size w w' := by
  unfold bytesR
  cases h : chkR o with
  | true => exact bytes_yes o w h
  | false => exact bytes_no o w h
end Go.Proofs.Yticehebgkehipaa.Ox
