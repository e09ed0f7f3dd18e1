/- Contracts of package qpa's first, Miss, Path. -/
import Derived.Test.YtbhafcaekpccoaaQpB
namespace Go.Proofs.Ytbhafcaekpccoaa.Qp
open Go.ChangeShapes Go.WideShapes Go.ChangeAt Go.RowKit Go.Joins Go.Shelf
open Pm (Tk chk chk_iff rowB rowB_all rowB_len TkAt Ts TRow loadR periodR)
open Dm (ans before_any beforeR ofR of_any NRow Ns nrow_nil nrow_append nums)
open Bs (lengthR lengthR_bad lengthR_over good_of length_any)
attribute [local go_sem] Oper.semAt_some
set_option maxRecDepth 100000
set_option maxRecDepth 100000
set_option linter.unusedVariables false
set_option linter.unusedSimpArgs false
def FiI (w : World) (l : List Tk) (pre : List Int) (W : World) : Prop := Own1 w (.cells #[.int .i64 (lastM l 0 pre)] 2 (0, 0)) W
def FiX (c : Code) (pre : List Int) (W : World) : Prop := False
theorem fiI_own {w : World} {l : List Tk} {N : Nat} (hN : w.heap.size + 1 ≤ N) : OwnFrom N (FiI w l) := fun pre X Y row hs hg hr => Own1.grown hs hg (fun r e => Nat.le_trans hN (hr r e).1)
theorem fiX_own {N : Nat} (c : Code) : OwnFrom N (FiX c) := fun pre X Y row hs hg hr => hs
set_option maxHeartbeats 4000000 in
theorem first_any (l : List Tk) (ao : Option Addr) (cap : Nat) (len : Int) (w : World) (hT : Ts ao l w) (hl : l.length ≤ 1000000) (hlen : len ≤ 1048576) :
    Calls Try.prog 35 #[.slice ao l.length cap, .int .i64 len] w fun e w' => ∃ r, chainP l (beforeR l len) r ∧ afterP l (beforeR l len) r = none ∧ e = .returned (.int .i64 (lastM l 0 r)) ∧ Below w.heap.size w w' := by
  have o0 : Own1 w (.cells #[.int .i64 0] 2 (0, 0)) (w.alloc (.cells #[.int .i64 0] 2)) := ⟨(by show (w.heap.push _)[w.heap.size]? = _; rw [Array.getElem?_push_size]), (Below.refl _ _).alloc (Nat.le_refl _) _⟩
  have T0 := hT.call o0.bel
  have SS := Lib.hid (fun w => times_any ao l.length cap len w)
  refine (callsIn_wide (n := 3)).1 ?_
  refine callsIn_of_wp_marks Try.func35 rfl trivial ?_ rfl
  simp only [Try.ntmps35, List.size_toArray, List.length_cons, List.length_nil, Nat.reduceAdd, Nat.reduceSub, Array.replicate_succ, Array.replicate_zero, List.push_toArray, List.append_toArray, List.nil_append, List.cons_append]
  refine wpIn_wide.2 ?_
  have O0 := Lib.hid o0
  have HT0 := Lib.hid T0
  clear o0 T0
  go_wp2_with fail
  (with_reducible refine (SS.out _).mono ?_)
  rintro e w2 ⟨rfl, e2⟩
  clear SS
  have z1 : (w.alloc (.cells #[.int .i64 0] 2)).heap.size = w.heap.size + 1 := by simp
  have b2 : Below (w.alloc (.cells #[.int .i64 0] 2)).heap.size (w.alloc (.cells #[.int .i64 0] 2)) w2 := by rw [e2]; exact ((Below.refl _ _).alloc (Nat.le_refl _) _).alloc (by simp) _
  have lay : w2.cell? ⟨w.heap.size + 1, 0, none⟩ = some (.slice ao l.length cap) ∧ w2.cell? ⟨w.heap.size + 1 + 1, 0, none⟩ = some (.int .i64 len) ∧ w2.heap.size = w.heap.size + 3 := by
    rw [e2, ← z1]
    exact ⟨by simp [go_sem], by simp [go_sem], by simp⟩
  clear e2
  simp only [z1]
  obtain ⟨y0, y1, z2⟩ := lay
  have o2 := O0.out.grown (row := none) ⟨b2.os, b2.tape, b2.output, b2.size, fun k hk _ => b2.block k hk⟩ (fun r e => by cases e)
  have T2 := HT0.out.call b2
  obtain ⟨b, hb, hbo⟩ : ∃ b, b < w2.heap.size ∧ b ≠ w.heap.size ∧ (0 < l.length → ∀ k off, ao = some ⟨k, off, none⟩ → k = b) := by
    by_cases h0 : 0 < l.length
    · obtain ⟨g, off, rfl, hg, -⟩ := hT h0
      exact ⟨g, by omega, by omega, fun _ k o e => by cases e; rfl⟩
    · exact ⟨w.heap.size + 1, by omega, by omega, fun h => absurd h h0⟩
  obtain ⟨hbn, hbo⟩ := hbo
  have hN : w.heap.size + 1 ≤ w2.heap.size := by omega
  clear b2 O0 HT0 z1
  go_wp2_with fail
  refine (wpIn_wide (n := 3)).1 ?_
  refine wpIn_rangeFunc_ownG rfl (by omega) (gf := 42) (lb := #[.pointer (some ⟨w.heap.size + 1, 0, none⟩), .pointer (some ⟨w.heap.size + 1 + 1, 0, none⟩)]) rfl trivial enter_times
    (times_stops _ (by omega) (w.heap.size + 1) b l ao cap len hl hlen hbo w2 (by omega) (by omega) y0 y1 T2) Kt.trans (Kt.put (by omega) (by omega)) (Below.refl _ _) (fun _ => rfl)
    (FiI w l) FiX (fiI_own hN) (fun c => fiX_own c)
    o2
    (fun x => { tmps := #[.slice ao l.length cap, .int .i64 len, undef, undef, .int .i64 0, .pointer (some ⟨w.heap.size, 0, none⟩), .int .i64 x, .int .i64 (ofR l x), .slice ao l.length cap, .int .i64 len, .func (.func 42) #[] #[.pointer (some ⟨w.heap.size + 1, 0, none⟩), .pointer (some ⟨w.heap.size + 1 + 1, 0, none⟩)], .int .i64 x, .int .i64 (ofR l x), undef, undef, undef, undef, undef], defers := [] }) ?assign ?body ?done ?stop
  case assign =>
    intro Y x W K hK
    simp only [encT]
    gi_wp2
    exact hK
  case body =>
    rintro Y pre x W hO hpl
    obtain ⟨p1, p2, p3, p4, p5, p6⟩ := Own1.put hO (v' := .int .i64 x)
    by_cases hx : x < ofR l x
    · have FIN : Hid (KeepsFrom w2.heap.size W (W.setCell ⟨w.heap.size, 0, none⟩ (.int .i64 x)) ∧ Kt (w.heap.size + 1) b W (W.setCell ⟨w.heap.size, 0, none⟩ (.int .i64 x)) ∧ FiI w l (pre ++ [x]) (W.setCell ⟨w.heap.size, 0, none⟩ (.int .i64 x))) := Lib.hid ⟨⟨p4.size, fun k o hk => p4.same k o (by omega)⟩, ⟨p5 _ (by omega), p5 _ (by omega), p5 _ (by omega), by omega⟩, by unfold FiI; rw [lastM_snoc, if_pos hx]; exact p3⟩
      clear hO hpl p3 p4 p5 p6 T2 y0 y1 o2
      generalize ofR l x = n at *
      gi_wp2
      exact FIN.out
    · have FIN : Hid (KeepsFrom w2.heap.size W W ∧ Kt (w.heap.size + 1) b W W ∧ FiI w l (pre ++ [x]) W) := Lib.hid ⟨KeepsFrom.refl _ _, ⟨rfl, rfl, rfl, Nat.le_refl _⟩, by unfold FiI; rw [lastM_snoc, if_neg hx]; exact hO⟩
      have hx' : ofR l x ≤ x := by omega
      clear hO hpl p1 p2 p3 p4 p5 p6 T2 y0 y1 hx o2
      generalize ofR l x = n at *
      gi_wp2
      exact FIN.out
  case done =>
    rintro D xs W hD ⟨hc, hn⟩ hO hK
    have hc0 : W.cell? ⟨w.heap.size, 0, none⟩ = some (.int .i64 (lastM l 0 xs)) := by rw [Lib.cell_of_heap (Own1.cell hO)]; rfl
    have hg := Own1.grown hO (grownBy_putObj' _ D (.deferred none)) (fun r e => by cases e; omega)
    have FB := Lib.hid hg.bel
    have HK := Lib.hid hK
    have HC := Lib.hid hc
    have HN := Lib.hid hn
    clear hK hc hn T2 y0 y1 hO hg o2
    generalize hM : lastM l 0 xs = M at *
    have HM := Lib.hid hM
    clear hM
    go_wp2
    try simp only [Exit.noGoto]
    refine ⟨by simp, .inl ⟨_, _, rfl, run_takeDeferred HK.out, ?_⟩⟩
    exact ⟨.int .i64 M, by simp [results, Try.results35, go_sem], xs, HC.out, HN.out, by rw [HM.out], FB.out⟩
  case stop =>
    rintro D c pre W hD - hf -
    exact hf.elim
theorem load_not17 (l : List Tk) : (loadR l).e = 0 ∨ (loadR l).e = 1 ∨ (loadR l).e = 16 := by
  unfold loadR
  split
  · exact .inl rfl
  · show (periodR l).2 = 0 ∨ (periodR l).2 = 1 ∨ (periodR l).2 = 16
    unfold periodR
    split
    · split
      · exact .inl rfl
      · exact .inr (.inr rfl)
    · exact .inr (.inl rfl)
set_option maxHeartbeats 4000000 in
theorem miss_any (l : List Tk) (ao : Option Addr) (cap : Nat) (w : World) (hT : Ts ao l w) (hl : l.length ≤ 1000000) :
    Calls Try.prog 19 #[.slice ao l.length cap] w fun e w' => e = .returned (.tuple #[.int .i64 (missR l).n, .int .i64 (missR l).e]) ∧ Below w.heap.size w w' := by
  have LE := Lib.hid (length_any l ao cap w hT hl)
  by_cases he : (lengthR l).e = 0
  · obtain ⟨hmay, m, hg, hE⟩ := length_may he
    have PT : ∀ r, chainP l (beforeR l m) r → afterP l (beforeR l m) r = none → lastM l 0 r = missN l := fun r h1 h2 => path_tells hmay (by unfold startP; rw [hE]; exact h1) (by unfold startP; rw [hE]; exact h2)
    have E : missR l = ⟨missN l, 0⟩ := by unfold missR; rw [if_neg (by have := hmay.e; have := hmay.over; omega)]
    have FI := Lib.hid (fun w h => first_any l ao cap m w h hl hg.2.1)
    rw [hE] at LE
    rw [E]
    simp only at LE ⊢
    have PT' := Lib.hid PT
    have T := Lib.hid hT
    clear PT hmay hg hE E he hT
    go_enter Try.func19, Try.ntmps19
    go_wp2_with fail
    (with_reducible refine LE.out.mono ?_)
    rintro e w1 ⟨rfl, b1⟩
    have T1 := Lib.hid (T.out.call b1)
    have K1 := Lib.hid b1
    clear b1 LE
    go_wp2_with fail
    (with_reducible refine (FI.out _ T1.out).mono ?_)
    rintro e w2 ⟨r, hc, ha, rfl, b2⟩
    rw [PT'.out r hc ha]
    have K2 := Lib.hid (K1.out.trans (b2.mono K1.out.size))
    clear hc ha b2 PT' FI K1
    go_wp2
    try simp only [Exit.noGoto]
    exact bodyPost_ret (v := .tuple #[.int .i64 (missN l), .int .i64 0]) (by simp [results, Try.results19, go_sem]) rfl ⟨rfl, K2.out⟩
  · rcases length_err he with ⟨h1, hE⟩ | ⟨h1, h2, hE⟩
    · have E : missR l = ⟨0, (loadR l).e⟩ := by unfold missR; rw [if_pos (.inl h1)]
      have h3 : (loadR l).e ≠ 17 := by have := load_not17 l; omega
      rw [hE] at LE
      rw [E]
      simp only at LE ⊢
      clear he hE E hT
      generalize (loadR l).e = e0 at *
      have q1 : (e0 == 0) = false := by simpa using h1
      have q2 : (e0 == 17) = false := by simpa using h3
      clear h1 h3
      go_enter Try.func19, Try.ntmps19
      go_wp2_with fail
      (with_reducible refine LE.out.mono ?_)
      rintro e w1 ⟨rfl, b1⟩
      have K1 := Lib.hid b1
      clear b1 LE
      go_wp2
      try simp only [Exit.noGoto]
      exact bodyPost_ret (v := .tuple #[.int .i64 0, .int .i64 e0]) (by simp [results, Try.results19, go_sem]) rfl ⟨rfl, K1.out⟩
    · have E : missR l = ⟨0, 0⟩ := by unfold missR; rw [if_pos (.inr h2), h1]
      rw [hE] at LE
      rw [E]
      simp only at LE ⊢
      clear he hE E hT
      go_enter Try.func19, Try.ntmps19
      go_wp2_with fail
      (with_reducible refine LE.out.mono ?_)
      rintro e w1 ⟨rfl, b1⟩
      have K1 := Lib.hid b1
      clear b1 LE
      go_wp2
      try simp only [Exit.noGoto]
      exact bodyPost_ret (v := .tuple #[.int .i64 0, .int .i64 0]) (by simp [results, Try.results19, go_sem]) rfl ⟨rfl, K1.out⟩
end Go.Proofs.Ytbhafcaekpccoaa.Qp
