/- The mathematics of a log's records: what an Append, a fault and a crash leave of a row of sectors. -/
import Derived.Test.YtmccoejliaakoaaWlMath
import Derived.Test.YtmccoejliaakoaaMSm
namespace Go.Proofs.Ytmccoejliaakoaa.Wl
open Dk (DS)
open Sl (rowOf rowOf_length rowOf_get mix mix_zero mix_all mix_length mix_cases whole_epoch whole_rdc)
set_option maxRecDepth 100000
set_option linter.unusedVariables false
set_option linter.unusedSimpArgs false
/-- rs are the records of epoch e, and no more -/
structure Inv (L : List (List UInt8)) (e : Nat) (rs : List (List UInt8)) : Prop where
  len : rs.length ≤ L.length
  rcd : ∀ i (h : i < rs.length) (h' : i < L.length), L[i] = sec rs[i] e i ∧ rs[i].length ≤ 43
  rest : ∀ i (h : i < L.length), rs.length ≤ i → ¬ (epochOf L[i] = e ∧ numberOf L[i] = i)
theorem not_whole {x : List UInt8} {e i : Nat} (h : ¬ (epochOf x = e ∧ numberOf x = i)) : whole x e i = false := by
  cases hw : whole x e i with
  | false => rfl
  | true => exact absurd ⟨(whole_epoch hw).1, (whole_epoch hw).2.1⟩ h
theorem sec_whole {p : List UInt8} {e i : Nat} (hp : p.length ≤ 43) (he : e < 18446744073709551616) (hi : i < 18446744073709551616) : whole (sec p e i) e i = true := by
  rw [whole_sec hp he hi]; simp
theorem Inv.lead {L : List (List UInt8)} {e : Nat} {rs : List (List UInt8)} (h : Inv L e rs) (he : e < 18446744073709551616) (hL : L.length < 18446744073709551616) : lead L e = rs.length :=
  lead_is h.len (fun j hj hjr => by obtain ⟨h1, h2⟩ := h.rcd j hjr hj; rw [h1]; exact sec_whole h2 he (by omega)) (fun hh => not_whole (h.rest _ hh (Nat.le_refl _)))
theorem Inv.recs {L : List (List UInt8)} {e : Nat} {rs : List (List UInt8)} (h : Inv L e rs) (he : e < 18446744073709551616) (hL : L.length < 18446744073709551616) : recs L e = rs := by
  unfold Wl.recs paysL
  rw [h.lead he hL]
  apply List.ext_getElem
  · have := h.len
    simp; omega
  · intro i h1 h2
    simp only [List.getElem_map, List.getElem_take]
    obtain ⟨h3, h4⟩ := h.rcd i h2 (by have := h.len; omega)
    rw [h3, payOf_sec h4]
/-- one more -/
theorem Inv.push {L : List (List UInt8)} {e : Nat} {rs : List (List UInt8)} (h : Inv L e rs) (hl : rs.length < L.length) {p : List UInt8} (hp : p.length ≤ 43) : Inv (L.set rs.length (sec p e rs.length)) e (rs ++ [p]) := by
  refine ⟨by simp; omega, fun i hi hi' => ?_, fun i hi hir => ?_⟩
  · simp only [List.length_append, List.length_singleton] at hi
    rw [List.getElem_set]
    by_cases hir : rs.length = i
    · subst hir
      rw [if_pos rfl]
      simp [hp]
    · rw [if_neg hir, List.getElem_append_left (by omega)]
      exact h.rcd i (by omega) (by simpa using hi')
  · simp only [List.length_append, List.length_singleton] at hir
    rw [List.getElem_set, if_neg (by omega)]
    exact h.rest i (by simpa using hi) (by omega)
/-- sectors with small numbers -/
def Small (L : List (List UInt8)) : Prop := ∀ x ∈ L, x.length = 64 ∧ epochOf x < 256 ∧ numberOf x < 256
theorem Small.get {L : List (List UInt8)} (h : Small L) {i : Nat} (hi : i < L.length) : L[i].length = 64 ∧ epochOf L[i] < 256 ∧ numberOf L[i] < 256 := h _ (List.getElem_mem hi)
theorem Small.set {L : List (List UInt8)} (h : Small L) {i : Nat} {x : List UInt8} (hx : x.length = 64 ∧ epochOf x < 256 ∧ numberOf x < 256) : Small (L.set i x) := fun y hy => by
  rcases List.mem_or_eq_of_mem_set hy with hy | rfl
  · exact h y hy
  · exact hx
theorem sec_small {p : List UInt8} {e i : Nat} (hp : p.length ≤ 43) (he : e < 256) (hi : i < 256) : (sec p e i).length = 64 ∧ epochOf (sec p e i) < 256 ∧ numberOf (sec p e i) < 256 :=
  ⟨sec_length hp e i, by rw [epochOf_sec hp (by omega)]; exact he, by rw [numberOf_sec hp _ (by omega)]; exact hi⟩
theorem mix_small {p o : List UInt8} {e i j : Nat} (hp : p.length ≤ 43) (he : e < 256) (hi : i < 256) (ho : o.length = 64 ∧ epochOf o < 256 ∧ numberOf o < 256) : (mix j (sec p e i) o).length = 64 ∧ epochOf (mix j (sec p e i) o) < 256 ∧ numberOf (mix j (sec p e i) o) < 256 := by
  refine ⟨mix_length (sec_length hp e i) ho.1, ?_⟩
  rcases mix_cases (j := j) hp he hi ho.1 ho.2.1 ho.2.2 with ⟨h1, h2⟩ | ⟨h1, h2, _⟩ | h1
  · rw [h1, h2]; exact ho.2
  · rw [h1, h2]; exact ⟨he, ho.2.2⟩
  · rw [h1]; exact (sec_small hp he hi).2
/-- a write that a crash may tear: a record more, or none -/
theorem Inv.torn {L : List (List UInt8)} {e : Nat} {rs : List (List UInt8)} (h : Inv L e rs) (hs : Small L) (hl : rs.length < L.length) {p : List UInt8} (hp : p.length ≤ 43) (he : e < 256) (hn : L.length < 256) (j : Nat) :
    Inv (L.set rs.length (mix j (sec p e rs.length) L[rs.length])) e (rs ++ [p]) ∨ Inv (L.set rs.length (mix j (sec p e rs.length) L[rs.length])) e rs := by
  have ho := hs.get hl
  have stay : ¬ (epochOf (mix j (sec p e rs.length) L[rs.length]) = e ∧ numberOf (mix j (sec p e rs.length) L[rs.length]) = rs.length) → Inv (L.set rs.length (mix j (sec p e rs.length) L[rs.length])) e rs := fun hne => by
    refine ⟨by simp; omega, fun i hi hi' => ?_, fun i hi hir => ?_⟩
    · rw [List.getElem_set, if_neg (by omega)]
      exact h.rcd i hi (by simpa using hi')
    · rw [List.getElem_set]
      by_cases hh : rs.length = i
      · rw [if_pos hh]; rw [← hh]; exact hne
      · rw [if_neg hh]; exact h.rest i (by simpa using hi) hir
  have old := h.rest _ hl (Nat.le_refl _)
  rcases mix_cases (i := rs.length) (j := j) hp he (by omega) ho.1 ho.2.1 ho.2.2 with ⟨h1, h2⟩ | ⟨h1, h2, h3⟩ | h1
  · exact .inr (stay (by rw [h1, h2]; exact old))
  · by_cases hh : numberOf L[rs.length] = rs.length
    · left; rw [h3 hh]; exact h.push hl hp
    · exact .inr (stay (by rw [h2]; exact fun hc => hh hc.2))
  · left; rw [h1]; exact h.push hl hp
theorem zero_tag : epochOf (List.replicate 64 0) = 0 ∧ numberOf (List.replicate 64 0) = 0 := by decide
/-- a row of which no sector is of that epoch -/
theorem inv_none {L : List (List UInt8)} {e : Nat} (h : ∀ x ∈ L, epochOf x ≠ e) : Inv L e [] := ⟨by simp, fun i h => by simp at h, fun i hi _ hc => h _ (List.getElem_mem hi) hc.1⟩
theorem inv_zero (n e : Nat) (he : 1 ≤ e) : Inv (List.replicate n (List.replicate 64 0)) e [] := inv_none fun x hx => by
  rw [(List.mem_replicate.1 hx).2, zero_tag.1]; omega
theorem small_zero (n : Nat) : Small (List.replicate n (List.replicate 64 0)) := fun x hx => by
  rw [(List.mem_replicate.1 hx).2, zero_tag.1, zero_tag.2]; simp
/-- the row of a disk without open writes -/
def rw_ (S : List (List UInt8)) (a n : Nat) : List (List UInt8) := (S.drop a).take n
theorem row_plain {S : List (List UInt8)} {a n f r : Nat} (h : a + n ≤ S.length) : rowOf ⟨S, [], f, r⟩ a n = rw_ S a n := by
  apply List.ext_getElem
  · rw [rowOf_length]; simp [rw_]; omega
  · intro i h1 h2
    rw [rowOf_length] at h1
    rw [rowOf_get]
    unfold Dk.newestOf
    simp [Dk.lastOf, rw_, show a + i < S.length by omega]
theorem rw_length {S : List (List UInt8)} {a n : Nat} (h : a + n ≤ S.length) : (rw_ S a n).length = n := by simp [rw_]; omega
theorem rw_get {S : List (List UInt8)} {a n i : Nat} (h : i < (rw_ S a n).length) : (rw_ S a n)[i] = S[a + i]'(by simp [rw_] at h; omega) := by simp [rw_]
theorem rw_set {S : List (List UInt8)} {a n c : Nat} (h : a + n ≤ S.length) (hc : c < n) (x : List UInt8) : rw_ (S.set (a + c) x) a n = (rw_ S a n).set c x := by
  apply List.ext_getElem
  · simp [rw_]
  · intro i h1 h2
    rw [rw_get, List.getElem_set, List.getElem_set]
    by_cases hh : c = i
    · rw [if_pos (by omega), if_pos hh]
    · rw [if_neg (by omega), if_neg hh, rw_get]
theorem rw_all (S : List (List UInt8)) : rw_ S 0 S.length = S := by simp [rw_]
theorem putS_all {S : List (List UInt8)} {a : Nat} {x : List UInt8} (h : a < S.length) (hS : ∀ y ∈ S, y.length = 64) (j : Nat) : Dk.putS S a x j = S.set a (mix j x S[a]) := by
  unfold Dk.putS mix
  simp [h]
/-- a write and a flush, on a disk without open writes -/
theorem putW_calm {S : List (List UInt8)} {a f r : Nat} {x : List UInt8} (ha : a < S.length) (hx : x.length = 64) (hS : ∀ y ∈ S, y.length = 64) (hf : f ≠ 1) (hf2 : f ≠ 2) : putW ⟨S, [], f, r⟩ a x = (⟨S.set a x, [], f - 2, r⟩, true) := by
  unfold putW
  have e1 : Dk.writeR ⟨S, [], f, r⟩ (a : Int) x = (⟨S, [(a, x)], f - 1, r⟩, 0) := by
    unfold Dk.writeR
    rw [if_pos ⟨⟨by omega, by show (a : Int) < (S.length : Int); omega⟩, hx⟩, if_neg hf]
    simp
  rw [e1, if_pos rfl]
  unfold Dk.flushR
  rw [if_neg (by show ¬ f - 1 = 1; omega)]
  have e2 : Dk.flushedS ⟨S, [(a, x)], f - 1, r⟩ = S.set a x := by
    unfold Dk.flushedS
    show Dk.putS S a x 64 = _
    rw [putS_all ha hS, mix_all hx (hS _ (List.getElem_mem ha)) (Nat.le_refl _)]
  rw [e2]
  show (DS.mk _ _ (f - 1 - 1) _, _) = _
  rw [Nat.sub_sub]
  rfl
theorem putW_one {S : List (List UInt8)} {a r : Nat} {x : List UInt8} (ha : a < S.length) (hx : x.length = 64) : putW ⟨S, [], 1, r⟩ a x = (⟨S, [], 0, r⟩, false) := by
  unfold putW
  have e1 : Dk.writeR ⟨S, [], 1, r⟩ (a : Int) x = (⟨S, [], 0, r⟩, 18) := by
    unfold Dk.writeR
    rw [if_pos ⟨⟨by omega, by show (a : Int) < (S.length : Int); omega⟩, hx⟩, if_pos rfl]
  rw [e1, if_neg (by simp)]
theorem putW_two {S : List (List UInt8)} {a r : Nat} {x : List UInt8} (ha : a < S.length) (hx : x.length = 64) : putW ⟨S, [], 2, r⟩ a x = (⟨S, [(a, x)], 0, r⟩, false) := by
  unfold putW
  have e1 : Dk.writeR ⟨S, [], 2, r⟩ (a : Int) x = (⟨S, [(a, x)], 1, r⟩, 0) := by
    unfold Dk.writeR
    rw [if_pos ⟨⟨by omega, by show (a : Int) < (S.length : Int); omega⟩, hx⟩, if_neg (by show ¬ (2 = 1); omega)]
    simp
  rw [e1, if_pos rfl]
  unfold Dk.flushR
  rw [if_pos rfl]
  rfl
theorem crash_calm {S : List (List UInt8)} {f r : Nat} (fs : List (Int × Int)) : (Dk.crashR ⟨S, [], f, r⟩ fs).1 = ⟨S, [], 0, 0⟩ := rfl
theorem crash_one {S : List (List UInt8)} {a f r : Nat} {x : List UInt8} (ha : a < S.length) (hS : ∀ y ∈ S, y.length = 64) (fs : List (Int × Int)) : (Dk.crashR ⟨S, [(a, x)], f, r⟩ fs).1 = ⟨S.set a (mix (Dk.keptAt fs 0) x S[a]), [], 0, 0⟩ := by
  unfold Dk.crashR Dk.crashedS
  show DS.mk (Dk.putS S a x (Dk.keptAt fs 0)) [] 0 0 = _
  rw [putS_all ha hS]
/-- an Append and a crash -/
theorem app_crash {S : List (List UInt8)} {t : WS} {e c f r : Nat} {p : List UInt8} (hp : p.length ≤ 43) (ht : t.st = some (e, c)) (hc : c < t.n) (hr : t.at_ + t.n ≤ S.length) (hS : ∀ y ∈ S, y.length = 64) (fs : List (Int × Int)) :
    ∃ j, (Dk.crashR (appR ⟨S, [], f, r⟩ t p).1 fs).1 = ⟨S.set (t.at_ + c) (mix j (sec p e c) (S[t.at_ + c]'(by omega))), [], 0, 0⟩ ∧ ((appR ⟨S, [], f, r⟩ t p).2.2 = 0 ∧ j = 64 ∨ (appR ⟨S, [], f, r⟩ t p).2.2 = 18) ∧ (appR ⟨S, [], f, r⟩ t p).1.opn.length ≤ 1 ∧ (appR ⟨S, [], f, r⟩ t p).1.sec.length = S.length := by
  have ha : t.at_ + c < S.length := by omega
  have hx := sec_length hp e c
  have hL := hS _ (List.getElem_mem ha)
  rw [appR_put hp ht (by omega)]
  by_cases h1 : f = 1
  · subst h1
    rw [putW_one ha hx]
    refine ⟨0, ?_, .inr rfl, by simp, rfl⟩
    rw [if_neg (by simp), mix_zero]
    show DS.mk S [] 0 0 = _
    congr 1
    exact (List.set_getElem_self ha).symm
  · by_cases h2 : f = 2
    · subst h2
      rw [putW_two ha hx]
      refine ⟨Dk.keptAt fs 0, ?_, .inr rfl, by simp, rfl⟩
      rw [if_neg (by simp)]
      exact crash_one ha hS fs
    · rw [putW_calm ha hx hS h1 h2]
      refine ⟨64, ?_, .inl ⟨by simp, rfl⟩, by simp, by simp⟩
      rw [if_pos rfl, mix_all hx hL (Nat.le_refl _)]
      rfl
theorem set_len {S : List (List UInt8)} {a : Nat} {x : List UInt8} (hS : ∀ y ∈ S, y.length = 64) (hx : x.length = 64) : ∀ y ∈ S.set a x, y.length = 64 := fun y hy => by
  rcases List.mem_or_eq_of_mem_set hy with hy | rfl
  · exact hS y hy
  · exact hx
/-- no epoch above m -/
def Ep (S : List (List UInt8)) (m : Nat) : Prop := ∀ x ∈ S, epochOf x ≤ m
theorem ep_zero (n m : Nat) : Ep (List.replicate n (List.replicate 64 0)) m := fun x hx => by
  rw [(List.mem_replicate.1 hx).2, zero_tag.1]; omega
theorem Ep.set {S : List (List UInt8)} {m : Nat} (h : Ep S m) {a e i : Nat} {p : List UInt8} (hp : p.length ≤ 43) (he : e ≤ m) (he2 : e < 18446744073709551616) : Ep (S.set a (sec p e i)) m := fun x hx => by
  rcases List.mem_or_eq_of_mem_set hx with hx | rfl
  · exact h x hx
  · rw [epochOf_sec hp he2]; exact he
theorem Ep.mono {S : List (List UInt8)} {m k : Nat} (h : Ep S m) (hk : m ≤ k) : Ep S k := fun x hx => Nat.le_trans (h x hx) hk
theorem Ep.none {S : List (List UInt8)} {m e : Nat} (h : Ep S m) (he : m < e) (a n : Nat) : Inv (rw_ S a n) e [] := inv_none fun x hx hc => by
  have := h x (List.mem_of_mem_drop (List.mem_of_mem_take hx))
  omega
end Go.Proofs.Ytmccoejliaakoaa.Wl
