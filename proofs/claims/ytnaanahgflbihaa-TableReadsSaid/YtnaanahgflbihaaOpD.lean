/- Package ops' Name; the document's Name, Bare, Check. -/
import Derived.Test.YtnaanahgflbihaaOpC
import Derived.BigQuiet
namespace Go.Proofs.Ytnaanahgflbihaa.Ox
open Go.ChangeShapes Go.WideShapes Go.ChangeAt Go.RowKit Go.Joins
open Pm (Tk chk chk_iff below_drewN)
set_option maxRecDepth 100000
set_option maxRecDepth 100000
set_option linter.unusedVariables false
set_option linter.unusedSimpArgs false
def nameR (k : Int) : ByteArray := if k = 1 then ⟨#[97, 100, 109, 105, 116]⟩ else if k = 2 then ⟨#[114, 101, 109, 111, 118, 101]⟩ else if k = 3 then ⟨#[114, 101, 115, 105, 122, 101]⟩ else if k = 4 then ⟨#[109, 111, 100, 101]⟩ else ⟨#[110, 111, 110, 101]⟩
set_option maxHeartbeats 1000000 in
theorem rbare_any (o : Od) (w : World) :
    Calls Try.prog 33 #[o.v] w fun e w' => e = .returned (bareR o).v ∧ Below w.heap.size w w' := by
  obtain ⟨k, ⟨i, c, d, t, m⟩, s, id, cc, mo⟩ := o
  have EV : Od.v ⟨k, ⟨i, c, d, t, m⟩, s, id, cc, mo⟩ = .agg #[.int .i64 k, .int .i64 i, .int .i64 c, .int .i64 d, .int .i64 t, .int .i64 m, .bool s, .int .i64 id, .int .i64 cc, .int .i64 mo] := rfl
  rw [EV]
  clear EV
  by_cases h1 : k = 1
  · subst h1
    have E : bareR ⟨1, ⟨i, c, d, t, m⟩, s, id, cc, mo⟩ = ⟨1, ⟨i, c, d, t, m⟩, s, 0, 0, 0⟩ := rfl
    rw [E]
    clear E
    go_enter Try.func33, Try.ntmps33
    go_wp2
    refine bodyPost_ret (v := Od.v ⟨1, ⟨i, c, d, t, m⟩, s, 0, 0, 0⟩) (by simp [results, Try.results33, go_sem, Od.v, Od.cs, tk0]) rfl ⟨rfl, ?_⟩
    repeat (first | exact Below.refl _ _ | refine Below.setCell ?_ (by first | omega | (simp; done) | (simp; omega)) _ | refine Below.alloc ?_ (by first | omega | (simp; done) | (simp; omega)) _)
  have k1 : (k == 1) = false := by simpa using h1
  by_cases h2 : k = 2
  · subst h2
    have E : bareR ⟨2, ⟨i, c, d, t, m⟩, s, id, cc, mo⟩ = ⟨2, tk0, false, id, 0, 0⟩ := rfl
    rw [E]
    clear E
    go_enter Try.func33, Try.ntmps33
    go_wp2
    refine bodyPost_ret (v := Od.v ⟨2, tk0, false, id, 0, 0⟩) (by simp [results, Try.results33, go_sem, Od.v, Od.cs, tk0]) rfl ⟨rfl, ?_⟩
    repeat (first | exact Below.refl _ _ | refine Below.setCell ?_ (by first | omega | (simp; done) | (simp; omega)) _ | refine Below.alloc ?_ (by first | omega | (simp; done) | (simp; omega)) _)
  have k2 : (k == 2) = false := by simpa using h2
  by_cases h3 : k = 3
  · subst h3
    have E : bareR ⟨3, ⟨i, c, d, t, m⟩, s, id, cc, mo⟩ = ⟨3, tk0, false, id, cc, 0⟩ := rfl
    rw [E]
    clear E
    go_enter Try.func33, Try.ntmps33
    go_wp2
    refine bodyPost_ret (v := Od.v ⟨3, tk0, false, id, cc, 0⟩) (by simp [results, Try.results33, go_sem, Od.v, Od.cs, tk0]) rfl ⟨rfl, ?_⟩
    repeat (first | exact Below.refl _ _ | refine Below.setCell ?_ (by first | omega | (simp; done) | (simp; omega)) _ | refine Below.alloc ?_ (by first | omega | (simp; done) | (simp; omega)) _)
  have k3 : (k == 3) = false := by simpa using h3
  by_cases h4 : k = 4
  · subst h4
    have E : bareR ⟨4, ⟨i, c, d, t, m⟩, s, id, cc, mo⟩ = ⟨4, tk0, false, 0, 0, mo⟩ := rfl
    rw [E]
    clear E
    go_enter Try.func33, Try.ntmps33
    go_wp2
    refine bodyPost_ret (v := Od.v ⟨4, tk0, false, 0, 0, mo⟩) (by simp [results, Try.results33, go_sem, Od.v, Od.cs, tk0]) rfl ⟨rfl, ?_⟩
    repeat (first | exact Below.refl _ _ | refine Below.setCell ?_ (by first | omega | (simp; done) | (simp; omega)) _ | refine Below.alloc ?_ (by first | omega | (simp; done) | (simp; omega)) _)
  have k4 : (k == 4) = false := by simpa using h4
  · have E : bareR ⟨k, ⟨i, c, d, t, m⟩, s, id, cc, mo⟩ = ⟨k, tk0, false, 0, 0, 0⟩ := by unfold bareR; rw [if_neg h1, if_neg h2, if_neg h3, if_neg h4]
    rw [E]
    clear E
    go_enter Try.func33, Try.ntmps33
    go_wp2
    refine bodyPost_ret (v := Od.v ⟨k, tk0, false, 0, 0, 0⟩) (by simp [results, Try.results33, go_sem, Od.v, Od.cs, tk0]) rfl ⟨rfl, ?_⟩
    repeat (first | exact Below.refl _ _ | refine Below.setCell ?_ (by first | omega | (simp; done) | (simp; omega)) _ | refine Below.alloc ?_ (by first | omega | (simp; done) | (simp; omega)) _)
end Go.Proofs.Ytnaanahgflbihaa.Ox
