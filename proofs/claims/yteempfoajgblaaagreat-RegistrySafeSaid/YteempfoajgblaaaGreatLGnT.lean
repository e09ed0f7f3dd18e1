/- Rows of texts: what leaves them as they are, one text more. -/
import Derived.Test.YteempfoajgblaaaGreatLMGr
import Derived.Test.YteempfoajgblaaaGreatLMDa
set_option maxRecDepth 100000
set_option linter.unusedVariables false
set_option linter.unusedSimpArgs false
open Go.ChangeShapes Go.WideShapes Go.ChangeAt Go.RowKit Go.Joins
namespace Go.Proofs.YteempfoajgblaaaGreat.Sl
open Dk (Dk DS Moved Own)
theorem strs_of {B:Nat} {w w':World} {v:Value} {ds:List (List UInt8)} (h:Strs B w v ds) (e:∀ g,v.ownBlock=some g→w'.heap[g]?=w.heap[g]?):Strs B w' v ds:=by
 refine ⟨h.1,?_⟩
 rcases h.2 with hn|⟨g,cap,cur,rfl,hB,hg,rest⟩
 · exact .inl hn
 · exact .inr ⟨g,cap,cur,rfl,hB,by rw [e g rfl];exact hg,rest⟩
theorem strs_block {B:Nat} {w:World} {v:Value} {ds:List (List UInt8)} (h:Strs B w v ds) {k:Nat} (e:v.ownBlock=some k):∃ cur,w.heap[k]?=some (Obj.cells cur 9 (0,0)):=by
 rcases h.2 with ⟨rfl,_⟩|⟨g',cap,cur,rfl,_,hg,_⟩
 · simp [Value.ownBlock] at e
 · simp [Value.ownBlock] at e;subst e;exact ⟨cur,hg⟩
theorem strs_one (B:Nat) (w:World) (v:Value) (ds:List (List UInt8)) (c:List UInt8) (h:Strs B w v ds) (hB:B≤w.heap.size) (hn:ds.length≤100000) :
 ∃ g cap w',(Builtin.append_ #[62,62] 62 #[v,.slice (some ⟨w.heap.size,0,none⟩) 1 1]).run Tryz.prog (w.alloc (.cells #[.string (mkB c)] 9))=.ok (.slice (some ⟨g,0,none⟩) (ds.length+1) cap) w'∧Strs B w' (.slice (some ⟨g,0,none⟩) (ds.length+1) cap) (ds++[c])∧(w.alloc (.cells #[.string (mkB c)] 9)).grownBy w' v.ownBlock∧(v.ownBlock=some g∨w.heap.size<g):=by
 have h1:=Strs.call h ((Below.refl _ w).alloc (Nat.le_refl _) (.cells #[.string (mkB c)] 9))
 obtain ⟨g,cap,w',hr,ho,hg,hor⟩:=Dk.append_one (P:=Tryz.prog) (w.alloc (.cells #[.string (mkB c)] 9)) B 62 62 9 _ 1 16 Tryz.underlying62 infoStr rfl (by omega) (by omega) v ds.length _ h1 ⟨w.heap.size,0,none⟩ [.string (mkB c)] rfl (fun j u hj=>by
  rw [Dk.addr_add,Nat.zero_add,Lib.cell_of_heap (heap_alloc_new _ _)];simpa using hj) (fun u hu=>by simp at hu;subst hu;rfl) (by omega) (by simp;omega)
 refine ⟨g,cap,w',hr,?_,hg,?_⟩
 ·unfold Strs
  rw [List.map_append,List.length_append]
  exact ho
 ·rcases hor with h|h
  · exact .inl h
  · exact .inr (by simp at h;omega)
theorem strs_push (B:Nat) (w:World) (v:Value) (ds:List (List UInt8)) (c:List UInt8) (h:Strs B w v ds) (hB:B≤w.heap.size) (hn:ds.length≤100000) :
 ∃ v' w',(Builtin.append_ #[62,62] 62 #[v,.slice (some ⟨w.heap.size,0,none⟩) 1 1]).run Tryz.prog (w.alloc (.cells #[.string (mkB c)] 9))=.ok v' w'∧Strs B w' v' (ds++[c])∧Below B w w'∧w.heap.size≤w'.heap.size∧(∀ (k:Nat) (cs:Array Value) (T:TypeId) (fz:Nat×Nat),w.heap[k]?=some (Obj.cells cs T fz)→T≠9→w'.heap[k]?=w.heap[k]?)∧(∀ k,k<w.heap.size→v.ownBlock≠some k→w'.heap[k]?=w.heap[k]?)∧(∃ g cap,v'=.slice (some ⟨g,0,none⟩) (ds.length+1) cap∧(v.ownBlock=some g∨w.heap.size≤g)):=by
 obtain ⟨g,cap,w',hr,st,hg,hor⟩:=strs_one B w v ds c h hB hn
 have ba:=(Below.refl w.heap.size w).alloc (Nat.le_refl _) (.cells #[.string (mkB c)] 9)
 have two:∀ k,k<w.heap.size→v.ownBlock≠some k→w'.heap[k]?=w.heap[k]?:=fun k hk hn=>by
  rw [hg.block k (Nat.lt_of_lt_of_le hk ba.size) (fun e=>hn e.symm),ba.block k hk]
 have sz:w.heap.size≤w'.heap.size:=Nat.le_trans ba.size hg.size
 refine ⟨_,w',hr,st,⟨hg.os.trans ba.os,hg.tape.trans ba.tape,hg.output.trans ba.output,sz,fun k hk=>two k (by omega) (fun e=>?_)⟩,sz,fun k cs T fz hk hT=>two k (Dk.lt_of_heap hk) (fun e=>?_),two,g,cap,rfl,hor.imp id Nat.le_of_lt⟩
 ·rcases h.2 with ⟨rfl,_⟩|⟨g',cap',cur,rfl,hB',_⟩
  · simp [Value.ownBlock] at e
  · simp [Value.ownBlock] at e;omega
 ·obtain ⟨cur,hc⟩:=strs_block h e
  rw [hk] at hc;cases hc;exact hT rfl
theorem strs_mono {A B:Nat} {w:World} {v:Value} {ds:List (List UInt8)} (h:Strs B w v ds) (hA:A≤B):Strs A w v ds:=by
 refine ⟨h.1,?_⟩
 rcases h.2 with hn|⟨g,cap,cur,rfl,hB,hg,rest⟩
 · exact .inl hn
 · exact .inr ⟨g,cap,cur,rfl,Nat.le_trans hA hB,hg,rest⟩
end Go.Proofs.YteempfoajgblaaaGreat.Sl
