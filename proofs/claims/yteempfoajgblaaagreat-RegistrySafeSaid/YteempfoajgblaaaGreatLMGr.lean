/- Rows of bytes in memory: a block whose cells are the bytes of a list. strings.Clone: the same .. -/
import Derived.Test.YteempfoajgblaaaGreatLQA
import Derived.Test.YteempfoajgblaaaGreatLMCd
import Derived.Lib.BufferWrite
import Derived.Lib.UnsafeStr
import Derived.Lib.Builder
import Derived.Laws.IdiomStrings
import Derived.Deep.OwnRows
import Derived.Laws.MakeOwn
import Derived.Laws.AppendOwn
import Derived.Lib.AppendZeros
set_option maxRecDepth 100000
set_option linter.unusedVariables false
set_option linter.unusedSimpArgs false
open Go.ChangeShapes Go.WideShapes Go.ChangeAt Go.RowKit Go.Joins
set_option maxHeartbeats 4000000
namespace Go.Proofs.YteempfoajgblaaaGreat
theorem infoByte:(Tryz.prog.info? 5).map (fun i=>(i.zero,i.size,i.bytes))=some (some (.int .u8 0),1,1):=by kernel_rfl
theorem sizeByte:(Tryz.prog.info? 5).map (·.size)=some 1:=by kernel_rfl
theorem cellsByte:Tryz.prog.cellsOf 5=1:=by kernel_rfl
def RowB (w:World) (g:Nat) (T:TypeId) (l:List UInt8):Prop:=w.heap[g]?=some (.cells (Lib.byteCells l).toArray T (0,0))
theorem byteCells_get {l:List UInt8} {j:Nat} (h:j<l.length):(Lib.byteCells l)[j]?=some (.int .u8 (l[j].toNat:Int)):=by simp [Lib.byteCells,h]
theorem byteCells_set (l:List UInt8) (j:Nat) (v:UInt8):Lib.byteCells (l.set j v)=(Lib.byteCells l).set j (.int .u8 (v.toNat:Int)):=by simp [Lib.byteCells,List.map_set]
theorem byteCells_take (l:List UInt8) (j:Nat):Lib.byteCells (l.take j)=(Lib.byteCells l).take j:=by simp [Lib.byteCells]
theorem byteCells_drop (l:List UInt8) (j:Nat):Lib.byteCells (l.drop j)=(Lib.byteCells l).drop j:=by simp [Lib.byteCells]
section
variable {w w':World} {g:Nat} {T:TypeId} {l:List UInt8}
theorem RowB.lt (h:RowB w g T l):g<w.heap.size:=(Array.getElem?_eq_some_iff.1 h).1
theorem RowB.cell (h:RowB w g T l) {j:Nat} (hj:j<l.length):w.cell? ⟨g,j,none⟩=some (.int .u8 (l[j].toNat:Int)):=by
 rw [Lib.cell_of_heap h,List.getElem?_toArray,byteCells_get hj]
theorem RowB.frozen (h:RowB w g T l) (j:Nat):w.frozen? ⟨g,j,none⟩=false:=by unfold RowB at h;simp [World.frozen?,h]
theorem RowB.of_block (h:RowB w g T l) (e:w'.heap[g]?=w.heap[g]?):RowB w' g T l:=by unfold RowB at *;rw [e];exact h
theorem RowB.call (h:RowB w g T l) (hb:Below w.heap.size w w'):RowB w' g T l:=h.of_block (hb.block g h.lt)
theorem RowB.drew (h:RowB w g T l):RowB w.drew g T l:=h.of_block rfl
theorem RowB.alloc (h:RowB w g T l) (o:Obj):RowB (w.alloc o) g T l:=h.of_block (Below.heap_alloc _ _ _ h.lt)
theorem RowB.put (h:RowB w g T l) (m:List UInt8):RowB (w.setRow g (Lib.byteCells m).toArray) g T m:=setRow_heap _ _ _ _ _ _ h
theorem RowB.set (h:RowB w g T l) {j:Nat} {x:Int} {v:UInt8} (e:x=(v.toNat:Int)):RowB (w.setCell ⟨g,j,none⟩ (.int .u8 x)) g T (l.set j v):=by
 subst e
 rw [setCell_eq_setRow w g j _ T (0,0) _ h]
 have:(Lib.byteCells l).toArray.setIfInBounds j (.int .u8 (v.toNat:Int))=(Lib.byteCells (l.set j v)).toArray:=by rw [byteCells_set];simp
 rw [this]
 exact h.put _
theorem RowB.apart_put (h:RowB w g T l) (m:List UInt8):Apart g w (w.setRow g (Lib.byteCells m).toArray):=
 ⟨rfl,rfl,rfl,by simp,fun k hk hn=>setRow_other _ _ _ _ hn,fun o=>by rw [(h.put m).frozen,h.frozen]⟩
theorem RowB.copy (h:RowB w g T l) (s:ByteArray) (o dLen dCap:Nat) (hle:s.size≤dLen) (hfit:o+s.size≤l.length) :
 (Builtin.copy_ #[84,9] 3 #[.slice (some ⟨g,o,none⟩) dLen dCap,.string s]).run Tryz.prog w=.ok (goInt s.size) (w.setRow g (Lib.byteCells (l.take o++s.data.toList++l.drop (o+s.size))).toArray):=by
 rw [Lib.run_copy_row_string w 84 9 3 5 g o dLen dCap s _ T Tryz.underlying84 sizeByte h hle (by simpa [Lib.byteCells_length] using hfit)]
 rw [Lib.byteCells_append,Lib.byteCells_append,byteCells_take,byteCells_drop]
theorem RowB.text (h:RowB w g T l) (o n cap:Nat) (hn:o+n≤l.length) :
 (convert 84 9 (.slice (some ⟨g,o,none⟩) n cap)).run Tryz.prog w=.ok (.string (mkB ((l.drop o).take n))) w:=by
 have hl:((l.drop o).take n).length=n:=by simp;omega
 have:=run_convert_bytes_back (P:=Tryz.prog) w 84 9 5 ⟨g,o,none⟩ cap ((l.drop o).take n) Tryz.underlying84 Tryz.underlying5 Tryz.underlying9 (fun j hj=>by
  rw [hl] at hj
  rw [addr_add,h.cell (by omega)]
  simp)
 rw [hl] at this
 exact this
end
theorem rowB_new (w:World) (l:List UInt8) (T:TypeId):RowB (w.alloc (.cells (Lib.byteCells l).toArray T)) w.heap.size T l:=heap_alloc_new _ _
theorem made_bytes (n:Nat):madeCells #[.int .u8 0] n=(Lib.byteCells (List.replicate n 0)).toArray:=by
 apply Array.ext
 · simp [size_madeCells,Lib.byteCells]
 ·intro i h1 h2
  simp [madeCells,Lib.byteCells,Nat.mod_one]
theorem make_bytes (n:Nat) (h:n≤281474976710656) (w:World) :
 (Instr.makeSlice 84 (.int .i64 (n:Int)) (.int .i64 (n:Int))).run Tryz.prog w=.ok (.slice (some ⟨w.heap.size,0,none⟩) n n) (w.alloc (.cells (Lib.byteCells (List.replicate n 0)).toArray 5)):=by
 rw [← made_bytes]
 exact run_make_row' (P:=Tryz.prog) 84 5 (.int .u8 0) 1 Tryz.underlying84 infoByte rfl .i64 .i64 n (by omega) (by omega) w
end Go.Proofs.YteempfoajgblaaaGreat
namespace Go.Proofs.YteempfoajgblaaaGreat
theorem lite_clone (s:ByteArray) (w:World) (hs:s.size≤281474976710656) :
 Calls Tryz.prog 208 #[.string s] w fun e w'=>e=.returned (.string s)∧Below w.heap.size w w':=by
 by_cases h0:s.size=0
 ·obtain rfl:s=⟨#[]⟩:=mkB_ext (l:=[]) (List.eq_nil_of_length_eq_zero (by rw [← size_list];exact h0))
  go_enter Tryz.func208,Tryz.ntmps208
  go_wp2
  go_ret
  exact ⟨rfl,Below.refl _ _⟩
 ·have hmk:=make_bytes s.size hs
  have r0:=rowB_new w (List.replicate s.size 0) 5
  have r1:=r0.put s.data.toList
  have hcp:=r0.copy s 0 s.size s.size (Nat.le_refl _) (by simp)
  rw [List.take_zero,List.nil_append,List.drop_of_length_le (by simp),List.append_nil] at hcp
  have hne:s.data.toList≠[]:=fun e=>h0 (by rw [size_list,e];rfl)
  have hsh:((w.alloc (.cells (Lib.byteCells (List.replicate s.size 0)).toArray 5)).setRow w.heap.size (Lib.byteCells s.data.toList).toArray).shape? w.heap.size=some (5,s.size):=by
   unfold World.shape?
   rw [r1]
   simp [Lib.byteCells]
  have hus:=Lib.run_unsafeString_row (P:=Tryz.prog) _ 282 3 9 5 Tryz.underlying282 cellsByte w.heap.size s.size hsh s.data.toList hne (by simp) (by simp;omega) (fun j x hx=>by
   obtain ⟨hj,rfl⟩:=List.getElem?_eq_some_iff.1 hx
   rw [addr_add,Nat.zero_add]
   exact r1.cell hj)
  rw [← size_list] at hus
  have bl:Below w.heap.size w ((w.alloc (.cells (Lib.byteCells (List.replicate s.size 0)).toArray 5)).setRow w.heap.size (Lib.byteCells s.data.toList).toArray):=
   ((Below.refl _ w).alloc (Nat.le_refl _) _).trans ((r0.apart_put _).below (Nat.le_refl _) (by simp))
  have B:=Lib.hid (Lib.below_freeze bl (p:=⟨w.heap.size,0,none⟩) (Nat.le_refl _) s.size)
  have pos:(0:Int)<(s.size:Int):=by omega
  generalize (Lib.byteCells (List.replicate s.size 0)).toArray=M at *
  generalize (Lib.byteCells s.data.toList).toArray=Y at *
  clear r0 r1 hsh hne bl
  go_enter Tryz.func208,Tryz.ntmps208
  go_wp2
  go_ret
  exact ⟨rfl,B.out⟩
theorem clone_any (s:ByteArray) (w:World) (hs:s.size≤281474976710656) :
 Calls Tryz.prog 186 #[.string s] w fun e w'=>e=.returned (.string s)∧Below w.heap.size w w':=by
 have C:=Lib.hid (fun w=>lite_clone s w hs)
 go_enter Tryz.func186,Tryz.ntmps186
 go_wp2_with fail
 (with_reducible refine (C.out _).mono ?_)
 rintro e w1 ⟨rfl,b1⟩
 go_wp2
 go_ret
 exact ⟨rfl,b1⟩
end Go.Proofs.YteempfoajgblaaaGreat
namespace Go.Proofs.YteempfoajgblaaaGreat
theorem infoStr:(Tryz.prog.info? 9).map (fun i=>(i.zero,i.size,i.bytes))=some (some (.string ⟨#[]⟩),1,16):=by kernel_rfl
def Strs (B:Nat) (w:World) (v:Value) (ds:List (List UInt8)):Prop:=w.ownsRow B 9 1 v ds.length (ds.map fun l=>Value.string (mkB l))
theorem strs_nil (B:Nat) (w:World):Strs B w (.slice none 0 0) []:=World.ownsRow_nil _ _ _ _
theorem Strs.call {B:Nat} {w w':World} {v:Value} {ds:List (List UInt8)} (h:Strs B w v ds) (hb:Below w.heap.size w w'):Strs B w' v ds:=by
 refine ⟨h.1,?_⟩
 rcases h.2 with hn|⟨g,cap,cur,rfl,hB,hg,rest⟩
 · exact .inl hn
 · exact .inr ⟨g,cap,cur,rfl,hB,by rw [hb.block g (Array.getElem?_eq_some_iff.1 hg).1];exact hg,rest⟩
theorem strs_append (B:Nat) (w:World) (v:Value) (ds:List (List UInt8)) (c:List UInt8) (h:Strs B w v ds) (hB:B≤w.heap.size) (hn:ds.length≤100000) :
 ∃ v' w',(Builtin.append_ #[62,62] 62 #[v,.slice (some ⟨w.heap.size,0,none⟩) 1 1]).run Tryz.prog (w.alloc (.cells #[.string (mkB c)] 9))=.ok v' w'∧Strs B w' v' (ds++[c])∧Below B w w':=by
 obtain ⟨i,hi,hz⟩:=Option.map_eq_some_iff.1 infoStr
 simp only [Prod.mk.injEq] at hz
 obtain ⟨hz,hs,hy⟩:=hz
 have h1:=h.call ((Below.refl _ w).alloc (Nat.le_refl _) (.cells #[.string (mkB c)] 9))
 obtain ⟨v',w',hr,ho,hg,-⟩:=run_append_own (P:=Tryz.prog) (w.alloc (.cells #[.string (mkB c)] 9)) B 62 62 9 i (.string ⟨#[]⟩) 1 16 Tryz.underlying62 hi hz hs hy rfl (by omega) v ds.length _ h1
  ⟨w.heap.size,0,none⟩ 1 1 [.string (mkB c)] rfl (fun j u hj=>by
   obtain ⟨hj1,rfl⟩:=List.getElem?_eq_some_iff.1 hj
   obtain rfl:j=0:=by simpa using hj1
   rw [addr_add]
   simp [go_sem]) (fun u hu=>by simp at hu;subst hu;rfl) (by unfold maxLen;omega) (by omega) (by simp;omega)
 refine ⟨v',w',hr,?_,?_⟩
 ·unfold Strs
  rw [List.length_append,List.map_append]
  exact ho
 · exact ((Below.refl B w).alloc hB _).grown hg (by simp;omega) (fun k hk=>(h1.lt k hk).1)
theorem Strs.cell {B:Nat} {w:World} {v:Value} {ds:List (List UInt8)} (h:Strs B w v ds) (hne:ds≠[]) :
 ∃ g cap,v=.slice (some ⟨g,0,none⟩) ds.length cap∧B≤g∧g<w.heap.size∧∀ j (hj:j<ds.length),w.cell? ⟨g,j,none⟩=some (.string (mkB ds[j])):=by
 rcases h.2 with ⟨rfl,h0⟩|⟨g,cap,cur,rfl,hB,hg,rest⟩
 · exact absurd (List.eq_nil_of_length_eq_zero h0) hne
 ·refine ⟨g,cap,rfl,hB,(Array.getElem?_eq_some_iff.1 hg).1,fun j hj=>?_⟩
  have:=World.ownsRow.cells h (g:=g) rfl j (.string (mkB ds[j])) (by simp [hj])
  rw [addr_add,Nat.zero_add] at this
  exact this
theorem make_strs (B c:Nat) (z:Int) (hz:z=(c:Int)) (hc:c≤1000000) (w:World) (hB:B≤w.heap.size) :
 ∃ w',(Instr.makeSlice 62 (.int .i64 0) (.int .i64 z)).run Tryz.prog w=.ok (.slice (some ⟨w.heap.size,0,none⟩) 0 c) w'∧Strs B w' (.slice (some ⟨w.heap.size,0,none⟩) 0 c) []∧Below w.heap.size w w':=by
 subst hz
 obtain ⟨i,hi,hz⟩:=Option.map_eq_some_iff.1 infoStr
 simp only [Prod.mk.injEq] at hz
 obtain ⟨hz,hs,hy⟩:=hz
 obtain ⟨w',hr,ho,hg⟩:=run_make_own (P:=Tryz.prog) w B 62 9 i (.string ⟨#[]⟩) 1 Tryz.underlying62 hi hz hs .i64 .i64 c (by rw [hy];omega) (by unfold maxLen;omega) hB
 exact ⟨w',hr,ho,(Below.refl _ w).grown hg (Nat.le_refl _) (fun k hk=>by cases hk)⟩
end Go.Proofs.YteempfoajgblaaaGreat
