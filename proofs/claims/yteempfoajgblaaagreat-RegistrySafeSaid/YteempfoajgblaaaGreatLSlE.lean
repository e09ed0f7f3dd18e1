/- Package slots' sectors: what stands in memory while they are gone over. -/
import Derived.Sort.CutIn
import Derived.Test.YteempfoajgblaaaGreatLMSp
import Derived.Test.YteempfoajgblaaaGreatLGnT
set_option maxRecDepth 100000
set_option linter.unusedVariables false
set_option linter.unusedSimpArgs false
namespace Go.Proofs.YteempfoajgblaaaGreat.Sl
open Go.ChangeShapes Go.WideShapes Go.ChangeAt Go.RowKit Go.Joins Go.Shelf
open Dk (Dk DS Moved ptr)
attribute [local go_sem] Oper.semAt_some
theorem wpListIn_append_run {F:Fence} {n:Nat} {P:Program} (w:World) {ops:Array Oper} {rest:List Oper} {o:Oper} {a:Act} {Q:Exit→Act→World→Prop} (hgd:o.guard=none) (s x:Operand) (t tn:TypeId)
 (hop:o.op=.call { callee:=.builtin .append,args:=#[s,x],argTypes:=#[t,tn] }) (vs vx:Value) (hs:a.eval s=vs) (hx:a.eval x=vx)
 (v':Value) (w':World) (hr:(Builtin.append_ #[t,tn] o.type #[vs,vx]).run P w=.ok v' w') (h:wpListIn F n P ops Q rest (a.put o.dst v') w'):wpListIn F n P ops Q (o :: rest) a w:=by
 refine wpListIn_plain hgd fun K hK'=>?_
 unfold Oper.wpIn
 refine ⟨?_,?_⟩
 · simp [Oper.about,hop,resolve,Target.leads,Sem.run_pure]
 ·rw [Oper.semAt_plain F _ _ (by rw [hop];intro c hc';cases hc')]
  simp [execOp,hop,resolve,invoke,builtin,hs,hx,hr,Result.andThen]
  exact hK' _ _ h
theorem places_any (q:Nat) (w:World) :
 Calls Tryz.prog 147 #[ptr q] w fun e w'=>e=.returned (.func (.func 181) #[] #[ptr w.heap.size])∧w'=w.alloc (.cells #[ptr q] 137):=by
 go_enter Tryz.func147,Tryz.ntmps147
 go_wp2
 go_ret
 exact ⟨rfl,rfl⟩
def texts (s:DS) (a k sl:Nat) (pre:List (Pl k)):List (List UInt8):=(pre.filter fun x=>x.1.1==sl).map fun x=>Dk.newestOf s (a+x.1.1*k+x.1.2)
theorem texts_same {s:DS} {a k sl:Nat} {pre:List (Pl k)} {x:Pl k} (h:x.1.1=sl):texts s a k sl (pre++[x])=texts s a k sl pre++[Dk.newestOf s (a+sl*k+x.1.2)]:=by
 subst h
 simp [texts,List.filter_append]
theorem texts_other {s:DS} {a k sl:Nat} {pre:List (Pl k)} {x:Pl k} (h:x.1.1≠sl):texts s a k sl (pre++[x])=texts s a k sl pre:=by
 simp [texts,List.filter_append,h]
theorem texts_len (s:DS) (a k sl:Nat) (pre:List (Pl k)):(texts s a k sl pre).length≤pre.length:=by
 unfold texts;rw [List.length_map];exact List.length_filter_le _ _
theorem texts_parts (s:DS) (a k sl:Nat) (p r:List (Pl k)):texts s a k sl (p++r)=texts s a k sl p++texts s a k sl r:=by simp [texts,List.filter_append]
theorem texts_none {s:DS} {a k sl:Nat} {p:List (Pl k)} (h:∀ x∈p,x.1.1≠sl):texts s a k sl p=[]:=by
 unfold texts
 rw [List.filter_eq_nil_iff.2 (fun x hx=>by simp [h x hx])];rfl
theorem texts_every {s:DS} {a k sl:Nat} {p:List (Pl k)} (h:∀ x∈p,x.1.1=sl):texts s a k sl p=p.map fun x=>Dk.newestOf s (a+sl*k+x.1.2):=by
 unfold texts
 rw [List.filter_eq_self.2 (fun x hx=>by simp [h x hx])]
 apply List.map_congr_left
 intro x hx
 rw [h x hx]
theorem upto_two {k:Nat} (hk:1≤k):upto (plAt hk) (2*k)=(List.range k).map (plAt hk)++(List.range k).map (fun j=>plAt hk (k+j)):=by
 unfold upto
 rw [show 2*k=k+k by omega,List.range_add,List.map_append,List.map_map]
 rfl
theorem plAt_lo {k j:Nat} (hk:1≤k) (h:j<k):(plAt hk j).1=(0,j):=by
 simp [plAt,Nat.div_eq_of_lt h,Nat.mod_eq_of_lt h]
theorem plAt_hi {k j:Nat} (hk:1≤k) (h:j<k):(plAt hk (k+j)).1=(1,j):=by
 simp only [plAt]
 rw [Nat.add_div_left _ (by omega),Nat.div_eq_of_lt h,Nat.add_mod_left,Nat.mod_eq_of_lt h]
theorem texts_zero (s:DS) (a:Nat) {k:Nat} (hk:1≤k):texts s a k 0 (upto (plAt hk) (2*k))=rowOf s a k:=by
 rw [upto_two,texts_parts,texts_every (p:=(List.range k).map (plAt hk)),texts_none (p:=(List.range k).map (fun j=>plAt hk (k+j))),List.append_nil,List.map_map]
 ·unfold rowOf
  apply List.map_congr_left
  intro j hj
  simp only [List.mem_range] at hj
  simp only [Function.comp,plAt_lo hk hj]
  simp
 ·intro x hx
  simp only [List.mem_map,List.mem_range] at hx
  obtain ⟨j,hj,rfl⟩:=hx
  rw [plAt_hi hk hj];simp
 ·intro x hx
  simp only [List.mem_map,List.mem_range] at hx
  obtain ⟨j,hj,rfl⟩:=hx
  rw [plAt_lo hk hj]
theorem texts_one (s:DS) (a:Nat) {k:Nat} (hk:1≤k):texts s a k 1 (upto (plAt hk) (2*k))=rowOf s (a+k) k:=by
 rw [upto_two,texts_parts,texts_none (p:=(List.range k).map (plAt hk)),texts_every (p:=(List.range k).map (fun j=>plAt hk (k+j))),List.nil_append,List.map_map]
 ·unfold rowOf
  apply List.map_congr_left
  intro j hj
  simp only [List.mem_range] at hj
  simp only [Function.comp,plAt_hi hk hj]
  simp
 ·intro x hx
  simp only [List.mem_map,List.mem_range] at hx
  obtain ⟨j,hj,rfl⟩:=hx
  rw [plAt_hi hk hj]
 ·intro x hx
  simp only [List.mem_map,List.mem_range] at hx
  obtain ⟨j,hj,rfl⟩:=hx
  rw [plAt_lo hk hj];simp
structure Se (B b q:Nat) (t:SS) (w:World) (okv:Bool) (L0 L1:List (List UInt8)) (v0 v1:Value) (d:DS) (W:World):Prop where
 dk:Dk B b d W
 sl:Sl q b t W
 box:W.heap[w.heap.size]?=some (.cells #[ptr q] 137 (0,0))
 told:W.heap[w.heap.size+1]?=some (.cells #[v0,v1] 179 (0,0))
 ok:W.heap[w.heap.size+2]?=some (.cells #[.bool okv] 4 (0,0))
 box2:W.heap[w.heap.size+3]?=some (.cells #[ptr q] 137 (0,0))
 r0:Strs w.heap.size W v0 L0
 r1:Strs w.heap.size W v1 L1
 ap:∀ g,v0.ownBlock=some g→v1.ownBlock≠some g
 mv:Moved b w W
 bl:b<w.heap.size
section
variable {B b q:Nat} {t:SS} {w:World} {okv:Bool} {L0 L1:List (List UInt8)} {v0 v1:Value} {d d':DS} {W W':World}
theorem Se.of_cells (h:Se B b q t w okv L0 L1 v0 v1 d W) (e:∀ (k:Nat) (cs:Array Value) (T:TypeId) (fz:Nat×Nat),W.heap[k]?=some (Obj.cells cs T fz)→W'.heap[k]?=W.heap[k]?) (m:Moved b w W'):Se B b q t w okv L0 L1 v0 v1 d W':=by
 obtain ⟨g,v,dk⟩:=h.dk
 refine ⟨⟨g,v,dk.of_blocks fun k hk=>?_⟩,h.sl.of_block (e _ _ _ _ h.sl),(e _ _ _ _ h.box).trans h.box,(e _ _ _ _ h.told).trans h.told,(e _ _ _ _ h.ok).trans h.ok,(e _ _ _ _ h.box2).trans h.box2,strs_of h.r0 (fun g hg=>?_),strs_of h.r1 (fun g hg=>?_),h.ap,m,h.bl⟩
 ·rcases dk.owns.1 hk with rfl|rfl|hk
  · exact e _ _ _ _ dk.blk
  · exact e _ _ _ _ dk.row
  · obtain ⟨cur,hc⟩:=dk.ownBlock hk;exact e _ _ _ _ hc
 · obtain ⟨cur,hc⟩:=strs_block h.r0 hg;exact e _ _ _ _ hc
 · obtain ⟨cur,hc⟩:=strs_block h.r1 hg;exact e _ _ _ _ hc
theorem Se.call (h:Se B b q t w okv L0 L1 v0 v1 d W) (hb:Below W.heap.size W W'):Se B b q t w okv L0 L1 v0 v1 d W' :=
 h.of_cells (fun k cs T fz hk=>hb.block k (Dk.lt_of_heap hk)) (h.mv.trans (.of_below hb h.dk.lt))
theorem Se.grown {row:Option Nat} (h:Se B b q t w okv L0 L1 v0 v1 d W) (hg:W.grownBy W' row) (hr:∀ r,row=some r→w.heap.size≤r∧∃ o:Obj,W.heap[r]?=some o∧o.isCells=false):Se B b q t w okv L0 L1 v0 v1 d W':=by
 have hne:∀ (k:Nat) (cs:Array Value) (T:TypeId) (fz:Nat×Nat),W.heap[k]?=some (Obj.cells cs T fz)→some k≠row:=fun k cs T fz hk e=>by
  obtain ⟨_,o,ho,hc⟩:=hr k e.symm
  rw [hk] at ho;cases ho;cases hc
 refine h.of_cells (fun k cs T fz hk=>hg.block k (Dk.lt_of_heap hk) (hne k cs T fz hk)) ?_
 refine ⟨hg.os.trans h.mv.os,hg.tape.trans h.mv.tape,hg.output.trans h.mv.output,Nat.le_trans h.mv.size hg.size,fun k hk hn=>?_,fun k hk=>h.mv.own k ?_⟩
 · rw [hg.block k (Nat.lt_of_lt_of_le hk h.mv.size) (fun e=>by have:=(hr k e.symm).1;omega),h.mv.block k hk hn]
 ·refine hk.of_block (hg.block b h.dk.lt (fun e=>?_))
  have:=(hr b e.symm).1
  have:=h.bl
  omega
theorem Se.disk (h:Se B b q t w okv L0 L1 v0 v1 d W) (k:Dk B b d' W') (m:Moved b W W'):Se B b q t w okv L0 L1 v0 v1 d' W':=by
 refine ⟨k,h.sl.disk h.dk m,h.dk.keep m h.box (by decide) (by decide) (by decide),h.dk.keep m h.told (by decide) (by decide) (by decide),h.dk.keep m h.ok (by decide) (by decide) (by decide),h.dk.keep m h.box2 (by decide) (by decide) (by decide),strs_of h.r0 (fun g hg=>?_),strs_of h.r1 (fun g hg=>?_),h.ap,h.mv.trans m,h.bl⟩
 ·obtain ⟨cur,hc⟩:=strs_block h.r0 hg
  rw [h.dk.keep m hc (by decide) (by decide) (by decide),hc]
 ·obtain ⟨cur,hc⟩:=strs_block h.r1 hg
  rw [h.dk.keep m hc (by decide) (by decide) (by decide),hc]
theorem keeps_below (N:Nat) (hb:Below W.heap.size W W'):KeepsFrom N W W':=⟨hb.size,fun k o _ hk _=>(hb.block k (Dk.lt_of_heap hk)).trans hk⟩
theorem keeps_moved (N:Nat) (dk:Dk B b d W) (m:Moved b W W'):KeepsFrom N W W':=⟨m.size,fun k o _ hk ho=>by
 obtain ⟨g,v,dk⟩:=dk
 refine (m.block k (Dk.lt_of_heap hk) (fun e=>?_)).trans hk
 rcases dk.owns.1 e with rfl|rfl|e
 · have:=dk.blk;rw [hk] at this;cases this;cases ho
 · have:=dk.row;unfold Dk.RowB at this;rw [hk] at this;cases this;cases ho
 · obtain ⟨cur,hc⟩:=dk.ownBlock e;rw [hk] at hc;cases hc;cases ho⟩
theorem keeps_row {N:Nat} {row:Option Nat} (hg:W.grownBy W' row) (hr:∀ r,row=some r→∃ cs T fz,W.heap[r]?=some (Obj.cells cs T fz)):KeepsFrom N W W':=⟨hg.size,fun k o _ hk ho=>by
 refine (hg.block k (Dk.lt_of_heap hk) (fun e=>?_)).trans hk
 obtain ⟨cs,T,fz,hc⟩:=hr k e.symm
 rw [hk] at hc;cases hc;cases ho⟩
theorem Se.app0 (h:Se B b q t w okv L0 L1 v0 v1 d W) (c:List UInt8) (hn:L0.length≤100000) (N:Nat) :
 ∃ g cap w',(Builtin.append_ #[62,62] 62 #[v0,.slice (some ⟨W.heap.size,0,none⟩) 1 1]).run Tryz.prog (W.alloc (.cells #[.string (mkB c)] 9))=.ok (.slice (some ⟨g,0,none⟩) (L0.length+1) cap) w'∧w'.cell? ⟨w.heap.size+1,0,none⟩=some v0∧w'.frozen? ⟨w.heap.size+1,0,none⟩=false ∧
  Se B b q t w okv (L0++[c]) L1 (.slice (some ⟨g,0,none⟩) (L0.length+1) cap) v1 d (w'.setCell ⟨w.heap.size+1,0,none⟩ (.slice (some ⟨g,0,none⟩) (L0.length+1) cap))∧KeepsFrom N W (w'.setCell ⟨w.heap.size+1,0,none⟩ (.slice (some ⟨g,0,none⟩) (L0.length+1) cap)):=by
 have hs:w.heap.size≤W.heap.size:=h.mv.size
 obtain ⟨g,cap,w',hr,st,hg,hor⟩:=strs_one w.heap.size W v0 L0 c h.r0 hs hn
 have ba:=(Below.refl W.heap.size W).alloc (Nat.le_refl _) (.cells #[.string (mkB c)] 9)
 have h1:=h.call ba
 have hrow:∀ r,v0.ownBlock=some r→∃ cur,(W.alloc (.cells #[.string (mkB c)] 9)).heap[r]?=some (Obj.cells cur 9 (0,0)):=fun r e=>strs_block h1.r0 e
 have keep:∀ (k:Nat) (cs:Array Value) (T:TypeId) (fz:Nat×Nat),T≠9→(W.alloc (.cells #[.string (mkB c)] 9)).heap[k]?=some (Obj.cells cs T fz)→w'.heap[k]?=(W.alloc (.cells #[.string (mkB c)] 9)).heap[k]?:=fun k cs T fz hT hk=>hg.block k (Dk.lt_of_heap hk) (fun e=>by
  obtain ⟨cur,hc⟩:=hrow k e.symm
  rw [hk] at hc;cases hc;exact hT rfl)
 have tk:w'.heap[w.heap.size+1]?=some (.cells #[v0,v1] 179 (0,0)):=(keep _ _ _ _ (by decide) h1.told).trans h1.told
 have sne:∀ k,k≠w.heap.size+1→(w'.setCell ⟨w.heap.size+1,0,none⟩ (.slice (some ⟨g,0,none⟩) (L0.length+1) cap)).heap[k]?=w'.heap[k]?:=fun k hk=>Below.heap_setCell w' ⟨w.heap.size+1,0,none⟩ _ k hk
 have two:∀ (k:Nat) (cs:Array Value) (T:TypeId) (fz:Nat×Nat),T≠9→k≠w.heap.size+1→(W.alloc (.cells #[.string (mkB c)] 9)).heap[k]?=some (Obj.cells cs T fz)→(w'.setCell ⟨w.heap.size+1,0,none⟩ (.slice (some ⟨g,0,none⟩) (L0.length+1) cap)).heap[k]?=some (Obj.cells cs T fz):=fun k cs T fz hT hk he=>by
  rw [sne k hk,keep k cs T fz hT he,he]
 have gne:g≠w.heap.size+1:=fun e=>by
  rcases hor with h'|h'
  ·obtain ⟨cur,hc⟩:=hrow g h'
   have:=h1.told;rw [← e,hc] at this;cases this
  · have:=Dk.lt_of_heap h.told;omega
 have tne:∀ (k:Nat) (cs:Array Value) (T:TypeId) (fz:Nat×Nat),T≠179→(W.alloc (.cells #[.string (mkB c)] 9)).heap[k]?=some (Obj.cells cs T fz)→k≠w.heap.size+1:=fun k cs T fz hT hk e=>by
  have:=h1.told;rw [← e,hk] at this;cases this;exact hT rfl
 refine ⟨g,cap,w',hr,by rw [Lib.cell_of_heap tk];rfl,Lib.frozen_of_heap tk 0,?_,?_⟩
 ·obtain ⟨gg,v,dk⟩:=h1.dk
  refine ⟨⟨gg,v,dk.of_blocks fun k hk=>?_⟩,?_,?_,?_,?_,?_,strs_of st (fun k e=>sne k (by cases e;exact gne)),strs_of h1.r1 (fun k e=>?_),fun k e=>?_,?_,h.bl⟩
  ·rcases dk.owns.1 hk with rfl|rfl|hk
   · exact (two _ _ _ _ (by decide) (tne _ _ _ _ (by decide) dk.blk) dk.blk).trans dk.blk.symm
   · exact (two _ _ _ _ (by decide) (tne _ _ _ _ (by decide) dk.row) dk.row).trans (Eq.symm dk.row)
   · obtain ⟨cur,hc⟩:=dk.ownBlock hk;exact (two _ _ _ _ (by decide) (tne _ _ _ _ (by decide) hc) hc).trans hc.symm
  · exact two _ _ _ _ (by decide) (tne _ _ _ _ (by decide) h1.sl) h1.sl
  · exact two _ _ _ _ (by decide) (by omega) h1.box
  · simp [World.setCell,Array.getElem?_modify,tk]
  · exact two _ _ _ _ (by decide) (by omega) h1.ok
  · exact two _ _ _ _ (by decide) (by omega) h1.box2
  ·obtain ⟨cur,hc⟩:=strs_block h1.r1 e
   rw [sne k (tne _ _ _ _ (by decide) hc)]
   exact hg.block k (Dk.lt_of_heap hc) (fun e'=>h.ap k e'.symm e)
  ·cases e
   intro e1
   rcases hor with h'|h'
   · exact h.ap g h' e1
   · have:=(h.r1.lt g e1).2;omega
  ·refine ⟨hg.os.trans h1.mv.os,hg.tape.trans h1.mv.tape,hg.output.trans h1.mv.output,by simp only [World.setCell];simpa using Nat.le_trans h1.mv.size hg.size,fun k hk hn=>?_,fun k hk=>h1.mv.own k (hk.of_block ?_)⟩
   · rw [sne k (by omega),hg.block k (Nat.lt_of_lt_of_le hk h1.mv.size) (fun e=>by have:=(h1.r0.lt k e.symm).1;omega),h1.mv.block k hk hn]
   ·have hb:=h.bl
    rw [sne b (by omega),hg.block b h1.dk.lt (fun e=>by have:=(h1.r0.lt b e.symm).1;omega)]
 · exact ((keeps_below N ba).trans (keeps_row hg (fun r e=>by obtain ⟨cur,hc⟩:=hrow r e;exact ⟨_,_,_,hc⟩))).trans ((KeepsOthers.setCell _ _ _).from _)
theorem Se.app1 (h:Se B b q t w okv L0 L1 v0 v1 d W) (c:List UInt8) (hn:L1.length≤100000) (N:Nat) :
 ∃ g cap w',(Builtin.append_ #[62,62] 62 #[v1,.slice (some ⟨W.heap.size,0,none⟩) 1 1]).run Tryz.prog (W.alloc (.cells #[.string (mkB c)] 9))=.ok (.slice (some ⟨g,0,none⟩) (L1.length+1) cap) w'∧w'.cell? ⟨w.heap.size+1,1,none⟩=some v1∧w'.frozen? ⟨w.heap.size+1,1,none⟩=false ∧
  Se B b q t w okv L0 (L1++[c]) v0 (.slice (some ⟨g,0,none⟩) (L1.length+1) cap) d (w'.setCell ⟨w.heap.size+1,1,none⟩ (.slice (some ⟨g,0,none⟩) (L1.length+1) cap))∧KeepsFrom N W (w'.setCell ⟨w.heap.size+1,1,none⟩ (.slice (some ⟨g,0,none⟩) (L1.length+1) cap)):=by
 have hs:w.heap.size≤W.heap.size:=h.mv.size
 obtain ⟨g,cap,w',hr,st,hg,hor⟩:=strs_one w.heap.size W v1 L1 c h.r1 hs hn
 have ba:=(Below.refl W.heap.size W).alloc (Nat.le_refl _) (.cells #[.string (mkB c)] 9)
 have h1:=h.call ba
 have hrow:∀ r,v1.ownBlock=some r→∃ cur,(W.alloc (.cells #[.string (mkB c)] 9)).heap[r]?=some (Obj.cells cur 9 (0,0)):=fun r e=>strs_block h1.r1 e
 have keep:∀ (k:Nat) (cs:Array Value) (T:TypeId) (fz:Nat×Nat),T≠9→(W.alloc (.cells #[.string (mkB c)] 9)).heap[k]?=some (Obj.cells cs T fz)→w'.heap[k]?=(W.alloc (.cells #[.string (mkB c)] 9)).heap[k]?:=fun k cs T fz hT hk=>hg.block k (Dk.lt_of_heap hk) (fun e=>by
  obtain ⟨cur,hc⟩:=hrow k e.symm
  rw [hk] at hc;cases hc;exact hT rfl)
 have tk:w'.heap[w.heap.size+1]?=some (.cells #[v0,v1] 179 (0,0)):=(keep _ _ _ _ (by decide) h1.told).trans h1.told
 have sne:∀ k,k≠w.heap.size+1→(w'.setCell ⟨w.heap.size+1,1,none⟩ (.slice (some ⟨g,0,none⟩) (L1.length+1) cap)).heap[k]?=w'.heap[k]?:=fun k hk=>Below.heap_setCell w' ⟨w.heap.size+1,1,none⟩ _ k hk
 have two:∀ (k:Nat) (cs:Array Value) (T:TypeId) (fz:Nat×Nat),T≠9→k≠w.heap.size+1→(W.alloc (.cells #[.string (mkB c)] 9)).heap[k]?=some (Obj.cells cs T fz)→(w'.setCell ⟨w.heap.size+1,1,none⟩ (.slice (some ⟨g,0,none⟩) (L1.length+1) cap)).heap[k]?=some (Obj.cells cs T fz):=fun k cs T fz hT hk he=>by
  rw [sne k hk,keep k cs T fz hT he,he]
 have gne:g≠w.heap.size+1:=fun e=>by
  rcases hor with h'|h'
  ·obtain ⟨cur,hc⟩:=hrow g h'
   have:=h1.told;rw [← e,hc] at this;cases this
  · have:=Dk.lt_of_heap h.told;omega
 have tne:∀ (k:Nat) (cs:Array Value) (T:TypeId) (fz:Nat×Nat),T≠179→(W.alloc (.cells #[.string (mkB c)] 9)).heap[k]?=some (Obj.cells cs T fz)→k≠w.heap.size+1:=fun k cs T fz hT hk e=>by
  have:=h1.told;rw [← e,hk] at this;cases this;exact hT rfl
 refine ⟨g,cap,w',hr,by rw [Lib.cell_of_heap tk];rfl,Lib.frozen_of_heap tk 1,?_,?_⟩
 ·obtain ⟨gg,v,dk⟩:=h1.dk
  refine ⟨⟨gg,v,dk.of_blocks fun k hk=>?_⟩,?_,?_,?_,?_,?_,strs_of h1.r0 (fun k e=>?_),strs_of st (fun k e=>sne k (by cases e;exact gne)),fun k e=>?_,?_,h.bl⟩
  ·rcases dk.owns.1 hk with rfl|rfl|hk
   · exact (two _ _ _ _ (by decide) (tne _ _ _ _ (by decide) dk.blk) dk.blk).trans dk.blk.symm
   · exact (two _ _ _ _ (by decide) (tne _ _ _ _ (by decide) dk.row) dk.row).trans (Eq.symm dk.row)
   · obtain ⟨cur,hc⟩:=dk.ownBlock hk;exact (two _ _ _ _ (by decide) (tne _ _ _ _ (by decide) hc) hc).trans hc.symm
  · exact two _ _ _ _ (by decide) (tne _ _ _ _ (by decide) h1.sl) h1.sl
  · exact two _ _ _ _ (by decide) (by omega) h1.box
  · simp [World.setCell,Array.getElem?_modify,tk]
  · exact two _ _ _ _ (by decide) (by omega) h1.ok
  · exact two _ _ _ _ (by decide) (by omega) h1.box2
  ·obtain ⟨cur,hc⟩:=strs_block h1.r0 e
   rw [sne k (tne _ _ _ _ (by decide) hc)]
   exact hg.block k (Dk.lt_of_heap hc) (fun e'=>h.ap k e e'.symm)
  ·intro e1
   cases e1
   rcases hor with h'|h'
   · exact h.ap g e h'
   · have:=(h.r0.lt g e).2;omega
  ·refine ⟨hg.os.trans h1.mv.os,hg.tape.trans h1.mv.tape,hg.output.trans h1.mv.output,by simp only [World.setCell];simpa using Nat.le_trans h1.mv.size hg.size,fun k hk hn=>?_,fun k hk=>h1.mv.own k (hk.of_block ?_)⟩
   · rw [sne k (by omega),hg.block k (Nat.lt_of_lt_of_le hk h1.mv.size) (fun e=>by have:=(h1.r1.lt k e.symm).1;omega),h1.mv.block k hk hn]
   ·have hb:=h.bl
    rw [sne b (by omega),hg.block b h1.dk.lt (fun e=>by have:=(h1.r1.lt b e.symm).1;omega)]
 · exact ((keeps_below N ba).trans (keeps_row hg (fun r e=>by obtain ⟨cur,hc⟩:=hrow r e;exact ⟨_,_,_,hc⟩))).trans ((KeepsOthers.setCell _ _ _).from _)
theorem Se.setOk (h:Se B b q t w okv L0 L1 v0 v1 d W) (x:Bool):Se B b q t w x L0 L1 v0 v1 d (W.setCell ⟨w.heap.size+2,0,none⟩ (.bool x)):=by
 have sne:∀ k,k≠w.heap.size+2→(W.setCell ⟨w.heap.size+2,0,none⟩ (.bool x)).heap[k]?=W.heap[k]?:=fun k hk=>Below.heap_setCell W ⟨w.heap.size+2,0,none⟩ _ k hk
 have tne:∀ (k:Nat) (cs:Array Value) (T:TypeId) (fz:Nat×Nat),T≠4→W.heap[k]?=some (Obj.cells cs T fz)→k≠w.heap.size+2:=fun k cs T fz hT hk e=>by
  have:=h.ok;rw [← e,hk] at this;cases this;exact hT rfl
 have two:∀ (k:Nat) (cs:Array Value) (T:TypeId) (fz:Nat×Nat),T≠4→W.heap[k]?=some (Obj.cells cs T fz)→(W.setCell ⟨w.heap.size+2,0,none⟩ (.bool x)).heap[k]?=W.heap[k]?:=fun k cs T fz hT hk=>sne k (tne k cs T fz hT hk)
 obtain ⟨gg,v,dk⟩:=h.dk
 refine ⟨⟨gg,v,dk.of_blocks fun k hk=>?_⟩,h.sl.of_block (two _ _ _ _ (by decide) h.sl),(sne _ (by omega)).trans h.box,(sne _ (by omega)).trans h.told,?_,(sne _ (by omega)).trans h.box2,strs_of h.r0 (fun k e=>?_),strs_of h.r1 (fun k e=>?_),h.ap,?_,h.bl⟩
 ·rcases dk.owns.1 hk with rfl|rfl|hk
  · exact two _ _ _ _ (by decide) dk.blk
  · exact two _ _ _ _ (by decide) dk.row
  · obtain ⟨cur,hc⟩:=dk.ownBlock hk;exact two _ _ _ _ (by decide) hc
 ·have:=h.ok
  simp [World.setCell,Array.getElem?_modify,this]
 · obtain ⟨cur,hc⟩:=strs_block h.r0 e;exact two _ _ _ _ (by decide) hc
 · obtain ⟨cur,hc⟩:=strs_block h.r1 e;exact two _ _ _ _ (by decide) hc
 ·have hb:=h.bl
  refine ⟨h.mv.os,h.mv.tape,h.mv.output,by simpa [World.setCell] using h.mv.size,fun k hk hn=>?_,fun k hk=>h.mv.own k (hk.of_block (sne b (by omega)))⟩
  rw [sne k (by omega)];exact h.mv.block k hk hn
theorem set_same {k o:Nat} {v:Value} {cs:Array Value} {T:TypeId} {fz:Nat×Nat} (h:W.heap[k]?=some (Obj.cells cs T fz)) (ho:cs[o]?=some v) (j:Nat):(W.setCell ⟨k,o,none⟩ v).heap[j]?=W.heap[j]?:=by
 by_cases e:j=k
 ·subst e
  have:cs.setIfInBounds o v=cs:=by
   apply Array.ext_getElem?
   intro i
   rw [Array.getElem?_setIfInBounds]
   split
   ·rename_i hi;subst hi
    split
    · exact ho.symm
    · rename_i hlt;rw [Array.getElem?_eq_none (by omega)]
   · rfl
  simp [World.setCell,Array.getElem?_modify,h,this]
 · exact Below.heap_setCell W ⟨k,o,none⟩ v j e
theorem Se.same (h:Se B b q t w okv L0 L1 v0 v1 d W) (e:∀ k:Nat,W'.heap[k]?=W.heap[k]?) (h1:W'.os=W.os) (h2:W'.tape=W.tape) (h3:W'.output=W.output) (hs:W.heap.size≤W'.heap.size):Se B b q t w okv L0 L1 v0 v1 d W' :=
 h.of_cells (fun k _ _ _ _=>e k) (h.mv.trans ⟨h1,h2,h3,hs,fun k _ _=>e k,fun k hk=>.inl (hk.of_block (e b))⟩)
theorem Se.endW (h:Se B b q t w okv L0 L1 v0 v1 d W) {D:Nat} (hD:w.heap.size≤D) (hK:W.heap[D]?=some (.deferred (some []))) :
 (((W.setCell ⟨w.heap.size+1,0,none⟩ v0).setCell ⟨w.heap.size+1,1,none⟩ v1).setCell ⟨w.heap.size+1+1,0,none⟩ (.bool okv)).drew.heap[D]?=some (.deferred (some [])) ∧
 Se B b q t w okv L0 L1 v0 v1 d ((((W.setCell ⟨w.heap.size+1,0,none⟩ v0).setCell ⟨w.heap.size+1,1,none⟩ v1).setCell ⟨w.heap.size+1+1,0,none⟩ (.bool okv)).drew.putObj D (.deferred none)):=by
 have e1:∀ j:Nat,(W.setCell ⟨w.heap.size+1,0,none⟩ v0).heap[j]?=W.heap[j]?:=set_same h.told rfl
 have t1:(W.setCell ⟨w.heap.size+1,0,none⟩ v0).heap[w.heap.size+1]?=some (.cells #[v0,v1] 179 (0,0)):=(e1 _).trans h.told
 have e2:∀ j:Nat,((W.setCell ⟨w.heap.size+1,0,none⟩ v0).setCell ⟨w.heap.size+1,1,none⟩ v1).heap[j]?=W.heap[j]?:=fun j=>(set_same t1 rfl j).trans (e1 j)
 have t2:((W.setCell ⟨w.heap.size+1,0,none⟩ v0).setCell ⟨w.heap.size+1,1,none⟩ v1).heap[w.heap.size+1+1]?=some (.cells #[.bool okv] 4 (0,0)):=(e2 _).trans h.ok
 have e3:∀ j:Nat,(((W.setCell ⟨w.heap.size+1,0,none⟩ v0).setCell ⟨w.heap.size+1,1,none⟩ v1).setCell ⟨w.heap.size+1+1,0,none⟩ (.bool okv)).drew.heap[j]?=W.heap[j]?:=fun j=>(set_same t2 rfl j).trans (e2 j)
 have hk:=(e3 D).trans hK
 have s1:Se B b q t w okv L0 L1 v0 v1 d (((W.setCell ⟨w.heap.size+1,0,none⟩ v0).setCell ⟨w.heap.size+1,1,none⟩ v1).setCell ⟨w.heap.size+1+1,0,none⟩ (.bool okv)).drew:=h.same e3 rfl rfl rfl (by simp [World.setCell,World.drew])
 exact ⟨hk,s1.grown (grownBy_putObj' _ D (.deferred none)) (fun r e=>by cases e;exact ⟨hD,_,hk,rfl⟩)⟩
end
end Go.Proofs.YteempfoajgblaaaGreat.Sl
