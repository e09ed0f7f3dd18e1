/- The builder's methods, of a builder within a writer. The writer's methods. next: the number that .. -/
import Derived.Test.YteempfoajgblaaaGreatLMOp
import Derived.Deep.LoopGhost
import Derived.Deep.QuietTactic
import Derived.BigQuiet
import Derived.StillTailTactics
import Derived.Laws.BitsAll
import Derived.IntWalk
import Derived.RegionTactic
import Derived.Lib.BufferWrite
import Derived.Laws.MakeOwn
import Derived.Laws.BytesString
import Derived.Laws.IdiomStrings
import Derived.Deep.RegionHeld3
import Derived.Deep.DeepCutAuto
import Derived.ChangeOld
import Derived.ShutString
import Derived.ChangeMaps5
set_option maxRecDepth 100000
set_option linter.unusedVariables false
set_option linter.unusedSimpArgs false
open Go.ChangeShapes Go.WideShapes Go.ChangeAt Go.RowKit Go.Joins
set_option maxHeartbeats 2000000
namespace Go.Proofs.YteempfoajgblaaaGreat.Oc
abbrev self (b:Nat):Value:=.pointer (some ⟨b,0,none⟩)
theorem szB:(Tryz.prog.info? 189).map (·.size)=some 2:=by kernel_rfl
theorem liesB:liesAt Tryz.prog Tryz.prog.depth 191 (3/Tryz.prog.cellsOf 191) 0 189 1=true:=by kernel_rfl
theorem infoByte:(Tryz.prog.info? 5).map (fun i=>(i.zero,i.size,i.bytes))=some (some (.int .u8 0),1,1):=by kernel_rfl
theorem cellsByte:Tryz.prog.cellsOf 5=1:=by kernel_rfl
theorem copy_used (b:Nat) (w:World) (h0:w.cell? ⟨b,0,none⟩=some (self b)) :
 Calls Tryz.prog 216 #[self b] w fun e w'=>e=.returned (.tuple #[])∧w'=w:=by
 obtain ⟨j,hj,_⟩:=Option.map_eq_some_iff.1 szB
 go_enter Tryz.func216,Tryz.ntmps216
 go_wp2
 rw [Lib.run_neq_ptr_same w _ Tryz.underlying187 hj]
 go_wp2
 go_end0
 exact ⟨rfl,rfl⟩
theorem copy_fresh (b:Nat) (w:World) (h0:w.cell? ⟨b,0,none⟩=some (.pointer none)) (hsh:w.shape? b=some (191,3)) (hfz:w.frozen? ⟨b,0,none⟩=false) :
 Calls Tryz.prog 216 #[self b] w fun e w'=>e=.returned (.tuple #[])∧w'=w.setCell ⟨b,0,none⟩ (self b):=by
 obtain ⟨j,hj,hjs⟩:=Option.map_eq_some_iff.1 szB
 go_enter Tryz.func216,Tryz.ntmps216
 go_wp2
 rw [Lib.run_to_unsafe w ⟨b,0,none⟩ Tryz.underlying187 Tryz.underlying329 hj (by rw [hjs];decide) hsh (Nat.zero_lt_succ 2)]
 simp only [Result.andThen]
 rw [Oper.upon_value]
 go_wp2
 rw [run_callFunc_extern Tryz.func230 (by kernel_rfl) (by kernel_rfl) (by kernel_rfl) (e:=Extern.AbiNoEscape.same) (by kernel_rfl)]
 rw [Lib.run_noEscape]
 simp only [Result.andThen]
 rw [Oper.upon_value]
 go_wp2
 rw [Lib.run_from_unsafe w ⟨b,0,none⟩ Tryz.underlying329 Tryz.underlying187 hj hsh liesB]
 simp only [Result.andThen]
 rw [Oper.upon_value]
 go_wp2
 go_end0
 exact ⟨rfl,rfl⟩
def Own (b:Nat) (p:Value):Prop:=p=.pointer none∨p=self b
theorem own_nil (b:Nat):Own b (.pointer none):=Or.inl rfl
theorem own_self (b:Nat):Own b (self b):=Or.inr rfl
theorem copy_any (B b:Nat) (p h:Value) (l:List UInt8) (w:World) (k:BAt B b p h l w) (hp:Own b p) :
 Calls Tryz.prog 216 #[self b] w fun e w'=>e=.returned (.tuple #[])∧BAt B b (self b) h l w'∧Moved b w w':=by
 have k':=k
 obtain ⟨hB,v,hb,hown,hn⟩:=k'
 rcases hp with rfl|rfl
 ·refine (copy_fresh b w (by rw [Lib.cell_of_heap hb];rfl) (by simp [World.shape?,hb]) (by simp [World.frozen?,hb])).mono ?_
  rintro e w' ⟨rfl,rfl⟩
  exact ⟨rfl,k.used _,Moved.set hb 0 _ (by omega)⟩
 ·refine (copy_used b w (by rw [Lib.cell_of_heap hb];rfl)).mono ?_
  rintro e w' ⟨rfl,rfl⟩
  exact ⟨rfl,k,Moved.refl _ _⟩
theorem byteCells_snoc (l:List UInt8) (c:UInt8):Lib.byteCells (l++[c])=Lib.byteCells l++[.int .u8 c.toNat]:=by simp [Lib.byteCells]
theorem Moved.grown {b:Nat} {p v h:Value} {w w':World} {T:TypeId} {fz:Nat×Nat} (hb:w.heap[b]?=some (.cells #[p,v,h] T fz)) (hne:v.ownBlock≠some b) (hg:w.grownBy w' v.ownBlock):Moved b w w':=by
 refine ⟨hg.os,hg.tape,hg.output,hg.size,fun k hk hkb hkn=>hg.block k hk (fun e=>hkn (by rw [bufOf_eq hb];exact e.symm)),fun k hk=>?_⟩
 left
 have hb':w'.heap[b]?=some (.cells #[p,v,h] T fz):=by rw [hg.block b (lt_of_heap hb) (fun e=>hne e.symm)];exact hb
 rwa [bufOf_eq hb',← bufOf_eq hb] at hk
theorem Moved.alloc {b:Nat} {w:World} (hb:b<w.heap.size) (o:Obj):Moved b w (w.alloc o):=by
 refine ⟨rfl,rfl,rfl,by simp,fun k hk _ _=>Below.heap_alloc _ _ _ hk,fun k hk=>.inl ?_⟩
 unfold bufOf at hk ⊢
 rwa [World.cell?_of_block (Below.heap_alloc w o b hb)] at hk
theorem wp_append {ops:Array Oper} {rest:List Oper} {o:Oper} {a:Act} {Q:Exit→Act→World→Prop} {w w':World} {v y v':Value} (hgd:o.guard=none) (s x:Operand) (t u ty:TypeId)
 (ho:o.op=.call { callee:=.builtin .append,args:=#[s,x],argTypes:=#[t,u] }) (hty:o.type=ty) (hs:a.eval s=v) (hx:a.eval x=y)
 (hr:(Builtin.append_ #[t,u] ty #[v,y]).run Tryz.prog w=.ok v' w') (h:wpList Tryz.prog ops Q rest (a.put o.dst v') w'):wpList Tryz.prog ops Q (o :: rest) a w:=by
 subst hty
 refine wpList_plain hgd fun K hK=>?_
 unfold Oper.wp execOp
 simp only [ho,resolve,invoke,builtin,Sem.run_bind,Sem.run_pure,Result.andThen_ok,List.map_toArray,List.map_cons,List.map_nil,hs,hx,hr]
 exact hK _ _ h
theorem append_byte (w:World) (B:Nat) (v:Value) (l:List UInt8) (a:Addr) (c:UInt8) (hown:w.ownsRowF B 5 1 v l.length (Lib.byteCells l)) (ha:w.cell? a=some (.int .u8 c.toNat)) (hlen:l.length≤1000000) (hB:B≤w.heap.size) :
 ∃ g cap w',(Builtin.append_ #[84,84] 84 #[v,.slice (some a) 1 1]).run Tryz.prog w=.ok (.slice (some ⟨g,0,none⟩) (l.length+1) cap) w'∧w'.ownsRowF B 5 1 (.slice (some ⟨g,0,none⟩) (l.length+1) cap) (l++[c]).length (Lib.byteCells (l++[c]))∧w.grownBy w' v.ownBlock∧(v.ownBlock=some g∨w.heap.size≤g):=by
 obtain ⟨i0,hi,hz0,hz1,hz2⟩:=info_parts infoByte
 have hc1:∀ j u,[Value.int .u8 (c.toNat:Int)][j]?=some u→w.cell? (a.add j)=some u:=by
  intro j u hj
  match j,hj with
  | 0,hj=>simp at hj;subst hj;simpa [Addr.add] using ha
 have hc2:∀ u∈[Value.int .u8 (c.toNat:Int)],u.oneCell'=true:=by intro u hu;simp at hu;subst hu;rfl
 have h63:l.length+1≤maxLen:=by unfold maxLen;omega
 have fin:∀ {base:Nat} {v':Value} {w':World},w'.ownsRowF base 5 1 v' (l.length+1) (Lib.byteCells l++[.int .u8 (c.toNat:Int)])→∃ g cap,v'=.slice (some ⟨g,0,none⟩) (l.length+1) cap:=by
  intro base v' w' ho
  rcases ho.2 with ⟨_,h0⟩|⟨g,cap,cur,fz,hv,_⟩
  · omega
  · exact ⟨g,cap,hv⟩
 obtain ⟨v',w',hr,hown',hgrow,_⟩:=run_append_ownF (P:=Tryz.prog) w B 84 84 5 i0 (.int .u8 0) 1 1 Tryz.underlying84 hi hz0 hz1 hz2 rfl (by decide) v l.length _ hown a 1 1 [.int .u8 (c.toNat:Int)] rfl hc1 hc2 h63 (by omega) hB
 obtain ⟨g,cap,rfl⟩:=fin hown'
 refine ⟨g,cap,w',hr,by rw [byteCells_snoc];simpa using hown',hgrow,?_⟩
 rcases hown.2 with ⟨rfl,h0⟩|⟨g0,cap0,cur,fz,rfl,hbg,hg,hfz,hnc,hcm,hcs,htake⟩
 ·obtain ⟨v2,w2,hr2,hown2,_⟩:=run_append_ownF (P:=Tryz.prog) w w.heap.size 84 84 5 i0 (.int .u8 0) 1 1 Tryz.underlying84 hi hz0 hz1 hz2 rfl (by decide) (.slice none 0 0) l.length _ ⟨hown.1,.inl ⟨rfl,h0⟩⟩ a 1 1 [.int .u8 (c.toNat:Int)] rfl hc1 hc2 h63 (by omega) (Nat.le_refl _)
  rw [hr] at hr2
  cases hr2
  exact .inr (hown2.lt g rfl).1
 ·by_cases hroom:l.length+1≤cap0
  ·have hr2:=run_append_roomF (P:=Tryz.prog) w 84 84 5 i0 Tryz.underlying84 hi g0 l.length cap0 cur fz hg (by rw [hz1];exact hfz) a 1 1 [.int .u8 (c.toNat:Int)] (by rw [hz1];rfl) hc1 hc2 hroom (by rw [hz1];simp;omega)
   rw [hr] at hr2
   cases hr2
   exact .inl rfl
  ·have hr2:=run_append_grow (P:=Tryz.prog) w 84 84 5 i0 (.int .u8 0) Tryz.underlying84 hi hz0 ⟨g0,0,none⟩ l.length cap0 _ (by rw [hz1];exact hown.1) (hown.cells (g:=g0) rfl) a 1 1 [.int .u8 (c.toNat:Int)] (by rw [hz1];rfl) hc1 (by omega) (by omega) (by rw [hz2];exact growslice_fits (by omega) (by omega))
   rw [hr] at hr2
   cases hr2
   exact .inr (Nat.le_refl _)
theorem append_text (w:World) (B:Nat) (v:Value) (l:List UInt8) (s:ByteArray) (hown:w.ownsRowF B 5 1 v l.length (Lib.byteCells l)) (hlen:l.length+s.size≤1000000) (hB:B≤w.heap.size) :
 ∃ v' w',(Builtin.append_ #[84,9] 84 #[v,.string s]).run Tryz.prog w=.ok v' w'∧w'.ownsRowF B 5 1 v' (l++s.data.toList).length (Lib.byteCells (l++s.data.toList))∧w.grownBy w' v.ownBlock∧(∀ k,v'.ownBlock=some k→v.ownBlock=some k∨w.heap.size≤k)∧(v=.slice none 0 0→s.size=0→v'=.slice none 0 0):=by
 obtain ⟨i0,hi,hz0,hz1,hz2⟩:=info_parts infoByte
 have h63:l.length+s.size≤maxLen:=by unfold maxLen;omega
 obtain ⟨v',w',hr,hown',hgrow,hnil⟩:=Lib.run_append_own_stringF (P:=Tryz.prog) w B 84 9 84 5 i0 Tryz.underlying84 Tryz.underlying9 hi hz0 hz1 hz2 v l.length _ hown s h63 (by omega) hB
 refine ⟨v',w',hr,?_,hgrow,?_,fun a b=>hnil.2 ⟨a,b⟩⟩
 ·rw [Lib.byteCells_append,← Lib.strCells_eq,List.length_append]
  simpa using hown'
 rcases hown.2 with ⟨rfl,h0⟩|⟨g0,cap0,cur,fz,rfl,hbg,hg,hfz,hnc,hcm,hcs,htake⟩
 ·obtain ⟨v2,w2,hr2,hown2,_⟩:=Lib.run_append_own_stringF (P:=Tryz.prog) w w.heap.size 84 9 84 5 i0 Tryz.underlying84 Tryz.underlying9 hi hz0 hz1 hz2 (.slice none 0 0) l.length _ ⟨hown.1,.inl ⟨rfl,h0⟩⟩ s h63 (by omega) (Nat.le_refl _)
  rw [hr] at hr2
  cases hr2
  exact fun k hk=>.inr (hown2.lt k hk).1
 ·by_cases hroom:l.length+s.size≤cap0
  ·have hr2:=Lib.run_append_room_stringF (P:=Tryz.prog) w 84 9 84 5 i0 Tryz.underlying84 Tryz.underlying9 hi hz1 g0 l.length cap0 cur fz hg (by simpa using hfz) s hroom (by omega)
   rw [hr] at hr2
   cases hr2
   exact fun k hk=>.inl hk
  ·have hr2:=Lib.run_append_grow_string (P:=Tryz.prog) w 84 9 84 5 i0 (.int .u8 0) Tryz.underlying84 Tryz.underlying9 hi hz0 ⟨g0,0,none⟩ l.length cap0 _ (by rw [hz1];exact hown.1) (hown.cells (g:=g0) rfl) s (by omega) (by omega) (by rw [hz2];exact growslice_fits (by omega) (by omega))
   rw [hr] at hr2
   cases hr2
   intro k hk
   simp [Value.ownBlock] at hk
   exact .inr (by omega)
theorem writeByte_any (B b:Nat) (p h:Value) (l:List UInt8) (c:UInt8) (w:World) (k:BAt B b p h l w) (hp:Own b p) (hlen:l.length≤1000000) (hBw:B≤w.heap.size) :
 Calls Tryz.prog 193 #[self b,.int .u8 (c.toNat:Int)] w fun e w'=>e=.returned .nilIface∧BAt B b (self b) h (l++[c]) w'∧Moved b w w':=by
 have CC:=Lib.hid (copy_any B b p h l w k hp)
 clear k hp
 go_enter Tryz.func193,Tryz.ntmps193
 go_wp2_with fail
 (with_reducible refine CC.out.mono ?_)
 rintro e w1 ⟨rfl,h1,m1⟩
 clear CC
 obtain ⟨hB,v,hbk,hown,hn⟩:=h1
 have hne:v.ownBlock≠some b:=neF hown hbk (by decide)
 have c0:w1.cell? ⟨b,0,none⟩=some (self b):=by rw [Lib.cell_of_heap hbk];rfl
 have c1:w1.cell? ⟨b,1,none⟩=some v:=by rw [Lib.cell_of_heap hbk];rfl
 have hlt:b<w1.heap.size:=lt_of_heap hbk
 have hz:=m1.size
 have hba:(w1.alloc (.cells #[.int .u8 (c.toNat:Int)] 5)).heap[b]?=some (.cells #[self b,v,h] 191 (0,0)):=by rw [Lib.alloc_old w1 _ b hlt];exact hbk
 have ma:Moved b w (w1.alloc (.cells #[.int .u8 (c.toNat:Int)] 5)):=m1.trans (Moved.alloc hlt _)
 obtain ⟨g,cap,w2,hr,hown',hgrow,hnew⟩:=append_byte (w1.alloc (.cells #[.int .u8 (c.toNat:Int)] 5)) B v l ⟨w1.heap.size,0,none⟩ c (hown.alloc _) (by simp [go_sem]) hlen (by simp;omega)
 have mb:=ma.trans (Moved.grown hba hne hgrow)
 have hb2:w2.heap[b]?=some (.cells #[self b,v,h] 191 (0,0)):=by
  rw [hgrow.block b (by simp;omega) (fun e=>hne e.symm)];exact hba
 have FIN:Hid (BAt B b (self b) h (l++[c]) (w2.setCell ⟨b,1,none⟩ (.slice (some ⟨g,0,none⟩) (l.length+1) cap))∧Moved b w (w2.setCell ⟨b,1,none⟩ (.slice (some ⟨g,0,none⟩) (l.length+1) cap))):=by
  refine ⟨BAt.put hB hb2 hown' (by simp),⟨mb.os,mb.tape,mb.output,by simpa [World.setCell] using mb.size,fun k hk hkb hkn=>(Below.heap_setCell _ _ _ _ hkb).trans (mb.block k hk hkb hkn),fun k hk=>?_⟩⟩
  unfold bufOf at hk
  rw [World.cell?_setCell_same _ _ _ (show w2.cell? ⟨b,1,none⟩=some v by rw [Lib.cell_of_heap hb2];rfl)] at hk
  simp [Value.ownBlock] at hk
  subst hk
  rcases hnew with e|e
  · exact ma.own g (by rw [bufOf_eq hba];exact e)
  · exact .inr (by simp at e;omega)
 have d1:w2.cell? ⟨b,1,none⟩=some v:=by rw [Lib.cell_of_heap hb2];rfl
 have f1:w2.frozen? ⟨b,1,none⟩=false:=Lib.frozen_of_heap hb2 1
 clear hown' hgrow hnew mb hb2 ma hba hz hown hn hne hbk m1
 go_wp2_with (at_builtin;refine wp_append rfl _ _ _ _ _ rfl rfl rfl rfl hr ?_)
 go_wp2
 go_ret
 exact ⟨rfl,FIN.out⟩
theorem writeString_any (B b:Nat) (p h:Value) (l:List UInt8) (s:ByteArray) (w:World) (k:BAt B b p h l w) (hp:Own b p) (hlen:l.length+s.size≤1000000) (hBw:B≤w.heap.size) :
 Calls Tryz.prog 215 #[self b,.string s] w fun e w'=>e=.returned (.tuple #[.int .i64 s.size,.nilIface])∧BAt B b (self b) h (l++s.data.toList) w'∧Moved b w w':=by
 have CC:=Lib.hid (copy_any B b p h l w k hp)
 clear k hp
 go_enter Tryz.func215,Tryz.ntmps215
 go_wp2_with fail
 (with_reducible refine CC.out.mono ?_)
 rintro e w1 ⟨rfl,h1,m1⟩
 clear CC
 obtain ⟨hB,v,hbk,hown,hn⟩:=h1
 have hne:v.ownBlock≠some b:=neF hown hbk (by decide)
 have c0:w1.cell? ⟨b,0,none⟩=some (self b):=by rw [Lib.cell_of_heap hbk];rfl
 have c1:w1.cell? ⟨b,1,none⟩=some v:=by rw [Lib.cell_of_heap hbk];rfl
 have hlt:b<w1.heap.size:=lt_of_heap hbk
 have hz:=m1.size
 obtain ⟨v',w2,hr,hown',hgrow,hnew,hnil⟩:=append_text w1 B v l s hown hlen (by omega)
 have mb:=m1.trans (Moved.grown hbk hne hgrow)
 have hb2:w2.heap[b]?=some (.cells #[self b,v,h] 191 (0,0)):=by
  rw [hgrow.block b hlt (fun e=>hne e.symm)];exact hbk
 obtain ⟨ao,n',cap,rfl⟩:∃ ao n' cap,v'=.slice ao n' cap:=by
  rcases hown'.2 with ⟨hv,_⟩|⟨g,cap,cur,fz,hv,_⟩
  · exact ⟨_,_,_,hv⟩
  · exact ⟨_,_,_,hv⟩
 have FIN:Hid (BAt B b (self b) h (l++s.data.toList) (w2.setCell ⟨b,1,none⟩ (.slice ao n' cap))∧Moved b w (w2.setCell ⟨b,1,none⟩ (.slice ao n' cap))):=by
  refine ⟨BAt.put hB hb2 hown' (fun e=>?_),⟨mb.os,mb.tape,mb.output,by simpa [World.setCell] using mb.size,fun k hk hkb hkn=>(Below.heap_setCell _ _ _ _ hkb).trans (mb.block k hk hkb hkn),fun k hk=>?_⟩⟩
  ·rw [List.append_eq_nil_iff] at e
   exact hnil (hn e.1) (by have:=congrArg List.length e.2;simpa using this)
  unfold bufOf at hk
  rw [World.cell?_setCell_same _ _ _ (show w2.cell? ⟨b,1,none⟩=some v by rw [Lib.cell_of_heap hb2];rfl)] at hk
  rcases hnew k (by simpa using hk) with e|e
  · exact m1.own k (by rw [bufOf_eq hbk];exact e)
  · exact .inr (by omega)
 have d1:w2.cell? ⟨b,1,none⟩=some v:=by rw [Lib.cell_of_heap hb2];rfl
 have f1:w2.frozen? ⟨b,1,none⟩=false:=Lib.frozen_of_heap hb2 1
 clear hown' hgrow hnew mb hb2 hz hown hn hne hbk m1 hnil
 go_wp2_with (at_builtin;refine wp_append rfl _ _ _ _ _ rfl rfl rfl rfl hr ?_)
 go_wp2
 go_ret2
 exact ⟨rfl,FIN.out⟩
theorem string_any (B b:Nat) (p h:Value) (l:List UInt8) (w:World) (k:BAt B b p h l w) (hlen:l.length≤1000000) :
 Calls Tryz.prog 157 #[self b] w fun e w'=>e=.returned (.string (mkB l))∧BAt B b p h l w'∧Moved b w w':=by
 have k':=k
 obtain ⟨hB,v,hbk,hown,hn⟩:=k'
 have hlt:b<w.heap.size:=lt_of_heap hbk
 have hbk':w.drew.heap[b]?=some (.cells #[p,v,h] 191 (0,0)):=hbk
 by_cases h0:l=[]
 ·subst h0
  obtain rfl:=hn rfl
  have c1:w.drew.cell? ⟨b,1,none⟩=some (.slice none 0 0):=by rw [Lib.cell_of_heap hbk'];rfl
  have hSD:(Builtin.unsafeSliceData_ #[84] 282 #[.slice none 0 0]).run Tryz.prog w.drew=.ok (.pointer none) w.drew:=rfl
  have hUS:∀ W:World,(Builtin.unsafeString_ #[282,3] 9 #[.pointer none,.int .i64 0]).run Tryz.prog W=.ok (.string .empty) W:=fun W=>Lib.run_unsafeString_none W _ _ _ none
  have FIN:Hid (BAt B b p h [] w.drew∧Moved b w w.drew):=⟨k.drew,(Moved.refl b w).drew⟩
  clear k hown hn
  go_enter Tryz.func157,Tryz.ntmps157
  go_wp2
  go_region
  all_goals (go_wp2;go_ret;exact ⟨rfl,FIN.out⟩)
 ·have hl0:l.length≠0:=by simpa using h0
  obtain ⟨g,cap,cur,fz,rfl,hbg,hg,hfz,hnc,hcm,hcs,htake⟩:∃ g cap cur fz,v=.slice (some ⟨g,0,none⟩) l.length cap∧B≤g∧w.heap[g]?=some (.cells cur 5 fz)∧fz.2≤l.length*1∧l.length≤cap∧cap≤maxLen∧cur.size=cap*1∧cur.toList.take (l.length*1)=Lib.byteCells l:=by
   rcases hown.2 with ⟨_,hz⟩|⟨g,cap,cur,fz,hv,r⟩
   · exact absurd hz hl0
   · exact ⟨g,cap,cur,fz,hv,r⟩
  have hne:=neF hown hbk (by decide)
  have c1:w.drew.cell? ⟨b,1,none⟩=some (.slice (some ⟨g,0,none⟩) l.length cap):=by rw [Lib.cell_of_heap hbk'];rfl
  have hg':w.drew.heap[g]?=some (.cells cur 5 fz):=hg
  have hSD:(Builtin.unsafeSliceData_ #[84] 282 #[.slice (some ⟨g,0,none⟩) l.length cap]).run Tryz.prog w.drew=.ok (.pointer (some ⟨g,0,none⟩)) w.drew:=
   Lib.run_unsafeSliceData_row _ _ _ _ _ _ (by omega)
  have hUS:(Builtin.unsafeString_ #[282,3] 9 #[.pointer (some ⟨g,0,none⟩),.int .i64 l.length]).run Tryz.prog w.drew=.ok (.string (mkB l)) (w.drew.freeze ⟨g,0,none⟩ l.length):=
   Lib.run_unsafeString_row w.drew 282 3 9 5 Tryz.underlying282 cellsByte g cur.size (by simp [World.shape?,hg']) l h0 (by omega) (by unfold maxLen at hcm;omega) (by
    intro j x hx
    exact hown.cells (g:=g) rfl j (.int .u8 x.toNat) (by simp [Lib.byteCells,hx]))
  have hgb:g≠b:=fun e=>hne (by simp [Value.ownBlock,e])
  have FIN:Hid (BAt B b p h l (w.drew.freeze ⟨g,0,none⟩ l.length)∧Moved b w (w.drew.freeze ⟨g,0,none⟩ l.length)):=by
   have hfz':(w.drew.freeze ⟨g,0,none⟩ l.length).heap[b]?=some (.cells #[p,.slice (some ⟨g,0,none⟩) l.length cap,h] 191 (0,0)):=by
    unfold World.freeze
    rw [if_neg hl0]
    simp only [Array.getElem?_modify]
    rw [if_neg hgb]
    exact hbk'
   refine ⟨⟨hB,_,hfz',⟨hown.1,.inr ?_⟩,hn⟩,⟨by unfold World.freeze;split <;> rfl,by unfold World.freeze;split <;> rfl,by unfold World.freeze;split <;> rfl,?_,fun i hi hib hin=>?_,fun i hi=>.inl ?_⟩⟩
   ·obtain ⟨lo,hi⟩:=fz
    refine ⟨g,cap,cur,(if lo==hi then (0,0+l.length) else (min lo 0,max hi (0+l.length))),rfl,hbg,?_,?_,hnc,hcm,hcs,htake⟩
    ·unfold World.freeze
     rw [if_neg hl0]
     simp [Array.getElem?_modify,hg']
    ·simp only at hfz
     split <;> simp <;> omega
   ·unfold World.freeze
    split <;> simp
   ·unfold World.freeze
    rw [if_neg hl0]
    simp only [Array.getElem?_modify]
    rw [if_neg (by intro e;exact hin (by rw [bufOf_eq hbk];simp [Value.ownBlock];exact e))]
    rfl
   ·rw [bufOf_eq hfz'] at hi
    rw [bufOf_eq hbk];exact hi
  clear k hown hn htake hcs hg hg' hfz hne hbk hbk'
  go_enter Tryz.func157,Tryz.ntmps157
  go_wp2
  go_region
  all_goals (go_wp2;go_ret;exact ⟨rfl,FIN.out⟩)
theorem reset_any (B b:Nat) (p h:Value) (l:List UInt8) (w:World) (k:BAt B b p h l w) :
 Calls Tryz.prog 214 #[self b] w fun e w'=>e=.returned (.tuple #[])∧BAt B b (.pointer none) h [] w'∧Moved b w w':=by
 obtain ⟨hB,v,hbk,hown,hn⟩:=k
 have hb1:(w.setCell ⟨b,0,none⟩ (.pointer none)).heap[b]?=some (.cells #[.pointer none,v,h] 191 (0,0)):=by simp [World.setCell,Array.getElem?_modify,hbk]
 have c0:w.cell? ⟨b,0,none⟩=some p:=by rw [Lib.cell_of_heap hbk];rfl
 have c1:w.cell? ⟨b,1,none⟩=some v:=by rw [Lib.cell_of_heap hbk];rfl
 have f0:w.frozen? ⟨b,0,none⟩=false:=Lib.frozen_of_heap hbk 0
 have f1:w.frozen? ⟨b,1,none⟩=false:=Lib.frozen_of_heap hbk 1
 have FIN:Hid (BAt B b (.pointer none) h [] ((w.setCell ⟨b,0,none⟩ (.pointer none)).setCell ⟨b,1,none⟩ (.slice none 0 0))∧Moved b w ((w.setCell ⟨b,0,none⟩ (.pointer none)).setCell ⟨b,1,none⟩ (.slice none 0 0))):=
  ⟨BAt.put hB hb1 (World.ownsRowF_nil _ _ _ _) (fun _=>rfl),(Moved.set hbk 0 _ (by omega)).trans (Moved.set hb1 1 _ (fun _ k hk=>by simp [Value.ownBlock] at hk))⟩
 clear hown hn hbk hb1
 go_enter Tryz.func214,Tryz.ntmps214
 go_wp2
 go_end0
 exact ⟨rfl,FIN.out⟩
end Go.Proofs.YteempfoajgblaaaGreat.Oc
namespace Go.Proofs.YteempfoajgblaaaGreat.Oc
def Wr (B b:Nat) (l:List UInt8) (w:World):Prop:=∃ p h,BAt B b p h l w∧((p=.pointer none∧h=.pointer none∧l=[])∨(p=self b∧h=self b))
theorem szW:(Tryz.prog.info? 191).map (·.size)=some 3:=by kernel_rfl
theorem eql_nil (w:World) (a:Addr):(binOp .eql 186 (.pointer none) (.pointer (some a))).run Tryz.prog w=.ok (.bool false) w:=by
 have h:∀ d:Nat,(Op.equalIn (d+1) 186 (.pointer none) (.pointer (some a))).run Tryz.prog w=.ok false w:=fun d=>by
  simp [Op.equalIn,run_underlying Tryz.underlying186,sizeOf,typeInfo]
 simp only [binOp]
 simp [Op.equal,Op.maxDepth,h 9999]
theorem settle_any (B b:Nat) (l:List UInt8) (w:World) (k:Wr B b l w) (hlen:l.length≤1000000) (hBw:B≤w.heap.size) :
 Calls Tryz.prog 191 #[self b] w fun e w'=>e=.returned (.tuple #[])∧BAt B b (self b) (self b) l w'∧Moved b w w':=by
 obtain ⟨p,h,k,hp⟩:=k
 obtain ⟨j,hj,_⟩:=Option.map_eq_some_iff.1 szW
 have k':=k
 obtain ⟨hB,v,hbk,-,-⟩:=k'
 have c2:w.cell? ⟨b,2,none⟩=some h:=by rw [Lib.cell_of_heap hbk];rfl
 have K:=Lib.hid k
 clear k hbk
 rcases hp with ⟨rfl,rfl,rfl⟩|⟨rfl,rfl⟩
 ·have E:=fun w=>eql_nil w ⟨b,0,none⟩
  go_enter Tryz.func191,Tryz.ntmps191
  go_wp2_with fail
  (with_reducible refine (string_any B b _ _ _ _ K.out (by simp)).mono ?_)
  rintro e w1 ⟨rfl,k1,m1⟩
  clear c2 K
  go_wp2_with fail
  (with_reducible refine (reset_any B b _ _ _ _ k1).mono ?_)
  rintro e w2 ⟨rfl,k2,m2⟩
  have s2:=(m1.trans m2).size
  go_wp2_with fail
  (with_reducible refine (writeString_any B b _ _ _ _ _ k2 (own_nil b) (by rw [mkB_size];simp) (by omega)).mono ?_)
  rintro e w3 ⟨rfl,k3,m3⟩
  rw [mkB_data] at k3
  have m4:=(m1.trans m2).trans m3
  have k4:=k3.homed (self b)
  obtain ⟨hB,v,hbk,-,-⟩:=k3
  have c2:w3.cell? ⟨b,2,none⟩=some (.pointer none):=by rw [Lib.cell_of_heap hbk];rfl
  have f2:w3.frozen? ⟨b,2,none⟩=false:=Lib.frozen_of_heap hbk 2
  have FIN:Hid (BAt B b (self b) (self b) [] (w3.setCell ⟨b,2,none⟩ (self b))∧Moved b w (w3.setCell ⟨b,2,none⟩ (self b))):=⟨k4,m4.trans (Moved.set hbk 2 _ (by omega))⟩
  clear m1 m2 m3 m4 k1 k2 k4 hbk
  go_wp2
  go_end0
  exact ⟨rfl,FIN.out⟩
 ·have E:=fun w=>run_eql_ptr_same w ⟨b,0,none⟩ Tryz.underlying186 hj
  go_enter Tryz.func191,Tryz.ntmps191
  go_wp2
  try simp only [Exit.inBlock,Exit.then]
  exact bodyPost_ret (results_none rfl _ _ _) rfl ⟨rfl,K.out,Moved.refl _ _⟩
def SzRel (t:Nat) (w:World) (g:Nat) (s0 s3:Value) (wx:World):Prop:=∃ n k:Nat,g=n∧n<18446744073709551616∧s0=.int .u64 (n:Int)∧s3=.int .i64 (k:Int)∧k+(bytesOf n).length=t∧wx=w
theorem sizeOf_any (n:Nat) (w:World) (hn:n<18446744073709551616) :
 Calls Tryz.prog 192 #[.int .u64 (n:Int)] w fun e w'=>e=.returned (.int .i64 ((bytesOf n).length:Int))∧w'=w:=by
 have h8:=bytesOf_len8 hn
 go_enter Tryz.func192,Tryz.ntmps192
 go_wp2
 go_loopg [0,3] n (SzRel (bytesOf n).length w)
 case atStart=>exact ⟨n,0,rfl,hn,rfl,rfl,by omega,rfl⟩
 case round=>
  obtain ⟨m,k,rfl,hm,rfl,rfl,ht,rfl⟩:=hrel
  have T:=Lib.hid ht
  have hk:k≤8:=by omega
  clear ht
  rcases Nat.eq_zero_or_pos gk with rfl|hpos
  ·have T1:Hid (k=(bytesOf n).length):=Lib.hid (by have:=T.out;rwa [bytesOf_zero] at this)
   clear T
   go_wp2
   go_ret
   exact ⟨by rw [T1.out];rfl,rfl⟩
  ·have T1:Hid (k+1+(bytesOf (gk/256)).length=(bytesOf n).length):=Lib.hid (by have:=T.out;rw [bytesOf_pos (by omega),List.length_append] at this;simp at this;omega)
   clear T
   go_wp2
   go_roundg (gk/256)
   case measure=>omega
   case rel=>exact ⟨gk/256,k+1,rfl,by omega,by first|rfl|go_num,by go_num,T1.out,rfl⟩
def NumRel (B b:Nat) (n sz:Nat) (l:List UInt8) (w:World) (g:Nat) (s20:Value) (wx:World):Prop:=∃ i:Nat,i+g=sz∧s20=.int .i64 (i:Int)∧BAt B b (self b) (self b) (l++(bytesOf n).take i) wx∧Moved b w wx
theorem bytesOf_get (n:Nat):∀ j (h:j<(bytesOf n).length),(bytesOf n)[j]=UInt8.ofNat (n/2^(8*((bytesOf n).length-1-j))%256):=by
 induction n using Nat.strongRecOn with
 | _ n ih=>
  intro j h
  by_cases h0:n=0
  · subst h0;simp only [bytesOf_zero] at h;simp at h
  ·have e:=bytesOf_pos h0
   have hl:(bytesOf n).length=(bytesOf (n/256)).length+1:=by rw [e];simp
   rw [List.getElem_of_eq e,hl]
   by_cases hj:j<(bytesOf (n/256)).length
   ·rw [List.getElem_append_left hj,ih (n/256) (by omega) j hj,Nat.div_div_eq_div_mul]
    congr 3
    rw [show 8*((bytesOf (n/256)).length+1-1-j)=8+8*((bytesOf (n/256)).length-1-j) by omega,Nat.pow_add]
   ·have:j=(bytesOf (n/256)).length:=by omega
    subst this
    rw [List.getElem_append_right (Nat.le_refl _)]
    simp
theorem byte_at {n i sz:Nat} (hsz:(bytesOf n).length=sz) (hi:i<sz):(bytesOf n).take (i+1)=(bytesOf n).take i++[UInt8.ofNat (n/2^(8*(sz-1-i))%256)]:=by
 subst hsz
 rw [List.take_succ_eq_append_getElem hi,bytesOf_get n i hi]
theorem Wr.of {B b:Nat} {l:List UInt8} {w:World} (k:BAt B b (self b) (self b) l w):Wr B b l w:=⟨_,_,k,.inr ⟨rfl,rfl⟩⟩
theorem num_any (B b n:Nat) (l:List UInt8) (w:World) (k:Wr B b l w) (hn:n<18446744073709551616) (hlen:l.length≤900000) (hBw:B≤w.heap.size) :
 Calls Tryz.prog 155 #[self b,.int .u64 (n:Int)] w fun e w'=>e=.returned (self b)∧Wr B b (l++enc n) w'∧Moved b w w':=by
 have ST:=Lib.hid (settle_any B b l w k (by omega) hBw)
 have h8:=bytesOf_len8 hn
 clear k
 generalize hsz:(bytesOf n).length=sz at h8
 have SZ:Hid (∀ w:World,Calls Tryz.prog 192 #[.int .u64 (n:Int)] w fun e w'=>e=.returned (.int .i64 (sz:Int))∧w'=w):=Lib.hid (fun w=>by have:=sizeOf_any n w hn;rwa [hsz] at this)
 have HS:=Lib.hid hsz
 clear hsz
 go_enter Tryz.func155,Tryz.ntmps155
 go_wp2_with fail
 (with_reducible refine ST.out.mono ?_)
 rintro e w1 ⟨rfl,k1,m1⟩
 clear ST
 go_wp2_with fail
 (with_reducible refine (SZ.out _).mono ?_)
 rintro e w2 ⟨rfl,rfl⟩
 clear SZ
 have hz:=m1.size
 have hm:(sz:Int)%256=sz:=by omega
 have hu:(UInt8.ofNat sz).toNat=sz:=by rw [UInt8.toNat_ofNat'];omega
 have WB:Hid (Calls Tryz.prog 193 #[self b,.int .u8 (sz:Int)] w2 fun e w'=>e=.returned .nilIface∧BAt B b (self b) (self b) (l++[UInt8.ofNat sz]) w'∧Moved b w2 w'):=Lib.hid (by
  have:=writeByte_any B b (self b) (self b) l (UInt8.ofNat sz) w2 k1 (own_self b) (by omega) (by omega)
  rw [hu] at this
  exact this)
 clear k1 hu
 go_wp2_with fail
 (with_reducible refine WB.out.mono ?_)
 rintro e w3 ⟨rfl,k3,m3⟩
 have m4:=m1.trans m3
 have K3:=Lib.hid (And.intro k3 m4)
 clear m1 m3 k3 m4 WB hm hz
 go_wp2_with fail
 go_loopg [20] sz (NumRel B b n sz (l++[UInt8.ofNat sz]) w)
 case atStart=>exact ⟨0,by omega,rfl,by simpa using K3.out.1,K3.out.2⟩
 case round=>
  obtain ⟨i,hi,rfl,hk,hmv⟩:=hrel
  have K:=Lib.hid (And.intro hk hmv)
  clear hk hmv K3
  rcases Nat.lt_or_ge i sz with hlt|hge
  ·have x1:IntKind.i64.wrap ((sz:Int)-1)=(sz:Int)-1:=IntWalk.i64_in _ (by omega)
   have x2:IntKind.i64.wrap ((sz:Int)-1-(i:Int))=((sz-1-i:Nat):Int):=by rw [IntWalk.i64_in _ (by omega)];omega
   have x3:IntKind.i64.wrap (8*((sz-1-i:Nat):Int))=((8*(sz-1-i):Nat):Int):=by rw [IntWalk.i64_in _ (by omega)];omega
   go_wp2
   go_still_tail 11,(by kernel_rfl)
   change wpList _ _ _ _ _ wr.drew
   have hc:IntKind.u8.wrap ((n:Int)/2^(8*((sz-1-i:Nat):Int)).toNat)=((UInt8.ofNat (n/2^(8*(sz-1-i))%256)).toNat:Int):=by
    rw [UInt8.toNat_ofNat',show (8*((sz-1-i:Nat):Int)).toNat=8*(sz-1-i) by omega]
    rw [show ((n:Int)/2^(8*(sz-1-i)))=((n/2^(8*(sz-1-i)):Nat):Int) by simp]
    generalize n/2^(8*(sz-1-i))=q
    simp [IntKind.wrap,IntKind.bits,IntKind.signed,IntKind.min]
   rw [hc]
   clear hc x1 x2 x3
   have hb:=byte_at HS.out hlt
   have hz:=K.out.2.size
   have hl:(l++[UInt8.ofNat sz]++(bytesOf n).take i).length≤1000000:=by simp;omega
   have WB:=Lib.hid (writeByte_any B b (self b) (self b) _ (UInt8.ofNat (n/2^(8*(sz-1-i))%256)) wr.drew K.out.1.drew (own_self b) hl (by show B≤wr.heap.size;omega))
   rw [List.append_assoc,← hb] at WB
   clear hb hl
   generalize UInt8.ofNat (n/2^(8*(sz-1-i))%256)=c at *
   go_wp2_with fail
   (with_reducible refine WB.out.mono ?_)
   rintro e w4 ⟨rfl,k4,m4⟩
   have K4:Hid (BAt B b (self b) (self b) (l++[UInt8.ofNat sz]++(bytesOf n).take (i+1)) w4∧Moved b w w4):=Lib.hid ⟨k4,K.out.2.drew.trans m4⟩
   clear k4 m4 WB hz K
   go_wp2
   go_roundg (gk-1)
   case measure=>omega
   case rel=>exact ⟨i+1,by omega,by go_num,K4.out⟩
  ·have hz:=HS.out
   have K4:Hid (Wr B b (l++enc n) wr∧Moved b w wr):=Lib.hid ⟨Wr.of (by
    have:=K.out.1
    rw [List.take_of_length_le (by omega),List.append_assoc] at this
    unfold enc;rw [hz];exact this),K.out.2⟩
   clear K hz
   go_wp2
   go_ret
   exact ⟨rfl,K4.out⟩
theorem int_any (B b:Nat) (n:Int) (l:List UInt8) (w:World) (k:Wr B b l w) (hn:(Lit.int .i64 n).wf=true) (hlen:l.length≤900000) (hBw:B≤w.heap.size) :
 Calls Tryz.prog 110 #[self b,.int .i64 n] w fun e w'=>e=.returned (self b)∧Wr B b (l++encInt n) w'∧Moved b w w':=by
 have hb : -9223372036854775808≤n∧n≤9223372036854775807:=by
  simp [Lit.wf,IntKind.min,IntKind.max,IntKind.bits,IntKind.signed] at hn;omega
 have NA:=Lib.hid (num_any B b n.toNat l w k (by omega) hlen hBw)
 clear k hn
 by_cases h0:n<0
 ·rw [show (n.toNat:Int)=0 by omega] at NA
  go_enter Tryz.func110,Tryz.ntmps110
  go_wp2_with fail
  (with_reducible refine NA.out.mono ?_)
  rintro e w1 ⟨rfl,hf⟩
  have H:=Lib.hid hf
  clear hf NA
  go_wp2
  go_ret
  exact ⟨rfl,H.out⟩
 ·have h1:0≤n:=by omega
  clear h0
  rw [show (n.toNat:Int)=n by omega] at NA
  go_enter Tryz.func110,Tryz.ntmps110
  go_wp2_with fail
  (with_reducible refine NA.out.mono ?_)
  rintro e w1 ⟨rfl,hf⟩
  have H:=Lib.hid hf
  clear hf NA
  go_wp2
  go_ret
  exact ⟨rfl,H.out⟩
theorem flag_any (B b:Nat) (f:Bool) (l:List UInt8) (w:World) (k:Wr B b l w) (hlen:l.length≤900000) (hBw:B≤w.heap.size) :
 Calls Tryz.prog 156 #[self b,.bool f] w fun e w'=>e=.returned (self b)∧Wr B b (l++encFlag f) w'∧Moved b w w':=by
 have N1:Hid (Calls Tryz.prog 155 #[self b,.int .u64 1] w fun e w'=>e=.returned (self b)∧Wr B b (l++enc 1) w'∧Moved b w w'):=Lib.hid (num_any B b 1 l w k (by omega) hlen hBw)
 have N0:Hid (Calls Tryz.prog 155 #[self b,.int .u64 0] w fun e w'=>e=.returned (self b)∧Wr B b (l++enc 0) w'∧Moved b w w'):=Lib.hid (num_any B b 0 l w k (by omega) hlen hBw)
 clear k
 cases f
 ·go_enter Tryz.func156,Tryz.ntmps156
  go_wp2_with fail
  (with_reducible refine N0.out.mono ?_)
  rintro e w1 ⟨rfl,hf⟩
  have H:=Lib.hid hf
  clear hf N0 N1
  go_wp2
  go_ret
  exact ⟨rfl,H.out⟩
 ·go_enter Tryz.func156,Tryz.ntmps156
  go_wp2_with fail
  (with_reducible refine N1.out.mono ?_)
  rintro e w1 ⟨rfl,hf⟩
  have H:=Lib.hid hf
  clear hf N0 N1
  go_wp2
  go_ret
  exact ⟨rfl,H.out⟩
theorem wstring_any (B b:Nat) (l:List UInt8) (w:World) (k:Wr B b l w) (hlen:l.length≤1000000) :
 Calls Tryz.prog 112 #[self b] w fun e w'=>e=.returned (.string (mkB l))∧Wr B b l w'∧Moved b w w':=by
 obtain ⟨p,h,k,hp⟩:=k
 have SA:=Lib.hid (string_any B b p h l w k hlen)
 have HP:=Lib.hid hp
 clear k hp
 go_enter Tryz.func112,Tryz.ntmps112
 go_wp2_with fail
 (with_reducible refine SA.out.mono ?_)
 rintro e w1 ⟨rfl,k1,m1⟩
 have H:Hid (Wr B b l w1∧Moved b w w1):=Lib.hid ⟨⟨p,h,k1,HP.out⟩,m1⟩
 clear k1 m1 SA HP
 go_wp2
 go_ret
 exact ⟨rfl,H.out⟩
theorem fresh_wr (w:World):Wr w.heap.size w.heap.size [] (w.alloc (.cells #[.pointer none,.slice none 0 0,.pointer none] 191)):=
 ⟨_,_,⟨Nat.le_refl _,.slice none 0 0,heap_alloc_new w _,World.ownsRowF_nil _ _ _ _,fun _=>rfl⟩,.inl ⟨rfl,rfl,rfl⟩⟩
end Go.Proofs.YteempfoajgblaaaGreat.Oc
namespace Go.Proofs.YteempfoajgblaaaGreat.Oc
def byteAt (s:ByteArray) (i:Nat):Nat:=if h:i<s.size then s[i].toNat else 0
theorem byteAt_lt (s:ByteArray) (i:Nat):byteAt s i<256:=by
 unfold byteAt;split
 · exact UInt8.toNat_lt _
 · omega
theorem byteAt_eq {s:ByteArray} {i:Nat} (h:i<s.size):s[i].toNat=byteAt s i:=by unfold byteAt;rw [dif_pos h]
theorem list_size (s:ByteArray):s.data.toList.length=s.size:=by simp
theorem list_get {s:ByteArray} {i:Nat} (h:i<s.size):s.data.toList[i]?=some (UInt8.ofNat (byteAt s i)):=by
 rw [← byteAt_eq h,List.getElem?_eq_getElem (by simpa using h)]
 simp
 rfl
theorem extract_list (s:ByteArray) (a b:Nat):(s.extract a b).data.toList=(s.data.toList.take b).drop a:=by
 rw [ByteArray.data_extract,Array.toList_extract]
 simp [List.extract,List.drop_take]
theorem below_drewN (w:World) (n:Nat):Below w.heap.size w (w.drewN n):=⟨rfl,rfl,rfl,Nat.le_refl _,fun _ _=>rfl⟩
def nextR (l:List UInt8):Value:=match dec l with
 | some (n,r)=>.tuple #[.int .u64 (n:Int),.string (mkB r),.bool true]
 | none=>.tuple #[.int .u64 0,.string ⟨#[]⟩,.bool false]
theorem nextR_none {l:List UInt8} (h:dec l=none):nextR l=.tuple #[.int .u64 0,.string ⟨#[]⟩,.bool false]:=by unfold nextR;rw [h]
theorem nextR_some {l:List UInt8} {n:Nat} {r:List UInt8} (h:dec l=some (n,r)):nextR l=.tuple #[.int .u64 (n:Int),.string (mkB r),.bool true]:=by unfold nextR;rw [h]
theorem or64 (x y:Nat) (h:x<18446744073709551616) (k:y<18446744073709551616):bits .or .u64 (x:Int) (y:Int)=((x ||| y:Nat):Int):=u64_or_nat x y h k
theorem or_low {a b n:Nat} (h:b<2^n):a*2^n ||| b=a*2^n+b:=by
 rw [Nat.mul_comm];exact (Nat.two_pow_add_eq_or_of_lt h a).symm
theorem join_byte {a b:Nat} (ha:a<72057594037927936) (hb:b<256):bits .or .u64 ((a:Int)*256) (b:Int)=((a*256+b:Nat):Int):=by
 have e:=or64 (a*256) b (by omega) (by omega)
 rw [show ((a*256:Nat):Int)=(a:Int)*256 by omega] at e
 rw [e,or_low (n:=8) hb]
def NxRel (k:Nat) (t:ByteArray) (w:World) (g:Nat) (s2 s4 s20:Value) (wx:World):Prop:=∃ i:Nat,i+g=k∧i≤t.size∧s2=.int .u64 (val (t.data.toList.take i):Int)∧s4=.bool true∧s20=.int .i64 (i:Int)∧(0<i→t.data.toList.head?≠some 0)∧wx=w
theorem next_any (s:ByteArray) (w:World) (hs:s.size≤1000000) :
 Calls Tryz.prog 196 #[.string s] w fun e w'=>e=.returned (nextR s.data.toList)∧Below w.heap.size w w':=by
 by_cases h0:s.size=0
 ·have e:s.data.toList=[]:=List.eq_nil_of_length_eq_zero (by rw [list_size];exact h0)
  have es:s=⟨#[]⟩:=by rw [← mkB_of s,e];rfl
  rw [nextR_none (by rw [e];rfl)]
  subst es
  clear e h0
  go_enter Tryz.func196,Tryz.ntmps196
  go_wp2_with fail
  go_step3
  go_wp2
  simp only [Exit.noGoto]
  exact bodyPost_ret (v:=.tuple #[.int .u64 0,.string ⟨#[]⟩,.bool false]) (by simp [results,Tryz.results196,go_sem]) rfl ⟨rfl,Below.refl _ _⟩
 ·have l0:0<s.size:=by omega
  have b0:=byteAt_eq l0
  have t0:=byteAt_lt s 0
  generalize hk:byteAt s 0=k at *
  have z0:¬s.toList=[]:=fun e=>by rw [ByteArray.toList_eq] at e;have:=list_size s;rw [e] at this;simp at this;omega
  have z1:s.toList.isEmpty=false:=by simpa using z0
  have z2:(s.toList==[])=false:=by simpa using z0
  have EL:Hid (s.data.toList=UInt8.ofNat k :: (s.extract 1 s.size).data.toList):=Lib.hid (by
   rw [extract_list,List.take_of_length_le (by simp)]
   have:=list_get l0
   rw [hk] at this
   cases hl:s.data.toList with
   | nil=>rw [hl] at this;simp at this
   | cons x y=>rw [hl] at this;simp at this;simp [this])
  have ku:Hid ((UInt8.ofNat k).toNat=k):=Lib.hid (by rw [UInt8.toNat_ofNat'];omega)
  clear hk
  by_cases h8:k≤8
  ·have st:(s.extract 1 s.size).size≤1000000:=by rw [ByteArray.size_extract];omega
   have i1:(1:Int)≤(s.size:Int):=by omega
   generalize ht:s.extract 1 s.size=t at *
   have HT:=Lib.hid ht
   clear ht
   go_enter Tryz.func196,Tryz.ntmps196
   go_wp2_with fail
   go_step3
   go_wp2_with fail
   go_quiet (fail)
   go_wp2_with fail
   go_step3
   go_wp2_with fail
   rw [show decide ((8:Int)<(k:Int))=false by simp;omega,HT.out]
   have BW:Below w.heap.size w (w.drewN nq):=below_drewN _ _
   generalize w.drewN nq=w1 at *
   have H8:=Lib.hid h8
   clear z0 z1 z2 b0 HT i1 h0 l0 t0
   go_loopg [2,4,20] k (NxRel k t w1)
   case atStart=>exact ⟨0,by omega,by omega,rfl,rfl,rfl,by omega,rfl⟩
   case round=>
    obtain ⟨i,hg,hit,rfl,rfl,rfl,hh,rfl⟩:=hrel
    have HH:=Lib.hid hh
    clear hh
    rcases Nat.lt_or_ge i k with hlt|hge
    ·rcases Nat.lt_or_ge i t.size with hl|hl
     ·have c1:((i:Int)==(t.size:Int))=false:=by simp;omega
      have c1':(i==t.size)=false:=by simp;omega
      have bi:=byteAt_eq hl
      have bl:=byteAt_lt t i
      have hg:=list_get hl
      have hv:val (t.data.toList.take i)<72057594037927936:=by
       have:=val_lt (t.data.toList.take i)
       have h2:256^(t.data.toList.take i).length≤256^7:=Nat.pow_le_pow_right (by omega) (by simp;omega)
       have h3:(256:Nat)^7=72057594037927936:=by decide
       omega
      have SN:Hid (val (t.data.toList.take (i+1))=val (t.data.toList.take i)*256+byteAt t i):=Lib.hid (by
       rw [List.take_add_one,hg]
       simp only [Option.toList]
       rw [val_snoc,UInt8.toNat_ofNat'];omega)
      have HD:Hid (i=0→t.data.toList.head?=some (UInt8.ofNat (byteAt t i))):=Lib.hid (fun e=>by subst e;rw [List.head?_eq_getElem?];exact hg)
      clear hg
      generalize byteAt t i=c at *
      generalize val (t.data.toList.take i)=q at *
      have J:=join_byte hv bl
      have m1:(q:Int)*256%18446744073709551616=(q:Int)*256:=by omega
      have m2:(c:Int)%18446744073709551616=(c:Int):=by omega
      have J1:=Lib.hid J
      clear J
      by_cases hc0:i=0∧c=0
      ·obtain ⟨rfl,rfl⟩:=hc0
       have NR:=Lib.hid (nextR_none (l:=s.data.toList) (by
        rw [EL.out,dec_cons,ku.out,if_neg]
        rintro ⟨-,-,h3⟩
        apply h3
        have:=HD.out rfl
        cases hl:t.data.toList with
        | nil=>rw [hl] at this;cases this
        | cons x y=>
         rw [hl] at this
         obtain ⟨k',rfl⟩:∃ k',k=k'+1:=⟨k-1,by omega⟩
         simpa using this))
       clear EL ku HD SN HH J1 m1 m2
       go_wp2
       simp only [Exit.noGoto]
       refine bodyPost_ret (v:=.tuple #[.int .u64 0,.string ⟨#[]⟩,.bool false]) (by simp [results,Tryz.results196,go_sem]) rfl ⟨by rw [NR.out],BW⟩
      ·have HC:Hid (t.data.toList.head?≠some 0):=Lib.hid (by
        rcases Nat.eq_zero_or_pos i with e|e
        ·rw [HD.out e]
         intro e2
         have e3:(UInt8.ofNat c).toNat=0:=by rw [Option.some.inj e2];rfl
         rw [UInt8.toNat_ofNat'] at e3
         exact hc0 ⟨e,by omega⟩
        · exact HH.out e)
       by_cases i0:i=0
       ·subst i0
        have c2:((c:Int)==0)=false:=by simp;omega
        clear HH HD EL ku hc0
        go_wp2
        go_roundg (gk-1)
        case measure=>omega
        case rel=>exact ⟨0+1,by omega,by omega,by rw [SN.out,← J1.out],rfl,by go_num,fun _=>HC.out,rfl⟩
       ·have c2:((i:Int)==0)=false:=by simp;omega
        clear HH HD EL ku hc0
        go_wp2
        go_roundg (gk-1)
        case measure=>omega
        case rel=>exact ⟨i+1,by omega,by omega,by rw [SN.out,← J1.out],rfl,by go_num,fun _=>HC.out,rfl⟩
     ·have e:i=t.size:=by omega
      subst e
      have NR:=Lib.hid (nextR_none (l:=s.data.toList) (by
       rw [EL.out,dec_cons,ku.out,if_neg]
       rintro ⟨-,h2,-⟩
       rw [list_size] at h2
       omega))
      clear EL ku HH
      go_wp2
      simp only [Exit.noGoto]
      refine bodyPost_ret (v:=.tuple #[.int .u64 0,.string ⟨#[]⟩,.bool false]) (by simp [results,Tryz.results196,go_sem]) rfl ⟨by rw [NR.out],BW⟩
    ·have e:i=k:=by omega
     subst e
     have ex:t.extract i t.size=mkB (t.data.toList.drop i):=mkB_ext (by rw [extract_list,List.take_of_length_le (by simp)])
     have NR:=Lib.hid (nextR_some (l:=s.data.toList) (n:=val (t.data.toList.take i)) (r:=t.data.toList.drop i) (by
      rw [EL.out,dec_cons,ku.out,if_pos]
      refine ⟨h8,by rw [list_size];exact hit,?_⟩
      rcases Nat.eq_zero_or_pos i with e|e
      · subst e;simp
      ·have:=HH.out e
       cases hl:t.data.toList with
       | nil=>simp
       | cons x y=>
        obtain ⟨k',rfl⟩:∃ k',i=k'+1:=⟨i-1,by omega⟩
        rw [hl] at this
        simpa using this))
     clear EL ku HH
     have i2:(i:Int)≤(t.size:Int):=by omega
     go_wp2
     go_quiet (fail)
     go_wp2
     simp only [Exit.noGoto]
     refine bodyPost_ret (v:=.tuple #[.int .u64 (val (t.data.toList.take i):Int),.string (mkB (t.data.toList.drop i)),.bool true]) (by simp [results,Tryz.results196,go_sem]) rfl ⟨by rw [NR.out],BW.trans ((below_drewN _ _).mono BW.size)⟩
  ·have h9:8<k:=by omega
   rw [nextR_none (by rw [EL.out,dec_cons,ku.out,if_neg (by omega)])]
   clear h8 EL ku
   go_enter Tryz.func196,Tryz.ntmps196
   go_wp2_with fail
   go_step3
   go_wp2
   simp only [Exit.noGoto]
   exact bodyPost_ret (v:=.tuple #[.int .u64 0,.string ⟨#[]⟩,.bool false]) (by simp [results,Tryz.results196,go_sem]) rfl ⟨rfl,Below.refl _ _⟩
end Go.Proofs.YteempfoajgblaaaGreat.Oc
namespace Go.Proofs.YteempfoajgblaaaGreat.Oc
def Rd (T b:Nat) (o:St) (w:World):Prop:=match o with
 | some l=>w.heap[b]?=some (.cells #[.string (mkB l),.bool false] T (0,0))
 | none=>∃ s,w.heap[b]?=some (.cells #[.string s,.bool true] T (0,0))
theorem Rd.cells {T b:Nat} {o:St} {w:World} (k:Rd T b o w):∃ s,w.heap[b]?=some (.cells #[.string s,.bool (!o.isSome)] T (0,0)):=by
 cases o with
 | none=>exact k
 | some l=>exact ⟨_,k⟩
theorem Rd.of_block {T b:Nat} {o:St} {w w':World} (k:Rd T b o w) (h:w'.heap[b]?=w.heap[b]?):Rd T b o w':=by
 cases o with
 | none=>obtain ⟨s,hs⟩:=k;exact ⟨s,h.trans hs⟩
 | some l=>exact h.trans k
theorem Rd.lt {T b:Nat} {o:St} {w:World} (k:Rd T b o w):b<w.heap.size:=by obtain ⟨s,h⟩:=k.cells;exact lt_of_heap h
theorem Rd.call {T b:Nat} {o:St} {w w':World} (k:Rd T b o w) (h:Below w.heap.size w w'):Rd T b o w':=k.of_block (h.block b k.lt)
abbrev RC:Nat:=253
theorem good_any (b:Nat) (o:St) (w:World) (k:Rd RC b o w) :
 Calls Tryz.prog 128 #[self b] w fun e w'=>e=.returned (.bool o.isSome)∧w'=w:=by
 obtain ⟨s,hs⟩:=k.cells
 have c1:w.cell? ⟨b,1,none⟩=some (.bool (!o.isSome)):=by rw [Lib.cell_of_heap hs];rfl
 clear hs k
 go_enter Tryz.func128,Tryz.ntmps128
 go_wp2
 go_ret
 exact ⟨rfl,rfl⟩
theorem spoil_any (b:Nat) (o:St) (w:World) (k:Rd RC b o w) :
 Calls Tryz.prog 164 #[self b] w fun e w'=>e=.returned (.tuple #[])∧Rd RC b none w'∧Apart b w w':=by
 obtain ⟨s,hs⟩:=k.cells
 have c0:w.cell? ⟨b,0,none⟩=some (.string s):=by rw [Lib.cell_of_heap hs];rfl
 have c1:w.cell? ⟨b,1,none⟩=some (.bool (!o.isSome)):=by rw [Lib.cell_of_heap hs];rfl
 have f0:w.frozen? ⟨b,0,none⟩=false:=Lib.frozen_of_heap hs 0
 have f1:w.frozen? ⟨b,1,none⟩=false:=Lib.frozen_of_heap hs 1
 clear k
 go_enter Tryz.func164,Tryz.ntmps164
 go_wp2
 go_end0
 refine ⟨rfl,⟨⟨#[]⟩,?_⟩,?_⟩
 · simp [World.setCell,Array.getElem?_modify,hs]
 · exact ((Apart.refl b w).setCell _ _).setCell _ _
theorem num_no {l:List UInt8} (h:dec l=none) (most:Nat):num (some l) most=(0,none):=by unfold num;simp only [h]
theorem num_le {l:List UInt8} {n most:Nat} {r:List UInt8} (h:dec l=some (n,r)) (hm:n≤most):num (some l) most=(n,some r):=by unfold num;simp only [h,if_pos hm]
theorem num_gt {l:List UInt8} {n most:Nat} {r:List UInt8} (h:dec l=some (n,r)) (hm:¬n≤most):num (some l) most=(0,none):=by unfold num;simp only [h,if_neg hm]
theorem num_rd (b:Nat) (o:St) (most:Nat) (w:World) (k:Rd RC b o w) (hm:most<18446744073709551616) (hl:left o≤1000000) :
 Calls Tryz.prog 165 #[self b,.int .u64 (most:Int)] w fun e w'=>e=.returned (.int .u64 ((num o most).1:Int))∧Rd RC b (num o most).2 w'∧Apart b w w':=by
 have GA:=Lib.hid (good_any b o w k)
 cases o with
 | none=>
  have K:=Lib.hid k
  clear k
  go_enter Tryz.func165,Tryz.ntmps165
  go_wp2_with fail
  (with_reducible refine GA.out.mono ?_)
  rintro e w1 ⟨rfl,rfl⟩
  go_wp2
  go_ret
  exact ⟨rfl,K.out,Apart.refl _ _⟩
 | some l=>
  have hs:w.heap[b]?=some (.cells #[.string (mkB l),.bool false] RC (0,0)):=k
  have c0:w.cell? ⟨b,0,none⟩=some (.string (mkB l)):=by rw [Lib.cell_of_heap hs];rfl
  have f0:w.frozen? ⟨b,0,none⟩=false:=Lib.frozen_of_heap hs 0
  have NX:=Lib.hid (fun w=>next_any (mkB l) w (by rw [mkB_size];exact hl))
  rw [mkB_data] at NX
  have K:=Lib.hid k
  clear k hs
  cases hd:dec l with
  | none=>
   rw [nextR_none hd] at NX
   rw [num_no hd]
   clear hd
   go_enter Tryz.func165,Tryz.ntmps165
   go_wp2_with fail
   (with_reducible refine GA.out.mono ?_)
   rintro e w1 ⟨rfl,rfl⟩
   clear GA
   go_wp2_with fail
   (with_reducible refine (NX.out _).mono ?_)
   rintro e w2 ⟨rfl,b2⟩
   have K2:=K.out.call b2
   clear K NX c0 f0
   go_wp2_with fail
   (with_reducible refine (spoil_any _ _ _ K2).mono ?_)
   rintro e w3 ⟨rfl,k3,a3⟩
   have H:=Lib.hid (And.intro k3 ((Apart.of_below (b:=b) b2).trans a3))
   clear k3 a3 b2 K2
   go_wp2
   go_ret
   exact ⟨rfl,H.out⟩
  | some x=>
   obtain ⟨n,r⟩:=x
   rw [nextR_some hd] at NX
   have hn64:=(dec_some hd).2
   by_cases hle:n≤most
   ·rw [num_le hd hle]
    clear hd
    go_enter Tryz.func165,Tryz.ntmps165
    go_wp2_with fail
    (with_reducible refine GA.out.mono ?_)
    rintro e w1 ⟨rfl,rfl⟩
    clear GA
    go_wp2_with fail
    (with_reducible refine (NX.out _).mono ?_)
    rintro e w2 ⟨rfl,b2⟩
    have K2:=K.out.call b2
    have hs:w2.heap[b]?=some (.cells #[.string (mkB l),.bool false] RC (0,0)):=K2
    have c2:w2.cell? ⟨b,0,none⟩=some (.string (mkB l)):=by rw [Lib.cell_of_heap hs];rfl
    have f2:w2.frozen? ⟨b,0,none⟩=false:=Lib.frozen_of_heap hs 0
    have H:Hid (Rd RC b (some r) (w2.setCell ⟨b,0,none⟩ (.string (mkB r)))∧Apart b w1 (w2.setCell ⟨b,0,none⟩ (.string (mkB r)))):=Lib.hid ⟨by
     show (w2.setCell ⟨b,0,none⟩ (.string (mkB r))).heap[b]?=_
     simp [World.setCell,Array.getElem?_modify,hs],(Apart.of_below (b:=b) b2).setCell _ _⟩
    clear K K2 NX c0 f0 b2 hs
    go_wp2
    go_ret
    exact ⟨rfl,H.out⟩
   ·rw [num_gt hd hle]
    have hgt:(most:Int)<(n:Int):=by omega
    clear hd hle
    go_enter Tryz.func165,Tryz.ntmps165
    go_wp2_with fail
    (with_reducible refine GA.out.mono ?_)
    rintro e w1 ⟨rfl,rfl⟩
    clear GA
    go_wp2_with fail
    (with_reducible refine (NX.out _).mono ?_)
    rintro e w2 ⟨rfl,b2⟩
    have K2:=K.out.call b2
    clear K NX c0 f0
    go_wp2_with fail
    (with_reducible refine (spoil_any _ _ _ K2).mono ?_)
    rintro e w3 ⟨rfl,k3,a3⟩
    have H:=Lib.hid (And.intro k3 ((Apart.of_below (b:=b) b2).trans a3))
    clear k3 a3 b2 K2
    go_wp2
    go_ret
    exact ⟨rfl,H.out⟩
theorem int_rd (b:Nat) (o:St) (most:Int) (w:World) (k:Rd RC b o w) (hm:(Lit.int .i64 most).wf=true) (hl:left o≤1000000) :
 Calls Tryz.prog 126 #[self b,.int .i64 most] w fun e w'=>e=.returned (.int .i64 ((int o most).1:Int))∧Rd RC b (int o most).2 w'∧Apart b w w':=by
 have hb : -9223372036854775808≤most∧most≤9223372036854775807:=by
  simp [Lit.wf,IntKind.min,IntKind.max,IntKind.bits,IntKind.signed] at hm;omega
 clear hm
 by_cases h0:most<0
 ·have e:int o most=(0,none):=if_pos h0
  rw [e]
  have SP:=Lib.hid (spoil_any b o w k)
  clear k e
  go_enter Tryz.func126,Tryz.ntmps126
  go_wp2_with fail
  (with_reducible refine SP.out.mono ?_)
  rintro e w1 ⟨rfl,hf⟩
  have H:=Lib.hid hf
  clear hf SP
  go_wp2
  go_ret
  exact ⟨rfl,H.out⟩
 ·have e:int o most=num o most.toNat:=if_neg h0
  have h1:0≤most:=by omega
  rw [e]
  have NR:=Lib.hid (num_rd b o most.toNat w k (by omega) hl)
  have hmo:=num_most o most.toNat
  generalize num o most.toNat=x at *
  obtain ⟨n,o'⟩:=x
  simp only at hmo NR ⊢
  rw [show (most.toNat:Int)=most by omega] at NR
  have hn:n≤9223372036854775807:=by omega
  clear k e h0 hmo
  go_enter Tryz.func126,Tryz.ntmps126
  go_wp2_with fail
  (with_reducible refine NR.out.mono ?_)
  rintro e w1 ⟨rfl,hf⟩
  have H:=Lib.hid hf
  clear hf NR
  go_wp2
  go_ret
  exact ⟨rfl,H.out⟩
theorem flag_rd (b:Nat) (o:St) (w:World) (k:Rd RC b o w) (hl:left o≤1000000) :
 Calls Tryz.prog 167 #[self b] w fun e w'=>e=.returned (.bool (flag o).1)∧Rd RC b (flag o).2 w'∧Apart b w w':=by
 have NR:Hid (Calls Tryz.prog 165 #[self b,.int .u64 1] w fun e w'=>e=.returned (.int .u64 ((num o 1).1:Int))∧Rd RC b (num o 1).2 w'∧Apart b w w'):=Lib.hid (num_rd b o 1 w k (by omega) hl)
 have e1:(flag o).1=((num o 1).1==1):=rfl
 have e2:(flag o).2=(num o 1).2:=rfl
 rw [e1,e2]
 generalize num o 1=x at *
 obtain ⟨n,o'⟩:=x
 simp only at NR ⊢
 have d:((n:Int)==1)=(n==1):=by rw [Bool.eq_iff_iff];simp;omega
 clear k e1 e2
 go_enter Tryz.func167,Tryz.ntmps167
 go_wp2_with fail
 (with_reducible refine NR.out.mono ?_)
 rintro e w1 ⟨rfl,hf⟩
 have H:=Lib.hid hf
 clear hf NR
 go_wp2
 go_ret
 exact ⟨rfl,H.out⟩
theorem toList_mkB (l:List UInt8):(mkB l).toList=l:=by rw [ByteArray.toList_eq,mkB_data]
theorem end_rd (b:Nat) (o:St) (w:World) (k:Rd RC b o w) :
 Calls Tryz.prog 129 #[self b] w fun e w'=>e=.returned (.bool (ended o))∧w'=w:=by
 have GA:=Lib.hid (good_any b o w k)
 cases o with
 | none=>
  clear k
  go_enter Tryz.func129,Tryz.ntmps129
  go_wp2_with fail
  (with_reducible refine GA.out.mono ?_)
  rintro e w1 ⟨rfl,rfl⟩
  go_wp2
  go_ret
  exact ⟨rfl,rfl⟩
 | some l=>
  have hs:w.heap[b]?=some (.cells #[.string (mkB l),.bool false] RC (0,0)):=k
  have c0:w.cell? ⟨b,0,none⟩=some (.string (mkB l)):=by rw [Lib.cell_of_heap hs];rfl
  have e:ended (some l)=l.isEmpty:=by unfold ended;cases l <;> rfl
  have tl:=toList_mkB l
  rw [e]
  clear k hs e
  go_enter Tryz.func129,Tryz.ntmps129
  go_wp2_with fail
  (with_reducible refine GA.out.mono ?_)
  rintro e w1 ⟨rfl,rfl⟩
  go_wp2
  go_ret
  exact ⟨rfl,rfl⟩
theorem read_any (s:ByteArray) (w:World) :
 Calls Tryz.prog 125 #[.string s] w fun e w'=>e=.returned (self w.heap.size)∧w'=w.alloc (.cells #[.string s,.bool false] RC):=by
 go_enter Tryz.func125,Tryz.ntmps125
 go_wp2
 go_ret
 exact ⟨rfl,rfl⟩
end Go.Proofs.YteempfoajgblaaaGreat.Oc
namespace Go.Proofs.YteempfoajgblaaaGreat.Oc
end Go.Proofs.YteempfoajgblaaaGreat.Oc
namespace Go.Proofs.YteempfoajgblaaaGreat.Oc
end Go.Proofs.YteempfoajgblaaaGreat.Oc
namespace Go.Proofs.YteempfoajgblaaaGreat.Oc
end Go.Proofs.YteempfoajgblaaaGreat.Oc
namespace Go.Proofs.YteempfoajgblaaaGreat.Oc
end Go.Proofs.YteempfoajgblaaaGreat.Oc
namespace Go.Proofs.YteempfoajgblaaaGreat.Oc
end Go.Proofs.YteempfoajgblaaaGreat.Oc
namespace Go.Proofs.YteempfoajgblaaaGreat.Oc
theorem BAt.of_blocks {B b:Nat} {p h:Value} {l:List UInt8} {w w':World} (k:BAt B b p h l w) (hb:w'.heap[b]?=w.heap[b]?) (hg:∀ g,bufOf w b=some g→w'.heap[g]?=w.heap[g]?):BAt B b p h l w':=by
 obtain ⟨hB,v,hbk,hown,hn⟩:=k
 refine ⟨hB,v,hb.trans hbk,⟨hown.1,?_⟩,hn⟩
 rcases hown.2 with e|⟨g,cap,cur,fz,rfl,hbg,hgg,rest⟩
 · exact .inl e
 · exact .inr ⟨g,cap,cur,fz,rfl,hbg,by rw [hg g (by rw [bufOf_eq hbk];rfl)];exact hgg,rest⟩
theorem BAt.buf_lt {B b:Nat} {p h:Value} {l:List UInt8} {w:World} (k:BAt B b p h l w):∀ g,bufOf w b=some g→B≤g∧g<w.heap.size:=by
 obtain ⟨hB,v,hbk,hown,hn⟩:=k
 intro g hg
 rw [bufOf_eq hbk] at hg
 exact hown.lt g hg
theorem Wr.lt {B b:Nat} {l:List UInt8} {w:World} (k:Wr B b l w):b<w.heap.size:=by obtain ⟨p,h,k,_⟩:=k;exact k.lt
theorem Wr.buf_lt {B b:Nat} {l:List UInt8} {w:World} (k:Wr B b l w):∀ g,bufOf w b=some g→B≤g∧g<w.heap.size:=by obtain ⟨p,h,k,_⟩:=k;exact k.buf_lt
theorem Wr.of_blocks {B b:Nat} {l:List UInt8} {w w':World} (k:Wr B b l w) (hb:w'.heap[b]?=w.heap[b]?) (hg:∀ g,bufOf w b=some g→w'.heap[g]?=w.heap[g]?):Wr B b l w':=by
 obtain ⟨p,h,k,e⟩:=k;exact ⟨p,h,k.of_blocks hb hg,e⟩
theorem Wr.call {B b:Nat} {l:List UInt8} {w w':World} (k:Wr B b l w) (h:Below w.heap.size w w'):Wr B b l w' :=
 k.of_blocks (h.block b k.lt) (fun g hg=>h.block g (k.buf_lt g hg).2)
theorem Wr.buf_ne {B b:Nat} {l:List UInt8} {w:World} (k:Wr B b l w) {c:Nat} {cs:Array Value} {T:TypeId} {fz:Nat×Nat} (hc:w.heap[c]?=some (.cells cs T fz)) (hT:T≠5):bufOf w b≠some c:=by
 obtain ⟨p,h,k,e⟩:=k
 obtain ⟨hB,v,hbk,hown,hn⟩:=k
 rw [bufOf_eq hbk]
 exact neF hown hc hT
theorem Wr.below {B b:Nat} {l:List UInt8} {w w':World} (k:Wr B b l w) (m:Moved b w w') (hs:B≤w.heap.size):Below B w w':=by
 obtain ⟨p,h,k,e⟩:=k;exact m.below k hs
end Go.Proofs.YteempfoajgblaaaGreat.Oc
namespace Go.Proofs.YteempfoajgblaaaGreat.Oc
theorem own:ownKnob Tryz.prog.godebug=none:=by kernel_rfl
end Go.Proofs.YteempfoajgblaaaGreat.Oc
