/- Package registry's calls, by what the journal's calls do. -/
import Derived.Test.YteempfoajgblaaaGreatLQB
import Derived.Test.YteempfoajgblaaaGreatLRgN
import Derived.Test.YteempfoajgblaaaGreatLMTn
import Derived.Test.YteempfoajgblaaaGreatLMTw
import Derived.BigRegion
import Derived.BigQuiet
import Derived.StillTailTactics
set_option maxRecDepth 100000
set_option linter.unusedVariables false
set_option linter.unusedSimpArgs false
open Go.ChangeShapes Go.WideShapes Go.ChangeAt Go.RowKit Go.Joins
set_option maxHeartbeats 8000000
namespace Go.Proofs.YteempfoajgblaaaGreat.Rg
open Dk (Dk DS Own Moved ptr)
open Jn (JL Jt Jd Kp Since)
open Ox (Od chkR encO)
open Pm (Tk)
open Ju (mayR fitsR)
open Tb (Rw tb0 applyR Bos bos_nil cell2 readT replayR encT chkT xcs tv)
open Ge (Seen)
theorem replay_in (s:Nat) (pj rv mv pd kv dv:Value) (oo:Option Addr) (n oc:Nat) (w:World) (h:StAt w s pj rv mv pd kv dv (.slice oo n oc)) (T:Tb.Tb) (c:Int)
 (hR:∀ W,Below w.heap.size w W→Calls Tryz.prog 82 #[.agg #[rv,mv],.slice oo n oc] W fun x w'=>∃ v,x=.returned (.tuple #[v,.int .i64 c])∧Tb.Told v T w'∧Below W.heap.size W w') :
 Calls Tryz.prog 45 #[ptr s] w fun e w'=>∃ ao cap w1,Tb.Sl (.slice ao T.rows.length cap) T.rows w1 ao cap∧Below w.heap.size w w1∧((c<(n:Int)∧e=.returned (.int .i64 10)∧w'=w1)∨(¬c<(n:Int)∧e=.returned (.int .i64 0)∧w'=(w1.setCell ⟨s,1,none⟩ (.slice ao T.rows.length cap)).setCell ⟨s,2,none⟩ (.int .i64 T.mode))):=by
 have RP:=Lib.hid hR
 have HX:=Lib.hid (bos_nil w).drew
 have SC:Hid (∀ W,Below w.heap.size w W→W.cell? ⟨s,1,none⟩=some rv∧W.cell? ⟨s,2,none⟩=some mv∧W.cell? ⟨s,6,none⟩=some (.slice oo n oc)):=Lib.hid (fun W hb=>⟨(h.call hb).c1,(h.call hb).c2,(h.call hb).c6⟩)
 have SF:Hid (∀ W,Below w.heap.size w W→∀ o,W.frozen? ⟨s,o,none⟩=false):=Lib.hid (fun W hb o=>(h.call hb).fz o)
 clear hR h
 go_enter Tryz.func45,Tryz.ntmps45
 go_wp2_with fail
 refine wp_region_held_drew (S:=(fun W'=>W'.cell? ⟨s,1,none⟩=some rv∧W'.cell? ⟨s,2,none⟩=some mv∧W'.cell? ⟨s,6,none⟩=some (.slice oo n oc))) (by kernel_rfl) (SC.out _ HX.out.bl) (fun hHeld=>?_)
 refine Gh.tk 0 ?_
 refine Gh.tk 1 ?_
 refine Gh.tk 2 ?_
 refine Gh.tk 3 ?_
 refine Gh.tk 4 ?_
 refine Gh.tk 5 ?_
 refine Gh.tk 6 ?_
 refine Gh.tk 7 ?_
 refine Gh.tk 8 ?_
 refine Gh.tk 9 ?_
 refine wpAnyH_ready (rs:=[10,14]) (by kernel_rfl) (by simp) ?_
 refine AllReadyH.cons rfl (fun K hK=>?_) ?_
 ·go_simp
  (with_reducible refine (RP.out _ HX.out.bl).mono ?_)
  rintro e w2 ⟨v,rfl,⟨ao,cap,rfl,sn⟩,b2⟩
  have HX:=Lib.hid (HX.out.call b2)
  have SN:=Lib.hid sn
  clear b2 sn
  unfold Tb.tv
  go_simp
  refine hK.out _ _ (SC.out _ HX.out.bl) (fun hHeld=>?_)
  clear hK K
  refine Gh.pt ?_
  refine Gh.tk 11 ?_
  refine Gh.tk 12 ?_
  refine Gh.tk 13 ?_
  refine Gh.rd 14 (fun K hK=>?_)
  have HY:=Lib.hid HX.out
  have SNY:=Lib.hid SN.out
  have HX:=Lib.hid (HX.out.new #[.slice none 0 0,.int .i64 0] 52)
  have SN:=Lib.hid (SN.out.call ((Below.refl _ _).alloc (Nat.le_refl _) (.cells #[.slice none 0 0,.int .i64 0] 52)))
  go_simp
  refine hK.out _ _ (SC.out _ HX.out.bl) (fun hHeld=>?_)
  clear hK K
  refine Gh.pt ?_
  refine Gh.rd 15 (fun K hK=>?_)
  have HX:=Lib.hid (HY.out.new #[.slice ao T.rows.length cap,.int .i64 T.mode] 52)
  have SN:=Lib.hid (SNY.out.call ((Below.refl _ _).alloc (Nat.le_refl _) (.cells #[.slice ao T.rows.length cap,.int .i64 T.mode] 52)))
  go_simp
  refine hK.out _ _ (SC.out _ HX.out.bl) (fun hHeld=>?_)
  clear hK K
  refine Gh.pt ?_
  refine Gh.tk 16 ?_
  refine wpAnyH_done (by kernel_rfl) ?_ _
  obtain ⟨y0,y1⟩:=cell2 (HX.out.cell 0 rfl)
  obtain ⟨c1,c2,c6⟩:=SC.out _ HX.out.bl
  have f1:=SF.out _ HX.out.bl 1
  have f2:=SF.out _ HX.out.bl 2
  by_cases hlt:c<(n:Int)
  ·have hl2:decide (c<(n:Int))=true:=by simp [hlt]
   have FIN:=Lib.hid hlt
   go_wp2
   go_ret
   first|exact ⟨ao,cap,_,SN.out,HX.out.bl,.inl ⟨FIN.out,rfl,rfl⟩⟩|exact ⟨ao,cap,_,SN.out,HX.out.bl,.inl ⟨rfl,rfl⟩⟩|exact ⟨ao,cap,_,SN.out,HX.out.bl,rfl,rfl⟩
  ·have hl2:decide (c<(n:Int))=false:=by simp [hlt]
   have FIN:=Lib.hid hlt
   go_wp2
   go_ret
   first|exact ⟨ao,cap,_,SN.out,HX.out.bl,.inr ⟨by have:=FIN.out;omega,rfl,rfl⟩⟩|exact ⟨ao,cap,_,SN.out,HX.out.bl,.inr ⟨rfl,rfl⟩⟩|exact ⟨ao,cap,_,SN.out,HX.out.bl,rfl,rfl⟩
 refine AllReadyH.cons rfl (fun K hK=>?_) ?_
 ·have HY:=Lib.hid HX.out
  have HX:=Lib.hid (((bos_nil w).new #[.slice none 0 0,.int .i64 0] 52).drew)
  go_simp
  refine hK.out _ _ (SC.out _ HX.out.bl) (fun hHeld=>?_)
  clear hK K
  refine Gh.pt ?_
  refine Gh.rd 10 (fun K hK=>?_)
  go_simp
  (with_reducible refine (RP.out _ HX.out.bl).mono ?_)
  rintro e w2 ⟨v,rfl,⟨ao,cap,rfl,sn⟩,b2⟩
  have HX:=Lib.hid (HX.out.call b2)
  have SN:=Lib.hid sn
  clear b2 sn
  unfold Tb.tv
  go_simp
  refine hK.out _ _ (SC.out _ HX.out.bl) (fun hHeld=>?_)
  clear hK K
  refine Gh.pt ?_
  refine Gh.tk 11 ?_
  refine Gh.tk 12 ?_
  refine Gh.tk 13 ?_
  refine Gh.rd 15 (fun K hK=>?_)
  obtain ⟨c0,c1⟩:=cell2 (HX.out.cell 0 rfl)
  have cf:=HX.out.fz 0 rfl
  have SN:=Lib.hid ((SN.out.set HX.out 0 rfl (by simp) 0 (.slice ao T.rows.length cap)).set (HX.out.set 0 rfl 0 (.slice ao T.rows.length cap)) 0 rfl (by simp) 1 (.int .i64 T.mode))
  have HX:=Lib.hid ((HX.out.set 0 rfl 0 (.slice ao T.rows.length cap)).set 0 rfl 1 (.int .i64 T.mode))
  go_simp
  refine hK.out _ _ (SC.out _ HX.out.bl) (fun hHeld=>?_)
  clear hK K
  refine Gh.pt ?_
  refine Gh.tk 16 ?_
  refine wpAnyH_done (by kernel_rfl) ?_ _
  obtain ⟨y0,y1⟩:=cell2 (HX.out.cell 0 rfl)
  obtain ⟨c1,c2,c6⟩:=SC.out _ HX.out.bl
  have f1:=SF.out _ HX.out.bl 1
  have f2:=SF.out _ HX.out.bl 2
  by_cases hlt:c<(n:Int)
  ·have hl2:decide (c<(n:Int))=true:=by simp [hlt]
   have FIN:=Lib.hid hlt
   go_wp2
   go_ret
   first|exact ⟨ao,cap,_,SN.out,HX.out.bl,.inl ⟨FIN.out,rfl,rfl⟩⟩|exact ⟨ao,cap,_,SN.out,HX.out.bl,.inl ⟨rfl,rfl⟩⟩|exact ⟨ao,cap,_,SN.out,HX.out.bl,rfl,rfl⟩
  ·have hl2:decide (c<(n:Int))=false:=by simp [hlt]
   have FIN:=Lib.hid hlt
   go_wp2
   go_ret
   first|exact ⟨ao,cap,_,SN.out,HX.out.bl,.inr ⟨by have:=FIN.out;omega,rfl,rfl⟩⟩|exact ⟨ao,cap,_,SN.out,HX.out.bl,.inr ⟨rfl,rfl⟩⟩|exact ⟨ao,cap,_,SN.out,HX.out.bl,rfl,rfl⟩
 exact AllReadyH.nil
def Nw (T:TypeId):Prop:=Jr T∧T≠123
instance (T:TypeId):Decidable (Nw T):=by unfold Nw;infer_instance
structure Stay (p:Nat) (Q:World→Prop):Prop where
 call:∀ u v,Q u→Below u.heap.size u v→Q v
 set:∀ u o x cs T,Q u→u.heap[p]?=some (.cells cs T (0,0))→Nw T→Q (u.setCell ⟨p,o,none⟩ x)
section
variable {B b j l q k n nx N E f r p:Nat} {d:List UInt8} {ops S:List (List UInt8)} {w0 w:World} {s:DS}
theorem stay_and {P Q:World→Prop} (hP:Stay p P) (hQ:Stay p Q):Stay p (fun u=>P u∧Q u):=
 ⟨fun u v h hb=>⟨hP.call u v h.1 hb,hQ.call u v h.2 hb⟩,fun u o x cs T h h1 h2=>⟨hP.set u o x cs T h.1 h1 h2,hQ.set u o x cs T h.2 h1 h2⟩⟩
theorem stay_ex {α:Type} {P:α→World→Prop} (hP:∀ a,Stay p (P a)):Stay p (fun u=>∃ a,P a u):=
 ⟨fun u v ⟨a,h⟩ hb=>⟨a,(hP a).call u v h hb⟩,fun u o x cs T ⟨a,h⟩ h1 h2=>⟨a,(hP a).set u o x cs T h h1 h2⟩⟩
theorem stay_const (P:Prop):Stay p (fun _=>P):=⟨fun _ _ h _=>h,fun _ _ _ _ _ h _ _=>h⟩
theorem stay_jl (hB:B≤p) (hW:w0.heap.size≤p):Stay p (fun u=>JL B b j l q k n nx N E d ops S f r w0 u):=
 ⟨fun u v h hb=>h.call hb,fun u o x cs T h h1 h2=>⟨h.jn.setNew h1 h2.1.1 hB hW o x,h.ji⟩⟩
theorem below_set {u v:World} (h:Below B u v) (hB:B≤p) (o:Nat) (x:Value):Below B u (v.setCell ⟨p,o,none⟩ x):=
 h.trans ⟨rfl,rfl,rfl,by simp [World.setCell],fun i hi=>Below.heap_setCell v ⟨p,o,none⟩ x i (fun e=>by have e':i=p:=e;omega)⟩
theorem stay_dk (hB:B≤p):Stay p (fun u=>Dk B b s u∧Below B w0 u):=
 ⟨fun u v h hb=>⟨h.1.call hb,h.2.trans (hb.mono h.1.le)⟩,fun u o x cs T h h1 h2=>⟨Sl.Dk_setOther h.1 (by
  obtain ⟨g',v,d⟩:=h.1
  exact d.keepT h1 h2.1.1.1 h2.1.1.2.1 h2.1.1.2.2.1),below_set h.2 hB o x⟩⟩
end
theorem strs_seen {A:Nat} {w:World} {v:Value} {ops:List (List UInt8)} (h:Strs A w v ops):∃ oo oc,v=.slice oo ops.length oc∧Seen xcs 1 oo ops w:=by
 by_cases hne:ops=[]
 ·subst hne
  rcases h.2 with ⟨rfl,-⟩|⟨g,cap,cur,rfl,-⟩
  · exact ⟨none,0,rfl,Ge.seen_nil _ _⟩
  · exact ⟨some ⟨g,0,none⟩,cap,rfl,Ge.seen_nil _ _⟩
 ·obtain ⟨g,cap,rfl,hB,hg,hc⟩:=h.cell hne
  refine ⟨some ⟨g,0,none⟩,cap,rfl,fun _=>⟨g,0,rfl,hg,fun i x hi j u hj=>?_⟩⟩
  obtain ⟨hl,rfl⟩:=List.getElem?_eq_some_iff.1 hi
  match j,hj with
  | 0,hj=>
   have e:Value.string (mkB ops[i])=u:=Option.some.inj hj
   rw [← e,Nat.mul_one,Nat.zero_add,Nat.add_zero]
   exact hc i hl
  | j+1,hj=>simp [xcs] at hj
def opR (d:List UInt8) (ops:List (List UInt8)):Int×Tb.Tb:=
 if (readT d).2≠0 then ((readT d).2,tb0) else if (replayR (readT d).1 ops).2<ops.length then (10,tb0) else (fitsR (replayR (readT d).1 ops).1,(replayR (readT d).1 ops).1)
theorem opR_rep {d:List UInt8} {ops:List (List UInt8)} {T:Tb.Tb} (h:Rep d ops T):opR d ops=(0,T):=by
 unfold opR
 rw [if_neg (by simp [h.2.1]),h.1,if_neg (by simp)]
 simp only
 rw [h.2.2]
def opF (i:Nat):Nat:=match i with
 | 0=>43
 | 1=>44
 | 2=>45
 | _=>46
theorem op_enter (i:Nat) (args:Array Value) (w:World):(callFunc (opF i) args).run Tryz.prog w=.ok (.enter (opF i) args) w:=by
 match i with
 | 0=>exact enters_of Tryz.func43 (by kernel_rfl) rfl args w
 | 1=>exact enters_of Tryz.func44 (by kernel_rfl) rfl args w
 | 2=>exact enters_of Tryz.func45 (by kernel_rfl) rfl args w
 | n+3=>exact enters_of Tryz.func46 (by kernel_rfl) rfl args w
structure OpS (s p:Nat) (pd kv:Value) (w u:World) (j:Nat) (ao:Option Addr) (m cap:Nat) (md:Int) (d:List UInt8) (v:Value) (ops:List (List UInt8)):Prop where
 sn:Since w u
 sz:w.heap.size≤u.heap.size
 st:StAt u s (ptr j) (.slice ao m cap) (.int .i64 md) pd kv (.string (mkB d)) v
 row:RowF u p opF (ptr s)
 xs:Strs w.heap.size u v ops
 dl:d.length≤1000000
 ol:ops.length≤1000
 xl:∀ y∈ops,y.length≤1000000
theorem RowF.of {w w':World} {p:Nat} {F:Nat→Nat} {x:Value} (h:RowF w p F x) (k:w'.heap[p]?=w.heap[p]?):RowF w' p F x:=by unfold RowF at *;rw [k];exact h
theorem RowF.lt {w:World} {p:Nat} {F:Nat→Nat} {x:Value} (h:RowF w p F x):p<w.heap.size:=Dk.lt_of_heap h
section
variable {s p j m cap:Nat} {pd kv v:Value} {w u u':World} {ao:Option Addr} {md:Int} {d:List UInt8} {ops:List (List UInt8)}
theorem OpS.call (h:OpS s p pd kv w u j ao m cap md d v ops) (hb:Below u.heap.size u u'):OpS s p pd kv w u' j ao m cap md d v ops:=
 ⟨h.sn.call hb,Nat.le_trans h.sz hb.size,h.st.call hb,h.row.of (hb.block p h.row.lt),h.xs.call hb,h.dl,h.ol,h.xl⟩
theorem strs_set {A k:Nat} (h:Strs A u v ops) {cs:Array Value} {Y:TypeId} (hk:u.heap[k]?=some (.cells cs Y (0,0))) (hY:Y≠9) (o:Nat) (x:Value):Strs A (u.setCell ⟨k,o,none⟩ x) v ops:=
 Sl.strs_of h fun g hg=>by
  obtain ⟨cur,hc⟩:=Sl.strs_block h hg
  exact Below.heap_setCell u ⟨k,o,none⟩ x g (fun e=>by
   have e':g=k:=e
   rw [e',hk] at hc
   cases hc
   exact hY rfl)
theorem OpS.rows (h:OpS s p pd kv w u j ao m cap md d v ops) (hs:w.heap.size≤s) (hp:p≠s) (ao':Option Addr) (m' cap':Nat) (md':Int):OpS s p pd kv w ((u.setCell ⟨s,1,none⟩ (.slice ao' m' cap')).setCell ⟨s,2,none⟩ (.int .i64 md')) j ao' m' cap' md' d v ops:=
 ⟨(h.sn.set hs 1 _).set hs 2 _,by simpa [World.setCell] using h.sz,(h.st.s1 _).s2 _,h.row.of (by rw [Below.heap_setCell _ ⟨s,2,none⟩ _ p hp,Below.heap_setCell _ ⟨s,1,none⟩ _ p hp]),strs_set (strs_set h.xs h.st (by decide) 1 _) (h.st.s1 _) (by decide) 2 _,h.dl,h.ol,h.xl⟩
end
theorem sl_set {v:Value} {l:List Rw} {w:World} {ao:Option Addr} {cap:Nat} (h:Tb.Sl v l w ao cap) {p:Nat} {cs:Array Value} {Y:TypeId} {fz:Nat×Nat} (hp:w.heap[p]?=some (.cells cs Y fz)) (hY:Y≠123) (o:Nat) (x:Value):Tb.Sl v l (w.setCell ⟨p,o,none⟩ x) ao cap:=
 sl_kept h fun k ds gz hk=>by
  have hne:k≠p:=fun e=>by
   rw [e,hp] at hk
   simp only [Option.some.injEq,Obj.cells.injEq] at hk
   exact hY hk.2.1
  rw [Below.heap_setCell _ _ _ _ hne]
  exact hk
theorem sl_st {v:Value} {l:List Rw} {u:World} {ao:Option Addr} {cap s:Nat} {pj rv mv pd kv dv ov:Value} (h:Tb.Sl v l u ao cap) (hs:StAt u s pj rv mv pd kv dv ov) (x y:Value):Tb.Sl v l ((u.setCell ⟨s,1,none⟩ x).setCell ⟨s,2,none⟩ y) ao cap:=
 sl_set (sl_set h hs (by decide) 1 x) (hs.s1 x) (by decide) 2 y
def OpJ (s p:Nat) (pd kv:Value) (w:World) (Q:Nat→List UInt8→List (List UInt8)→World→Prop) (i:Nat) (u:World):Prop:=
 (i=0∧Below w.heap.size w u∧StAt u s (.pointer none) (.slice none 0 0) (.int .i64 0) pd kv (.string ⟨#[]⟩) (.slice none 0 0)∧RowF u p opF (ptr s)) ∨
 (i=1∧∃ j d ops v,OpS s p pd kv w u j none 0 0 0 d v ops∧Q j d ops u) ∨
 (i=2∧∃ j d ops v ao cap,OpS s p pd kv w u j ao (readT d).1.rows.length cap (readT d).1.mode d v ops∧Q j d ops u∧(readT d).2=0∧Tb.Sl (.slice ao (readT d).1.rows.length cap) (readT d).1.rows u ao cap) ∨
 (3≤i∧∃ j d ops v ao cap,OpS s p pd kv w u j ao (replayR (readT d).1 ops).1.rows.length cap (replayR (readT d).1 ops).1.mode d v ops∧Q j d ops u∧(readT d).2=0∧¬(replayR (readT d).1 ops).2<ops.length∧Tb.Sl (.slice ao (replayR (readT d).1 ops).1.rows.length cap) (replayR (readT d).1 ops).1.rows u ao cap∧(i=4→fitsR (replayR (readT d).1 ops).1=0))
def OpE (w:World) (QE:Int→World→Prop) (Q:Nat→List UInt8→List (List UInt8)→World→Prop) (c:Int) (u:World):Prop:=
 Since w u∧w.heap.size≤u.heap.size∧(QE c u∨∃ j d ops,Q j d ops u∧(opR d ops).1=c)
theorem readT_rows (d:List UInt8):(readT d).1.rows.length≤16:=by
 unfold readT
 cases h:Tb.readR d with
 | none=>decide
 | some t=>exact (Tb.chkT_iff.1 (Tb.readR_some h).1).2.2.1
theorem replay_rows (l:List (List UInt8)) (t:Tb.Tb) (h:t.rows.length≤16):(replayR t l).1.rows.length≤16:=by
 induction l generalizing t with
 | nil=>exact h
 | cons x l ih=>
  unfold replayR
  cases Ox.readR x with
  | none=>exact h
  | some o=>
   simp only
   by_cases e:(applyR t o).2=0
   · rw [if_pos e];exact ih _ (Ju.apply_len t o)
   · rw [if_neg e];exact h
section
variable {s p:Nat} {pd kv:Value} {w:World} {QE:Int→World→Prop} {Q:Nat→List UInt8→List (List UInt8)→World→Prop}
def JoQ (QE:Int→World→Prop) (Q:Nat→List UInt8→List (List UInt8)→World→Prop) (W:World) (x:Ending) (w':World):Prop:=
 Since W w'∧W.heap.size≤w'.heap.size∧((∃ c,c≠0∧x=.returned (.tuple #[.pointer none,Jn.noFound,.int .i64 c])∧QE c w')∨(∃ j v d ops,x=.returned (.tuple #[ptr j,.agg #[.string (mkB d),v],.int .i64 0])∧Strs W.heap.size w' v ops∧d.length≤1000000∧ops.length≤1000∧(∀ y∈ops,y.length≤1000000)∧Q j d ops w'))
theorem st_find (hs:s=w.heap.size) (hp:p=w.heap.size+1) (sE:∀ c,Stay s (QE c)) (sQ:∀ j d ops,Stay s (Q j d ops))
 (hJ:∀ W,Below w.heap.size w W→Calls Tryz.prog 80 #[pd,kv] W (JoQ QE Q W)) (u:World) (h:OpJ s p pd kv w Q 0 u) :
 Calls Tryz.prog 43 #[ptr s] u fun e w'=>∃ c,e=.returned (.int .i64 c)∧(c≠0→OpE w QE Q c w')∧(c=0→OpJ s p pd kv w Q 1 w'):=by
 rcases h with ⟨-,hb,h1,h2⟩|⟨h0,-⟩|⟨h0,-⟩|⟨h0,-⟩
 case inr.inl=>omega
 case inr.inr.inl=>omega
 case inr.inr.inr=>omega
 have hu:=hb.size
 have hsn:Since w u:=.below (Nat.le_refl _) hb
 refine (find_in s _ _ _ _ _ _ _ u h1 (fun a t vo vn vc c w'=>Since u w'∧u.heap.size≤w'.heap.size∧((c≠0∧QE c w')∨(c=0∧∃ j d ops,(.pointer a:Value)=ptr j∧t=mkB d∧Strs w.heap.size w' (.slice vo vn vc) ops∧d.length≤1000000∧ops.length≤1000∧(∀ y∈ops,y.length≤1000000)∧Q j d ops w'))) (fun W hW=>(hJ W (hb.trans (hW.mono hu))).mono fun x w' hx=>?_)).mono ?_
 ·obtain ⟨k1,k2,hx⟩:=hx
  have k0:Since u W:=.below (Nat.le_refl _) hW
  have z0:=hW.size
  have hst:StAt w' s (.pointer none) (.slice none 0 0) (.int .i64 0) pd kv (.string ⟨#[]⟩) (.slice none 0 0):=(k0.trans k1) _ _ _ _ h1 (by decide)
  rcases hx with ⟨c,hc,rfl,hq⟩|⟨j,v,d,ops,rfl,st,l1,l2,l3,hq⟩
  · exact ⟨none,⟨#[]⟩,none,0,0,c,rfl,⟨k0.trans k1,by omega,.inl ⟨hc,hq⟩⟩,hst⟩
  ·obtain ⟨oo,oc,rfl,-⟩:=strs_seen st
   exact ⟨_,_,_,_,_,0,rfl,⟨k0.trans k1,by omega,.inr ⟨rfl,j,d,ops,rfl,rfl,Sl.strs_mono st (by omega),l1,l2,l3,hq⟩⟩,hst⟩
 ·rintro e w' ⟨a,t,vo,vn,vc,c,w1,rfl,⟨k1,z1,hx⟩,hst,rfl⟩
  have i1:=hst.s0 (.pointer a)
  have i2:=i1.s5 (.string t)
  have i3:=i2.s6 (.slice vo vn vc)
  have hws:w.heap.size≤s:=by omega
  have sn:=(((hsn.trans k1).set hws 0 (.pointer a)).set hws 5 (.string t)).set hws 6 (.slice vo vn vc)
  have zz:w.heap.size≤(((w1.setCell ⟨s,0,none⟩ (.pointer a)).setCell ⟨s,5,none⟩ (.string t)).setCell ⟨s,6,none⟩ (.slice vo vn vc)).heap.size:=by simp [World.setCell];omega
  refine ⟨c,rfl,fun hc=>?_,fun hc=>?_⟩
  ·rcases hx with ⟨-,hq⟩|⟨h0,-⟩
   · exact ⟨sn,zz,.inl ((sE c).set _ 6 _ _ _ ((sE c).set _ 5 _ _ _ ((sE c).set _ 0 _ _ _ hq hst (by decide)) i1 (by decide)) i2 (by decide))⟩
   · exact absurd h0 hc
  ·rcases hx with ⟨h0,-⟩|⟨-,j,d,ops,hj,rfl,st,l1,l2,l3,hq⟩
   · exact absurd hc h0
   ·cases hj
    refine .inr (.inl ⟨rfl,j,d,ops,_,⟨sn,zz,i3,?_,?_,l1,l2,l3⟩,(sQ j d ops).set _ 6 _ _ _ ((sQ j d ops).set _ 5 _ _ _ ((sQ j d ops).set _ 0 _ _ _ hq hst (by decide)) i1 (by decide)) i2 (by decide)⟩)
    ·have hne:p≠s:=by omega
     refine RowF.of (w:=w1) (k1 _ _ _ _ h2 (by decide)) ?_
     rw [Below.heap_setCell _ ⟨s,6,none⟩ _ p hne,Below.heap_setCell _ ⟨s,5,none⟩ _ p hne,Below.heap_setCell _ ⟨s,0,none⟩ _ p hne]
    · exact strs_set (strs_set (strs_set st hst (by decide) 0 _) i1 (by decide) 5 _) i2 (by decide) 6 _
theorem st_read (hs:s=w.heap.size) (hp:p=w.heap.size+1) (sQ:∀ j d ops,Stay s (Q j d ops)) (u:World) (h:OpJ s p pd kv w Q 1 u) :
 Calls Tryz.prog 44 #[ptr s] u fun e w'=>∃ c,e=.returned (.int .i64 c)∧(c≠0→OpE w QE Q c w')∧(c=0→OpJ s p pd kv w Q 2 w'):=by
 rcases h with ⟨h0,-⟩|⟨-,j,d,ops,v,H,hq⟩|⟨h0,-⟩|⟨h0,-⟩
 case inl=>omega
 case inr.inr.inl=>omega
 case inr.inr.inr=>omega
 refine (read_in s _ _ _ _ _ _ _ u H.st (fun a n k m c w'=>(.slice a n k:Value)=.slice a (readT d).1.rows.length k∧m=(readT d).1.mode∧c=(readT d).2∧Tb.Sl (.slice a (readT d).1.rows.length k) (readT d).1.rows w' a k) (fun W hW=>(Tb.readt_any d W H.dl).mono fun x w' ⟨v,hx,⟨ao,cap,e,hsl⟩,hb⟩=>⟨ao,_,cap,_,_,by rw [hx,e];rfl,⟨rfl,rfl,rfl,hsl⟩,hb⟩)).mono ?_
 rintro e w' ⟨a,n,k,m,c,w1,rfl,⟨e1,rfl,rfl,hsl⟩,hb,rfl⟩
 have e2:n=(readT d).1.rows.length:=by cases e1;rfl
 subst e2
 have H1:=H.call hb
 have hne:p≠s:=by omega
 have HR:=H1.rows (by omega) hne a (readT d).1.rows.length k (readT d).1.mode
 have HQ:=(sQ j d ops).set _ 2 (.int .i64 (readT d).1.mode) _ _ ((sQ j d ops).set _ 1 (.slice a (readT d).1.rows.length k) _ _ ((sQ j d ops).call _ _ hq hb) H1.st (by decide)) (H1.st.s1 _) (by decide)
 refine ⟨_,rfl,fun hc=>⟨HR.sn,HR.sz,.inr ⟨j,d,ops,HQ,by unfold opR;rw [if_pos hc]⟩⟩,fun hc=>.inr (.inr (.inl ⟨rfl,j,d,ops,v,a,k,HR,HQ,hc,?_⟩))⟩
 exact sl_st hsl H1.st _ _
theorem st_replay (hs:s=w.heap.size) (hp:p=w.heap.size+1) (sQ:∀ j d ops,Stay s (Q j d ops)) (u:World) (h:OpJ s p pd kv w Q 2 u) :
 Calls Tryz.prog 45 #[ptr s] u fun e w'=>∃ c,e=.returned (.int .i64 c)∧(c≠0→OpE w QE Q c w')∧(c=0→OpJ s p pd kv w Q 3 w'):=by
 rcases h with ⟨h0,-⟩|⟨h0,-⟩|⟨-,j,d,ops,v,ao,cap,H,hq,hr,hsl⟩|⟨h0,-⟩
 case inl=>omega
 case inr.inl=>omega
 case inr.inr.inr=>omega
 obtain ⟨oo,oc,rfl,hx⟩:=strs_seen H.xs
 have hl:=readT_rows d
 refine (replay_in s _ _ _ _ _ _ oo ops.length oc u H.st (replayR (readT d).1 ops).1 ((replayR (readT d).1 ops).2:Int) (fun W hW=>Tb.replay_any (readT d).1 ops ao oo cap oc W (hsl.call hW) (by omega) (hx.below hW (Nat.le_refl _)) H.ol H.xl)).mono ?_
 rintro e w' ⟨a,k,w1,hsl1,hb,hh⟩
 have H1:=H.call hb
 have hne:p≠s:=by omega
 have hq1:=(sQ j d ops).call _ _ hq hb
 rcases hh with ⟨hlt,rfl,rfl⟩|⟨hge,rfl,rfl⟩
 ·refine ⟨10,rfl,fun _=>⟨H1.sn,H1.sz,.inr ⟨j,d,ops,hq1,?_⟩⟩,fun h=>absurd h (by decide)⟩
  unfold opR
  rw [if_neg (by simpa using hr),if_pos (by omega)]
 ·have HR:=H1.rows (by omega) hne a (replayR (readT d).1 ops).1.rows.length k (replayR (readT d).1 ops).1.mode
  refine ⟨0,rfl,fun h=>absurd rfl h,fun _=>.inr (.inr (.inr ⟨by omega,j,d,ops,_,a,k,HR,?_,hr,by omega,sl_st hsl1 H1.st _ _,fun h=>by omega⟩))⟩
  exact (sQ j d ops).set _ 2 _ _ _ ((sQ j d ops).set _ 1 _ _ _ hq1 H1.st (by decide)) (H1.st.s1 _) (by decide)
theorem st_fits (sQ:∀ j d ops,Stay s (Q j d ops)) (u:World) (h:OpJ s p pd kv w Q 3 u) :
 Calls Tryz.prog 46 #[ptr s] u fun e w'=>∃ c,e=.returned (.int .i64 c)∧(c≠0→OpE w QE Q c w')∧(c=0→OpJ s p pd kv w Q 4 w'):=by
 rcases h with ⟨h0,-⟩|⟨h0,-⟩|⟨h0,-⟩|⟨-,j,d,ops,v,ao,cap,H,hq,hr,hge,hsl,-⟩
 case inl=>omega
 case inr.inl=>omega
 case inr.inr.inl=>omega
 have hl:=replay_rows ops _ (readT_rows d)
 refine (fits_in s _ _ _ _ _ _ _ u H.st (fitsR (replayR (readT d).1 ops).1) (fun W hW=>Ju.fits_any _ ao cap W (hsl.seen.below hW (Nat.le_refl _)) (by omega))).mono ?_
 rintro e w' ⟨rfl,hb⟩
 have H1:=H.call hb
 have hq1:=(sQ j d ops).call _ _ hq hb
 refine ⟨_,rfl,fun hc=>⟨H1.sn,H1.sz,.inr ⟨j,d,ops,hq1,?_⟩⟩,fun hc=>.inr (.inr (.inr ⟨by omega,j,d,ops,v,ao,cap,H1,hq1,hr,hge,hsl.call hb,fun _=>hc⟩))⟩
 unfold opR
 rw [if_neg (by simpa using hr),if_neg hge]
end
def ChO (u:World) (s g:Nat) (o:Od) (ev nr nm:Value):Prop:=ChAt u s (ptr g) (.int .i64 o.kind) (.int .i64 o.task.id) (.int .i64 o.task.c) (.int .i64 o.task.d) (.int .i64 o.task.t) (.int .i64 o.task.m) (.bool o.server) (.int .i64 o.id) (.int .i64 o.c) (.int .i64 o.mode) ev nr nm
def doF (i:Nat):Nat:=match i with
 | 0=>50
 | 1=>51
 | 2=>52
 | _=>53
theorem do_enter (i:Nat) (args:Array Value) (w:World):(callFunc (doF i) args).run Tryz.prog w=.ok (.enter (doF i) args) w:=by
 match i with
 | 0=>exact enters_of Tryz.func50 (by kernel_rfl) rfl args w
 | 1=>exact enters_of Tryz.func51 (by kernel_rfl) rfl args w
 | 2=>exact enters_of Tryz.func52 (by kernel_rfl) rfl args w
 | n+3=>exact enters_of Tryz.func53 (by kernel_rfl) rfl args w
section
variable {g j:Nat} {v:Value} {x:Int} {u w:World}
theorem RAt.s1 (h:RAt u g j v x) (y:Value):RAt (u.setCell ⟨g,1,none⟩ y) g j y x:=by unfold RAt at *;simp [World.setCell,Array.getElem?_modify,h]
theorem RAt.s2 (h:RAt u g j v x) (y:Int):RAt (u.setCell ⟨g,2,none⟩ (.int .i64 y)) g j v y:=by unfold RAt at *;simp [World.setCell,Array.getElem?_modify,h]
theorem RAt.c0 (h:RAt u g j v x):u.cell? ⟨g,0,none⟩=some (ptr j):=by rw [Lib.cell_of_heap h];rfl
theorem RAt.c1 (h:RAt u g j v x):u.cell? ⟨g,1,none⟩=some v:=by rw [Lib.cell_of_heap h];rfl
theorem RAt.c2 (h:RAt u g j v x):u.cell? ⟨g,2,none⟩=some (.int .i64 x):=by rw [Lib.cell_of_heap h];rfl
theorem Kr.setR (h:Kr w u) (k:RAt u g j v x) (o:Nat) (y:Value):Kr w (u.setCell ⟨g,o,none⟩ y):=⟨fun i cs T fz hi hT=>by
 have h1:=h.keep i cs T fz hi hT
 rw [Below.heap_setCell u ⟨g,o,none⟩ y i (fun e=>by
  have e':i=g:=e
  unfold RAt at k
  rw [e',k] at h1
  cases h1
  exact hT.2 rfl)]
 exact h1⟩
end
def DoJ (s p g j:Nat) (T T2:Tb.Tb) (mc:Int) (o:Od) (ev:Value) (gd:Bool) (w:World) (Q0:World→Prop) (i:Nat) (u:World):Prop:=
 (i≤1∧(i=1→gd=true)∧Below w.heap.size w u∧ChO u s g o ev (.slice none 0 0) (.int .i64 0)∧RowF u p doF (ptr s)) ∨
 (i=2∧gd=true∧mc=0∧Below w.heap.size w u∧(∃ ao cap,ChO u s g o ev (.slice ao T2.rows.length cap) (.int .i64 T2.mode)∧Tb.Sl (.slice ao T2.rows.length cap) T2.rows u ao cap)∧RowF u p doF (ptr s)) ∨
 (i=3∧gd=true∧mc=0∧Q0 u∧Kr w u∧RM u g j T∧(∃ ao cap,ChO u s g o ev (.slice ao T2.rows.length cap) (.int .i64 T2.mode)∧Tb.Sl (.slice ao T2.rows.length cap) T2.rows u ao cap)∧RowF u p doF (ptr s)) ∨
 (i=4∧gd=true∧mc=0∧Q0 u∧Kr w u∧RM u g j T2)
def DoE (g j:Nat) (T:Tb.Tb) (mc:Int) (gd:Bool) (w:World) (Q:Int→World→Prop) (c:Int) (u:World):Prop:=
 Kr w u∧((gd=false∧c=18∧Below w.heap.size w u)∨(gd=true∧mc≠0∧c=mc∧Below w.heap.size w u)∨(gd=true∧mc=0∧Q c u∧RM u g j T))
theorem rowF_cell {T T2:Tb.Tb} {s p g j i:Nat} {mc:Int} {o:Od} {ev:Value} {gd:Bool} {w u:World} {Q0:World→Prop} (h:DoJ s p g j T T2 mc o ev gd w Q0 i u) (hi:i<4):RowF u p doF (ptr s):=by
 rcases h with ⟨-,-,-,-,h⟩|⟨-,-,-,-,-,h⟩|⟨-,-,-,-,-,-,-,h⟩|⟨h,-⟩
 · exact h
 · exact h
 · exact h
 · omega
section
variable {s p g j:Nat} {T:Tb.Tb} {o:Od} {ex:List Tk} {eo:Option Addr} {ec:Nat} {w:World} {gd:Bool} {Q:Int→World→Prop}
theorem dt_good (hR:RM w g j T) (hG:∀ W,Below w.heap.size w W→Calls Tryz.prog 57 #[ptr j] W fun x w'=>x=.returned (.bool gd)∧Below W.heap.size W w') (u:World) (h:DoJ s p g j T (mayR T o ex).1 (mayR T o ex).2 o (.slice eo ex.length ec) gd w (Q 0) 0 u) :
 Calls Tryz.prog 50 #[ptr s] u fun e w'=>∃ c,e=.returned (.int .i64 c)∧(c≠0→DoE g j T (mayR T o ex).2 gd w Q c w')∧(c=0→DoJ s p g j T (mayR T o ex).1 (mayR T o ex).2 o (.slice eo ex.length ec) gd w (Q 0) 1 w'):=by
 rcases h with ⟨-,-,hb,h1,h2⟩|⟨h0,-⟩|⟨h0,-⟩|⟨h0,-⟩
 case inr.inl=>omega
 case inr.inr.inl=>omega
 case inr.inr.inr=>omega
 obtain ⟨ao,cap,hr,-⟩:=hR.call hb
 refine (isgood_in s g (ptr j) _ _ _ _ _ _ _ _ _ _ _ _ _ u h1 hr.c0 gd (fun W hW=>hG W (hb.trans (hW.mono hb.size)))).mono ?_
 rintro e w' ⟨rfl,b1⟩
 have hb':=hb.trans (b1.mono hb.size)
 refine ⟨_,rfl,fun hc=>⟨.below hb',.inl ?_⟩,fun hc=>.inl ⟨by omega,fun _=>?_,hb',h1.call b1,h2.of (b1.block p h2.lt)⟩⟩
 ·cases gd
  · exact ⟨rfl,rfl,hb'⟩
  · exact absurd rfl hc
 ·cases gd
  · exact absurd hc (by decide)
  · rfl
theorem dt_may (hs:w.heap.size≤s) (hps:p≠s) (hR:RM w g j T) (hE:Seen Tb.tcs 5 eo ex w) (he:ex.length≤1000) (hl:T.rows.length≤1000) (u:World) (h:DoJ s p g j T (mayR T o ex).1 (mayR T o ex).2 o (.slice eo ex.length ec) gd w (Q 0) 1 u) :
 Calls Tryz.prog 51 #[ptr s] u fun e w'=>∃ c,e=.returned (.int .i64 c)∧(c≠0→DoE g j T (mayR T o ex).2 gd w Q c w')∧(c=0→DoJ s p g j T (mayR T o ex).1 (mayR T o ex).2 o (.slice eo ex.length ec) gd w (Q 0) 2 w'):=by
 rcases h with ⟨-,hgd,hb,h1,h2⟩|⟨h0,-⟩|⟨h0,-⟩|⟨h0,-⟩
 case inr.inl=>omega
 case inr.inr.inl=>omega
 case inr.inr.inr=>omega
 have hg:=hgd rfl
 have hR2:=hR
 obtain ⟨ao,cap,hr,hsl⟩:=hR.call hb
 obtain ⟨ao0,cap0,hr0,-⟩:=hR2
 have hgl:g<w.heap.size:=Dk.lt_of_heap hr0
 have hgs:g≠s:=by omega
 refine (may_in s g hgs _ _ _ _ _ _ _ _ _ _ _ _ _ _ _ u h1 hr.c1 hr.c2 (fun a n k m c w'=>(.slice a n k:Value)=.slice a (mayR T o ex).1.rows.length k∧m=(mayR T o ex).1.mode∧c=(mayR T o ex).2∧Tb.Sl (.slice a (mayR T o ex).1.rows.length k) (mayR T o ex).1.rows w' a k) (fun W hW=>(Ju.may_any T o ex ao cap eo ec W (hsl.call hW) hl (hE.below (hb.trans (hW.mono hb.size)) (Nat.le_refl _)) he).mono fun x w' ⟨v,hx,⟨ao',cap',e,hsl'⟩,hb'⟩=>⟨ao',_,cap',_,_,by rw [hx,e];rfl,⟨rfl,rfl,rfl,hsl'⟩,hb'⟩)).mono ?_
 rintro e w' ⟨a,n,k,m,c,w1,rfl,⟨e1,rfl,rfl,hsl1⟩,b1,rfl⟩
 have e2:n=(mayR T o ex).1.rows.length:=by cases e1;rfl
 subst e2
 have h3:=h1.call b1
 have hb1:=hb.trans (b1.mono hb.size)
 have hb2:=below_set (below_set hb1 hs 12 (.slice a (mayR T o ex).1.rows.length k)) hs 13 (.int .i64 (mayR T o ex).1.mode)
 refine ⟨_,rfl,fun hc=>⟨.below hb2,.inr (.inl ⟨hg,hc,rfl,hb2⟩)⟩,fun hc=>.inr (.inl ⟨rfl,hg,hc,hb2,⟨a,k,(h3.s12 _).s13 _,?_⟩,?_⟩)⟩
 · exact sl_set (sl_set hsl1 h3 (by decide) 12 _) (h3.s12 _) (by decide) 13 _
 ·refine RowF.of (w:=u) h2 ?_
  rw [Below.heap_setCell _ ⟨s,13,none⟩ _ p hps,Below.heap_setCell _ ⟨s,12,none⟩ _ p hps]
  exact b1.block p h2.lt
theorem dt_put (hR:RM w g j T) (hA:gd=true→(mayR T o ex).2=0→∀ W,Below w.heap.size w W→Calls Tryz.prog 93 #[ptr j,.string (mkB (encO o))] W fun x w'=>∃ c,x=.returned (.int .i64 c)∧Q c w'∧Kp W w') (u:World) (h:DoJ s p g j T (mayR T o ex).1 (mayR T o ex).2 o (.slice eo ex.length ec) gd w (Q 0) 2 u) :
 Calls Tryz.prog 52 #[ptr s] u fun e w'=>∃ c,e=.returned (.int .i64 c)∧(c≠0→DoE g j T (mayR T o ex).2 gd w Q c w')∧(c=0→DoJ s p g j T (mayR T o ex).1 (mayR T o ex).2 o (.slice eo ex.length ec) gd w (Q 0) 3 w'):=by
 rcases h with ⟨h0,-⟩|⟨-,hg,hm,hb,⟨a,k,h1,hsl⟩,h2⟩|⟨h0,-⟩|⟨h0,-⟩
 case inl=>omega
 case inr.inr.inl=>omega
 case inr.inr.inr=>omega
 have hRu:=hR.call hb
 obtain ⟨ao,cap,hr,-⟩:=hRu
 have hRu:=hR.call hb
 have hch:=(may_chk hm).1
 refine (put_in s g (ptr j) (.string (mkB (encO o))) _ _ _ _ _ _ _ _ _ _ _ _ _ u h1 hr.c0 (fun c w'=>Q c w'∧Kp u w') (fun W hW=>(Ox.bytes_yes o W hch).mono fun x w' ⟨hx,hb'⟩=>⟨0,hx,hb'⟩) (fun W hW=>(hA hg hm W (hb.trans (hW.mono hb.size))).mono fun x w' ⟨c,hx,hq,hk⟩=>⟨c,hx,hq,(Kp.below hW).trans hk⟩)).mono ?_
 rintro e w' ⟨c,rfl,hq,hk⟩
 have hkr:Kr w w':=(Kr.below hb).trans (.kp hk)
 refine ⟨c,rfl,fun hc=>⟨hkr,.inr (.inr ⟨hg,hm,hq,hRu.kp hk⟩)⟩,fun hc=>.inr (.inr (.inl ⟨rfl,hg,hm,hc▸hq,hkr,hRu.kp hk,⟨a,k,hk _ _ _ _ h1 (by decide),sl_kept hsl fun i cs fz hi=>hk i cs _ fz hi (by decide)⟩,hk _ _ _ _ h2 (by decide)⟩))⟩
theorem dt_keep (sQb:∀ u v,Q 0 u→Below u.heap.size u v→Q 0 v) (sQ0:∀ u o x cs,Q 0 u→u.heap[g]?=some (.cells cs 92 (0,0))→Q 0 (u.setCell ⟨g,o,none⟩ x)) (u:World) (h:DoJ s p g j T (mayR T o ex).1 (mayR T o ex).2 o (.slice eo ex.length ec) gd w (Q 0) 3 u) :
 Calls Tryz.prog 53 #[ptr s] u fun e w'=>∃ c,e=.returned (.int .i64 c)∧(c≠0→DoE g j T (mayR T o ex).2 gd w Q c w')∧(c=0→DoJ s p g j T (mayR T o ex).1 (mayR T o ex).2 o (.slice eo ex.length ec) gd w (Q 0) 4 w'):=by
 rcases h with ⟨h0,-⟩|⟨h0,-⟩|⟨-,hg,hm,hq,hkr,⟨ao,cap,hr,-⟩,⟨a,k,h1,hsl⟩,h2⟩|⟨h0,-⟩
 case inl=>omega
 case inr.inl=>omega
 case inr.inr.inr=>omega
 refine (keep_in s g _ _ _ _ _ _ _ _ _ _ _ a _ k _ u h1 hr).mono ?_
 rintro e w' ⟨rfl,rfl⟩
 have bd:=(Below.refl u.heap.size u).drew
 have hr1:RAt u.drew g j _ _:=(bd.block g (Dk.lt_of_heap hr)).trans hr
 refine ⟨0,rfl,fun h=>absurd rfl h,fun _=>.inr (.inr (.inr ⟨rfl,hg,hm,sQ0 _ _ _ _ (sQ0 _ _ _ _ (sQb _ _ hq bd) hr1) (hr1.s1 _),((hkr.call bd).setR hr1 1 _).setR (hr1.s1 _) 2 _,⟨a,k,(hr1.s1 _).s2 _,?_⟩⟩))⟩
 exact sl_set (sl_set (hsl.call bd) hr1 (by decide) 1 _) (hr1.s1 _) (by decide) 2 _
theorem do_turn (W:World) (hs:w.heap.size≤s) (hsW:s<W.heap.size) (hbW:Below w.heap.size w W) (hch:ChO W s g o (.slice eo ex.length ec) (.slice none 0 0) (.int .i64 0)) (hR:RM w g j T) (hE:Seen Tb.tcs 5 eo ex w) (he:ex.length≤1000) (hl:T.rows.length≤1000)
 (hG:∀ W,Below w.heap.size w W→Calls Tryz.prog 57 #[ptr j] W fun x w'=>x=.returned (.bool gd)∧Below W.heap.size W w')
 (hA:gd=true→(mayR T o ex).2=0→∀ W,Below w.heap.size w W→Calls Tryz.prog 93 #[ptr j,.string (mkB (encO o))] W fun x w'=>∃ c,x=.returned (.int .i64 c)∧Q c w'∧Kp W w')
 (sQb:∀ u v,Q 0 u→Below u.heap.size u v→Q 0 v) (sQ0:∀ u o x cs,Q 0 u→u.heap[g]?=some (.cells cs 92 (0,0))→Q 0 (u.setCell ⟨g,o,none⟩ x)) :
 Calls Tryz.prog 42 #[.slice (some ⟨W.heap.size,0,none⟩) 4 4] (W.alloc (.cells #[.func (.func (doF 0)) #[ptr s] #[],.func (.func (doF 1)) #[ptr s] #[],.func (.func (doF 2)) #[ptr s] #[],.func (.func (doF 3)) #[ptr s] #[]] 40)) fun x w'=>∃ c,x=.returned (.int .i64 c)∧Kr w w'∧((gd=false∧c=18∧Below w.heap.size w w')∨(gd=true∧(mayR T o ex).2≠0∧c=(mayR T o ex).2∧Below w.heap.size w w')∨(gd=true∧(mayR T o ex).2=0∧Q c w'∧RM w' g j (if c=0 then (mayR T o ex).1 else T))):=by
 have b2:=hbW.alloc hbW.size (.cells #[.func (.func (doF 0)) #[ptr s] #[],.func (.func (doF 1)) #[ptr s] #[],.func (.func (doF 2)) #[ptr s] #[],.func (.func (doF 3)) #[ptr s] #[]] 40)
 have b3:=(Below.refl W.heap.size W).alloc (Nat.le_refl _) (.cells #[.func (.func (doF 0)) #[ptr s] #[],.func (.func (doF 1)) #[ptr s] #[],.func (.func (doF 2)) #[ptr s] #[],.func (.func (doF 3)) #[ptr s] #[]] 40)
 have n2:=heap_alloc_new W (.cells #[.func (.func (doF 0)) #[ptr s] #[],.func (.func (doF 1)) #[ptr s] #[],.func (.func (doF 2)) #[ptr s] #[],.func (.func (doF 3)) #[ptr s] #[]] 40)
 refine (inturn_any W.heap.size (ptr s) doF (DoJ s W.heap.size g j T (mayR T o ex).1 (mayR T o ex).2 o (.slice eo ex.length ec) gd w (Q 0)) (DoE g j T (mayR T o ex).2 gd w Q) _ (.inl ⟨by omega,fun h=>absurd h (by decide),b2,hch.call b3,n2⟩) (fun i _ args w=>do_enter i args w) (fun i hi u hu=>(rowF_cell hu hi).cell hi) (fun i hi u hu=>?_)).mono ?_
 ·match i,hi,hu with
  | 0,_,hu=>exact dt_good hR hG u hu
  | 1,_,hu=>exact dt_may hs (by omega) hR hE he hl u hu
  | 2,_,hu=>exact dt_put hR hA u hu
  | 3,_,hu=>exact dt_keep sQb sQ0 u hu
 ·rintro x w' ⟨c,rfl,h1,h2⟩
  refine ⟨c,rfl,?_⟩
  by_cases hc:c=0
  ·subst hc
   rcases h2 rfl with ⟨h0,-⟩|⟨h0,-⟩|⟨h0,-⟩|⟨-,hg,hm,hq,hkr,hrm⟩
   · omega
   · omega
   · omega
   · exact ⟨hkr,.inr (.inr ⟨hg,hm,hq,by rw [if_pos rfl];exact hrm⟩)⟩
  ·obtain ⟨hkr,h⟩:=h1 hc
   refine ⟨hkr,?_⟩
   rcases h with h|h|⟨hg,hm,hq,hrm⟩
   · exact .inl h
   · exact .inr (.inl h)
   · exact .inr (.inr ⟨hg,hm,hq,by rw [if_neg hc];exact hrm⟩)
end
end Go.Proofs.YteempfoajgblaaaGreat.Rg
