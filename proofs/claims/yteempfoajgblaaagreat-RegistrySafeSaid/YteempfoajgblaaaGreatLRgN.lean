/- Package registry's own steps, one by one, by what they call: each contract of a call is a premise. -/
import Derived.WalkKit
import Derived.WalkMore
import Derived.StillTailTactics
import Derived.BigQuiet
import Derived.BigRegion
import Derived.Deep.RegionHeld3
import Derived.Lib.Hide
import Derived.Test.YteempfoajgblaaaGreatLGnH
import Derived.Test.YteempfoajgblaaaGreatLMDa
set_option maxRecDepth 100000
set_option linter.unusedVariables false
set_option linter.unusedSimpArgs false
open Go.ChangeShapes Go.WideShapes Go.ChangeAt Go.RowKit Go.Joins
set_option maxHeartbeats 4000000
namespace Go.Proofs.YteempfoajgblaaaGreat.Rg
open Dk (ptr)
def StAt (w:World) (s:Nat) (pj rv mv pd kv dv ov:Value):Prop:=w.heap[s]?=some (.cells #[pj,rv,mv,pd,kv,dv,ov] 111 (0,0))
section
variable {w w':World} {s:Nat} {pj rv mv pd kv dv ov:Value}
theorem StAt.c0 (h:StAt w s pj rv mv pd kv dv ov):w.cell? ⟨s,0,none⟩=some pj:=by rw [Lib.cell_of_heap h];rfl
theorem StAt.c1 (h:StAt w s pj rv mv pd kv dv ov):w.cell? ⟨s,1,none⟩=some rv:=by rw [Lib.cell_of_heap h];rfl
theorem StAt.c2 (h:StAt w s pj rv mv pd kv dv ov):w.cell? ⟨s,2,none⟩=some mv:=by rw [Lib.cell_of_heap h];rfl
theorem StAt.c3 (h:StAt w s pj rv mv pd kv dv ov):w.cell? ⟨s,3,none⟩=some pd:=by rw [Lib.cell_of_heap h];rfl
theorem StAt.c4 (h:StAt w s pj rv mv pd kv dv ov):w.cell? ⟨s,4,none⟩=some kv:=by rw [Lib.cell_of_heap h];rfl
theorem StAt.c5 (h:StAt w s pj rv mv pd kv dv ov):w.cell? ⟨s,5,none⟩=some dv:=by rw [Lib.cell_of_heap h];rfl
theorem StAt.c6 (h:StAt w s pj rv mv pd kv dv ov):w.cell? ⟨s,6,none⟩=some ov:=by rw [Lib.cell_of_heap h];rfl
theorem StAt.fz (h:StAt w s pj rv mv pd kv dv ov) (o:Nat):w.frozen? ⟨s,o,none⟩=false:=Lib.frozen_of_heap h o
theorem StAt.lt (h:StAt w s pj rv mv pd kv dv ov):s<w.heap.size:=Dk.lt_of_heap h
theorem StAt.of (h:StAt w s pj rv mv pd kv dv ov) (k:w'.heap[s]?=w.heap[s]?):StAt w' s pj rv mv pd kv dv ov:=by unfold StAt at *;rw [k];exact h
theorem StAt.call (h:StAt w s pj rv mv pd kv dv ov) (hb:Below w.heap.size w w'):StAt w' s pj rv mv pd kv dv ov:=h.of (hb.block s h.lt)
theorem StAt.s0 (h:StAt w s pj rv mv pd kv dv ov) (x:Value):StAt (w.setCell ⟨s,0,none⟩ x) s x rv mv pd kv dv ov:=by unfold StAt at *;simp [World.setCell,Array.getElem?_modify,h]
theorem StAt.s1 (h:StAt w s pj rv mv pd kv dv ov) (x:Value):StAt (w.setCell ⟨s,1,none⟩ x) s pj x mv pd kv dv ov:=by unfold StAt at *;simp [World.setCell,Array.getElem?_modify,h]
theorem StAt.s2 (h:StAt w s pj rv mv pd kv dv ov) (x:Value):StAt (w.setCell ⟨s,2,none⟩ x) s pj rv x pd kv dv ov:=by unfold StAt at *;simp [World.setCell,Array.getElem?_modify,h]
theorem StAt.s5 (h:StAt w s pj rv mv pd kv dv ov) (x:Value):StAt (w.setCell ⟨s,5,none⟩ x) s pj rv mv pd kv x ov:=by unfold StAt at *;simp [World.setCell,Array.getElem?_modify,h]
theorem StAt.s6 (h:StAt w s pj rv mv pd kv dv ov) (x:Value):StAt (w.setCell ⟨s,6,none⟩ x) s pj rv mv pd kv dv x:=by unfold StAt at *;simp [World.setCell,Array.getElem?_modify,h]
end
def ChAt (w:World) (s:Nat) (pg o0 o1 o2 o3 o4 o5 o6 o7 o8 o9 ev nr nm:Value):Prop:=w.heap[s]?=some (.cells #[pg,o0,o1,o2,o3,o4,o5,o6,o7,o8,o9,ev,nr,nm] 120 (0,0))
section
variable {w w':World} {s:Nat} {pg o0 o1 o2 o3 o4 o5 o6 o7 o8 o9 ev nr nm:Value}
theorem ChAt.c0 (h:ChAt w s pg o0 o1 o2 o3 o4 o5 o6 o7 o8 o9 ev nr nm):w.cell? ⟨s,0,none⟩=some pg:=by rw [Lib.cell_of_heap h];rfl
theorem ChAt.c1 (h:ChAt w s pg o0 o1 o2 o3 o4 o5 o6 o7 o8 o9 ev nr nm):w.cell? ⟨s,1,none⟩=some o0:=by rw [Lib.cell_of_heap h];rfl
theorem ChAt.c2 (h:ChAt w s pg o0 o1 o2 o3 o4 o5 o6 o7 o8 o9 ev nr nm):w.cell? ⟨s,2,none⟩=some o1:=by rw [Lib.cell_of_heap h];rfl
theorem ChAt.c3 (h:ChAt w s pg o0 o1 o2 o3 o4 o5 o6 o7 o8 o9 ev nr nm):w.cell? ⟨s,3,none⟩=some o2:=by rw [Lib.cell_of_heap h];rfl
theorem ChAt.c4 (h:ChAt w s pg o0 o1 o2 o3 o4 o5 o6 o7 o8 o9 ev nr nm):w.cell? ⟨s,4,none⟩=some o3:=by rw [Lib.cell_of_heap h];rfl
theorem ChAt.c5 (h:ChAt w s pg o0 o1 o2 o3 o4 o5 o6 o7 o8 o9 ev nr nm):w.cell? ⟨s,5,none⟩=some o4:=by rw [Lib.cell_of_heap h];rfl
theorem ChAt.c6 (h:ChAt w s pg o0 o1 o2 o3 o4 o5 o6 o7 o8 o9 ev nr nm):w.cell? ⟨s,6,none⟩=some o5:=by rw [Lib.cell_of_heap h];rfl
theorem ChAt.c7 (h:ChAt w s pg o0 o1 o2 o3 o4 o5 o6 o7 o8 o9 ev nr nm):w.cell? ⟨s,7,none⟩=some o6:=by rw [Lib.cell_of_heap h];rfl
theorem ChAt.c8 (h:ChAt w s pg o0 o1 o2 o3 o4 o5 o6 o7 o8 o9 ev nr nm):w.cell? ⟨s,8,none⟩=some o7:=by rw [Lib.cell_of_heap h];rfl
theorem ChAt.c9 (h:ChAt w s pg o0 o1 o2 o3 o4 o5 o6 o7 o8 o9 ev nr nm):w.cell? ⟨s,9,none⟩=some o8:=by rw [Lib.cell_of_heap h];rfl
theorem ChAt.c10 (h:ChAt w s pg o0 o1 o2 o3 o4 o5 o6 o7 o8 o9 ev nr nm):w.cell? ⟨s,10,none⟩=some o9:=by rw [Lib.cell_of_heap h];rfl
theorem ChAt.c11 (h:ChAt w s pg o0 o1 o2 o3 o4 o5 o6 o7 o8 o9 ev nr nm):w.cell? ⟨s,11,none⟩=some ev:=by rw [Lib.cell_of_heap h];rfl
theorem ChAt.c12 (h:ChAt w s pg o0 o1 o2 o3 o4 o5 o6 o7 o8 o9 ev nr nm):w.cell? ⟨s,12,none⟩=some nr:=by rw [Lib.cell_of_heap h];rfl
theorem ChAt.c13 (h:ChAt w s pg o0 o1 o2 o3 o4 o5 o6 o7 o8 o9 ev nr nm):w.cell? ⟨s,13,none⟩=some nm:=by rw [Lib.cell_of_heap h];rfl
theorem ChAt.fz (h:ChAt w s pg o0 o1 o2 o3 o4 o5 o6 o7 o8 o9 ev nr nm) (o:Nat):w.frozen? ⟨s,o,none⟩=false:=Lib.frozen_of_heap h o
theorem ChAt.lt (h:ChAt w s pg o0 o1 o2 o3 o4 o5 o6 o7 o8 o9 ev nr nm):s<w.heap.size:=Dk.lt_of_heap h
theorem ChAt.of (h:ChAt w s pg o0 o1 o2 o3 o4 o5 o6 o7 o8 o9 ev nr nm) (k:w'.heap[s]?=w.heap[s]?):ChAt w' s pg o0 o1 o2 o3 o4 o5 o6 o7 o8 o9 ev nr nm:=by unfold ChAt at *;rw [k];exact h
theorem ChAt.call (h:ChAt w s pg o0 o1 o2 o3 o4 o5 o6 o7 o8 o9 ev nr nm) (hb:Below w.heap.size w w'):ChAt w' s pg o0 o1 o2 o3 o4 o5 o6 o7 o8 o9 ev nr nm:=h.of (hb.block s h.lt)
theorem ChAt.s12 (h:ChAt w s pg o0 o1 o2 o3 o4 o5 o6 o7 o8 o9 ev nr nm) (x:Value):ChAt (w.setCell ⟨s,12,none⟩ x) s pg o0 o1 o2 o3 o4 o5 o6 o7 o8 o9 ev x nm:=by unfold ChAt at *;simp [World.setCell,Array.getElem?_modify,h]
theorem ChAt.s13 (h:ChAt w s pg o0 o1 o2 o3 o4 o5 o6 o7 o8 o9 ev nr nm) (x:Value):ChAt (w.setCell ⟨s,13,none⟩ x) s pg o0 o1 o2 o3 o4 o5 o6 o7 o8 o9 ev nr x:=by unfold ChAt at *;simp [World.setCell,Array.getElem?_modify,h]
end
theorem cell_other {w:World} {g s o k:Nat} {x:Value} (h:g≠s):(w.setCell ⟨s,o,none⟩ x).cell? ⟨g,k,none⟩=w.cell? ⟨g,k,none⟩:=World.cell?_of_block (a:=⟨g,k,none⟩) (Below.heap_setCell w ⟨s,o,none⟩ x g h)
def RowF (w:World) (p:Nat) (F:Nat→Nat) (x:Value):Prop:=w.heap[p]?=some (.cells #[.func (.func (F 0)) #[x] #[],.func (.func (F 1)) #[x] #[],.func (.func (F 2)) #[x] #[],.func (.func (F 3)) #[x] #[]] 40 (0,0))
theorem RowF.cell {w:World} {p:Nat} {F:Nat→Nat} {x:Value} (h:RowF w p F x) {i:Nat} (hi:i<4):w.cell? ⟨p,i,none⟩=some (.func (.func (F i)) #[x] #[]):=by
 rw [Lib.cell_of_heap h]
 match i,hi with
 | 0,_=>rfl
 | 1,_=>rfl
 | 2,_=>rfl
 | 3,_=>rfl
def ItRel (J:Nat→World→Prop) (g:Nat) (s8:Value) (wx:World):Prop:=∃ i:Nat,i+g=4∧s8=.int .i64 (i:Int)∧J i wx
/-- steps in turn: each finds what the one ahead of it left; the first one that is an error ends it -/
theorem inturn_any (p:Nat) (x:Value) (F:Nat→Nat) (J:Nat→World→Prop) (E:Int→World→Prop) (w:World) (hJ:J 0 w)
 (eg:∀ i,i<4→∀ args w,(callFunc (F i) args).run Tryz.prog w=.ok (.enter (F i) args) w)
 (hc:∀ i,i<4→∀ w,J i w→w.cell? ⟨p,i,none⟩=some (.func (.func (F i)) #[x] #[]))
 (hs:∀ i,i<4→∀ w,J i w→Calls Tryz.prog (F i) #[x] w fun e w'=>∃ c,e=.returned (.int .i64 c)∧(c≠0→E c w')∧(c=0→J (i+1) w')) :
 Calls Tryz.prog 42 #[.slice (some ⟨p,0,none⟩) 4 4] w fun e w'=>∃ c,e=.returned (.int .i64 c)∧(c≠0→E c w')∧(c=0→J 4 w'):=by
 have HJ0:=Lib.hid hJ
 have EG:=Lib.hid eg
 have HC:=Lib.hid hc
 have HS:=Lib.hid hs
 clear hJ eg hc hs
 go_enter Tryz.func42,Tryz.ntmps42
 go_wp2_with fail
 go_loopg [8] 4 (ItRel J)
 case atStart=>exact ⟨0,rfl,rfl,HJ0.out⟩
 case round=>
  obtain ⟨i,hi,rfl,hj⟩:=hrel
  have HJ:=Lib.hid hj
  have HI:=Lib.hid hi
  clear HJ0
  by_cases hlt:i<4
  ·have hlt':(i:Int)<4:=by omega
   have c0:=HC.out i hlt _ hj
   have eg':=EG.out i hlt
   have STP:=Lib.hid (HS.out i hlt _ hj)
   have hg0:1≤gk:=by omega
   have NX:=Lib.hid (show ∀ W,J (i+1) W→ItRel J (gk-1) (.int .i64 ((i:Int)+1)) W from fun W h=>⟨i+1,by omega,by go_num,h⟩)
   generalize F i=f at *
   clear hj EG HC HS HI hi
   go_wp2_with fail
   (with_reducible refine STP.out.mono ?_)
   rintro e w2 ⟨c,rfl,he,hn⟩
   have HE:=Lib.hid he
   have HN:=Lib.hid hn
   clear STP he hn c0 eg'
   by_cases hx:c=0
   ·subst hx
    have RL:=Lib.hid (NX.out _ (HN.out rfl))
    go_wp2
    go_roundg (gk-1)
    case measure=>omega
    case rel=>exact RL.out
   ·have hx':(c != 0)=true:=by simp [hx]
    go_wp2
    exact bodyPost_ret (v:=.int .i64 c) (by simp [results,Tryz.results42,go_sem]) rfl ⟨c,rfl,fun _=>HE.out hx,fun h=>absurd h hx⟩
  ·obtain rfl:i=4:=by omega
   clear EG HC HS HI hi hj
   go_wp2
   exact bodyPost_ret (v:=.int .i64 0) (by simp [results,Tryz.results42,go_sem]) rfl ⟨0,rfl,fun h=>absurd rfl h,fun _=>HJ.out⟩
theorem rnone_any {g j:Nat} (w:World) (c0:w.cell? ⟨g,0,none⟩=some (ptr j)) :
 Calls Tryz.prog 37 #[ptr g] w fun e w'=>e=.returned (.bool false)∧w'=w:=by
 go_enter Tryz.func37,Tryz.ntmps37
 go_wp2
 go_ret
 exact ⟨rfl,rfl⟩
theorem bytes_in (g:Nat) (rv mv:Value) (w:World) (c1:w.cell? ⟨g,1,none⟩=some rv) (c2:w.cell? ⟨g,2,none⟩=some mv) (P:Value→World→Prop)
 (hB:∀ W,Below w.heap.size w W→Calls Tryz.prog 66 #[.agg #[rv,mv]] W fun x w'=>∃ t c,x=.returned (.tuple #[.string t,.int .i64 c])∧P (.string t) w') :
 Calls Tryz.prog 34 #[ptr g] w fun e w'=>∃ t,e=.returned t∧P t w':=by
 have BY:=Lib.hid (hB w (Below.refl _ _))
 clear hB
 go_enter Tryz.func34,Tryz.ntmps34
 go_wp2_with fail
 (with_reducible refine BY.out.mono ?_)
 rintro e w1 ⟨t,c,rfl,hp⟩
 have HP:=Lib.hid hp
 clear BY hp c1 c2
 go_wp2
 go_ret
 exact ⟨_,rfl,HP.out⟩
theorem find_in (s:Nat) (pj rv mv pd kv dv ov:Value) (w:World) (h:StAt w s pj rv mv pd kv dv ov) (P:Option Addr→ByteArray→Option Addr→Nat→Nat→Int→World→Prop)
 (hJ:∀ W,Below w.heap.size w W→Calls Tryz.prog 80 #[pd,kv] W fun x w'=>∃ a t vo vn vc c,x=.returned (.tuple #[.pointer a,.agg #[.string t,.slice vo vn vc],.int .i64 c])∧P a t vo vn vc c w'∧StAt w' s pj rv mv pd kv dv ov) :
 Calls Tryz.prog 43 #[ptr s] w fun e w'=>∃ a t vo vn vc c w1,e=.returned (.int .i64 c)∧P a t vo vn vc c w1∧StAt w1 s pj rv mv pd kv dv ov∧w'=((w1.setCell ⟨s,0,none⟩ (.pointer a)).setCell ⟨s,5,none⟩ (.string t)).setCell ⟨s,6,none⟩ (.slice vo vn vc):=by
 have JO:=Lib.hid hJ
 have SC:Hid (w.drew.cell? ⟨s,3,none⟩=some pd∧w.drew.cell? ⟨s,4,none⟩=some kv):=Lib.hid ⟨(h.call (Below.refl _ _).drew).c3,(h.call (Below.refl _ _).drew).c4⟩
 clear hJ h
 go_enter Tryz.func43,Tryz.ntmps43
 go_wp2_with fail
 refine wp_region_held_drew (S:=(fun W'=>W'.cell? ⟨s,3,none⟩=some pd∧W'.cell? ⟨s,4,none⟩=some kv)) (by kernel_rfl) (SC.out) (fun hHeld=>?_)
 refine Gh.tk 0 ?_
 refine Gh.tk 1 ?_
 refine Gh.tk 2 ?_
 refine Gh.tk 3 ?_
 refine Gh.tk 4 ?_
 refine Gh.tk 5 ?_
 refine Gh.tk 6 ?_
 refine Gh.tk 7 ?_
 refine Gh.tk 8 ?_
 refine Gh.tk 9 ?_
 refine Gh.rd 10 (fun K hK=>?_)
 go_simp
 (with_reducible refine (JO.out _ (Below.refl _ _).drew).mono ?_)
 rintro e w1 ⟨a,t,vo,vn,vc,c,rfl,hp,hs⟩
 have HP:=Lib.hid (And.intro hp hs)
 clear hp hs JO
 go_simp
 refine hK.out _ _ (⟨HP.out.2.c3,HP.out.2.c4⟩) (fun hHeld=>?_)
 clear hK K
 refine Gh.pt ?_
 refine Gh.tk 11 ?_
 refine Gh.tk 12 ?_
 refine Gh.tk 13 ?_
 refine Gh.tk 14 ?_
 refine Gh.tk 15 ?_
 refine Gh.tk 16 ?_
 refine Gh.tk 17 ?_
 refine Gh.rd 18 (fun K hK=>?_)
 have c0:=HP.out.2.c0
 have f0:=HP.out.2.fz 0
 have H2:=Lib.hid (HP.out.2.s0 (.pointer a))
 go_simp
 refine hK.out _ _ (⟨H2.out.c3,H2.out.c4⟩) (fun hHeld=>?_)
 clear hK K
 refine Gh.pt ?_
 refine Gh.tk 19 ?_
 refine Gh.tk 20 ?_
 refine Gh.rd 21 (fun K hK=>?_)
 have c5:=H2.out.c5
 have c6:=H2.out.c6
 have f5:=H2.out.fz 5
 have f6:=H2.out.fz 6
 have H3:=Lib.hid ((H2.out.s5 (.string t)).s6 (.slice vo vn vc))
 go_simp
 refine hK.out _ _ (⟨H3.out.c3,H3.out.c4⟩) (fun hHeld=>?_)
 clear hK K
 refine Gh.pt ?_
 refine Gh.tk 22 ?_
 refine wpAnyH_done (by kernel_rfl) ?_ _
 go_wp2
 go_ret
 exact ⟨_,_,_,_,_,_,_,rfl,HP.out.1,HP.out.2,rfl⟩
theorem read_in (s:Nat) (pj rv mv pd kv dv ov:Value) (w:World) (h:StAt w s pj rv mv pd kv dv ov) (P:Option Addr→Nat→Nat→Int→Int→World→Prop)
 (hR:∀ W,Below w.heap.size w W→Calls Tryz.prog 81 #[dv] W fun x w'=>∃ a n d t c,x=.returned (.tuple #[.agg #[.slice a n d,.int .i64 t],.int .i64 c])∧P a n d t c w'∧Below W.heap.size W w') :
 Calls Tryz.prog 44 #[ptr s] w fun e w'=>∃ a n d t c w1,e=.returned (.int .i64 c)∧P a n d t c w1∧Below w.heap.size w w1∧w'=(w1.setCell ⟨s,1,none⟩ (.slice a n d)).setCell ⟨s,2,none⟩ (.int .i64 t):=by
 have RD:=Lib.hid (hR w (Below.refl _ _))
 have HS:=Lib.hid h
 have c5:=h.c5
 clear hR h
 go_enter Tryz.func44,Tryz.ntmps44
 go_wp2_with fail
 (with_reducible refine RD.out.mono ?_)
 rintro e w1 ⟨a,n,d,t,c,rfl,hp,b1⟩
 have hs:=HS.out.call b1
 have HP:=Lib.hid (And.intro hp b1)
 have c1:=hs.c1
 have c2:=hs.c2
 have f1:=hs.fz 1
 have f2:=hs.fz 2
 clear RD hp hs b1 c5 HS
 go_wp2
 go_ret
 exact ⟨_,_,_,_,_,_,rfl,HP.out.1,HP.out.2,rfl⟩
theorem fits_in (s:Nat) (pj rv mv pd kv dv ov:Value) (w:World) (h:StAt w s pj rv mv pd kv dv ov) (c:Int)
 (hF:∀ W,Below w.heap.size w W→Calls Tryz.prog 83 #[.agg #[rv,mv]] W fun x w'=>x=.returned (.int .i64 c)∧Below W.heap.size W w') :
 Calls Tryz.prog 46 #[ptr s] w fun e w'=>e=.returned (.int .i64 c)∧Below w.heap.size w w':=by
 have FI:=Lib.hid (hF w (Below.refl _ _))
 have c1:=h.c1
 have c2:=h.c2
 clear hF h
 go_enter Tryz.func46,Tryz.ntmps46
 go_wp2_with fail
 (with_reducible refine FI.out.mono ?_)
 rintro e w1 ⟨rfl,b1⟩
 clear FI c1 c2
 go_wp2
 go_ret
 exact ⟨rfl,b1⟩
theorem isgood_in (s g:Nat) (pj:Value) (o0 o1 o2 o3 o4 o5 o6 o7 o8 o9 ev nr nm:Value) (w:World) (h:ChAt w s (ptr g) o0 o1 o2 o3 o4 o5 o6 o7 o8 o9 ev nr nm) (c0:w.cell? ⟨g,0,none⟩=some pj) (gd:Bool)
 (hG:∀ W,Below w.heap.size w W→Calls Tryz.prog 57 #[pj] W fun x w'=>x=.returned (.bool gd)∧Below W.heap.size W w') :
 Calls Tryz.prog 50 #[ptr s] w fun e w'=>e=.returned (.int .i64 (if gd=true then 0 else 18))∧Below w.heap.size w w':=by
 have GO:=Lib.hid (hG w (Below.refl _ _))
 have d0:=h.c0
 clear hG h
 go_enter Tryz.func50,Tryz.ntmps50
 go_wp2_with fail
 (with_reducible refine GO.out.mono ?_)
 rintro e w1 ⟨rfl,b1⟩
 clear GO c0 d0
 cases gd
 ·go_wp2
  go_ret
  exact ⟨rfl,b1⟩
 ·go_wp2
  go_ret
  exact ⟨rfl,b1⟩
theorem may_in (s g:Nat) (hg:g≠s) (rv mv:Value) (o0 o1 o2 o3 o4 o5 o6 o7 o8 o9 ev nr nm:Value) (w:World) (h:ChAt w s (ptr g) o0 o1 o2 o3 o4 o5 o6 o7 o8 o9 ev nr nm) (c1:w.cell? ⟨g,1,none⟩=some rv) (c2:w.cell? ⟨g,2,none⟩=some mv) (P:Option Addr→Nat→Nat→Int→Int→World→Prop)
 (hM:∀ W,Below w.heap.size w W→Calls Tryz.prog 91 #[.agg #[rv,mv],.agg #[o0,o1,o2,o3,o4,o5,o6,o7,o8,o9],ev] W fun x w'=>∃ a n d t c,x=.returned (.tuple #[.agg #[.slice a n d,.int .i64 t],.int .i64 c])∧P a n d t c w'∧Below W.heap.size W w') :
 Calls Tryz.prog 51 #[ptr s] w fun e w'=>∃ a n d t c w1,e=.returned (.int .i64 c)∧P a n d t c w1∧Below w.heap.size w w1∧w'=(w1.setCell ⟨s,12,none⟩ (.slice a n d)).setCell ⟨s,13,none⟩ (.int .i64 t):=by
 have MA:=Lib.hid hM
 have HG:=Lib.hid hg
 have HS:=Lib.hid (fun W (hb:Below w.heap.size w W)=>h.call hb)
 have SC:Hid (∀ W,Below w.heap.size w W→W.cell? ⟨g,1,none⟩=some rv∧W.cell? ⟨g,2,none⟩=some mv):=Lib.hid (fun W hb=>by
  have h1:=World.block_lt_of_cell? _ _ c1
  rw [hb.cell (p:=⟨g,1,none⟩) h1,hb.cell (p:=⟨g,2,none⟩) h1];exact ⟨c1,c2⟩)
 have HB:=Lib.hid ((Below.refl w.heap.size w).drew)
 clear hM h c1 c2 hg
 go_enter Tryz.func51,Tryz.ntmps51
 go_wp2_with fail
 refine wp_region_held_drew (S:=(fun W'=>W'.cell? ⟨s,0,none⟩=some (ptr g)∧W'.cell? ⟨s,1,none⟩=some o0∧W'.cell? ⟨s,2,none⟩=some o1∧W'.cell? ⟨s,3,none⟩=some o2∧W'.cell? ⟨s,4,none⟩=some o3∧W'.cell? ⟨s,5,none⟩=some o4∧W'.cell? ⟨s,6,none⟩=some o5∧W'.cell? ⟨s,7,none⟩=some o6∧W'.cell? ⟨s,8,none⟩=some o7∧W'.cell? ⟨s,9,none⟩=some o8∧W'.cell? ⟨s,10,none⟩=some o9∧W'.cell? ⟨s,11,none⟩=some ev∧W'.cell? ⟨g,1,none⟩=some rv∧W'.cell? ⟨g,2,none⟩=some mv)) (by kernel_rfl) (⟨(HS.out _ HB.out).c0,(HS.out _ HB.out).c1,(HS.out _ HB.out).c2,(HS.out _ HB.out).c3,(HS.out _ HB.out).c4,(HS.out _ HB.out).c5,(HS.out _ HB.out).c6,(HS.out _ HB.out).c7,(HS.out _ HB.out).c8,(HS.out _ HB.out).c9,(HS.out _ HB.out).c10,(HS.out _ HB.out).c11,SC.out _ HB.out⟩) (fun hHeld=>?_)
 refine Gh.tk 0 ?_
 refine Gh.tk 1 ?_
 refine Gh.tk 2 ?_
 refine Gh.tk 3 ?_
 refine Gh.tk 4 ?_
 refine Gh.tk 5 ?_
 refine Gh.tk 6 ?_
 refine Gh.tk 7 ?_
 refine Gh.tk 8 ?_
 refine Gh.tk 9 ?_
 refine Gh.tk 10 ?_
 refine Gh.tk 11 ?_
 refine Gh.tk 12 ?_
 refine Gh.tk 13 ?_
 refine Gh.tk 14 ?_
 refine Gh.tk 15 ?_
 refine Gh.rd 16 (fun K hK=>?_)
 go_simp
 (with_reducible refine (MA.out _ HB.out).mono ?_)
 rintro e w1 ⟨a,n,d,t,c,rfl,hp,b1⟩
 have B1:=Lib.hid (HB.out.trans b1)
 have H1:=Lib.hid (HS.out _ B1.out)
 have HP:=Lib.hid hp
 clear hp b1
 go_simp
 refine hK.out _ _ (⟨H1.out.c0,H1.out.c1,H1.out.c2,H1.out.c3,H1.out.c4,H1.out.c5,H1.out.c6,H1.out.c7,H1.out.c8,H1.out.c9,H1.out.c10,H1.out.c11,SC.out _ B1.out⟩) (fun hHeld=>?_)
 clear hK K
 refine Gh.pt ?_
 refine Gh.tk 17 ?_
 refine Gh.tk 18 ?_
 refine Gh.tk 19 ?_
 refine Gh.tk 20 ?_
 refine Gh.tk 21 ?_
 refine Gh.rd 22 (fun K hK=>?_)
 have c12:=H1.out.c12
 have c13:=H1.out.c13
 have f12:=H1.out.fz 12
 have f13:=H1.out.fz 13
 have H2:=Lib.hid ((H1.out.s12 (.slice a n d)).s13 (.int .i64 t))
 go_simp
 refine hK.out _ _ (⟨H2.out.c0,H2.out.c1,H2.out.c2,H2.out.c3,H2.out.c4,H2.out.c5,H2.out.c6,H2.out.c7,H2.out.c8,H2.out.c9,H2.out.c10,H2.out.c11,by rw [cell_other HG.out,cell_other HG.out];exact (SC.out _ B1.out).1,by rw [cell_other HG.out,cell_other HG.out];exact (SC.out _ B1.out).2⟩) (fun hHeld=>?_)
 clear hK K
 refine Gh.pt ?_
 refine Gh.tk 23 ?_
 refine wpAnyH_done (by kernel_rfl) ?_ _
 go_wp2
 go_ret
 exact ⟨_,_,_,_,_,_,rfl,HP.out,B1.out,rfl⟩
theorem put_in (s g:Nat) (pj sv:Value) (o0 o1 o2 o3 o4 o5 o6 o7 o8 o9 ev nr nm:Value) (w:World) (h:ChAt w s (ptr g) o0 o1 o2 o3 o4 o5 o6 o7 o8 o9 ev nr nm) (c0:w.cell? ⟨g,0,none⟩=some pj) (P:Int→World→Prop)
 (hB:∀ W,Below w.heap.size w W→Calls Tryz.prog 92 #[.agg #[o0,o1,o2,o3,o4,o5,o6,o7,o8,o9]] W fun x w'=>∃ c,x=.returned (.tuple #[sv,.int .i64 c])∧Below W.heap.size W w')
 (hA:∀ W,Below w.heap.size w W→Calls Tryz.prog 93 #[pj,sv] W fun x w'=>∃ c,x=.returned (.int .i64 c)∧P c w') :
 Calls Tryz.prog 52 #[ptr s] w fun e w'=>∃ c,e=.returned (.int .i64 c)∧P c w':=by
 have BY:=Lib.hid (hB w (Below.refl _ _))
 have AP:=Lib.hid hA
 have HS:=Lib.hid h
 have HC:=Lib.hid c0
 have d0:=h.c0
 have d1:=h.c1
 have d2:=h.c2
 have d3:=h.c3
 have d4:=h.c4
 have d5:=h.c5
 have d6:=h.c6
 have d7:=h.c7
 have d8:=h.c8
 have d9:=h.c9
 have d10:=h.c10
 clear hB hA h c0
 go_enter Tryz.func52,Tryz.ntmps52
 go_wp2_with fail
 (with_reducible refine BY.out.mono ?_)
 rintro e w1 ⟨c,rfl,b1⟩
 have hs:=HS.out.call b1
 have e0:=hs.c0
 have c0:w1.cell? ⟨g,0,none⟩=some pj:=by
  have:=World.block_lt_of_cell? _ _ HC.out
  rw [b1.cell this];exact HC.out
 have AP1:=Lib.hid (AP.out w1 b1)
 clear BY AP HS HC hs b1 d0 d1 d2 d3 d4 d5 d6 d7 d8 d9 d10
 go_wp2_with fail
 (with_reducible refine AP1.out.mono ?_)
 rintro e w2 ⟨c',rfl,hp⟩
 have HP:=Lib.hid hp
 clear AP1 hp e0 c0
 go_wp2
 go_ret
 exact ⟨_,rfl,HP.out⟩
theorem keep_in (s g:Nat) (o0 o1 o2 o3 o4 o5 o6 o7 o8 o9 ev:Value) (a:Option Addr) (n d:Nat) (t:Int) (w:World) (h:ChAt w s (ptr g) o0 o1 o2 o3 o4 o5 o6 o7 o8 o9 ev (.slice a n d) (.int .i64 t)) {x0 x1 x2:Value} (hg:w.heap[g]?=some (.cells #[x0,x1,x2] 92 (0,0))) :
 Calls Tryz.prog 53 #[ptr s] w fun e w'=>e=.returned (.int .i64 0)∧w'=(w.drew.setCell ⟨g,1,none⟩ (.slice a n d)).setCell ⟨g,2,none⟩ (.int .i64 t):=by
 have d0:=h.c0
 have d12:=h.c12
 have d13:=h.c13
 have c1:w.cell? ⟨g,1,none⟩=some x1:=by rw [Lib.cell_of_heap hg];rfl
 have c2:w.cell? ⟨g,2,none⟩=some x2:=by rw [Lib.cell_of_heap hg];rfl
 have f1:w.frozen? ⟨g,1,none⟩=false:=Lib.frozen_of_heap hg 1
 have f2:w.frozen? ⟨g,2,none⟩=false:=Lib.frozen_of_heap hg 2
 clear h hg
 go_enter Tryz.func53,Tryz.ntmps53
 go_wp2_with fail
 go_still_tail 8,(by kernel_rfl)
 change wpList _ _ _ _ _ w.drew
 go_wp2
 go_ret
 exact ⟨rfl,rfl⟩
end Go.Proofs.YteempfoajgblaaaGreat.Rg
