/- Contract of package slots' Read. Contract of package slots' Read, where all can be read. -/
import Derived.Test.YteempfoajgblaaaGreatLSlF
import Derived.Deep.RegionWith
set_option maxRecDepth 100000
set_option linter.unusedVariables false
set_option linter.unusedSimpArgs false
open Go.ChangeShapes Go.WideShapes Go.ChangeAt Go.RowKit Go.Joins
set_option maxHeartbeats 8000000
namespace Go.Proofs.YteempfoajgblaaaGreat.Sl
open Dk (Dk DS Moved ptr)
noncomputable def stepT (i:Nat) (L:List (List UInt8)) (T:(Nat×List UInt8)×Nat):(Nat×List UInt8)×Nat:=open Classical in if (snapL L).2=true∧T.1.1≤(snapL L).1.1 then ((snapL L).1,1-i) else T
noncomputable def readTo (L0 L1:List (List UInt8)):Nat→(Nat×List UInt8)×Nat
 | 0=>((0,[]),0)
 | 1=>stepT 0 L0 ((0,[]),0)
 | _=>stepT 1 L1 (stepT 0 L0 ((0,[]),0))
def nwTo (L0 L1:List (List UInt8)):Nat→Nat
 | 0=>0
 | 1=>newestL L0
 | _=>max (newestL L0) (newestL L1)
theorem stepT_lt {i:Nat} {L:List (List UInt8)} {T:(Nat×List UInt8)×Nat} (h:T.1.1<18446744073709551616):(stepT i L T).1.1<18446744073709551616:=by
 unfold stepT;split;exact snapL_lt L;exact h
theorem readTo_lt (L0 L1:List (List UInt8)) (i:Nat):(readTo L0 L1 i).1.1<18446744073709551616:=by
 unfold readTo;split
 · show (0:Nat)<_;omega
 · exact stepT_lt (by show (0:Nat)<_;omega)
 · exact stepT_lt (stepT_lt (by show (0:Nat)<_;omega))
theorem Sl.reset {q b:Nat} {t:SS} {w:World} (h:Sl q b t w):Sl q b ⟨t.at_,t.k,false,0,0⟩ ((((((w.setCell ⟨q,0,none⟩ (ptr b)).setCell ⟨q,1,none⟩ (.int .i64 (t.at_:Int))).setCell ⟨q,2,none⟩ (.int .i64 (t.k:Int))).setCell ⟨q,3,none⟩ (.bool false)).setCell ⟨q,4,none⟩ (.int .u64 0)).setCell ⟨q,5,none⟩ (.int .i64 0)):=by
 unfold Sl at *;simp [World.setCell,Array.getElem?_modify,h,cellsOf]
structure Rd (B b q p:Nat) (t:SS) (d:DS) (w W:World):Prop where
 dk:Dk B b d W
 sl:Sl q b t W
 res:SnAt W p 0 []
 mv:Mv b q w W
 pq:p≠q
 pl:w.heap.size≤p
 bl:b<w.heap.size
section
variable {B b q p:Nat} {t t':SS} {d d':DS} {w W W':World}
theorem Rd.call (h:Rd B b q p t d w W) (hb:Below W.heap.size W W'):Rd B b q p t d w W':=⟨h.dk.call hb,h.sl.call hb,h.res.call hb,h.mv.call hb h.dk.lt,h.pq,h.pl,h.bl⟩
theorem Rd.disk (h:Rd B b q p t d w W) (k:Dk B b d' W') (m:Moved b W W'):Rd B b q p t d' w W':=⟨k,h.sl.disk h.dk m,h.dk.keep m h.res (by decide) (by decide) (by decide),h.mv.moved m,h.pq,h.pl,h.bl⟩
theorem Rd.set (h:Rd B b q p t d w W) {o:Nat} {x:Value} (s:Sl q b t' (W.setCell ⟨q,o,none⟩ x)):Rd B b q p t' d w (W.setCell ⟨q,o,none⟩ x):=
 ⟨Dk_setOther h.dk (h.sl.notOwn h.dk),s,h.res.of_block (Below.heap_setCell W ⟨q,o,none⟩ x p h.pq),h.mv.set (h.sl.ne h.dk) o x,h.pq,h.pl,h.bl⟩
theorem Rd.drew (h:Rd B b q p t d w W):Rd B b q p t d w W.drew:=h.call ((Below.refl _ _).drew)
theorem Rd.setNew (h:Rd B b q p t d w W) {n e o:Nat} {l:List UInt8} (hn:SnAt W n e l) (np:n≠p) (nl:w.heap.size≤n) (ql:q<w.heap.size) (x:Value):Rd B b q p t d w (W.setCell ⟨n,o,none⟩ x):=by
 have nq:n≠q:=by omega
 have nD:¬Dk.Own W b n:=by
  obtain ⟨g,v,dk⟩:=h.dk
  exact dk.keepT hn (by decide) (by decide) (by decide)
 exact ⟨Dk_setOther h.dk nD,h.sl.of_block (Below.heap_setCell W ⟨n,o,none⟩ x q (Ne.symm nq)),h.res.of_block (Below.heap_setCell W ⟨n,o,none⟩ x p (Ne.symm np)),h.mv.setNew h.bl nl o x,h.pq,h.pl,h.bl⟩
end
theorem rd_start {B b q:Nat} {t:SS} {d:DS} {w:World} (dk:Dk B b d w) (sl:Sl q b t w):Rd B b q w.heap.size t d w (w.alloc (.cells #[.int .u64 0,.string ⟨#[]⟩] 134)):=by
 have b1:=(Below.refl w.heap.size w).alloc (Nat.le_refl _) (.cells #[.int .u64 0,.string ⟨#[]⟩] 134)
 exact ⟨dk.call b1,sl.call b1,snAt_new w,(Mv.refl b q w).call b1 dk.lt,by have:=sl.lt;omega,Nat.le_refl _,dk.lt⟩
theorem Rd.reset {B b q p:Nat} {t:SS} {d:DS} {w W:World} (h:Rd B b q p t d w W):Rd B b q p ⟨t.at_,t.k,false,0,0⟩ d w ((((((W.setCell ⟨q,0,none⟩ (ptr b)).setCell ⟨q,1,none⟩ (.int .i64 (t.at_:Int))).setCell ⟨q,2,none⟩ (.int .i64 (t.k:Int))).setCell ⟨q,3,none⟩ (.bool false)).setCell ⟨q,4,none⟩ (.int .u64 0)).setCell ⟨q,5,none⟩ (.int .i64 0)):=by
 have hs:=h.sl.reset
 have e:∀ j:Nat,j≠q→((((((W.setCell ⟨q,0,none⟩ (ptr b)).setCell ⟨q,1,none⟩ (.int .i64 (t.at_:Int))).setCell ⟨q,2,none⟩ (.int .i64 (t.k:Int))).setCell ⟨q,3,none⟩ (.bool false)).setCell ⟨q,4,none⟩ (.int .u64 0)).setCell ⟨q,5,none⟩ (.int .i64 0)).heap[j]?=W.heap[j]?:=fun j hj=>by
  rw [Below.heap_setCell _ _ _ _ hj,Below.heap_setCell _ _ _ _ hj,Below.heap_setCell _ _ _ _ hj,Below.heap_setCell _ _ _ _ hj,Below.heap_setCell _ _ _ _ hj,Below.heap_setCell _ _ _ _ hj]
 have hne:=h.sl.ne h.dk
 have nO:=h.sl.notOwn h.dk
 obtain ⟨g,v,dk⟩:=h.dk
 refine ⟨⟨g,v,dk.of_blocks fun k hk=>e k (fun ek=>nO (ek▸hk))⟩,hs,h.res.of_block (e _ h.pq),?_,h.pq,h.pl,h.bl⟩
 exact (((((h.mv.set hne 0 _).set hne 1 _).set hne 2 _).set hne 3 _).set hne 4 _).set hne 5 _
theorem Rd.retNew {B b q p:Nat} {t:SS} {d:DS} {w W:World} (h:Rd B b q p t d w W) (ql:q<w.heap.size) {m:Nat} (hm:m=p) (x y:Value):Dk B b d ((W.setCell ⟨m,0,none⟩ x).setCell ⟨m,1,none⟩ y)∧Sl q b t ((W.setCell ⟨m,0,none⟩ x).setCell ⟨m,1,none⟩ y)∧Mv b q w ((W.setCell ⟨m,0,none⟩ x).setCell ⟨m,1,none⟩ y):=by
 subst hm
 have nq:m≠q:=h.pq
 have e:∀ j:Nat,j≠m→((W.setCell ⟨m,0,none⟩ x).setCell ⟨m,1,none⟩ y).heap[j]?=W.heap[j]?:=fun j hj=>by
  rw [Below.heap_setCell _ _ _ _ hj,Below.heap_setCell _ _ _ _ hj]
 obtain ⟨g,v,dk⟩:=h.dk
 have nD:¬Dk.Own W b m:=dk.keepT h.res (by decide) (by decide) (by decide)
 exact ⟨⟨g,v,dk.of_blocks fun k hk=>e k (fun ek=>nD (ek▸hk))⟩,h.sl.of_block (e q (Ne.symm nq)),(h.mv.setNew h.bl h.pl 0 x).setNew h.bl h.pl 1 y⟩
def RdIn (B b q p n7:Nat) (t:SS) (d:DS) (v0 v1:Value) (L0 L1:List (List UInt8)) (w:World) (i:Nat) (wx:World):Prop:=
 Rd B b q p ⟨t.at_,t.k,true,nwTo L0 L1 i,(readTo L0 L1 i).2⟩ d w wx∧SnAt wx n7 (readTo L0 L1 i).1.1 (readTo L0 L1 i).1.2∧Row v0 L0 wx∧Row v1 L1 wx
def RdRel (B b q p n7:Nat) (t:SS) (d:DS) (v0 v1:Value) (L0 L1:List (List UInt8)) (w:World) (g:Nat) (s43:Value) (wx:World):Prop:=
 ∃ i,i+g=2∧s43=.int .i64 (i:Int)∧RdIn B b q p n7 t d v0 v1 L0 L1 w i wx
theorem read_io (B b q:Nat) (t:SS) (s:DS) (w:World) (dk:Dk B b s w) (sl:Sl q b t w) (hk:1≤t.k) (hk2:t.k≤64) (ha:t.at_+2*t.k≤s.sec.length) (hr:s.reads≤900000000) (hn:s.opn.length≤900000) (hf1:1≤s.fail) (hf2:s.fail≤2*t.k) :
 Calls Tryz.prog 64 #[ptr q] w fun e w'=>e=.returned (.tuple #[.agg #[.int .u64 0,.string ⟨#[]⟩],.bool false,.int .i64 18])∧Dk B b ⟨s.sec,s.opn,0,s.reads+s.fail⟩ w'∧Sl q b ⟨t.at_,t.k,false,0,0⟩ w'∧Mv b q w w':=by
 have R0:=Lib.hid (rd_start dk sl)
 have ql:=sl.lt
 have RM:=Lib.hid (room_any _ R0.out.sl hk2)
 have c0:=R0.out.sl.c0
 have c1:=R0.out.sl.c1
 have c2:=R0.out.sl.c2
 have c3:=R0.out.sl.c3
 have c4:=R0.out.sl.c4
 have c5:=R0.out.sl.c5
 have g0:=R0.out.sl.fz 0
 have g1:=R0.out.sl.fz 1
 have g2:=R0.out.sl.fz 2
 have g3:=R0.out.sl.fz 3
 have g4:=R0.out.sl.fz 4
 have g5:=R0.out.sl.fz 5
 have rmk:((43*(t.k:Int))==0)=false:=by simp;omega
 have rmn:¬(43*(t.k:Int))=0:=by omega
 have R1:=Lib.hid R0.out.reset
 generalize hW:w.alloc (.cells #[.int .u64 0,.string ⟨#[]⟩] 134)=W0 at *
 generalize hRM:43*(t.k:Int)=RM0 at *
 clear hRM dk sl
 go_enter Tryz.func64,Tryz.ntmps64
 go_wp2_with fail
 (with_reducible refine RM.out.mono ?_)
 rintro e w1 ⟨rfl,rfl⟩
 clear RM
 go_wp2_with fail
 go_region
 have R2:=Lib.hid R1.out.drew
 clear R1 R0 c0 c1 c2 c3 c4 c5 g0 g1 g2 g3 g4 g5
 generalize ((((((w1.setCell ⟨q,0,none⟩ (ptr b)).setCell ⟨q,1,none⟩ (.int .i64 (t.at_:Int))).setCell ⟨q,2,none⟩ (.int .i64 (t.k:Int))).setCell ⟨q,3,none⟩ (.bool false)).setCell ⟨q,4,none⟩ (.int .u64 0)).setCell ⟨q,5,none⟩ (.int .i64 0)).drew=W2 at *
 have SEC:=Lib.hid (sectors_any B b q _ s W2 R2.out.dk R2.out.sl hk hk2 ha hr hn (by omega))
 go_wp2_with fail
 (with_reducible refine SEC.out.mono ?_)
 rintro e w3 ⟨⟨p0,n0,cap0,p1,n1,cap1,okb,d,rfl,k3,hcase⟩,m3⟩
 clear SEC
 have R3:=Lib.hid (R2.out.disk k3 m3)
 clear k3 m3 R2
 rcases hcase with ⟨_,hbad,_⟩|⟨rfl,_,_,rfl⟩
 ·exfalso
  have hbad':s.fail=0∨2*t.k<s.fail:=hbad
  omega
 have R4:=Lib.hid (R3.out.call ((Below.refl _ _).alloc (Nat.le_refl _) (.cells #[.slice p0 n0 cap0,.slice p1 n1 cap1] 179)))
 have c0:=R4.out.res.c0
 have c1:=R4.out.res.c1
 have f0:=R4.out.res.fz 0
 have f1:=R4.out.res.fz 1
 have FIN:=Lib.hid (show Dk B b ⟨s.sec,s.opn,0,s.reads+s.fail⟩ (((w3.alloc (.cells #[.slice p0 n0 cap0,.slice p1 n1 cap1] 179)).setCell ⟨w.heap.size,0,none⟩ (.int .u64 0)).setCell ⟨w.heap.size,1,none⟩ (.string ⟨#[]⟩))∧Sl q b ⟨t.at_,t.k,false,0,0⟩ (((w3.alloc (.cells #[.slice p0 n0 cap0,.slice p1 n1 cap1] 179)).setCell ⟨w.heap.size,0,none⟩ (.int .u64 0)).setCell ⟨w.heap.size,1,none⟩ (.string ⟨#[]⟩))∧Mv b q w (((w3.alloc (.cells #[.slice p0 n0 cap0,.slice p1 n1 cap1] 179)).setCell ⟨w.heap.size,0,none⟩ (.int .u64 0)).setCell ⟨w.heap.size,1,none⟩ (.string ⟨#[]⟩)) from R4.out.retNew ql rfl _ _)
 clear R3 R4
 go_wp2
 refine bodyPost_ret (v:=.tuple #[.agg #[.int .u64 0,.string ⟨#[]⟩],.bool false,.int .i64 18]) (by simp [results,Tryz.results64,go_sem,c0,c1]) rfl ⟨rfl,FIN.out⟩
end Go.Proofs.YteempfoajgblaaaGreat.Sl
namespace Go.Proofs.YteempfoajgblaaaGreat.Sl
open Dk (Dk DS Moved ptr)
theorem Row.setOther {v:Value} {L:List (List UInt8)} {w:World} (h:Row v L w) (h0:0<L.length) {m:Nat} {c:Value} (hc:w.cell? ⟨m,0,none⟩=some c) (hn:∀ s,c≠.string s) (o:Nat) (x:Value):Row v L (w.setCell ⟨m,o,none⟩ x):=by
 obtain ⟨g,cap,e,hg,hcs⟩:=h
 have gm:g≠m:=fun e=>by
  have:=hcs 0 h0
  rw [e,hc] at this
  exact hn _ (Option.some.inj this)
 refine ⟨g,cap,e,by simpa [World.setCell] using hg,fun j hj=>?_⟩
 rw [World.cell?_of_block (w:=w) (a:=⟨g,j,none⟩) (Below.heap_setCell w ⟨m,o,none⟩ x g gm)]
 exact hcs j hj
theorem Row.sl {v:Value} {L:List (List UInt8)} {w:World} {q b:Nat} {t:SS} (h:Row v L w) (h0:0<L.length) (s:Sl q b t w) (o:Nat) (x:Value):Row v L (w.setCell ⟨q,o,none⟩ x):=h.setOther h0 s.c0 (fun s e=>by cases e) o x
theorem Row.sn {v:Value} {L:List (List UInt8)} {w:World} {p e:Nat} {d:List UInt8} (h:Row v L w) (h0:0<L.length) (s:SnAt w p e d) (o:Nat) (x:Value):Row v L (w.setCell ⟨p,o,none⟩ x):=h.setOther h0 s.c0 (fun s e=>by cases e) o x
def C12 (B b q p n7:Nat) (t:SS) (d:DS) (v0 v1 V:Value) (L0 L1:List (List UInt8)) (nw nx E:Nat) (D:List UInt8) (w:World) (s9:Value) (wx:World):Prop:=
 s9=V∧Rd B b q p ⟨t.at_,t.k,true,nw,nx⟩ d w wx∧SnAt wx n7 E D∧Row v0 L0 wx∧Row v1 L1 wx
theorem c12_in {B b q p n7:Nat} {t:SS} {d:DS} {v0 v1:Value} {L0 L1:List (List UInt8)} {nw nx E M:Nat} {D:List UInt8} {w W:World} (h:Rd B b q p ⟨t.at_,t.k,true,nw,nx⟩ d w W) (h7:SnAt W n7 E D) (r0:Row v0 L0 W) (r1:Row v1 L1 W) (l0:0<L0.length) (l1:0<L1.length) (q7:n7≠q) {x:Int} (hx:x=(M:Int)) :
 Rd B b q p ⟨t.at_,t.k,true,M,nx⟩ d w (W.setCell ⟨q,4,none⟩ (.int .u64 x))∧SnAt (W.setCell ⟨q,4,none⟩ (.int .u64 x)) n7 E D∧Row v0 L0 (W.setCell ⟨q,4,none⟩ (.int .u64 x))∧Row v1 L1 (W.setCell ⟨q,4,none⟩ (.int .u64 x)):=
 ⟨h.set (h.sl.setNw hx),h7.of_block (Below.heap_setCell W ⟨q,4,none⟩ _ n7 q7),r0.sl l0 h.sl 4 _,r1.sl l1 h.sl 4 _⟩
theorem rd_all {B b q p n7:Nat} {t:SS} {d:DS} {v0 v1:Value} {L0 L1:List (List UInt8)} {E:Nat} {D:List UInt8} {w W W':World} (h:Rd B b q p t d w W∧SnAt W n7 E D∧Row v0 L0 W∧Row v1 L1 W) (hb:Below W.heap.size W W'):Rd B b q p t d w W'∧SnAt W' n7 E D∧Row v0 L0 W'∧Row v1 L1 W' :=
 ⟨h.1.call hb,h.2.1.call hb,h.2.2.1.call hb,h.2.2.2.call hb⟩
theorem rd_took {B b q p n7:Nat} {t:SS} {d:DS} {v0 v1:Value} {L0 L1:List (List UInt8)} {nw nx E e m:Nat} {D l:List UInt8} {w W:World} (h:Rd B b q p ⟨t.at_,t.k,true,nw,nx⟩ d w W∧SnAt W n7 E D∧Row v0 L0 W∧Row v1 L1 W) (l0:0<L0.length) (l1:0<L1.length) (q7:n7≠q) (p7:n7≠p) (w7:w.heap.size≤n7) (ql:q<w.heap.size) {x:Int} (hx:x=(m:Int)) :
 Rd B b q p ⟨t.at_,t.k,true,nw,m⟩ d w (((W.setCell ⟨n7,0,none⟩ (.int .u64 (e:Int))).setCell ⟨n7,1,none⟩ (.string (mkB l))).setCell ⟨q,5,none⟩ (.int .i64 x))∧SnAt (((W.setCell ⟨n7,0,none⟩ (.int .u64 (e:Int))).setCell ⟨n7,1,none⟩ (.string (mkB l))).setCell ⟨q,5,none⟩ (.int .i64 x)) n7 e l∧Row v0 L0 (((W.setCell ⟨n7,0,none⟩ (.int .u64 (e:Int))).setCell ⟨n7,1,none⟩ (.string (mkB l))).setCell ⟨q,5,none⟩ (.int .i64 x))∧Row v1 L1 (((W.setCell ⟨n7,0,none⟩ (.int .u64 (e:Int))).setCell ⟨n7,1,none⟩ (.string (mkB l))).setCell ⟨q,5,none⟩ (.int .i64 x)):=by
 obtain ⟨h1,h2,h3,h4⟩:=h
 have s1:=h2.setE (x:=(e:Int)) (m:=e) rfl
 have a1:=h1.setNew (o:=0) h2 p7 w7 ql (.int .u64 (e:Int))
 have s2:=s1.setD (x:=mkB l) (m:=l) rfl
 have a2:=a1.setNew (o:=1) s1 p7 w7 ql (.string (mkB l))
 exact ⟨a2.set (a2.sl.setNx hx),s2.of_block (Below.heap_setCell _ ⟨q,5,none⟩ _ n7 q7),((h3.sn l0 h2 0 _).sn l0 s1 1 _).sl l0 a2.sl 5 _,((h4.sn l1 h2 0 _).sn l1 s1 1 _).sl l1 a2.sl 5 _⟩
theorem step_yes {i:Nat} {L:List (List UInt8)} {T:(Nat×List UInt8)×Nat} {e:Nat} {l:List UInt8} (hs:snapL L=((e,l),true)) (h:T.1.1≤e):stepT i L T=((e,l),1-i):=by
 unfold stepT;rw [hs,if_pos ⟨rfl,h⟩]
theorem step_no {i:Nat} {L:List (List UInt8)} {T:(Nat×List UInt8)×Nat} {e:Nat} {l:List UInt8} {x:Bool} (hs:snapL L=((e,l),x)) (h:x=false∨e<T.1.1):stepT i L T=T:=by
 unfold stepT;rw [hs,if_neg]
 rintro ⟨h1,h2⟩
 have h1':x=true:=h1
 have h2':T.1.1≤e:=h2
 rcases h with h|h
 · rw [h] at h1';cases h1'
 · omega
theorem other_0 (w:World):Calls Tryz.prog 106 #[.int .i64 0] w fun e w'=>e=.returned (.int .i64 1)∧w'=w:=other_any 0 w (by omega)
theorem other_1 (w:World):Calls Tryz.prog 106 #[.int .i64 1] w fun e w'=>e=.returned (.int .i64 0)∧w'=w:=other_any 1 w (by omega)
theorem index_0 (x y:Value) (w:World):(Instr.index 179 (.agg #[x,y]) (.int .i64 0)).run Tryz.prog w=.ok x w:=by kernel_rfl
theorem index_1 (x y:Value) (w:World):(Instr.index 179 (.agg #[x,y]) (.int .i64 1)).run Tryz.prog w=.ok y w:=by kernel_rfl
noncomputable def toldR (t:SS) (s:DS):(Nat×List UInt8)×Nat:=readTo (rowOf s t.at_ t.k) (rowOf s (t.at_+t.k) t.k) 2
def newR (t:SS) (s:DS):Nat:=nwTo (rowOf s t.at_ t.k) (rowOf s (t.at_+t.k) t.k) 2
theorem read_ok (B b q:Nat) (t:SS) (s:DS) (w:World) (dk:Dk B b s w) (sl:Sl q b t w) (hk:1≤t.k) (hk2:t.k≤64) (ha:t.at_+2*t.k≤s.sec.length) (hr:s.reads≤900000000) (hn:s.opn.length≤900000) (hf0:s.fail<9223372036854775808) (hf:s.fail=0∨2*t.k<s.fail) :
 Calls Tryz.prog 64 #[ptr q] w fun e w'=>e=.returned (.tuple #[.agg #[.int .u64 ((toldR t s).1.1:Int),.string (mkB (toldR t s).1.2)],.bool (decide (0<(toldR t s).1.1)),.int .i64 0])∧Dk B b (gotR s t.k) w'∧Sl q b ⟨t.at_,t.k,true,newR t s,(toldR t s).2⟩ w'∧Mv b q w w':=by
 have R0:=Lib.hid (rd_start dk sl)
 have ql:=sl.lt
 have RM:=Lib.hid (room_any _ R0.out.sl hk2)
 have c0:=R0.out.sl.c0
 have c1:=R0.out.sl.c1
 have c2:=R0.out.sl.c2
 have c3:=R0.out.sl.c3
 have c4:=R0.out.sl.c4
 have c5:=R0.out.sl.c5
 have g0:=R0.out.sl.fz 0
 have g1:=R0.out.sl.fz 1
 have g2:=R0.out.sl.fz 2
 have g3:=R0.out.sl.fz 3
 have g4:=R0.out.sl.fz 4
 have g5:=R0.out.sl.fz 5
 have rmk:((43*(t.k:Int))==0)=false:=by simp;omega
 have rmn:¬(43*(t.k:Int))=0:=by omega
 have R1:=Lib.hid R0.out.reset
 generalize hW:w.alloc (.cells #[.int .u64 0,.string ⟨#[]⟩] 134)=W0 at *
 generalize hRM:43*(t.k:Int)=RM0 at *
 clear hRM dk sl
 go_enter Tryz.func64,Tryz.ntmps64
 go_wp2_with fail
 (with_reducible refine RM.out.mono ?_)
 rintro e w1 ⟨rfl,rfl⟩
 clear RM
 go_wp2_with fail
 go_region
 have R2:=Lib.hid R1.out.drew
 clear R1 R0 c0 c1 c2 c3 c4 c5 g0 g1 g2 g3 g4 g5 rmk rmn hW
 generalize ((((((w1.setCell ⟨q,0,none⟩ (ptr b)).setCell ⟨q,1,none⟩ (.int .i64 (t.at_:Int))).setCell ⟨q,2,none⟩ (.int .i64 (t.k:Int))).setCell ⟨q,3,none⟩ (.bool false)).setCell ⟨q,4,none⟩ (.int .u64 0)).setCell ⟨q,5,none⟩ (.int .i64 0)).drew=W2 at *
 have SEC:=Lib.hid (sectors_any B b q _ s W2 R2.out.dk R2.out.sl hk hk2 ha hr hn hf0)
 go_wp2_with fail
 (with_reducible refine SEC.out.mono ?_)
 rintro e w3 ⟨⟨p0,n0,cap0,p1,n1,cap1,okb,d,rfl,k3,hcase⟩,m3⟩
 clear SEC
 have R3:=Lib.hid (R2.out.disk k3 m3)
 clear k3 m3 R2
 rcases hcase with ⟨rfl,_,rfl,rw0,rw1⟩|⟨rfl,h1,h2,rfl⟩
 case inr=>
  exfalso
  have h2':s.fail≤2*t.k:=h2
  omega
 have TR:toldR t s=readTo (rowOf s t.at_ t.k) (rowOf s (t.at_+t.k) t.k) 2:=rfl
 have NR:newR t s=nwTo (rowOf s t.at_ t.k) (rowOf s (t.at_+t.k) t.k) 2:=rfl
 have ll0:=rowOf_length s t.at_ t.k
 have ll1:=rowOf_length s (t.at_+t.k) t.k
 have RW:=Lib.hid (show Row (.slice p0 n0 cap0) (rowOf s t.at_ t.k) w3∧Row (.slice p1 n1 cap1) (rowOf s (t.at_+t.k) t.k) w3 from ⟨rw0,rw1⟩)
 clear rw0 rw1
 generalize rowOf s t.at_ t.k=L0 at *
 generalize rowOf s (t.at_+t.k) t.k=L1 at *
 have q3:q<w3.heap.size:=R3.out.sl.lt
 have q3n:¬q=w3.heap.size:=by omega
 have q3m:¬w3.heap.size=q:=by omega
 have R4:Hid (Rd B b q w.heap.size ⟨t.at_,t.k,true,0,0⟩ (gotR s t.k) w (((w3.setCell ⟨q,3,none⟩ (.bool true)).alloc (.cells #[.slice p0 n0 cap0,.slice p1 n1 cap1] 179)).alloc (.cells #[.int .u64 0,.string ⟨#[]⟩] 134))∧SnAt (((w3.setCell ⟨q,3,none⟩ (.bool true)).alloc (.cells #[.slice p0 n0 cap0,.slice p1 n1 cap1] 179)).alloc (.cells #[.int .u64 0,.string ⟨#[]⟩] 134)) (w3.heap.size+1) 0 []∧Row (.slice p0 n0 cap0) L0 (((w3.setCell ⟨q,3,none⟩ (.bool true)).alloc (.cells #[.slice p0 n0 cap0,.slice p1 n1 cap1] 179)).alloc (.cells #[.int .u64 0,.string ⟨#[]⟩] 134))∧Row (.slice p1 n1 cap1) L1 (((w3.setCell ⟨q,3,none⟩ (.bool true)).alloc (.cells #[.slice p0 n0 cap0,.slice p1 n1 cap1] 179)).alloc (.cells #[.int .u64 0,.string ⟨#[]⟩] 134))):=Lib.hid (by
  have a2:=R3.out.set (R3.out.sl.setRd true)
  have z0:=RW.out.1.sl (by omega) R3.out.sl 3 (.bool true)
  have z1:=RW.out.2.sl (by omega) R3.out.sl 3 (.bool true)
  have b1:=(Below.refl (w3.setCell ⟨q,3,none⟩ (.bool true)).heap.size (w3.setCell ⟨q,3,none⟩ (.bool true))).alloc (Nat.le_refl _) (.cells #[.slice p0 n0 cap0,.slice p1 n1 cap1] 179)
  have b2:=b1.alloc (by simp) (.cells #[.int .u64 0,.string ⟨#[]⟩] 134)
  have n7:=snAt_new ((w3.setCell ⟨q,3,none⟩ (.bool true)).alloc (.cells #[.slice p0 n0 cap0,.slice p1 n1 cap1] 179))
  have e7:((w3.setCell ⟨q,3,none⟩ (.bool true)).alloc (.cells #[.slice p0 n0 cap0,.slice p1 n1 cap1] 179)).heap.size=w3.heap.size+1:=by simp [World.setCell]
  rw [e7] at n7
  exact ⟨a2.call b2,n7,z0.call b2,z1.call b2⟩)
 have W3:w.heap.size<w3.heap.size:=R3.out.res.lt
 have s3:=R3.out.sl.c3
 have s3f:=R3.out.sl.fz 3
 clear R3 RW
 go_wp2_with fail
 clear s3 s3f
 generalize (((w3.setCell ⟨q,3,none⟩ (.bool true)).alloc (.cells #[.slice p0 n0 cap0,.slice p1 n1 cap1] 179)).alloc (.cells #[.int .u64 0,.string ⟨#[]⟩] 134))=W4 at *
 generalize hn7:w3.heap.size+1=n7 at *
 have n7w:w.heap.size<n7:=by omega
 have n7q:n7≠q:=by omega
 go_loopg [43] 2 (RdRel B b q w.heap.size n7 t (gotR s t.k) (.slice p0 n0 cap0) (.slice p1 n1 cap1) L0 L1 w)
 case atStart=>exact ⟨0,rfl,rfl,R4.out⟩
 case round=>
  clear R4
  obtain ⟨i,hi,rfl,hin⟩:=hrel
  rcases (show i=0∨i=1∨i=2 by omega) with rfl|rfl|rfl
  ·obtain rfl:gk=2:=by omega
   obtain ⟨hR,h7,z0,z1⟩:=hin
   have IN:=Lib.hid (And.intro hR (And.intro h7 (And.intro z0 z1)))
   have NW:=Lib.hid (newestOf_any (.slice p0 n0 cap0) L0 wr.drew (z0.call (Below.refl _ _).drew) (by omega))
   have c4:=hR.sl.c4
   have f4:=hR.sl.fz 4
   have FB:=Lib.hid (fun w5 (hb:Below wr.drew.heap.size wr.drew w5)=>show w5.cell? ⟨q,4,none⟩=some (.int .u64 (nwTo L0 L1 0:Int))∧w5.frozen? ⟨q,4,none⟩=false from ⟨(hR.drew.call hb).sl.c4,(hR.drew.call hb).sl.fz 4⟩)
   have IH:=Lib.hid (fun w5 (hb:Below wr.drew.heap.size wr.drew w5)=>rd_all (And.intro hR (And.intro h7 (And.intro z0 z1))) ((Below.refl _ _).drew.trans hb))
   have qlr:q<wr.heap.size:=hR.sl.lt
   have mx:=max_u64
   clear hR h7 z0 z1
   generalize hM:nwTo L0 L1 0=M at *
   generalize hT:readTo L0 L1 0=T at *
   obtain ⟨⟨TE,TD⟩,TN⟩:=T
   dsimp only at IN IH
   have ix:=index_0 (.slice p0 n0 cap0) (.slice p1 n1 cap1)
   go_upto_region 12 with (fail)
   clear ix
   go_cut [9] (C12 B b q w.heap.size n7 t (gotR s t.k) (.slice p0 n0 cap0) (.slice p1 n1 cap1) (.slice p0 n0 cap0) L0 L1 (max M (newestL L0)) TN TE TD w)
   case first=>
    go_region_with (go_at_call 104;refine NW.out.mono ?_;rintro e w5 ⟨rfl,b5⟩;obtain ⟨y1,y2⟩:=FB.out w5 b5)
    all_goals go_wp2_with fail
    all_goals go_meet
    all_goals exact ⟨rfl,c12_in (IH.out w5 b5).1 (IH.out w5 b5).2.1 (IH.out w5 b5).2.2.1 (IH.out w5 b5).2.2.2 (by omega) (by omega) n7q rfl⟩
   case rest=>
    obtain ⟨rfl,hR,h7,z0,z1⟩:=hcut
    clear NW FB IH c4 f4 IN mx
    have SN:=Lib.hid (snapOf_any (.slice p0 n0 cap0) L0 wc z0 (by omega) (by omega))
    have OT:=Lib.hid (fun w=>other_0 w)
    have IN:=Lib.hid (And.intro hR (And.intro h7 (And.intro z0 z1)))
    have wc7:=h7.lt
    clear hR h7 z0 z1
    obtain ⟨e,l,wh,hSN⟩:∃ e l wh,snapL L0=((e,l),wh):=⟨_,_,_,rfl⟩
    rw [hSN] at SN
    have eL:e<18446744073709551616:=by have:=snapL_lt L0;rw [hSN] at this;exact this
    have HSN:=Lib.hid hSN
    clear hSN
    go_wp2_with fail
    (with_reducible refine SN.out.mono ?_)
    rintro e6 w6 ⟨rfl,b6⟩
    have I5:=Lib.hid (rd_all IN.out b6)
    have w67:n7<w6.heap.size:=I5.out.2.1.lt
    have wq7:q<w6.heap.size:=I5.out.1.sl.lt
    clear b6 IN SN
    have u0:=I5.out.2.1.c0
    have u1:=I5.out.2.1.c1
    have v0:=I5.out.2.1.fz 0
    have v1:=I5.out.2.1.fz 1
    have q5:=I5.out.1.sl.c5
    have q5f:=I5.out.1.sl.fz 5
    have w6n:¬w6.heap.size=n7:=by omega
    have w6q:¬w6.heap.size=q:=by omega
    have NX:nwTo L0 L1 1=max M (newestL L0):=by rw [← hM];show newestL L0=max 0 (newestL L0);omega
    have SX:readTo L0 L1 1=stepT 0 L0 (readTo L0 L1 0):=rfl
    cases wh with
    | false=>
     have TX:readTo L0 L1 1=((TE,TD),TN):=by rw [SX,hT];exact step_no HSN.out (.inl rfl)
     have FIN:Hid (RdIn B b q w.heap.size n7 t (gotR s t.k) (.slice p0 n0 cap0) (.slice p1 n1 cap1) L0 L1 w 1 (w6.alloc (.cells #[.int .u64 (e:Int),.string (mkB l)] 134))):=Lib.hid (by unfold RdIn;rw [NX,TX];exact rd_all I5.out ((Below.refl _ _).alloc (Nat.le_refl _) _))
     clear I5 OT HSN TX NX SX hT hM u0 u1 v0 v1 q5 q5f
     go_wp2
     go_roundg 1
     case measure=>omega
     case rel=>exact ⟨1,rfl,by go_num,FIN.out⟩
    | true=>
     rcases Nat.lt_or_ge e TE with hlt|hge
     ·have TX:readTo L0 L1 1=((TE,TD),TN):=by rw [SX,hT];exact step_no HSN.out (.inr hlt)
      have FIN:Hid (RdIn B b q w.heap.size n7 t (gotR s t.k) (.slice p0 n0 cap0) (.slice p1 n1 cap1) L0 L1 w 1 (w6.alloc (.cells #[.int .u64 (e:Int),.string (mkB l)] 134))):=Lib.hid (by unfold RdIn;rw [NX,TX];exact rd_all I5.out ((Below.refl _ _).alloc (Nat.le_refl _) _))
      have cmp:(e:Int)<(TE:Int):=by omega
      clear I5 OT HSN TX NX SX hT hM u1 v0 v1 q5 q5f
      go_wp2
      go_roundg 1
      case measure=>omega
      case rel=>exact ⟨1,rfl,by go_num,FIN.out⟩
     ·have TX:readTo L0 L1 1=((e,l),1):=by rw [SX,hT];exact step_yes HSN.out hge
      have FIN:=Lib.hid (show ∀ x:Int,x=(1:Nat)→RdIn B b q w.heap.size n7 t (gotR s t.k) (.slice p0 n0 cap0) (.slice p1 n1 cap1) L0 L1 w 1 ((((w6.setCell ⟨n7,0,none⟩ (.int .u64 (e:Int))).setCell ⟨n7,1,none⟩ (.string (mkB l))).setCell ⟨q,5,none⟩ (.int .i64 x)).alloc (.cells #[.int .u64 (e:Int),.string (mkB l)] 134)) from fun x hx=>by
       unfold RdIn;rw [NX,TX];exact rd_all (rd_took I5.out (by omega) (by omega) n7q (by omega) (by omega) ql hx) ((Below.refl _ _).alloc (Nat.le_refl _) _))
      have cmp:(TE:Int)≤(e:Int):=by omega
      clear I5 HSN TX NX SX hT hM
      go_wp2_with fail
      (with_reducible refine (OT.out _).mono ?_)
      rintro e8 w8 ⟨rfl,rfl⟩
      clear OT
      go_wp2
      go_roundg 1
      case measure=>omega
      case rel=>exact ⟨1,rfl,by go_num,FIN.out _ (by simp)⟩
  ·obtain rfl:gk=1:=by omega
   obtain ⟨hR,h7,z0,z1⟩:=hin
   have IN:=Lib.hid (And.intro hR (And.intro h7 (And.intro z0 z1)))
   have NW:=Lib.hid (newestOf_any (.slice p1 n1 cap1) L1 wr.drew (z1.call (Below.refl _ _).drew) (by omega))
   have c4:=hR.sl.c4
   have f4:=hR.sl.fz 4
   have FB:=Lib.hid (fun w5 (hb:Below wr.drew.heap.size wr.drew w5)=>show w5.cell? ⟨q,4,none⟩=some (.int .u64 (nwTo L0 L1 1:Int))∧w5.frozen? ⟨q,4,none⟩=false from ⟨(hR.drew.call hb).sl.c4,(hR.drew.call hb).sl.fz 4⟩)
   have IH:=Lib.hid (fun w5 (hb:Below wr.drew.heap.size wr.drew w5)=>rd_all (And.intro hR (And.intro h7 (And.intro z0 z1))) ((Below.refl _ _).drew.trans hb))
   have qlr:q<wr.heap.size:=hR.sl.lt
   have mx:=max_u64
   clear hR h7 z0 z1
   generalize hM:nwTo L0 L1 1=M at *
   generalize hT:readTo L0 L1 1=T at *
   obtain ⟨⟨TE,TD⟩,TN⟩:=T
   dsimp only at IN IH
   have ix:=index_1 (.slice p0 n0 cap0) (.slice p1 n1 cap1)
   go_upto_region 12 with (fail)
   clear ix
   go_cut [9] (C12 B b q w.heap.size n7 t (gotR s t.k) (.slice p0 n0 cap0) (.slice p1 n1 cap1) (.slice p1 n1 cap1) L0 L1 (max M (newestL L1)) TN TE TD w)
   case first=>
    go_region_with (go_at_call 104;refine NW.out.mono ?_;rintro e w5 ⟨rfl,b5⟩;obtain ⟨y1,y2⟩:=FB.out w5 b5)
    all_goals go_wp2_with fail
    all_goals go_meet
    all_goals exact ⟨rfl,c12_in (IH.out w5 b5).1 (IH.out w5 b5).2.1 (IH.out w5 b5).2.2.1 (IH.out w5 b5).2.2.2 (by omega) (by omega) n7q rfl⟩
   case rest=>
    obtain ⟨rfl,hR,h7,z0,z1⟩:=hcut
    clear NW FB IH c4 f4 IN mx
    have SN:=Lib.hid (snapOf_any (.slice p1 n1 cap1) L1 wc z1 (by omega) (by omega))
    have OT:=Lib.hid (fun w=>other_1 w)
    have IN:=Lib.hid (And.intro hR (And.intro h7 (And.intro z0 z1)))
    have wc7:=h7.lt
    clear hR h7 z0 z1
    obtain ⟨e,l,wh,hSN⟩:∃ e l wh,snapL L1=((e,l),wh):=⟨_,_,_,rfl⟩
    rw [hSN] at SN
    have eL:e<18446744073709551616:=by have:=snapL_lt L1;rw [hSN] at this;exact this
    have HSN:=Lib.hid hSN
    clear hSN
    go_wp2_with fail
    (with_reducible refine SN.out.mono ?_)
    rintro e6 w6 ⟨rfl,b6⟩
    have I5:=Lib.hid (rd_all IN.out b6)
    have w67:n7<w6.heap.size:=I5.out.2.1.lt
    have wq7:q<w6.heap.size:=I5.out.1.sl.lt
    clear b6 IN SN
    have u0:=I5.out.2.1.c0
    have u1:=I5.out.2.1.c1
    have v0:=I5.out.2.1.fz 0
    have v1:=I5.out.2.1.fz 1
    have q5:=I5.out.1.sl.c5
    have q5f:=I5.out.1.sl.fz 5
    have w6n:¬w6.heap.size=n7:=by omega
    have w6q:¬w6.heap.size=q:=by omega
    have NX:nwTo L0 L1 2=max M (newestL L1):=by rw [← hM];rfl
    have SX:readTo L0 L1 2=stepT 1 L1 (readTo L0 L1 1):=rfl
    cases wh with
    | false=>
     have TX:readTo L0 L1 2=((TE,TD),TN):=by rw [SX,hT];exact step_no HSN.out (.inl rfl)
     have FIN:Hid (RdIn B b q w.heap.size n7 t (gotR s t.k) (.slice p0 n0 cap0) (.slice p1 n1 cap1) L0 L1 w 2 (w6.alloc (.cells #[.int .u64 (e:Int),.string (mkB l)] 134))):=Lib.hid (by unfold RdIn;rw [NX,TX];exact rd_all I5.out ((Below.refl _ _).alloc (Nat.le_refl _) _))
     clear I5 OT HSN TX NX SX hT hM u0 u1 v0 v1 q5 q5f
     go_wp2
     go_roundg 0
     case measure=>omega
     case rel=>exact ⟨2,rfl,by go_num,FIN.out⟩
    | true=>
     rcases Nat.lt_or_ge e TE with hlt|hge
     ·have TX:readTo L0 L1 2=((TE,TD),TN):=by rw [SX,hT];exact step_no HSN.out (.inr hlt)
      have FIN:Hid (RdIn B b q w.heap.size n7 t (gotR s t.k) (.slice p0 n0 cap0) (.slice p1 n1 cap1) L0 L1 w 2 (w6.alloc (.cells #[.int .u64 (e:Int),.string (mkB l)] 134))):=Lib.hid (by unfold RdIn;rw [NX,TX];exact rd_all I5.out ((Below.refl _ _).alloc (Nat.le_refl _) _))
      have cmp:(e:Int)<(TE:Int):=by omega
      clear I5 OT HSN TX NX SX hT hM u1 v0 v1 q5 q5f
      go_wp2
      go_roundg 0
      case measure=>omega
      case rel=>exact ⟨2,rfl,by go_num,FIN.out⟩
     ·have TX:readTo L0 L1 2=((e,l),0):=by rw [SX,hT];exact step_yes HSN.out hge
      have FIN:=Lib.hid (show ∀ x:Int,x=(0:Nat)→RdIn B b q w.heap.size n7 t (gotR s t.k) (.slice p0 n0 cap0) (.slice p1 n1 cap1) L0 L1 w 2 ((((w6.setCell ⟨n7,0,none⟩ (.int .u64 (e:Int))).setCell ⟨n7,1,none⟩ (.string (mkB l))).setCell ⟨q,5,none⟩ (.int .i64 x)).alloc (.cells #[.int .u64 (e:Int),.string (mkB l)] 134)) from fun x hx=>by
       unfold RdIn;rw [NX,TX];exact rd_all (rd_took I5.out (by omega) (by omega) n7q (by omega) (by omega) ql hx) ((Below.refl _ _).alloc (Nat.le_refl _) _))
      have cmp:(TE:Int)≤(e:Int):=by omega
      clear I5 HSN TX NX SX hT hM
      go_wp2_with fail
      (with_reducible refine (OT.out _).mono ?_)
      rintro e8 w8 ⟨rfl,rfl⟩
      clear OT
      go_wp2
      go_roundg 0
      case measure=>omega
      case rel=>exact ⟨2,rfl,by go_num,FIN.out _ (by simp)⟩
  ·obtain rfl:gk=0:=by omega
   obtain ⟨hR,h7,z0,z1⟩:=hin
   rw [← TR,← NR] at hR
   rw [← TR] at h7
   have c0:=hR.res.c0
   have c1:=hR.res.c1
   have f0:=hR.res.fz 0
   have f1:=hR.res.fz 1
   have u0:=h7.c0
   have u1:=h7.c1
   have EL:(toldR t s).1.1<18446744073709551616:=by rw [TR];exact readTo_lt _ _ _
   have FIN:=Lib.hid (fun x y=>show Dk B b (gotR s t.k) ((wr.setCell ⟨w.heap.size,0,none⟩ x).setCell ⟨w.heap.size,1,none⟩ y).drew∧Sl q b ⟨t.at_,t.k,true,newR t s,(toldR t s).2⟩ ((wr.setCell ⟨w.heap.size,0,none⟩ x).setCell ⟨w.heap.size,1,none⟩ y).drew∧Mv b q w ((wr.setCell ⟨w.heap.size,0,none⟩ x).setCell ⟨w.heap.size,1,none⟩ y).drew from ⟨(hR.retNew ql rfl x y).1.call ((Below.refl _ _).drew),(hR.retNew ql rfl x y).2.1.call ((Below.refl _ _).drew),(hR.retNew ql rfl x y).2.2.drew⟩)
   have n7w':w.heap.size≠n7:=by omega
   clear hR h7 z0 z1 TR NR
   obtain ⟨TE,TD,TN,hTT⟩:∃ TE TD TN,toldR t s=((TE,TD),TN):=⟨_,_,_,rfl⟩
   rw [hTT] at FIN u0 u1 EL
   dsimp only at u0 u1 EL
   go_wp2_with fail
   go_region
   go_wp2
   refine bodyPost_ret (v:=.tuple #[.agg #[.int .u64 (TE:Int),.string (mkB TD)],.bool (decide (0<TE)),.int .i64 0]) (by simp [results,Tryz.results64,go_sem,c0,c1]) rfl ⟨?_,?_⟩
   · rw [hTT]
   · rw [hTT];exact FIN.out _ _
end Go.Proofs.YteempfoajgblaaaGreat.Sl
