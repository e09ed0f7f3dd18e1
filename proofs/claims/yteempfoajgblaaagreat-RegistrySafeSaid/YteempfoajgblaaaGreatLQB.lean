/- The set that stays, in mathematics: of which table a journal's data and records are. The chapter's .. -/
import Derived.Test.YteempfoajgblaaaGreatLMJm
import Derived.Test.YteempfoajgblaaaGreatLMTw
import Derived.Test.YteempfoajgblaaaGreatLMJb
import Derived.Test.YteempfoajgblaaaGreatLMJj
set_option maxRecDepth 100000
set_option linter.unusedVariables false
set_option linter.unusedSimpArgs false
open Go.ChangeShapes Go.WideShapes Go.ChangeAt Go.RowKit Go.Joins
namespace Go.Proofs.YteempfoajgblaaaGreat.Rg
open Tb (tb0 applyR chkT encT readT replayR replay_snoc)
open Ox (Od chkR encO)
open Ju (mayR fitsR fits_zero may_zero may_fits)
open Pm (Tk)
def Rep (d:List UInt8) (ops:List (List UInt8)) (T:Tb.Tb):Prop:=(replayR (readT d).1 ops)=(T,ops.length)∧(readT d).2=0∧fitsR T=0
section
variable {d:List UInt8} {ops:List (List UInt8)} {T U:Tb.Tb} {o:Od} {ex:List Tk}
theorem Rep.chk (h:Rep d ops T):chkT T=true:=(fits_zero.1 h.2.2).1
theorem readT_enc (h:chkT T=true):readT (encT T)=(T,0):=by
 unfold readT
 rw [Tb.readR_enc h]
theorem Rep.snap (h:fitsR T=0):Rep (encT T) [] T:=by
 have hc:=(fits_zero.1 h).1
 unfold Rep
 rw [readT_enc hc]
 exact ⟨rfl,rfl,h⟩
theorem Rep.new:Rep (encT tb0) [] tb0:=Rep.snap Ju.fits_tb0
theorem Rep.push (h:Rep d ops T) (hm:(mayR T o ex).2=0):Rep d (ops++[encO o]) (applyR T o).1:=by
 obtain ⟨h1,h2,h3⟩:=may_zero hm
 refine ⟨?_,h.2.1,by have:=may_fits hm;rw [h1] at this;exact this⟩
 rw [replay_snoc h.1 h2,List.length_append]
 rfl
theorem may_chk (hm:(mayR T o ex).2=0):chkR o=true∧(mayR T o ex).1=(applyR T o).1:=by
 obtain ⟨h1,h2,h3⟩:=may_zero hm
 exact ⟨(Tb.apply_chk h2).2.2,h1⟩
theorem may_len (hm:(mayR T o ex).2=0):(encO o).length≤43:=Ox.encO_len (may_chk hm).1
theorem Rep.len (h:Rep d ops T):(encT T).length≤356:=Tb.encT_len h.chk
end
end Go.Proofs.YteempfoajgblaaaGreat.Rg
namespace Go.Proofs.YteempfoajgblaaaGreat.Rg
open Tb (Rw tb0 applyR inT bt)
open Ox (Od)
open Pm (Tk)
open Qp (testR testR_is)
open Ju
def rwB:Rw:=⟨⟨1,1,2,2,1⟩,false⟩
def rwC:Rw:=⟨⟨2,2,3,3,1⟩,false⟩
def tbB:Tb.Tb:=⟨[rwB],0⟩
def odB:Od:=⟨1,⟨1,1,2,2,1⟩,false,0,0,0⟩
def odC:Od:=⟨1,⟨2,2,3,3,1⟩,false,0,0,0⟩
theorem test_nil:testR []=0:=by
 refine (nice_test (l:=[]) ⟨by decide,by simp⟩).2 ⟨by decide,fun s hs=>?_⟩
 show (0:Int)≤s
 omega
theorem bt_0:bt 0 rwB.t=true:=by unfold bt;rw [Ju.and1];decide
theorem bt_C:bt 0 rwC.t=true:=by unfold bt;rw [Ju.and1];decide
theorem bt_k {k:Int} (h0:1≤k) (h3:k≤3):bt k rwB.t=false:=by
 unfold bt
 rw [Ju.and1]
 rcases (by omega:k=1∨k=2∨k=3) with rfl|rfl|rfl <;> decide
theorem fits_B:fitsR tbB=0:=by
 refine fits_zero.2 ⟨by decide,fun k h0 h3=>?_⟩
 rcases (by omega:k=0∨1≤k) with rfl|h1
 ·have e:inT 0 tbB.rows=[⟨1,1,2,2,1⟩]:=by
   show inT 0 [rwB]=_
   rw [inT_cons,if_pos bt_0];rfl
  rw [e]
  refine (nice_test ⟨by decide,fun t ht=>?_⟩).2 ⟨by decide,fun s hs=>?_⟩
  · rw [List.mem_singleton.1 ht];decide
  ·show Dm.one _ s+0≤s
   unfold Dm.one Dm.cnt
   simp only
   split <;> omega
 ·have e:inT k tbB.rows=[]:=by
   show inT k [rwB]=_
   rw [inT_cons,if_neg (by rw [bt_k h1 h3];simp)];rfl
  rw [e];exact test_nil
theorem may_B:mayR tb0 odB []=(tbB,0):=by
 have ea:applyR tb0 odB=(tbB,0):=by decide
 have:=may_yes (t:=tb0) (o:=odB) (ex:=[]) (by rw [ea]) (by rw [ea];exact with_nil fits_B)
 rw [this,ea]
theorem may_C:(mayR tbB odC []).2=17:=by
 have ea:applyR tbB odC=(⟨[rwB,rwC],0⟩,0):=by decide
 have e0:inT 0 [rwB,rwC]=[⟨1,1,2,2,1⟩,⟨2,2,3,3,1⟩]:=by
  rw [inT_cons,if_pos bt_0,inT_cons,if_pos bt_C];rfl
 have hn:Nice [⟨1,1,2,2,1⟩,⟨2,2,3,3,1⟩]:=⟨by decide,fun t ht=>by
  rcases List.mem_cons.1 ht with rfl|ht
  · decide
  · rw [List.mem_singleton.1 ht];decide⟩
 have e1:testR [⟨1,1,2,2,1⟩,⟨2,2,3,3,1⟩]=17:=by
  rcases testR_is (nice_load hn).1 with h|h
  ·have:=((nice_test hn).1 h).1
   exact absurd this (by decide)
  · exact h
 have ef:fitsR ⟨[rwB,rwC],0⟩=17:=by
  unfold fitsR firstR
  rw [if_pos (by decide),firstF_four]
  show (if testR (inT 0 [rwB,rwC])≠0 then _ else _:Int×Int).2=17
  rw [e0,e1];rfl
 unfold mayR
 rw [ea]
 simp only
 have ew:withR ⟨[rwB,rwC],0⟩ []=17:=by
  unfold withR
  rw [ef];rfl
 rw [ew];rfl
theorem may_rows (T:Tb.Tb) (o:Od) (ex:List Tk):(mayR T o ex).1.rows.length≤16:=by
 by_cases h:(mayR T o ex).2=0
 · exact (Tb.chkT_iff.1 (fits_zero.1 (may_fits h)).1).2.2.1
 · rw [may_not h];decide
end Go.Proofs.YteempfoajgblaaaGreat.Rg
namespace Go.Proofs.YteempfoajgblaaaGreat.Rg
open Dk (Dk DS Own Moved ptr)
open Jn (JL Jt Jd Kp Since)
open Ox (Od)
open Pm (Tk)
open Ju (mayR fitsR)
open Tb (Rw tb0 applyR)
open Ge (Seen)
def Jr (T:TypeId):Prop:=Jt T∧T≠92
instance (T:TypeId):Decidable (Jr T):=by unfold Jr;infer_instance
structure Kr (w w':World):Prop where
 keep:∀ (k:Nat) (cs:Array Value) (T:TypeId) (fz:Nat×Nat),w.heap[k]?=some (.cells cs T fz)→Jr T→w'.heap[k]?=some (.cells cs T fz)
section
variable {B b g j n m M R:Nat} {T:Tb.Tb} {u v w w' w0:World}
theorem Kr.trans (h:Kr u v) (k:Kr v w):Kr u w:=⟨fun i cs T fz hi hT=>k.keep i cs T fz (h.keep i cs T fz hi hT) hT⟩
theorem Kr.below (hb:Below w.heap.size w w'):Kr w w':=⟨fun k cs T fz h _=>(hb.block k (Dk.lt_of_heap h)).trans h⟩
theorem Kr.call (h:Kr u w) (hb:Below w.heap.size w w'):Kr u w':=h.trans (.below hb)
theorem Kr.since (h:Since w w'):Kr w w':=⟨fun k cs T fz hk hT=>h k cs T fz hk ⟨hT.1.1,hT.1.2.1,hT.1.2.2.1⟩⟩
theorem Kr.kp (h:Kp w w'):Kr w w':=⟨fun k cs T fz hk hT=>h k cs T fz hk hT.1⟩
theorem sl_kept {v:Value} {l:List Rw} {ao:Option Addr} {cap:Nat} (h:Tb.Sl v l w ao cap) (hk:∀ (k:Nat) (cs:Array Value) (fz:Nat×Nat),w.heap[k]?=some (.cells cs 123 fz)→w'.heap[k]?=some (.cells cs 123 fz)):Tb.Sl v l w' ao cap:=by
 refine ⟨h.eq,h.le,h.nil,fun h0=>?_,fun h0 b off e=>?_⟩
 ·obtain ⟨b,off,rfl,hl,hc⟩:=h.seen h0
  obtain ⟨cs,fz,hb⟩:=h.typ h0 b off rfl
  have e:=hk b cs fz hb
  exact ⟨b,off,rfl,Dk.lt_of_heap e,fun i x hi j u hj=>(World.cell?_of_block (w:=w) (a:=⟨b,off+i*6+j,none⟩) (e.trans hb.symm)).trans (hc i x hi j u hj)⟩
 ·obtain ⟨cs,fz,hc⟩:=h.typ h0 b off e
  exact ⟨cs,fz,hk b cs fz hc⟩
theorem sl_kr {v:Value} {l:List Rw} {ao:Option Addr} {cap:Nat} (h:Tb.Sl v l w ao cap) (k:Kr w w'):Tb.Sl v l w' ao cap:=
 sl_kept h fun i cs fz hi=>k.keep i cs _ fz hi (by decide)
theorem sl_box {v:Value} {l:List Rw} {ao:Option Addr} {cap:Nat} (h:Tb.Sl v l w ao cap) {p:Nat} {cs:Array Value} {Y:TypeId} {fz:Nat×Nat} (hp:w.heap[p]?=some (.cells cs Y fz)) (hY:Y≠123) (x y:Value):Tb.Sl v l ((w.setCell ⟨p,0,none⟩ x).setCell ⟨p,1,none⟩ y) ao cap:=
 sl_kept h fun k ds gz hk=>by
  have hne:k≠p:=fun e=>by
   rw [e,hp] at hk
   simp only [Option.some.injEq,Obj.cells.injEq] at hk
   exact hY hk.2.1
  rw [Below.heap_setCell _ _ _ _ hne,Below.heap_setCell _ _ _ _ hne]
  exact hk
def RAt (w:World) (g j:Nat) (v:Value) (x:Int):Prop:=w.heap[g]?=some (.cells #[ptr j,v,.int .i64 x] 92 (0,0))
def RM (w:World) (g j:Nat) (T:Tb.Tb):Prop:=∃ ao cap,RAt w g j (.slice ao T.rows.length cap) T.mode∧Tb.Sl (.slice ao T.rows.length cap) T.rows w ao cap
theorem RM.call (h:RM w g j T) (hb:Below w.heap.size w w'):RM w' g j T:=by
 obtain ⟨ao,cap,h1,h2⟩:=h
 exact ⟨ao,cap,(hb.block g (Dk.lt_of_heap h1)).trans h1,h2.call hb⟩
theorem RM.kp (h:RM w g j T) (k:Kp w w'):RM w' g j T:=by
 obtain ⟨ao,cap,h1,h2⟩:=h
 exact ⟨ao,cap,k g _ _ _ h1 (by decide),sl_kept h2 fun i cs fz hi=>k i cs _ fz hi (by decide)⟩
theorem RM.since (h:RM w g j T) (k:Since w w'):RM w' g j T:=by
 obtain ⟨ao,cap,h1,h2⟩:=h
 exact ⟨ao,cap,k g _ _ _ h1 (by decide),sl_kept h2 fun i cs fz hi=>k i cs _ fz hi (by decide)⟩
def Rc (B b g n m:Nat) (T:Tb.Tb) (M R:Nat) (w0 w:World):Prop:=
 ∃ (j l q nx N E:Nat) (d:List UInt8) (ops:List (List UInt8)) (S:List (List UInt8)) (r:Nat),JL B b j l q 9 n nx N E d ops S 0 r w0 w∧Rep d ops T∧RM w g j T∧(B≤g∧w0.heap.size≤g)∧ops.length=m∧N≤M∧r≤R
theorem Rc.call (h:Rc B b g n m T M R w0 w) (hb:Below w.heap.size w w'):Rc B b g n m T M R w0 w':=by
 obtain ⟨j,l,q,nx,N,E,d,ops,S,r,h1,h2,h3,h4⟩:=h
 exact ⟨j,l,q,nx,N,E,d,ops,S,r,h1.call hb,h2,h3.call hb,h4⟩
theorem Rc.bel (h:Rc B b g n m T M R w0 w):Below B w0 w:=by
 obtain ⟨j,l,q,nx,N,E,d,ops,S,r,h1,-⟩:=h
 exact h1.jn.bel
theorem Rc.le (h:Rc B b g n m T M R w0 w):B≤w.heap.size:=by
 obtain ⟨j,l,q,nx,N,E,d,ops,S,r,h1,-⟩:=h
 exact h1.jn.dk.le
theorem Rc.fits (h:Rc B b g n m T M R w0 w):fitsR T=0:=by
 obtain ⟨j,l,q,nx,N,E,d,ops,S,r,h1,h2,-⟩:=h
 exact h2.2.2
end
def Did (T:Tb.Tb) (o:Od) (ex:List Tk) (n m:Nat) (c:Int) (m':Nat) (T':Tb.Tb):Prop:=
 ((mayR T o ex).2≠0∧c=(mayR T o ex).2∧m'=m∧T'=T)∨((mayR T o ex).2=0∧m=n∧c=22∧m'=m∧T'=T)∨((mayR T o ex).2=0∧m<n∧c=0∧m'=m+1∧T'=(mayR T o ex).1)
end Go.Proofs.YteempfoajgblaaaGreat.Rg
namespace Go.Proofs.YteempfoajgblaaaGreat.Rg
open Dk (Dk DS Own Moved ptr)
open Jn (Jn JL JI Jt Jd Kp Since append_any snapshot_ok snapshot_io)
open Wl (WS)
open Sl (SS)
structure Oc (k n M err:Nat) (d2:List UInt8) (ops2:List (List UInt8)) (d:List UInt8) (ops:List (List UInt8)) (s:DS):Prop where
 any:∀ fs,(∃ nx N E,N≤M∧JI (Dk.crashedS s fs) k n nx N E d ops∧err≠22)∨(∃ nx N E,N≤M∧JI (Dk.crashedS s fs) k n nx N E d2 ops2∧err≠0)
 opn:s.opn.length≤64
theorem append_g (B b j l q k n nx N E f r:Nat) (d p:List UInt8) (ops S:List (List UInt8)) (w0 w:World) (h:JL B b j l q k n nx N E d ops S f r w0 w) (hN:N<256) (hp:p.length≤43) (hf:f<9223372036854775808) :
 Calls Tryz.prog 93 #[ptr j,.string (mkB p)] w fun x w'=>∃ (err:Nat) (s':DS) (tl:WS),x=.returned (.int .i64 (err:Int))∧Jn B b j l q tl ⟨0,k,true,N,nx⟩ E ((err:Int) != 18) s' w0 w'∧Kp w w'∧s'.reads=r∧(err=0∨err=18∨err=22)∧(err=22→ops.length=n)∧(ops.length=n→err=22)∧Oc k n N err d ops d (ops++[p]) s':=by
 have AP:=append_any B b j l q _ _ E _ p w0 w h.jn (h.fit hN) hp (by show 0≤800000;omega) hf
 have few:=h.ji.few
 rcases Nat.lt_or_ge ops.length n with hl|hl
 ·obtain ⟨a1,a2,a3,a4⟩:=h.ji.app hN hp hl f r hf
  refine AP.mono ?_
  rintro x w' ⟨hx,k1,k2⟩
  refine ⟨_,_,_,hx,k1,k2,a4,by rcases a2 with e|e;exact .inl e;exact .inr (.inl e),fun e=>by rcases a2 with e2|e2 <;> omega,fun e=>by omega,⟨fun fs=>?_,Nat.le_trans a3 (by omega)⟩⟩
  rcases a1 fs with hh|⟨h1,hh⟩
  · exact .inl ⟨nx,N,E,Nat.le_refl _,hh,by rcases a2 with e2|e2 <;> omega⟩
  · exact .inr ⟨nx,N,E,Nat.le_refl _,hh,by omega⟩
 ·have h6:ops.length=n:=by omega
  rw [Wl.appR_full hp rfl h6] at AP
  refine AP.mono ?_
  rintro x w' ⟨hx,k1,k2⟩
  exact ⟨22,⟨S,[],f,r⟩,_,hx,k1,k2,rfl,.inr (.inr rfl),fun _=>h6,fun _=>rfl,⟨fun fs=>.inr ⟨nx,N,E,Nat.le_refl _,h.ji,by omega⟩,by show 0≤64;omega⟩⟩
theorem snapshot_g (B b j l q k n nx N E f r:Nat) (d data:List UInt8) (ops S:List (List UInt8)) (w0 w:World) (h:JL B b j l q k n nx N E d ops S f r w0 w) (hN:N+1<256) (hd:data.length≤1000) (hd2:data.length≤43*k) (hf:f<9223372036854775808) :
 Calls Tryz.prog 38 #[ptr j,.string (mkB data)] w fun x w'=>∃ (err:Nat) (s':DS) (tl:WS) (ts:SS) (e:Nat),x=.returned (.int .i64 (err:Int))∧Jn B b j l q tl ts e ((err:Int) != 18) s' w0 w'∧Kp w w'∧s'.reads=r∧(err=0∨err=18)∧Oc k n (N+1) err d ops data [] s':=by
 obtain ⟨-,c2,c3⟩:=h.ji.jb.snap hN (data:=data) hd2 f r
 have cj:=fun fs=>h.ji.snap hN (data:=data) hd2 f r fs
 cases hP:Sl.putR ⟨S,[],f,r⟩ (nx*k) k data (N+1) with
 | mk s' ok=>
  rw [hP] at c2 c3 cj
  dsimp only at c2 c3 cj
  cases ok with
  | true=>
   have SN:=snapshot_ok B b j l q ⟨2*k,n,some (E,ops.length)⟩ ⟨0,k,true,N,nx⟩ E ⟨S,[],f,r⟩ s' data w0 w h.jn h.ji.jb.k1 h.ji.jb.k2 h.ji.jb.sl.x1 (by show 0+nx*k+k≤S.length;have:=h.sz;omega) rfl (by show N<_;omega) hd hd2 (by show 0≤800000;omega) hf h.ji.jb.n1 (by show Sl.putR _ (0+nx*k) k data (N+1)=_;rw [Nat.zero_add];exact hP)
   refine SN.mono ?_
   rintro x w' ⟨hx,k1,k2⟩
   refine ⟨0,s',_,_,_,hx,k1,k2,c3,.inl rfl,⟨fun fs=>?_,c2⟩⟩
   rcases cj fs with hh|⟨h1,hh⟩
   · exact .inl ⟨1-nx,N+1,N+1,Nat.le_refl _,hh,by omega⟩
   · cases h1
  | false=>
   have SN:=snapshot_io B b j l q ⟨2*k,n,some (E,ops.length)⟩ ⟨0,k,true,N,nx⟩ E ⟨S,[],f,r⟩ s' data w0 w h.jn h.ji.jb.k1 h.ji.jb.k2 h.ji.jb.sl.x1 (by show 0+nx*k+k≤S.length;have:=h.sz;omega) rfl (by show N<_;omega) hd hd2 (by show 0≤800000;omega) hf (by show Sl.putR _ (0+nx*k) k data (N+1)=_;rw [Nat.zero_add];exact hP)
   refine SN.mono ?_
   rintro x w' ⟨hx,k1,k2⟩
   refine ⟨18,s',_,_,_,hx,k1,k2,c3,.inr rfl,⟨fun fs=>?_,c2⟩⟩
   rcases cj fs with hh|⟨h1,hh⟩
   · exact .inl ⟨1-nx,N+1,N+1,Nat.le_refl _,hh,by omega⟩
   · exact .inr ⟨nx,N+1,E,Nat.le_refl _,hh,by omega⟩
theorem JL.reread {B b j l q k n nx N E f f' r r':Nat} {d:List UInt8} {ops S:List (List UInt8)} {w0 w w':World} (h:JL B b j l q k n nx N E d ops S f r w0 w) (o:Since w w') (dk:Dk B b ⟨S,[],f',r'⟩ w') (bel:Below B w0 w'):JL B b j l q k n nx N E d ops S f' r' w0 w' :=
 ⟨⟨dk,h.jn.wl.of_block ((o _ _ _ _ h.jn.wl (by decide)).trans h.jn.wl.symm),h.jn.sl.of_block ((o _ _ _ _ h.jn.sl (by decide)).trans h.jn.sl.symm),o _ _ _ _ h.jn.jn (by decide),bel,h.jn.hj,h.jn.hl,h.jn.hq,h.jn.nj,h.jn.nl,h.jn.nq,h.jn.old.trans o⟩,h.ji⟩
end Go.Proofs.YteempfoajgblaaaGreat.Rg
