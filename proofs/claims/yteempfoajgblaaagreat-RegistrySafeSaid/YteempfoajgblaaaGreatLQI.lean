/- The tries of law RegistrySafe: how they are opened. Law RegistrySafe's own memory: the box of the .. -/
import Derived.Test.YteempfoajgblaaaGreatLMJo
import Derived.Test.YteempfoajgblaaaGreatLQD
import Derived.Test.YteempfoajgblaaaGreatLQH
import Derived.Test.YteempfoajgblaaaGreatLRgK
set_option maxRecDepth 100000
set_option linter.unusedVariables false
set_option linter.unusedSimpArgs false
open Go.ChangeShapes Go.WideShapes Go.ChangeAt Go.RowKit Go.Joins
namespace Go.Proofs.YteempfoajgblaaaGreat.Rg
open Dk (Fats In64 in64_wf one_of fates_of addr_add)
open Ju (Nm)
def trC (s c:Bool) (n:Nm) (f a:Int) (v u:Value):List Value:=[.bool s,.bool c,.int .i64 n.kind,.int .i64 n.id,.int .i64 n.c,.int .i64 n.d,.int .i64 n.t,.int .i64 n.m,.bool n.sv,.int .i64 f,.int .i64 a,v,u]
structure TrAt (b o:Nat) (s c:Bool) (n:Nm) (f a:Int) (fo:Option Addr) (fs:List (Int×Int)) (fc:Nat) (go:Option Addr) (gs:List (Int×Int)) (gc:Nat) (w:World):Prop where
 cells:∀ j v,(trC s c n f a (.slice fo fs.length fc) (.slice go gs.length gc))[j]?=some v→w.cell? ⟨b,o+j,none⟩=some v
 fats:Fats fo fs w
 len:fs.length≤9223372036854775807
 gats:Fats go gs w
 gen:gs.length≤9223372036854775807
def Tries (ao:Option Addr) (len:Nat) (w:World):Prop:=0<len→∃ b off,ao=some ⟨b,off,none⟩∧b<w.heap.size∧∀ i,i<len→∃ s c n f a fo fs fc go gs gc,TrAt b (off+i*13) s c n f a fo fs fc go gs gc w
theorem fates_of2 {H:Type} {enc:TypeId×Value→H} {W:World} {base:Nat} {spare:Nat→Bool} {held:Bool} {v:Value} {fuel:Nat} {x:DataW H×List MemPlace}
 (hf:DataW.trod enc Tryz.prog W base spare held fuel 37 [v]=some x):∃ ao fs fc,v=.slice ao (fs:List (Int×Int)).length fc∧fs.length≤9223372036854775807∧Fats ao fs W:=by
 obtain ⟨ao,len,cap,rfl⟩:∃ ao len cap,v=.slice ao len cap:=by
  rcases Go.Deep.open_slice Tryz.underlying37 hf with ⟨hcs,hx⟩|⟨a,len',cap',m,n,D,Pl,hcs,_⟩
  · simp at hcs;exact ⟨none,0,0,hcs⟩
  · simp at hcs;exact ⟨some a,len',cap',hcs⟩
 obtain ⟨fs,rfl,h1,h2⟩:=fates_of hf
 exact ⟨ao,fs,cap,rfl,h1,h2⟩
theorem open_tries {H:Type} {enc:TypeId×Value→H} {W:World} {r:Reach} {b0 base:Nat} {spare:Nat→Bool} {held:Bool} {v:Value} {d:DataW H} {p:List MemPlace}
 (hok:Value.okWide Tryz.prog W r b0 67 v) (h:DataW.Trod enc Tryz.prog W base spare held 67 v d p) :
 ∃ ao len cap,v=.slice ao len cap∧len≤9223372036854775807∧Tries ao len W:=by
 obtain ⟨ao,len,cap,rfl⟩:=okWide_slice Tryz.underlying67 hok
 obtain ⟨fuel,hf⟩:=h
 rcases Go.Deep.open_slice Tryz.underlying67 hf with ⟨hcs,hx⟩|⟨a,len',cap',m,n,D,Pl,hcs,_,hl,hm,hmm,hx,hi⟩
 ·simp [Value.cells] at hcs
  obtain ⟨rfl,rfl,rfl⟩:=hcs
  exact ⟨none,0,0,rfl,by omega,fun h=>by omega⟩
 ·simp [Value.cells] at hcs
  obtain ⟨rfl,rfl,rfl⟩:=hcs
  have hml:len≤m:=by rw [hmm];split <;> omega
  have hC:Tryz.prog.cellsOf 69=13:=by kernel_rfl
  have cb:Tryz.prog.cellsOf 4=1:=by kernel_rfl
  have c3:Tryz.prog.cellsOf 3=1:=by kernel_rfl
  have c7:Tryz.prog.cellsOf 36=7:=by kernel_rfl
  have c28:Tryz.prog.cellsOf 37=1:=by kernel_rfl
  rw [hC] at hi
  refine ⟨some a,len,cap,rfl,by unfold maxLen at hm;omega,fun h0=>?_⟩
  have key:∀ i,i<len→∃ (s c:Bool) (n:Nm) (f x:Int) (fo:Option Addr) (fs:List (Int×Int)) (fc:Nat) (go:Option Addr) (gs:List (Int×Int)) (gc:Nat),(∀ j v,(trC s c n f x (.slice fo fs.length fc) (.slice go gs.length gc))[j]?=some v→W.cell? ((a.add (i*13)).add j)=some v)∧(Fats fo fs W∧fs.length≤9223372036854775807)∧Fats go gs W∧gs.length≤9223372036854775807:=by
   intro i hil
   obtain ⟨cs,hc,ht⟩:=hi i (by omega)
   obtain ⟨_,hcl,hat⟩:=World.cells?_some hc
   obtain ⟨ys,n',hn',hy,hlen,hyl,hfd⟩:=DataW.trod_struct Tryz.underlying69 ht
   have hy4:ys.length=7:=by rw [hyl];rfl
   have g0:DataW.trod enc Tryz.prog W base spare held n' 4 ((cs.drop 0).take (Tryz.prog.cellsOf 4))=ys[0]?:=hfd 0 _ rfl
   have g1:DataW.trod enc Tryz.prog W base spare held n' 4 ((cs.drop 1).take (Tryz.prog.cellsOf 4))=ys[1]?:=hfd 1 _ rfl
   have g2:DataW.trod enc Tryz.prog W base spare held n' 36 ((cs.drop 2).take (Tryz.prog.cellsOf 36))=ys[2]?:=hfd 2 _ rfl
   have g3:DataW.trod enc Tryz.prog W base spare held n' 3 ((cs.drop 9).take (Tryz.prog.cellsOf 3))=ys[3]?:=hfd 3 _ rfl
   have g4:DataW.trod enc Tryz.prog W base spare held n' 3 ((cs.drop 10).take (Tryz.prog.cellsOf 3))=ys[4]?:=hfd 4 _ rfl
   have g5:DataW.trod enc Tryz.prog W base spare held n' 37 ((cs.drop 11).take (Tryz.prog.cellsOf 37))=ys[5]?:=hfd 5 _ rfl
   have g6:DataW.trod enc Tryz.prog W base spare held n' 37 ((cs.drop 12).take (Tryz.prog.cellsOf 37))=ys[6]?:=hfd 6 _ rfl
   rw [cb,one_of (j:=0) (by omega),List.getElem?_eq_getElem (by omega)] at g0
   rw [cb,one_of (j:=1) (by omega),List.getElem?_eq_getElem (by omega)] at g1
   rw [c7,List.getElem?_eq_getElem (by omega)] at g2
   rw [c3,one_of (j:=9) (by omega),List.getElem?_eq_getElem (by omega)] at g3
   rw [c3,one_of (j:=10) (by omega),List.getElem?_eq_getElem (by omega)] at g4
   rw [c28,one_of (j:=11) (by omega),List.getElem?_eq_getElem (by omega)] at g5
   rw [c28,one_of (j:=12) (by omega),List.getElem?_eq_getElem (by omega)] at g6
   obtain ⟨s,e0,-⟩:=DataW.trod_bool Tryz.underlying4 g0
   obtain ⟨c,e1,-⟩:=DataW.trod_bool Tryz.underlying4 g1
   obtain ⟨nm,e2,-⟩:=Ju.open_nmc (by rw [List.length_take,List.length_drop];omega) g2
   obtain ⟨f,e3,-,-⟩:=DataW.trod_int Tryz.underlying3 g3
   obtain ⟨x,e4,-,-⟩:=DataW.trod_int Tryz.underlying3 g4
   obtain ⟨fo,fs,fc,e5,hfl,hfa⟩:=fates_of2 g5
   obtain ⟨go,gs,gc,e6,hgl,hga⟩:=fates_of2 g6
   have en:∀ j,j<7→cs[2+j]?=nm.cs[j]?:=fun j hj=>by
    rw [← e2,List.getElem?_take_of_lt hj,List.getElem?_drop]
   refine ⟨s,c,nm,f,x,fo,fs,fc,go,gs,gc,fun j v hv=>?_,⟨hfa,hfl⟩,hga,hgl⟩
   have hj:j<13:=(List.getElem?_eq_some_iff.1 hv).1
   rw [hat j hj,← hv]
   have:j=0∨j=1∨(2≤j∧j<9)∨j=9∨j=10∨j=11∨j=12:=by omega
   rcases this with rfl|rfl|⟨h1,h2⟩|rfl|rfl|rfl|rfl
   · rw [List.getElem?_eq_getElem (by omega)];simpa [trC] using e0
   · rw [List.getElem?_eq_getElem (by omega)];simpa [trC] using e1
   ·have:=en (j-2) (by omega)
    rw [show 2+(j-2)=j by omega] at this
    rw [this]
    have h3:j=2∨j=3∨j=4∨j=5∨j=6∨j=7∨j=8:=by omega
    rcases h3 with rfl|rfl|rfl|rfl|rfl|rfl|rfl <;> rfl
   · rw [List.getElem?_eq_getElem (by omega)];simpa [trC] using e3
   · rw [List.getElem?_eq_getElem (by omega)];simpa [trC] using e4
   · rw [List.getElem?_eq_getElem (by omega)];simpa [trC] using e5
   · rw [List.getElem?_eq_getElem (by omega)];simpa [trC] using e6
  obtain ⟨b,off,spot⟩:=a
  obtain ⟨s0,c0,n0,f0,x0,fo0,fs0,fc0,go0,gs0,gc0,h00,_⟩:=key 0 h0
  have h01:=h00 0 _ rfl
  have hspot:spot=none:=by simpa [Addr.add] using World.cell?_spot h01
  subst hspot
  refine ⟨b,off,rfl,World.block_lt_of_cell? _ _ h01,fun i hi=>?_⟩
  obtain ⟨s,c,nm,f,x,fo,fs,fc,go,gs,gc,h1,⟨h2,h3⟩,h4,h5⟩:=key i hi
  refine ⟨s,c,nm,f,x,fo,fs,fc,go,gs,gc,fun j v hv=>?_,h2,h3,h4,h5⟩
  have:=h1 j v hv
  rw [addr_add,addr_add] at this
  exact this
end Go.Proofs.YteempfoajgblaaaGreat.Rg
namespace Go.Proofs.YteempfoajgblaaaGreat.Rg
open Dk (Dk DS Own Moved ptr Fats Off)
open Jn (JL Jt Jd Kp Since)
open Ju (Nm mayR fitsR)
open Tb (Rw tb0)
def HB (w:World) (p:Nat) (T:Tb.Tb):Prop:=∃ ao cap,w.heap[p]?=some (.cells #[.slice ao T.rows.length cap,.int .i64 T.mode] 52 (0,0))∧Tb.Sl (.slice ao T.rows.length cap) T.rows w ao cap
def TryB (w:World) (p:Nat) (s c:Bool) (n:Nm) (f a:Int) (v u:Value):Prop:=w.heap[p]?=some (.cells #[.bool s,.bool c,.int .i64 n.kind,.int .i64 n.id,.int .i64 n.c,.int .i64 n.d,.int .i64 n.t,.int .i64 n.m,.bool n.sv,.int .i64 f,.int .i64 a,v,u] 69 (0,0))
section
variable {w w':World} {p:Nat} {T:Tb.Tb} {s c:Bool} {n:Nm} {f a:Int} {v u:Value}
theorem HB.kr (h:HB w p T) (k:Kr w w'):HB w' p T:=by
 obtain ⟨ao,cap,h1,h2⟩:=h
 exact ⟨ao,cap,k.keep _ _ _ _ h1 (by decide),sl_kr h2 k⟩
theorem HB.call (h:HB w p T) (hb:Below w.heap.size w w'):HB w' p T:=h.kr (.below hb)
theorem HB.lt (h:HB w p T):p<w.heap.size:=by
 obtain ⟨ao,cap,h1,-⟩:=h
 exact Dk.lt_of_heap h1
theorem HB.zero (w:World):HB (w.alloc (.cells #[.slice none 0 0,.int .i64 0] 52)) w.heap.size tb0:=by
 refine ⟨none,0,heap_alloc_new w _,?_⟩
 obtain ⟨ao,cap,e,h⟩:=Tb.told_zero (w.alloc (.cells #[.slice none 0 0,.int .i64 0] 52))
 unfold Tb.tv at e
 cases e
 exact h
theorem TryB.kr (h:TryB w p s c n f a v u) (k:Kr w w'):TryB w' p s c n f a v u:=k.keep _ _ _ _ h (by decide)
theorem TryB.call (h:TryB w p s c n f a v u) (hb:Below w.heap.size w w'):TryB w' p s c n f a v u:=h.kr (.below hb)
theorem TryB.cell (h:TryB w p s c n f a v u) (j:Nat) (x:Value) (hx:(trC s c n f a v u)[j]?=some x):w.cell? ⟨p,j,none⟩=some x:=by
 rw [Lib.cell_of_heap h];simpa [trC] using hx
theorem heap_set2 {a c:Value} {Y:TypeId} (hp:w.heap[p]?=some (.cells #[a,c] Y (0,0))) (x y:Value):((w.setCell ⟨p,0,none⟩ x).setCell ⟨p,1,none⟩ y).heap[p]?=some (.cells #[x,y] Y (0,0)):=by simp [World.setCell,Array.getElem?_modify,hp]
theorem heap_other2 {k:Nat} (hk:k≠p) (x y:Value):((w.setCell ⟨p,0,none⟩ x).setCell ⟨p,1,none⟩ y).heap[k]?=w.heap[k]?:=by
 rw [Below.heap_setCell _ _ _ _ hk,Below.heap_setCell _ _ _ _ hk]
theorem HB.other2 {q:Nat} (h:HB w q T) {a c:Value} (hp:w.heap[p]?=some (.cells #[a,c] 52 (0,0))) (hq:q≠p) (x y:Value):HB ((w.setCell ⟨p,0,none⟩ x).setCell ⟨p,1,none⟩ y) q T:=by
 obtain ⟨ao,cap,h1,h2⟩:=h
 exact ⟨ao,cap,(heap_other2 hq x y).trans h1,sl_box h2 hp (by decide) _ _⟩
theorem HB.set2 {a c:Value} {ao:Option Addr} {cap:Nat} (h:Tb.Sl (.slice ao T.rows.length cap) T.rows w ao cap) (hp:w.heap[p]?=some (.cells #[a,c] 52 (0,0))):HB ((w.setCell ⟨p,0,none⟩ (.slice ao T.rows.length cap)).setCell ⟨p,1,none⟩ (.int .i64 T.mode)) p T:=
 ⟨ao,cap,heap_set2 hp _ _,sl_box h hp (by decide) _ _⟩
theorem TryB.other2 {q:Nat} (h:TryB w q s c n f a v u) {x0 y0:Value} (hp:w.heap[p]?=some (.cells #[x0,y0] 52 (0,0))) (x y:Value):TryB ((w.setCell ⟨p,0,none⟩ x).setCell ⟨p,1,none⟩ y) q s c n f a v u:=by
 unfold TryB at h ⊢
 rw [heap_other2 (fun e=>by
  rw [e,hp] at h
  simp only [Option.some.injEq,Obj.cells.injEq] at h
  exact absurd h.2.1 (by decide)) x y]
 exact h
theorem rf_set2 {B b g m M R k:Nat} {nn:Nat} {w0:World} (h:Rf B b g nn m T M R k w0 w) {a c:Value} (hp:w.heap[p]?=some (.cells #[a,c] 52 (0,0))) (hB:B≤p) (hW:w0.heap.size≤p) (x y:Value):Rf B b g nn m T M R k w0 ((w.setCell ⟨p,0,none⟩ x).setCell ⟨p,1,none⟩ y):=by
 obtain ⟨j,l,q,nx,N,E,d,ops,S,r,h1,h2,h3,h4⟩:=h
 have hp2:(w.setCell ⟨p,0,none⟩ x).heap[p]?=some (.cells #[x,c] 52 (0,0)):=by simp [World.setCell,Array.getElem?_modify,hp]
 refine ⟨j,l,q,nx,N,E,d,ops,S,r,⟨(h1.jn.setNew hp (by decide) hB hW 0 x).setNew hp2 (by decide) hB hW 1 y,h1.ji⟩,h2,?_,h4⟩
 obtain ⟨ao,cap,h5,h6⟩:=h3
 refine ⟨ao,cap,?_,sl_box h6 hp (by decide) _ _⟩
 unfold RAt at h5 ⊢
 rw [heap_other2 (fun e=>by
  rw [e,hp] at h5
  simp only [Option.some.injEq,Obj.cells.injEq] at h5
  exact absurd h5.2.1 (by decide)) x y]
 exact h5
theorem Rf.call {B b g m M R k nn:Nat} {w0:World} (h:Rf B b g nn m T M R k w0 w) (hb:Below w.heap.size w w'):Rf B b g nn m T M R k w0 w':=by
 obtain ⟨j,l,q,nx,N,E,d,ops,S,r,h1,h2,h3,h4⟩:=h
 exact ⟨j,l,q,nx,N,E,d,ops,S,r,h1.call hb,h2,h3.call hb,h4⟩
theorem Ou.mono {B b nn M M' F R:Nat} {c:Int} {T T':Tb.Tb} {w0:World} (h:Ou B b nn M c T T' F R w0 w) (hM:M≤M'):Ou B b nn M' c T T' F R w0 w:=by
 obtain ⟨s,h1,h2,h3,h4⟩:=h
 exact ⟨s,h1,h2,h3.mono hM,h4⟩
end
theorem Ou.reads {B b nn M F R R':Nat} {c:Int} {T T':Tb.Tb} {w0 w:World} (h:Ou B b nn M c T T' F R w0 w) (hR:R≤R'):Ou B b nn M c T T' F R' w0 w:=by
 obtain ⟨s,h1,h2,h3,h4,h5⟩:=h
 exact ⟨s,h1,h2,h3,h4,by omega⟩
theorem Ou.fats {B b nn M F R:Nat} {c:Int} {T T':Tb.Tb} {w w0:World} (h:Ou B b nn M c T T' F R w0 w) (hB:B=w0.heap.size) {ao:Option Addr} {fs:List (Int×Int)} (hF:Fats ao fs w0):Fats ao fs w∧(0<fs.length→Off ao b w):=by
 subst hB
 obtain ⟨s,h1,h2,-⟩:=h
 refine ⟨hF.of_blocks h2.size (fun k off e hk=>h2.block k hk),fun h0 k off e ho=>?_⟩
 obtain ⟨b9,off9,e9,hb9,_⟩:=hF.2 h0
 rw [e9] at e
 cases e
 have:=(h1.ownLt ho).1
 omega
theorem i64_and15 (n:Int):bits .and .i64 n 15=n%16:=by
 have hm:(BitVec.ofInt 64 15).toNat=2^4-1:=by decide
 have key:(BitVec.ofInt 64 n &&& BitVec.ofInt 64 15).toNat=(n%((2^64:Nat):Int)).toNat%2^4:=by
  rw [BitVec.toNat_and,BitVec.toNat_ofInt,hm,Nat.and_two_pow_sub_one_eq_mod]
 show IntKind.i64.wrap ((BitVec.ofInt 64 n &&& BitVec.ofInt 64 15).toNat:Nat)=n%16
 rw [key,IntKind.wrap_i64]
 omega
theorem i64_and31 (n:Int):bits .and .i64 n 31=n%32:=by
 have hm:(BitVec.ofInt 64 31).toNat=2^5-1:=by decide
 have key:(BitVec.ofInt 64 n &&& BitVec.ofInt 64 31).toNat=(n%((2^64:Nat):Int)).toNat%2^5:=by
  rw [BitVec.toNat_and,BitVec.toNat_ofInt,hm,Nat.and_two_pow_sub_one_eq_mod]
 show IntKind.i64.wrap ((BitVec.ofInt 64 n &&& BitVec.ofInt 64 31).toNat:Nat)=n%32
 rw [key,IntKind.wrap_i64]
 omega
end Go.Proofs.YteempfoajgblaaaGreat.Rg
