/- The mathematics of a journal: two slots and a log on one disk; what an Append, a Snapshot, a fault .. -/
import Derived.Test.YteempfoajgblaaaGreatLMSn
import Derived.Test.YteempfoajgblaaaGreatLMWx
set_option maxRecDepth 100000
set_option linter.unusedVariables false
set_option linter.unusedSimpArgs false
namespace Go.Proofs.YteempfoajgblaaaGreat.Jn
open Dk (DS)
open Sl (InvD InvT rowOf rowOf_length rowOf_get mix mix_zero mix_all wrs SS toldR)
open Wl (Inv Small rw_ WS)
structure JB (S:List (List UInt8)) (k n nx N:Nat) (told:Option (Nat×List UInt8)):Prop where
 len:S.length=2*k+n
 sec:∀ y∈S,y.length=64
 k1:1≤k
 k2:k≤64
 n1:1≤n
 n2:n<256
 sl:InvD ⟨S,[],0,0⟩ 0 k nx N told
 ep:∀ x∈rw_ S (2*k) n,epochOf x≤(told.getD (0,[])).1
 sm:Small (rw_ S (2*k) n)
structure JI (S:List (List UInt8)) (k n nx N E:Nat) (d:List UInt8) (ops:List (List UInt8)):Prop where
 jb:JB S k n nx N (some (E,d))
 lg:Inv (rw_ S (2*k) n) E ops
section
variable {S S':List (List UInt8)} {k n nx N E:Nat} {d:List UInt8} {ops:List (List UInt8)} {told:Option (Nat×List UInt8)}
theorem JB.told_le (h:JB S k n nx N told):(told.getD (0,[])).1≤N:=by
 cases told with
 | none=>exact Nat.zero_le _
 | some c=>
  obtain ⟨E,d⟩:=c
  have hi:=h.sl.inv
  have hl:=hi.ly
  have k1:=h.k1
  obtain ⟨h1,h2,-,-⟩:=hi.ts E d rfl
  have h0:0<(rowOf ⟨S,[],0,0⟩ (0+(1-nx)*k) k).length:=by omega
  have h3:=(Sl.whole_epoch (h2 0 h0)).1
  have h4:=(hi.sy _ (List.getElem_mem h0)).2.1
  rw [h3] at h4
  exact h4
theorem JI.e_le (h:JI S k n nx N E d ops):1≤E∧E≤N:=⟨(h.jb.sl.inv.ts E d rfl).1,h.jb.told_le⟩
theorem JI.few (h:JI S k n nx N E d ops):ops.length≤n:=by
 have:=h.lg.len
 rw [Wl.rw_length (by rw [h.jb.len];omega)] at this
 exact this
theorem JI.dlen (h:JI S k n nx N E d ops):d.length≤43*k:=by
 have hi:=h.jb.sl.inv
 obtain ⟨h1,h2,h3,-⟩:=hi.ts E d rfl
 have hf:Sl.first (rowOf ⟨S,[],0,0⟩ (0+(1-nx)*k) k)=E:=by
  have h0:0<(rowOf ⟨S,[],0,0⟩ (0+(1-nx)*k) k).length:=by rw [hi.ly];exact h.jb.k1
  rw [Sl.first_get h0]
  exact (Sl.whole_epoch (h2 0 h0)).1
 have:=Sl.paysTo_len (L:=rowOf ⟨S,[],0,0⟩ (0+(1-nx)*k) k) (i:=(rowOf ⟨S,[],0,0⟩ (0+(1-nx)*k) k).length) (Nat.le_refl _) (fun j hj _=>by rw [hf];exact h2 j hj)
 rw [h3,hi.ly] at this
 exact this
theorem JI.oplen (h:JI S k n nx N E d ops):∀ p∈ops,p.length≤43:=fun p hp=>by
 obtain ⟨i,hi,rfl⟩:=List.getElem_of_mem hp
 exact (h.lg.rcd i hi (Nat.lt_of_lt_of_le hi h.lg.len)).2
theorem row_same {a c:Nat} (hc:∀ i,i<a→S'[i]?=S[i]?) (h:c+k≤a) (f r f' r':Nat):rowOf ⟨S',[],f',r'⟩ c k=rowOf ⟨S,[],f,r⟩ c k:=by
 unfold rowOf
 apply List.map_congr_left
 intro i hi
 simp only [List.mem_range] at hi
 unfold Dk.newestOf
 simp only [Dk.lastOf,Option.getD_none]
 rw [hc _ (by omega)]
theorem invD_same (h:InvD ⟨S,[],0,0⟩ 0 k nx N told) (hc:∀ i,i<2*k→S'[i]?=S[i]?):InvD ⟨S',[],0,0⟩ 0 k nx N told:=by
 have hx:=h.x1
 refine ⟨h.x1,h.x0,?_⟩
 have e1:=row_same (k:=k) hc (c:=0+nx*k) (by rcases (show nx=0∨nx=1 by omega) with rfl|rfl <;> omega) 0 0 0 0
 have e2:=row_same (k:=k) hc (c:=0+(1-nx)*k) (by rcases (show nx=0∨nx=1 by omega) with rfl|rfl <;> omega) 0 0 0 0
 rw [e1,e2]
 exact h.inv
theorem JB.log (h:JB S k n nx N told) {c:Nat} {x:List UInt8} (hc:c<n) (hx:x.length=64∧epochOf x<256∧numberOf x<256) (he:epochOf x≤(told.getD (0,[])).1):JB (S.set (2*k+c) x) k n nx N told:=by
 have hr:2*k+n≤S.length:=by rw [h.len];omega
 refine ⟨by rw [List.length_set];exact h.len,Wl.set_len h.sec hx.1,h.k1,h.k2,h.n1,h.n2,invD_same h.sl (fun i hi=>?_),fun y hy=>?_,?_⟩
 · rw [List.getElem?_set,if_neg (by omega)]
 ·rw [Wl.rw_set hr hc] at hy
  rcases List.mem_or_eq_of_mem_set hy with hy|rfl
  · exact h.ep y hy
  · exact he
 ·rw [Wl.rw_set hr hc]
  exact h.sm.set hx
theorem JI.lt (h:JI S k n nx N E d ops) (hl:ops.length<n):2*k+ops.length<S.length:=by rw [h.jb.len];omega
theorem mix_epoch {p o:List UInt8} {e i j:Nat} (hp:p.length≤43) (he:e<256) (hi:i<256) (ho:o.length=64∧epochOf o<256∧numberOf o<256) (hoe:epochOf o≤e):epochOf (mix j (sec p e i) o)≤e:=by
 rcases Sl.mix_cases (j:=j) hp he hi ho.1 ho.2.1 ho.2.2 with ⟨h1,-⟩|⟨h1,-⟩|h1
 · omega
 · omega
 · rw [h1,epochOf_sec hp (by omega)];omega
theorem JI.put (h:JI S k n nx N E d ops) (hN:N<256) {p:List UInt8} (hp:p.length≤43) (hl:ops.length<n) (j:Nat) :
 (JI (S.set (2*k+ops.length) (mix j (sec p E ops.length) (S[2*k+ops.length]'(h.lt hl)))) k n nx N E d (ops++[p])∨JI (S.set (2*k+ops.length) (mix j (sec p E ops.length) (S[2*k+ops.length]'(h.lt hl)))) k n nx N E d ops)∧(64≤j→JI (S.set (2*k+ops.length) (mix j (sec p E ops.length) (S[2*k+ops.length]'(h.lt hl)))) k n nx N E d (ops++[p])):=by
 have hE:E<256:=by have:=h.e_le;omega
 have hr:2*k+n≤S.length:=by rw [h.jb.len];omega
 have hrl:(rw_ S (2*k) n).length=n:=Wl.rw_length hr
 have n2:=h.jb.n2
 have hg:(rw_ S (2*k) n)[ops.length]'(by rw [hrl];exact hl)=S[2*k+ops.length]'(h.lt hl):=Wl.rw_get _
 have ho:=h.jb.sm.get (i:=ops.length) (by rw [hrl];exact hl)
 have hoe:=h.jb.ep _ (List.getElem_mem (show ops.length<(rw_ S (2*k) n).length by rw [hrl];exact hl))
 rw [hg] at ho hoe
 have jb:=h.jb.log hl (Wl.mix_small (i:=ops.length) (j:=j) hp hE (by omega) ho) (mix_epoch (i:=ops.length) (j:=j) hp hE (by omega) ho hoe)
 refine ⟨?_,fun hj=>?_⟩
 ·rcases h.lg.torn h.jb.sm (by rw [hrl];exact hl) hp hE (by rw [hrl];exact n2) j with hh|hh
  ·left
   refine ⟨jb,?_⟩
   rw [Wl.rw_set hr hl,← hg];exact hh
  ·right
   refine ⟨jb,?_⟩
   rw [Wl.rw_set hr hl,← hg];exact hh
 ·refine ⟨jb,?_⟩
  rw [mix_all (sec_length hp E _) ho.1 hj,Wl.rw_set hr hl]
  exact h.lg.push (by rw [hrl];exact hl) hp
theorem laid_congr {O:List (Nat×List UInt8)} {g g':Nat→Nat} {m:Nat} (h:∀ i,i<m→g i=g' i):Dk.laid S O g m=Dk.laid S O g' m:=by
 induction m with
 | zero=>rfl
 | succ m ih=>
  simp only [Dk.laid]
  rw [ih (fun i hi=>h i (by omega)),h m (by omega)]
theorem flush_crash (s:DS):Dk.flushedS s=Dk.crashedS s (List.replicate s.opn.length (1,0)):=by
 unfold Dk.flushedS Dk.crashedS
 refine laid_congr fun i hi=>?_
 unfold Dk.keptAt
 simp [hi,Dk.keepOf]
theorem crashed_plain (f r:Nat) (fs:List (Int×Int)):Dk.crashedS ⟨S,[],f,r⟩ fs=S:=rfl
theorem JI.app (h:JI S k n nx N E d ops) (hN:N<256) {p:List UInt8} (hp:p.length≤43) (hl:ops.length<n) (f r:Nat) (hf:f<9223372036854775808) :
 (∀ fs,JI (Dk.crashedS (Wl.appR ⟨S,[],f,r⟩ ⟨2*k,n,some (E,ops.length)⟩ p).1 fs) k n nx N E d (ops++[p])∨((Wl.appR ⟨S,[],f,r⟩ ⟨2*k,n,some (E,ops.length)⟩ p).2.2=18∧JI (Dk.crashedS (Wl.appR ⟨S,[],f,r⟩ ⟨2*k,n,some (E,ops.length)⟩ p).1 fs) k n nx N E d ops)) ∧
 ((Wl.appR ⟨S,[],f,r⟩ ⟨2*k,n,some (E,ops.length)⟩ p).2.2=0∨(Wl.appR ⟨S,[],f,r⟩ ⟨2*k,n,some (E,ops.length)⟩ p).2.2=18) ∧
 (Wl.appR ⟨S,[],f,r⟩ ⟨2*k,n,some (E,ops.length)⟩ p).1.opn.length≤1∧(Wl.appR ⟨S,[],f,r⟩ ⟨2*k,n,some (E,ops.length)⟩ p).1.reads=r:=by
 have ho:∀ fs,_:=fun fs=>Wl.app_crash (S:=S) (t:=⟨2*k,n,some (E,ops.length)⟩) (f:=f) (r:=r) hp rfl hl (by show 2*k+n≤_;rw [h.jb.len];omega) h.jb.sec fs
 refine ⟨fun fs=>?_,?_,?_,?_⟩
 ·obtain ⟨j,h1,h2,-,-⟩:=ho fs
  have h1':Dk.crashedS (Wl.appR ⟨S,[],f,r⟩ ⟨2*k,n,some (E,ops.length)⟩ p).1 fs=_:=congrArg DS.sec h1
  rw [h1']
  obtain ⟨p1,p2⟩:=h.put hN hp hl j
  rcases h2 with ⟨-,rfl⟩|h2
  · exact .inl (p2 (Nat.le_refl _))
  ·rcases p1 with p1|p1
   · exact .inl p1
   · exact .inr ⟨h2,p1⟩
 ·obtain ⟨j,-,h2,-,-⟩:=ho []
  rcases h2 with ⟨h2,-⟩|h2
  · exact .inl h2
  · exact .inr h2
 ·obtain ⟨j,-,-,h3,-⟩:=ho []
  exact h3
 ·rw [Wl.appR_put hp rfl (by show ops.length≠n;omega)]
  have hx:=sec_length hp E ops.length
  have ha:=h.lt hl
  by_cases f1:f=1
  ·subst f1
   show (if (Wl.putW ⟨S,[],1,r⟩ (2*k+ops.length) (sec p E ops.length)).2=true then ((Wl.putW ⟨S,[],1,r⟩ (2*k+ops.length) (sec p E ops.length)).1,some (E,ops.length+1),0) else ((Wl.putW ⟨S,[],1,r⟩ (2*k+ops.length) (sec p E ops.length)).1,none,18)).1.reads=r
   rw [Wl.putW_one ha hx];rfl
  ·by_cases f2:f=2
   ·subst f2
    show (if (Wl.putW ⟨S,[],2,r⟩ (2*k+ops.length) (sec p E ops.length)).2=true then ((Wl.putW ⟨S,[],2,r⟩ (2*k+ops.length) (sec p E ops.length)).1,some (E,ops.length+1),0) else ((Wl.putW ⟨S,[],2,r⟩ (2*k+ops.length) (sec p E ops.length)).1,none,18)).1.reads=r
    rw [Wl.putW_two ha hx];rfl
   ·show (if (Wl.putW ⟨S,[],f,r⟩ (2*k+ops.length) (sec p E ops.length)).2=true then ((Wl.putW ⟨S,[],f,r⟩ (2*k+ops.length) (sec p E ops.length)).1,some (E,ops.length+1),0) else ((Wl.putW ⟨S,[],f,r⟩ (2*k+ops.length) (sec p E ops.length)).1,none,18)).1.reads=r
    rw [Wl.putW_calm ha hx h.jb.sec f1 f2];rfl
theorem JI.app_ok (h:JI S k n nx N E d ops) (hN:N<256) {p:List UInt8} (hp:p.length≤43) (hl:ops.length<n) (r:Nat) :
 ∃ S',Wl.appR ⟨S,[],0,r⟩ ⟨2*k,n,some (E,ops.length)⟩ p=(⟨S',[],0,r⟩,some (E,ops.length+1),0)∧JI S' k n nx N E d (ops++[p]):=by
 have hx:=sec_length hp E ops.length
 have ha:=h.lt hl
 have ho:=h.jb.sec _ (List.getElem_mem ha)
 refine ⟨S.set (2*k+ops.length) (sec p E ops.length),?_,?_⟩
 ·rw [Wl.appR_put hp rfl (by show ops.length≠n;omega)]
  show (if (Wl.putW ⟨S,[],0,r⟩ (2*k+ops.length) (sec p E ops.length)).2=true then ((Wl.putW ⟨S,[],0,r⟩ (2*k+ops.length) (sec p E ops.length)).1,some (E,ops.length+1),0) else ((Wl.putW ⟨S,[],0,r⟩ (2*k+ops.length) (sec p E ops.length)).1,none,18))=_
  rw [Wl.putW_calm ha hx h.jb.sec (by omega) (by omega)];rfl
 ·have:=(h.put hN hp hl 64).2 (Nat.le_refl _)
  rw [mix_all hx ho (Nat.le_refl _)] at this
  exact this
theorem laid_rest {a M:Nat} {data:List UInt8} {e:Nat} {g:Nat→Nat} (ha:a+M≤S.length) {i:Nat} (hi:a+M≤i):(Dk.laid S (wrs a data e M) g M)[i]?=S[i]?:=by
 rcases Nat.lt_or_ge i S.length with hlt|hge
 ·rw [Sl.laid_wrs ha i hlt M (Nat.le_refl _),if_neg (by omega)]
  simp [hlt]
 · rw [List.getElem?_eq_none (by rw [Dk.laid_length];exact hge),List.getElem?_eq_none hge]
theorem rw_same {a:Nat} (hc:∀ i,a≤i→S'[i]?=S[i]?):rw_ S' a n=rw_ S a n:=by
 unfold rw_
 congr 1
 apply List.ext_getElem?
 intro i
 rw [List.getElem?_drop,List.getElem?_drop,hc _ (by omega)]
theorem nxk (hx:nx≤1):nx*k+k≤2*k:=by rcases (show nx=0∨nx=1 by omega) with rfl|rfl <;> omega
theorem wrs_sec {a M:Nat} {data:List UInt8} {e:Nat} {g:Nat→Nat} (hS:∀ y∈S,y.length=64) (ha:a+M≤S.length) (hg:∀ i,g i≤64):∀ y∈Dk.laid S (wrs a data e M) g M,y.length=64:=by
 refine Dk.laid_sec hS (fun p hp=>?_) hg M
 unfold wrs at hp
 simp only [List.mem_map,List.mem_range] at hp
 obtain ⟨i,hi,rfl⟩:=hp
 exact ⟨by show a+i<_;omega,sec_length (Sl.payAt_len _ _) _ _⟩
theorem JB.turn (h:JB S k n nx N told) {data:List UInt8} {M e:Nat} {g:Nat→Nat} (hM:M≤k) (hg:∀ i,g i≤64) :
 (Dk.laid S (wrs (nx*k) data e M) g M).length=2*k+n∧(∀ y∈Dk.laid S (wrs (nx*k) data e M) g M,y.length=64)∧rw_ (Dk.laid S (wrs (nx*k) data e M) g M) (2*k) n=rw_ S (2*k) n:=by
 have hx:=nxk (k:=k) h.sl.x1
 have hl:=h.len
 exact ⟨by rw [Dk.laid_length];exact hl,wrs_sec h.sec (by omega) hg,rw_same fun i hi=>laid_rest (by omega) (by omega)⟩
theorem JB.new (h:JB S k n nx N told) (hl:S'.length=2*k+n) (hs:∀ y∈S',y.length=64) (hr:rw_ S' (2*k) n=rw_ S (2*k) n) {data:List UInt8} (hi:InvD ⟨S',[],0,0⟩ 0 k (1-nx) (N+1) (some (N+1,data))):JI S' k n (1-nx) (N+1) (N+1) data []:=by
 have ht:=h.told_le
 refine ⟨⟨hl,hs,h.k1,h.k2,h.n1,h.n2,hi,fun x hx=>?_,by rw [hr];exact h.sm⟩,?_⟩
 ·rw [hr] at hx
  have:=h.ep x hx
  show _≤N+1
  omega
 ·rw [hr]
  exact Wl.inv_none fun x hx=>by have:=h.ep x hx;omega
theorem JB.old (h:JB S k n nx N told) (hl:S'.length=2*k+n) (hs:∀ y∈S',y.length=64) (hr:rw_ S' (2*k) n=rw_ S (2*k) n) (hi:InvD ⟨S',[],0,0⟩ 0 k nx (N+1) told):JB S' k n nx (N+1) told:=by
 refine ⟨hl,hs,h.k1,h.k2,h.n1,h.n2,hi,fun x hx=>?_,by rw [hr];exact h.sm⟩
 rw [hr] at hx
 exact h.ep x hx
theorem JB.done (h:JB S k n nx N told) (hN:N+1<256) {data:List UInt8} (hd:data.length≤43*k) (r:Nat):JI (Dk.flushedS ⟨S,wrs (nx*k) data (N+1) k,0,r⟩) k n (1-nx) (N+1) (N+1) data []:=by
 have hok:(DS.mk S [] 0 0).Ok:=⟨by show S.length≤1024;rw [h.len];have:=h.k2;have:=h.n2;omega,h.sec,fun p hp=>by cases hp⟩
 have e:Dk.flushedS ⟨S,wrs (nx*k) data (N+1) k,0,r⟩=Dk.laid S (wrs (nx*k) data (N+1) k) (fun _=>64) k:=by
  unfold Dk.flushedS;rw [Sl.wrs_length]
 obtain ⟨t1,t2,t3⟩:=h.turn (data:=data) (e:=N+1) (g:=fun _=>64) (Nat.le_refl k) (fun _=>Nat.le_refl _)
 rw [← e] at t1 t2 t3
 refine h.new t1 t2 t3 ?_
 have:=h.sl.done (data:=data) (f':=0) hok h.k1 h.k2 (by show 0+2*k≤S.length;rw [h.len];omega) (Nat.lt_succ_self N) hN hd
 rw [Nat.zero_add] at this
 exact this
theorem JB.snap (h:JB S k n nx N told) (hN:N+1<256) {data:List UInt8} (hd:data.length≤43*k) (f r:Nat) :
 (∀ fs,JI (Dk.crashedS (Sl.putR ⟨S,[],f,r⟩ (nx*k) k data (N+1)).1 fs) k n (1-nx) (N+1) (N+1) data []∨((Sl.putR ⟨S,[],f,r⟩ (nx*k) k data (N+1)).2=false∧JB (Dk.crashedS (Sl.putR ⟨S,[],f,r⟩ (nx*k) k data (N+1)).1 fs) k n nx (N+1) told∧rw_ (Dk.crashedS (Sl.putR ⟨S,[],f,r⟩ (nx*k) k data (N+1)).1 fs) (2*k) n=rw_ S (2*k) n)) ∧
 (Sl.putR ⟨S,[],f,r⟩ (nx*k) k data (N+1)).1.opn.length≤64∧(Sl.putR ⟨S,[],f,r⟩ (nx*k) k data (N+1)).1.reads=r:=by
 have k2:=h.k2
 by_cases hc:1≤f∧f≤k+1
 ·have e:Sl.putR ⟨S,[],f,r⟩ (nx*k) k data (N+1)=(⟨S,wrs (nx*k) data (N+1) (f-1),0,r⟩,false):=by
   unfold Sl.putR;rw [if_pos (by exact hc)];rfl
  rw [e]
  refine ⟨fun fs=>?_,by show (wrs _ _ _ _).length≤64;rw [Sl.wrs_length];omega,rfl⟩
  have eS:Dk.crashedS ⟨S,wrs (nx*k) data (N+1) (f-1),0,r⟩ fs=Dk.laid S (wrs (nx*k) data (N+1) (f-1)) (Dk.keptAt fs) (f-1):=by
   unfold Dk.crashedS;rw [Sl.wrs_length]
  obtain ⟨t1,t2,t3⟩:=h.turn (data:=data) (e:=N+1) (g:=Dk.keptAt fs) (show f-1≤k by omega) (Dk.keptAt_le fs)
  rw [← eS] at t1 t2 t3
  have hcr:=h.sl.crash (s:=⟨S,[],0,0⟩) (data:=data) (m:=f-1) rfl h.k1 h.k2 (by show 0+2*k≤S.length;rw [h.len];omega) (Nat.lt_succ_self N) hN hd (by omega) 0 r fs
  rw [Nat.zero_add] at hcr
  rcases hcr with hcr|hcr
  · exact .inl (h.new t1 t2 t3 hcr)
  · exact .inr ⟨rfl,h.old t1 t2 t3 hcr,t3⟩
 ·have e:Sl.putR ⟨S,[],f,r⟩ (nx*k) k data (N+1)=(⟨Dk.flushedS ⟨S,wrs (nx*k) data (N+1) k,0,r⟩,[],f-(k+1),r⟩,true):=by
   unfold Sl.putR;rw [if_neg (by exact hc)];rfl
  rw [e]
  exact ⟨fun fs=>.inl (h.done hN hd r),by show 0≤64;omega,rfl⟩
theorem JI.snap (h:JI S k n nx N E d ops) (hN:N+1<256) {data:List UInt8} (hd:data.length≤43*k) (f r:Nat) (fs:List (Int×Int)) :
 JI (Dk.crashedS (Sl.putR ⟨S,[],f,r⟩ (nx*k) k data (N+1)).1 fs) k n (1-nx) (N+1) (N+1) data []∨((Sl.putR ⟨S,[],f,r⟩ (nx*k) k data (N+1)).2=false∧JI (Dk.crashedS (Sl.putR ⟨S,[],f,r⟩ (nx*k) k data (N+1)).1 fs) k n nx (N+1) E d ops):=by
 rcases (h.jb.snap hN hd f r).1 fs with hh|⟨h1,h2,h3⟩
 · exact .inl hh
 · exact .inr ⟨h1,h2,by rw [h3];exact h.lg⟩
theorem jb_new (k n:Nat) (k1:1≤k) (k2:k≤64) (n1:1≤n) (n2:n<256):JB (List.replicate (2*k+n) (List.replicate 64 0)) k n 0 0 none:=by
 have hz:=Wl.zero_tag
 have hm:∀ x∈rw_ (List.replicate (2*k+n) (List.replicate 64 (0:UInt8))) (2*k) n,x=List.replicate 64 0:=fun x hx=>
  (List.mem_replicate.1 (List.mem_of_mem_drop (List.mem_of_mem_take hx))).2
 refine ⟨by simp,fun y hy=>by rw [(List.mem_replicate.1 hy).2];simp,k1,k2,n1,n2,Sl.invD_new (2*k+n) 0 k k1 (by omega),fun x hx=>?_,fun x hx=>?_⟩
 · rw [hm x hx,hz.1];omega
 · rw [hm x hx,hz.1,hz.2];simp
theorem JB.tells (h:JB S k n nx N told) (rd:Bool) (m x f r:Nat):toldR ⟨0,k,rd,m,x⟩ ⟨S,[],f,r⟩=(told.getD (0,[]),nx):=by
 have:=(h.sl.same (s':=⟨S,[],f,r⟩) rfl rfl).told (t:=⟨0,k,rd,m,x⟩) h.k1
 exact this
theorem JB.reads (h:JB S k n nx N told) (rd:Bool) (m x f r:Nat):JB S k n nx (Sl.newR ⟨0,k,rd,m,x⟩ ⟨S,[],f,r⟩) told∧Sl.newR ⟨0,k,rd,m,x⟩ ⟨S,[],f,r⟩≤N:=by
 obtain ⟨h1,h2⟩:=(h.sl.same (s':=⟨S,[],f,r⟩) rfl rfl).newest (t:=⟨0,k,rd,m,x⟩)
 exact ⟨⟨h.len,h.sec,h.k1,h.k2,h.n1,h.n2,h1.same rfl rfl,h.ep,h.sm⟩,h2⟩
theorem JI.reads (h:JI S k n nx N E d ops) (rd:Bool) (m x f r:Nat):JI S k n nx (Sl.newR ⟨0,k,rd,m,x⟩ ⟨S,[],f,r⟩) E d ops∧Sl.newR ⟨0,k,rd,m,x⟩ ⟨S,[],f,r⟩≤N:=
 ⟨⟨(h.jb.reads rd m x f r).1,h.lg⟩,(h.jb.reads rd m x f r).2⟩
theorem JI.scans (h:JI S k n nx N E d ops) (hN:N<256) (f r:Nat):Wl.scanR ⟨S,[],f,r⟩ (2*k) n E=if 1≤f∧f≤Wl.readsN ops.length n then (⟨S,[],0,r+f⟩,[],18) else (⟨S,[],f-Wl.readsN ops.length n,r+Wl.readsN ops.length n⟩,ops,0):=by
 have hr:2*k+n≤S.length:=by rw [h.jb.len];omega
 have:=h.e_le
 have n2:=h.jb.n2
 unfold Wl.scanR
 rw [Wl.row_plain hr,h.lg.lead (by omega) (by rw [Wl.rw_length hr];omega),h.lg.recs (by omega) (by rw [Wl.rw_length hr];omega)]
end
end Go.Proofs.YteempfoajgblaaaGreat.Jn
