/- One slot is always whole: what a Write, a fault and a crash leave of two rows of sectors. What a .. -/
import Derived.Test.YteempfoajgblaaaGreatLMSg
import Derived.Test.YteempfoajgblaaaGreatLQD
import Derived.Test.YteempfoajgblaaaGreatLMSm
import Derived.Test.YteempfoajgblaaaGreatLMSh
set_option maxRecDepth 100000
set_option linter.unusedVariables false
set_option linter.unusedSimpArgs false
open Go.ChangeShapes Go.WideShapes Go.ChangeAt Go.RowKit Go.Joins
namespace Go.Proofs.YteempfoajgblaaaGreat.Sl
open Dk (DS)
def full (L:List (List UInt8)) (e:Nat):Prop:=∀ j (h:j<L.length),epochOf L[j]=e∧numberOf L[j]=j
theorem full_of_all {L:List (List UInt8)} (h:allTo L L.length):full L (first L):=fun j hj=>by
 have:=whole_epoch (h j hj hj)
 exact ⟨this.1,this.2.1⟩
theorem snap_none {L:List (List UInt8)} (h:∀ e,1≤e→¬full L e):(snapL L).2=false:=by
 by_cases ha:allTo L L.length
 ·rw [snapL_yes ha]
  have:=h (first L)
  simp only [decide_eq_false_iff_not,Nat.not_lt]
  rcases Nat.eq_zero_or_pos (first L) with h0|h0
  · omega
  · exact absurd (full_of_all ha) (this h0)
 · rw [snapL_no ha]
theorem snap_less {L:List (List UInt8)} {e:Nat} (h:∀ f,e≤f→¬full L f) (hs:(snapL L).2=true):(snapL L).1.1<e:=by
 by_cases ha:allTo L L.length
 ·rw [snapL_yes ha]
  show first L<e
  rcases Nat.lt_or_ge (first L) e with h1|h1
  · exact h1
  · exact absurd (full_of_all ha) (h _ h1)
 · rw [snapL_no ha] at hs;cases hs
theorem snap_all {L:List (List UInt8)} {e:Nat} (h0:0<L.length) (he:1≤e) (h:∀ j (hj:j<L.length),whole L[j] e j=true):snapL L=((e,paysTo L L.length),true):=by
 have hf:first L=e:=by rw [first_get h0];exact (whole_epoch (h 0 h0)).1
 have ha:allTo L L.length:=fun j hj _=>by rw [hf];exact h j hj
 rw [snapL_yes ha,hf]
 simp;omega
structure InvT (k N:Nat) (X Y:List (List UInt8)) (told:Option (Nat×List UInt8)):Prop where
 lx:X.length=k
 ly:Y.length=k
 sx:∀ x∈X,x.length=64∧epochOf x≤N∧numberOf x<256
 sy:∀ x∈Y,x.length=64∧epochOf x≤N∧numberOf x<256
 tn:told=none→∀ e,1≤e→¬full X e∧¬full Y e
 ts:∀ e d,told=some (e,d)→1≤e∧(∀ j (hj:j<Y.length),whole Y[j] e j=true)∧paysTo Y Y.length=d∧∀ f,e≤f→¬full X f
def mixRow (k:Nat) (data:List UInt8) (E:Nat) (g:Nat→Nat) (X:List (List UInt8)):List (List UInt8):=(List.range k).map fun i=>mix (g i) (sec (payAt data i) E i) (X[i]?.getD [])
theorem mixRow_length (k:Nat) (data:List UInt8) (E:Nat) (g:Nat→Nat) (X:List (List UInt8)):(mixRow k data E g X).length=k:=by simp [mixRow]
theorem mixRow_get {k:Nat} {data:List UInt8} {E:Nat} {g:Nat→Nat} {X:List (List UInt8)} {i:Nat} (h:i<(mixRow k data E g X).length) (hx:i<X.length):(mixRow k data E g X)[i]=mix (g i) (sec (payAt data i) E i) X[i]:=by
 simp [mixRow,hx]
theorem InvT.fresh {k N E:Nat} {X Y:List (List UInt8)} {told:Option (Nat×List UInt8)} {data:List UInt8} {g:Nat→Nat} (h:InvT k N X Y told) (hk:1≤k) (hk2:k≤64) (hE:N<E) (hE2:E<256) (hd:data.length≤43*k)
 (hall:∀ i (hi:i<k),mix (g i) (sec (payAt data i) E i) (X[i]'(by rw [h.lx];exact hi))=sec (payAt data i) E i):InvT k E Y (mixRow k data E g X) (some (E,data)):=by
 have get:∀ i (hi:i<(mixRow k data E g X).length),(mixRow k data E g X)[i]=sec (payAt data i) E i:=fun i hi=>by
  have hik:i<k:=by rw [mixRow_length] at hi;exact hi
  rw [mixRow_get hi (by rw [h.lx];exact hik)]
  exact hall i hik
 refine ⟨h.ly,mixRow_length _ _ _ _ _,fun x hx=>?_,fun x hx=>?_,fun hn=>(by cases hn),fun e d he=>?_⟩
 · have:=h.sy x hx;exact ⟨this.1,by omega,this.2.2⟩
 ·obtain ⟨i,hi,rfl⟩:=List.getElem_of_mem hx
  rw [get i hi]
  have hik:i<k:=by rw [mixRow_length] at hi;exact hi
  exact ⟨sec_length (payAt_len _ _) _ _,by rw [epochOf_sec (payAt_len _ _) (by omega)];omega,by rw [numberOf_sec (payAt_len _ _) _ (by omega)];omega⟩
 ·cases he
  refine ⟨by omega,fun j hj=>?_,?_,fun f hf hfull=>?_⟩
  ·have hjk:j<k:=by rw [mixRow_length] at hj;exact hj
   rw [get j hj,whole_sec (payAt_len _ _) (by omega) (by omega)]
   simp
  ·have hp:∀ m,m≤k→paysTo (mixRow k data E g X) m=((List.range m).map (payAt data)).flatten:=by
    intro m
    induction m with
    | zero=>intro _;simp [paysTo_zero]
    | succ m ih=>
     intro hm
     have hmk:m<(mixRow k data E g X).length:=by rw [mixRow_length];omega
     rw [paysTo_succ hmk,ih (by omega),get m hmk,payOf_sec (payAt_len _ _),List.range_succ,List.map_append,List.flatten_append]
     simp
   rw [mixRow_length,hp k (Nat.le_refl _),pays_all data k hd]
  ·have hy0:0<Y.length:=by rw [h.ly];omega
   have h1:=(hfull 0 hy0).1
   have h2:=(h.sy Y[0] (List.getElem_mem hy0)).2.1
   omega
theorem InvT.step {k N E:Nat} {X Y:List (List UInt8)} {told:Option (Nat×List UInt8)} {data:List UInt8} (g:Nat→Nat) (h:InvT k N X Y told) (hk:1≤k) (hk2:k≤64) (hE:N<E) (hE2:E<256) (hd:data.length≤43*k) :
 InvT k E Y (mixRow k data E g X) (some (E,data))∨InvT k E (mixRow k data E g X) Y told:=by
 have gc:∀ i (hi:i<k),_:=fun i hi=>mix_cases (p:=payAt data i) (o:=X[i]'(by rw [h.lx];exact hi)) (E:=E) (i:=i) (j:=g i) (payAt_len _ _) hE2 (by omega) (h.sx _ (List.getElem_mem _)).1 (by have:=(h.sx _ (List.getElem_mem (by rw [h.lx];exact hi))).2.1;omega) (h.sx _ (List.getElem_mem _)).2.2
 have ob:∀ i (hi:i<k),epochOf (X[i]'(by rw [h.lx];exact hi))≤N:=fun i hi=>(h.sx _ (List.getElem_mem _)).2.1
 have es:∀ i,epochOf (sec (payAt data i) E i)=E:=fun i=>epochOf_sec (payAt_len _ _) (by omega) i
 by_cases hall:∀ i (hi:i<k),mix (g i) (sec (payAt data i) E i) (X[i]'(by rw [h.lx];exact hi))=sec (payAt data i) E i
 · exact .inl (h.fresh hk hk2 hE hE2 hd hall)
 ·right
  have get:∀ i (hi:i<(mixRow k data E g X).length) (hik:i<k),(mixRow k data E g X)[i]=mix (g i) (sec (payAt data i) E i) (X[i]'(by rw [h.lx];exact hik)):=fun i hi hik=>mixRow_get hi _
  have old:∀ f,f≠E→full (mixRow k data E g X) f→full X f:=fun f hf hfull j hj=>by
   have hjk:j<k:=by rw [← h.lx];exact hj
   have hjm:j<(mixRow k data E g X).length:=by rw [mixRow_length];exact hjk
   have ht:=hfull j hjm
   rw [get j hjm hjk] at ht
   rcases gc j hjk with ⟨h1,h2⟩|⟨h1,h2,h3⟩|h1
   · rw [h1,h2] at ht;exact ht
   · rw [h1] at ht;exact absurd ht.1.symm hf
   · rw [h1,es] at ht;exact absurd ht.1.symm hf
  have notE:¬full (mixRow k data E g X) E:=fun hfull=>hall fun i hi=>by
   have him:i<(mixRow k data E g X).length:=by rw [mixRow_length];exact hi
   have ht:=hfull i him
   rw [get i him hi] at ht
   rcases gc i hi with ⟨h1,h2⟩|⟨h1,h2,h3⟩|h1
   · have:=ob i hi;rw [h1] at ht;omega
   · exact h3 (by rw [← h2];exact ht.2)
   · exact h1
  refine ⟨mixRow_length _ _ _ _ _,h.ly,fun x hx=>?_,fun x hx=>?_,fun hn e he=>?_,fun e d he=>?_⟩
  ·obtain ⟨i,hi,rfl⟩:=List.getElem_of_mem hx
   have hik:i<k:=by rw [mixRow_length] at hi;exact hi
   rw [get i hi hik]
   have hx':=h.sx _ (List.getElem_mem (show i<X.length by rw [h.lx];exact hik))
   refine ⟨mix_length (sec_length (payAt_len _ _) _ _) hx'.1,?_⟩
   rcases gc i hik with ⟨h1,h2⟩|⟨h1,h2,h3⟩|h1
   · rw [h1,h2];exact ⟨by omega,hx'.2.2⟩
   · rw [h1,h2];exact ⟨Nat.le_refl _,hx'.2.2⟩
   · rw [h1,es,numberOf_sec (payAt_len _ _) _ (by omega)];exact ⟨Nat.le_refl _,by omega⟩
  · have:=h.sy x hx;exact ⟨this.1,by omega,this.2.2⟩
  ·refine ⟨fun hf=>?_,(h.tn hn e he).2⟩
   by_cases e1:e=E
   · rw [e1] at hf;exact notE hf
   · exact (h.tn hn e he).1 (old e e1 hf)
  ·obtain ⟨h1,h2,h3,h4⟩:=h.ts e d he
   refine ⟨h1,h2,h3,fun f hf hfull=>?_⟩
   by_cases e1:f=E
   · rw [e1] at hfull;exact notE hfull
   · exact h4 f hf (old f e1 hfull)
theorem step_not {i:Nat} {L:List (List UInt8)} {T:(Nat×List UInt8)×Nat} (h:(snapL L).2=false):stepT i L T=T:=by
 unfold stepT;rw [if_neg];rintro ⟨h1,_⟩;rw [h] at h1;cases h1
theorem InvT.read0 {k N:Nat} {L0 L1:List (List UInt8)} {told:Option (Nat×List UInt8)} (h:InvT k N L0 L1 told) (hk:1≤k):readTo L0 L1 2=(told.getD (0,[]),0):=by
 show stepT 1 L1 (stepT 0 L0 ((0,[]),0))=_
 cases told with
 | none=>
  have hn:=h.tn rfl
  rw [step_not (i:=0) (snap_none fun e he=>(hn e he).1),step_not (snap_none fun e he=>(hn e he).2)]
  rfl
 | some c=>
  obtain ⟨e,d⟩:=c
  obtain ⟨h1,h2,h3,h4⟩:=h.ts e d rfl
  have hs:=snap_all (by rw [h.ly];omega) h1 h2
  rw [h3] at hs
  refine step_yes hs ?_
  unfold stepT
  split
  · rename_i hc;exact Nat.le_of_lt (snap_less h4 hc.1)
  · exact Nat.zero_le _
theorem InvT.read1 {k N:Nat} {L0 L1:List (List UInt8)} {c:Nat×List UInt8} (h:InvT k N L1 L0 (some c)) (hk:1≤k):readTo L0 L1 2=(c,1):=by
 show stepT 1 L1 (stepT 0 L0 ((0,[]),0))=_
 obtain ⟨e,d⟩:=c
 obtain ⟨h1,h2,h3,h4⟩:=h.ts e d rfl
 have hs:=snap_all (by rw [h.ly];omega) h1 h2
 rw [h3] at hs
 rw [step_yes (i:=0) hs (Nat.zero_le _)]
 unfold stepT
 rw [if_neg]
 rintro ⟨h5,h6⟩
 have:=snap_less h4 h5
 have h6':e≤(snapL L1).1.1:=h6
 omega
theorem tagE_of {x:List UInt8} (h:x.length=64):tagE x=epochOf x:=by unfold tagE;rw [if_pos h]
theorem InvT.tight {k N:Nat} {X Y:List (List UInt8)} {told:Option (Nat×List UInt8)} (h:InvT k N X Y told):InvT k (max (newestL X) (newestL Y)) X Y told∧max (newestL X) (newestL Y)≤N:=by
 refine ⟨⟨h.lx,h.ly,fun x hx=>?_,fun x hx=>?_,h.tn,h.ts⟩,?_⟩
 ·obtain ⟨i,hi,rfl⟩:=List.getElem_of_mem hx
  have:=h.sx _ hx
  have h1:=newestL_ge hi
  rw [tagE_of this.1] at h1
  exact ⟨this.1,by omega,this.2.2⟩
 ·obtain ⟨i,hi,rfl⟩:=List.getElem_of_mem hx
  have:=h.sy _ hx
  have h1:=newestL_ge hi
  rw [tagE_of this.1] at h1
  exact ⟨this.1,by omega,this.2.2⟩
 ·have h1:newestL X≤N:=newestL_le fun j hj=>by
   have:=h.sx _ (List.getElem_mem hj);rw [tagE_of this.1];exact this.2.1
  have h2:newestL Y≤N:=newestL_le fun j hj=>by
   have:=h.sy _ (List.getElem_mem hj);rw [tagE_of this.1];exact this.2.1
  omega
end Go.Proofs.YteempfoajgblaaaGreat.Sl
namespace Go.Proofs.YteempfoajgblaaaGreat.Sl
open Dk (DS)
theorem last_wrs (O:List (Nat×List UInt8)) (a:Nat) (data:List UInt8) (e n j:Nat):Dk.lastOf (O++wrs a data e n) j=if a≤j∧j<a+n then some (sec (payAt data (j-a)) e (j-a)) else Dk.lastOf O j:=by
 induction n with
 | zero=>rw [if_neg (by omega)];simp [wrs]
 | succ n ih=>
  rw [wrs_succ,← List.append_assoc,Dk.lastOf_snoc,ih]
  unfold wrAt
  dsimp only
  by_cases h:a+n=j
  · rw [if_pos h,if_pos (by omega),show j-a=n by omega]
  ·rw [if_neg h]
   by_cases h2:a≤j∧j<a+n
   · rw [if_pos h2,if_pos (by omega)]
   · rw [if_neg h2,if_neg (by omega)]
theorem newest_put (s:DS) (a:Nat) (data:List UInt8) (e n f r j:Nat):Dk.newestOf ⟨s.sec,s.opn++wrs a data e n,f,r⟩ j=if a≤j∧j<a+n then sec (payAt data (j-a)) e (j-a) else Dk.newestOf s j:=by
 unfold Dk.newestOf
 dsimp only
 rw [last_wrs]
 split <;> rfl
theorem row_put {s:DS} {a k:Nat} {data:List UInt8} {e n f r:Nat} (hn:n≤k) (ok:s.Ok) (ha:a+k≤s.sec.length):rowOf ⟨s.sec,s.opn++wrs a data e n,f,r⟩ a k=mixRow k data e (fun i=>if i<n then 64 else 0) (rowOf s a k):=by
 unfold rowOf mixRow
 apply List.map_congr_left
 intro i hi
 simp only [List.mem_range] at hi
 rw [newest_put]
 simp only [List.getElem?_map,List.getElem?_range hi,Option.map_some,Option.getD_some]
 have hl:=Dk.newestOf_length ok (a:=a+i) (by omega)
 by_cases h:i<n
 · rw [if_pos (by omega),if_pos h,mix_all (sec_length (payAt_len _ _) _ _) hl (Nat.le_refl _),show a+i-a=i by omega]
 · rw [if_neg (by omega),if_neg h,mix_zero]
theorem row_other {s:DS} {a c k:Nat} {data:List UInt8} {e n f r:Nat} (h:c+k≤a∨a+n≤c):rowOf ⟨s.sec,s.opn++wrs a data e n,f,r⟩ c k=rowOf s c k:=by
 unfold rowOf
 apply List.map_congr_left
 intro i hi
 simp only [List.mem_range] at hi
 rw [newest_put,if_neg (by omega)]
theorem wrs_ok {s:DS} (ok:s.Ok) {a:Nat} {data:List UInt8} {e n f r:Nat} (ha:a+n≤s.sec.length):(DS.mk s.sec (s.opn++wrs a data e n) f r).Ok:=by
 refine ⟨ok.len,ok.sec,fun p hp=>?_⟩
 rcases List.mem_append.1 hp with h|h
 · exact ok.opn p h
 ·unfold wrs at h
  simp only [List.mem_map,List.mem_range] at h
  obtain ⟨i,hi,rfl⟩:=h
  exact ⟨by show a+i<s.sec.length;omega,sec_length (payAt_len _ _) _ _⟩
theorem row_flush {s:DS} (ok:s.Ok) {f r c k:Nat} (hc:c+k≤s.sec.length):rowOf ⟨Dk.flushedS s,[],f,r⟩ c k=rowOf s c k:=by
 unfold rowOf
 apply List.map_congr_left
 intro i hi
 simp only [List.mem_range] at hi
 have:=Dk.newest_flushed ok (k:=c+i) (by omega)
 rw [← this]
 rfl
theorem laid_wrs {S:List (List UInt8)} {a M:Nat} {data:List UInt8} {e:Nat} {g:Nat→Nat} (ha:a+M≤S.length) (j:Nat) (hj:j<S.length) (i:Nat) (hi:i≤M) :
 (Dk.laid S (wrs a data e M) g i)[j]?=some (if a≤j∧j<a+i then mix (g (j-a)) (sec (payAt data (j-a)) e (j-a)) S[j] else S[j]):=by
 induction i with
 | zero=>rw [if_neg (by omega)];simp [Dk.laid,hj]
 | succ i ih=>
  have hlt:i<(wrs a data e M).length:=by rw [wrs_length];omega
  have hg:(wrs a data e M)[i]=wrAt a data e i:=by simp [wrs]
  have hj':j<(Dk.laid S (wrs a data e M) g i).length:=by rw [Dk.laid_length];exact hj
  have ihh:=ih (by omega)
  rw [List.getElem?_eq_getElem hj'] at ihh
  have ih':=Option.some.inj ihh
  rw [Dk.laid_succ hlt,Dk.putS_get _ _ _ _ _ hj',hg,ih']
  unfold wrAt
  dsimp only
  congr 1
  by_cases h:a+i=j
  ·rw [if_pos h,if_neg (by omega),if_pos (by omega),show j-a=i by omega]
   rfl
  ·rw [if_neg h]
   by_cases h2:a≤j∧j<a+i
   · rw [if_pos h2,if_pos (by omega)]
   · rw [if_neg h2,if_neg (by omega)]
theorem newest_plain {S:List (List UInt8)} {f r j:Nat} (hj:j<S.length):Dk.newestOf ⟨S,[],f,r⟩ j=S[j]:=by
 unfold Dk.newestOf;simp [Dk.lastOf,hj]
theorem row_crash {s:DS} {a k M:Nat} {data:List UInt8} {e f r f' r':Nat} {fs:List (Int×Int)} (hs:s.opn=[]) (hM:M≤k) (ha:a+k≤s.sec.length) :
 rowOf ⟨Dk.crashedS ⟨s.sec,s.opn++wrs a data e M,f,r⟩ fs,[],f',r'⟩ a k=mixRow k data e (fun i=>if i<M then Dk.keptAt fs i else 0) (rowOf s a k):=by
 unfold Dk.crashedS rowOf mixRow
 apply List.map_congr_left
 intro i hi
 simp only [List.mem_range] at hi
 dsimp only
 rw [hs,List.nil_append,wrs_length]
 have hlen:(Dk.laid s.sec (wrs a data e M) (Dk.keptAt fs) M).length=s.sec.length:=Dk.laid_length _ _ _ _
 rw [newest_plain (by rw [hlen];omega)]
 have hg:=laid_wrs (S:=s.sec) (a:=a) (M:=M) (data:=data) (e:=e) (g:=Dk.keptAt fs) (by omega) (a+i) (by omega) M (Nat.le_refl _)
 rw [List.getElem?_eq_getElem (by rw [hlen];omega)] at hg
 rw [Option.some.inj hg]
 simp only [List.getElem?_map,List.getElem?_range hi,Option.map_some,Option.getD_some]
 have hns:Dk.newestOf s (a+i)=s.sec[a+i]'(by omega):=by
  unfold Dk.newestOf;rw [hs];simp [Dk.lastOf,show a+i<s.sec.length by omega]
 rw [hns]
 by_cases h:i<M
 · rw [if_pos (by omega),if_pos h,show a+i-a=i by omega]
 · rw [if_neg (by omega),if_neg h,mix_zero]
theorem row_crash_other {s:DS} {a c k M:Nat} {data:List UInt8} {e f r f' r':Nat} {fs:List (Int×Int)} (hs:s.opn=[]) (ha:a+M≤s.sec.length) (hc:c+k≤s.sec.length) (h:c+k≤a∨a+M≤c) :
 rowOf ⟨Dk.crashedS ⟨s.sec,s.opn++wrs a data e M,f,r⟩ fs,[],f',r'⟩ c k=rowOf s c k:=by
 unfold Dk.crashedS rowOf
 apply List.map_congr_left
 intro i hi
 simp only [List.mem_range] at hi
 dsimp only
 rw [hs,List.nil_append,wrs_length]
 have hlen:(Dk.laid s.sec (wrs a data e M) (Dk.keptAt fs) M).length=s.sec.length:=Dk.laid_length _ _ _ _
 rw [newest_plain (by rw [hlen];omega)]
 have hg:=laid_wrs (S:=s.sec) (a:=a) (M:=M) (data:=data) (e:=e) (g:=Dk.keptAt fs) (by omega) (c+i) (by omega) M (Nat.le_refl _)
 rw [List.getElem?_eq_getElem (by rw [hlen];omega)] at hg
 rw [Option.some.inj hg,if_neg (by omega)]
 unfold Dk.newestOf;rw [hs];simp [Dk.lastOf,show c+i<s.sec.length by omega]
end Go.Proofs.YteempfoajgblaaaGreat.Sl
namespace Go.Proofs.YteempfoajgblaaaGreat.Sl
open Dk (DS)
structure InvD (s:DS) (a k nx N:Nat) (told:Option (Nat×List UInt8)):Prop where
 x1:nx≤1
 x0:told=none→nx=0
 inv:InvT k N (rowOf s (a+nx*k) k) (rowOf s (a+(1-nx)*k) k) told
theorem InvD.told {s:DS} {t:SS} {nx N:Nat} {told:Option (Nat×List UInt8)} (h:InvD s t.at_ t.k nx N told) (hk:1≤t.k):toldR t s=(told.getD (0,[]),nx):=by
 unfold toldR
 have hi:=h.inv
 rcases (show nx=0∨nx=1 by have:=h.x1;omega) with rfl|rfl
 ·rw [show t.at_+0*t.k=t.at_ by omega,show t.at_+(1-0)*t.k=t.at_+t.k by omega] at hi
  exact hi.read0 hk
 ·cases told with
  | none=>exact absurd (h.x0 rfl) (by omega)
  | some c=>
   rw [show t.at_+1*t.k=t.at_+t.k by omega,show t.at_+(1-1)*t.k=t.at_ by omega] at hi
   exact hi.read1 hk
theorem InvD.newest {s:DS} {t:SS} {nx N:Nat} {told:Option (Nat×List UInt8)} (h:InvD s t.at_ t.k nx N told):InvD s t.at_ t.k nx (newR t s) told∧newR t s≤N:=by
 have hi:=h.inv.tight
 have e:newR t s=max (newestL (rowOf s (t.at_+nx*t.k) t.k)) (newestL (rowOf s (t.at_+(1-nx)*t.k) t.k)):=by
  unfold newR
  show max (newestL (rowOf s t.at_ t.k)) (newestL (rowOf s (t.at_+t.k) t.k))=_
  rcases (show nx=0∨nx=1 by have:=h.x1;omega) with rfl|rfl
  · rw [show t.at_+0*t.k=t.at_ by omega,show t.at_+(1-0)*t.k=t.at_+t.k by omega]
  · rw [show t.at_+1*t.k=t.at_+t.k by omega,show t.at_+(1-1)*t.k=t.at_ by omega,Nat.max_comm]
 rw [e]
 exact ⟨⟨h.x1,h.x0,hi.1⟩,hi.2⟩
theorem InvD.same {s s':DS} {a k nx N:Nat} {told:Option (Nat×List UInt8)} (h:InvD s a k nx N told) (h1:s'.sec=s.sec) (h2:s'.opn=s.opn):InvD s' a k nx N told:=by
 have e:∀ c,rowOf s' c k=rowOf s c k:=fun c=>by
  unfold rowOf Dk.newestOf;rw [h1,h2]
 exact ⟨h.x1,h.x0,by rw [e,e];exact h.inv⟩
theorem apart {a k nx m:Nat} (hx:nx≤1) (hm:m≤k):a+(1-nx)*k+k≤a+nx*k∨a+nx*k+m≤a+(1-nx)*k:=by
 rcases (show nx=0∨nx=1 by omega) with rfl|rfl
 · right;omega
 · left;omega
theorem rooms {a k nx n:Nat} (hx:nx≤1) (ha:a+2*k≤n):a+nx*k+k≤n∧a+(1-nx)*k+k≤n:=by
 rcases (show nx=0∨nx=1 by omega) with rfl|rfl <;> constructor <;> omega
theorem flip {nx:Nat} (hx:nx≤1):1-(1-nx)=nx:=by omega
theorem InvD.done {s:DS} {a k nx N E f':Nat} {told:Option (Nat×List UInt8)} {data:List UInt8} (h:InvD s a k nx N told) (ok:s.Ok) (hk:1≤k) (hk2:k≤64) (ha:a+2*k≤s.sec.length) (hE:N<E) (hE2:E<256) (hd:data.length≤43*k) :
 InvD ⟨Dk.flushedS ⟨s.sec,s.opn++wrs (a+nx*k) data E k,0,s.reads⟩,[],f',s.reads⟩ a k (1-nx) E (some (E,data)):=by
 obtain ⟨r1,r2⟩:=rooms h.x1 ha
 have ok':=wrs_ok ok (a:=a+nx*k) (data:=data) (e:=E) (n:=k) (f:=0) (r:=s.reads) (by omega)
 refine ⟨by have:=h.x1;omega,fun e=>(by cases e),?_⟩
 rw [flip h.x1,row_flush ok' r2,row_flush ok' r1,row_put (Nat.le_refl _) ok r1,row_other (apart h.x1 (Nat.le_refl _))]
 refine h.inv.fresh hk hk2 hE hE2 hd (fun i hi=>?_)
 rw [if_pos hi]
 refine mix_all (sec_length (payAt_len _ _) _ _) ?_ (Nat.le_refl _)
 rw [rowOf_get]
 exact Dk.newestOf_length ok (by omega)
theorem InvD.torn {s s':DS} {a k nx N E:Nat} {told:Option (Nat×List UInt8)} {data:List UInt8} {g:Nat→Nat} (h:InvD s a k nx N told) (hk:1≤k) (hk2:k≤64) (hE:N<E) (hE2:E<256) (hd:data.length≤43*k)
 (hx:rowOf s' (a+nx*k) k=mixRow k data E g (rowOf s (a+nx*k) k)) (hy:rowOf s' (a+(1-nx)*k) k=rowOf s (a+(1-nx)*k) k) :
 InvD s' a k (1-nx) E (some (E,data))∨InvD s' a k nx E told:=by
 rcases h.inv.step g hk hk2 hE hE2 hd with hi|hi
 ·left
  refine ⟨by have:=h.x1;omega,fun e=>(by cases e),?_⟩
  rw [flip h.x1,hx,hy];exact hi
 ·right
  refine ⟨h.x1,h.x0,?_⟩
  rw [hx,hy];exact hi
theorem InvD.crash {s:DS} {a k nx N E m:Nat} {told:Option (Nat×List UInt8)} {data:List UInt8} (h:InvD s a k nx N told) (hs:s.opn=[]) (hk:1≤k) (hk2:k≤64) (ha:a+2*k≤s.sec.length) (hE:N<E) (hE2:E<256) (hd:data.length≤43*k) (hm:m≤k) (f r:Nat) (fs:List (Int×Int)) :
 InvD (Dk.crashR ⟨s.sec,s.opn++wrs (a+nx*k) data E m,f,r⟩ fs).1 a k (1-nx) E (some (E,data))∨InvD (Dk.crashR ⟨s.sec,s.opn++wrs (a+nx*k) data E m,f,r⟩ fs).1 a k nx E told:=by
 obtain ⟨r1,r2⟩:=rooms h.x1 ha
 exact h.torn hk hk2 hE hE2 hd (row_crash hs hm r1) (row_crash_other hs (by omega) r2 (apart h.x1 hm))
theorem invD_new (n a k:Nat) (hk:1≤k) (ha:a+2*k≤n):InvD (Dk.newR n) a k 0 0 none:=by
 have hz:epochOf (List.replicate 64 0)=0∧numberOf (List.replicate 64 0)=0:=by decide
 have row:∀ c,c+k≤n→∀ x∈rowOf (Dk.newR n) c k,x=List.replicate 64 0:=fun c hc x hx=>by
  unfold rowOf at hx
  simp only [List.mem_map,List.mem_range] at hx
  obtain ⟨i,hi,rfl⟩:=hx
  unfold Dk.newestOf Dk.newR
  simp [Dk.lastOf,show c+i<n by omega]
 have nf:∀ c,c+k≤n→∀ e,1≤e→¬full (rowOf (Dk.newR n) c k) e:=fun c hc e he hf=>by
  have h0:0<(rowOf (Dk.newR n) c k).length:=by rw [rowOf_length];omega
  have h1:=(hf 0 h0).1
  rw [row c hc _ (List.getElem_mem h0),hz.1] at h1
  omega
 refine ⟨by omega,fun _=>rfl,rowOf_length _ _ _,rowOf_length _ _ _,fun x hx=>?_,fun x hx=>?_,fun _ e he=>⟨nf _ (by omega) e he,nf _ (by omega) e he⟩,fun e d h=>(by cases h)⟩
 · rw [row _ (by omega) x hx,hz.1,hz.2];simp
 · rw [row _ (by omega) x hx,hz.1,hz.2];simp
end Go.Proofs.YteempfoajgblaaaGreat.Sl
namespace Go.Proofs.YteempfoajgblaaaGreat.Sl
open Dk (Dk DS Moved ptr)
section
variable {B b q:Nat} {t t':SS} {s s':DS} {w0 w w':World}
end
end Go.Proofs.YteempfoajgblaaaGreat.Sl
