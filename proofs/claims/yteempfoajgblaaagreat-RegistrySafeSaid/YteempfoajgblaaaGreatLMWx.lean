/- The mathematics of a log: which sectors of a row are records, what a Scan and an Append make of a .. -/
import Derived.Test.YteempfoajgblaaaGreatLMSm
import Derived.Test.YteempfoajgblaaaGreatLQD
set_option maxRecDepth 100000
set_option linter.unusedVariables false
set_option linter.unusedSimpArgs false
namespace Go.Proofs.YteempfoajgblaaaGreat.Wl
open Dk (DS)
open Sl (rowOf rowOf_length rowOf_get)
def leadFrom (e:Nat):List (List UInt8)→Nat→Nat
 | [],_=>0
 | x :: L,i=>if whole x e i=true then leadFrom e L (i+1)+1 else 0
def lead (L:List (List UInt8)) (e:Nat):Nat:=leadFrom e L 0
theorem leadFrom_is (e:Nat):∀ (L:List (List UInt8)) (i k:Nat),k≤L.length→(∀ j (h:j<L.length),j<k→whole L[j] e (i+j)=true)→(∀ h:k<L.length,whole L[k] e (i+k)=false)→leadFrom e L i=k
 | [],i,k,hk,_,_=>by simp at hk;subst hk;rfl
 | x :: L,i,0,hk,_,h2=>by
  have:=h2 (by simp)
  simp at this
  simp [leadFrom,this]
 | x :: L,i,k+1,hk,h1,h2=>by
  have h0:=h1 0 (by simp) (by omega)
  simp at h0
  simp only [leadFrom,h0,if_true]
  rw [leadFrom_is e L (i+1) k (by simp at hk;omega) (fun j hj hjk=>?_) (fun h=>?_)]
  ·have:=h1 (j+1) (by simp;omega) (by omega)
   simp at this
   rw [show i+1+j=i+(j+1) by omega];exact this
  ·have:=h2 (by simp;omega)
   simp at this
   rw [show i+1+k=i+(k+1) by omega];exact this
theorem lead_is {L:List (List UInt8)} {e k:Nat} (hk:k≤L.length) (h1:∀ j (h:j<L.length),j<k→whole L[j] e j=true) (h2:∀ h:k<L.length,whole L[k] e k=false):lead L e=k:=
 leadFrom_is e L 0 k hk (fun j h hj=>by rw [Nat.zero_add];exact h1 j h hj) (fun h=>by rw [Nat.zero_add];exact h2 h)
theorem lead_ex (L:List (List UInt8)) (e:Nat):∃ k,k≤L.length∧(∀ j (h:j<L.length),j<k→whole L[j] e j=true)∧(∀ h:k<L.length,whole L[k] e k=false):=by
 have key:∀ m,m≤L.length→(∃ k,k≤m∧(∀ j (h:j<L.length),j<k→whole L[j] e j=true)∧(∀ h:k<L.length,whole L[k] e k=false))∨(∀ j (h:j<L.length),j<m→whole L[j] e j=true):=by
  intro m
  induction m with
  | zero=>intro _;right;intro j h hj;omega
  | succ m ih=>
   intro hm
   rcases ih (by omega) with ⟨k,h1,h2,h3⟩|h
   · exact .inl ⟨k,by omega,h2,h3⟩
   ·cases hw:whole (L[m]'(by omega)) e m with
    | true=>
     right
     intro j hj hjm
     rcases Nat.lt_or_ge j m with h'|h'
     · exact h j hj h'
     ·obtain rfl:j=m:=by omega
      exact hw
    | false=>exact .inl ⟨m,by omega,h,fun _=>hw⟩
 rcases key L.length (Nat.le_refl _) with ⟨k,h1,h2,h3⟩|h
 · exact ⟨k,h1,h2,h3⟩
 · exact ⟨L.length,Nat.le_refl _,h,fun hh=>absurd hh (by omega)⟩
theorem lead_not {L:List (List UInt8)} {e:Nat} (h:lead L e<L.length):whole (L[lead L e]) e (lead L e)=false:=by
 obtain ⟨k,h1,h2,h3⟩:=lead_ex L e
 have e':=lead_is h1 h2 h3
 simp only [e'] at h ⊢
 exact h3 h
def paysL (L:List (List UInt8)) (k:Nat):List (List UInt8):=(L.take k).map payOf
theorem paysL_zero (L:List (List UInt8)):paysL L 0=[]:=by simp [paysL]
theorem paysL_succ {L:List (List UInt8)} {i:Nat} (h:i<L.length):paysL L (i+1)=paysL L i++[payOf L[i]]:=by
 unfold paysL
 rw [List.take_add_one,List.getElem?_eq_getElem h,List.map_append]
 rfl
theorem paysL_length {L:List (List UInt8)} {k:Nat} (h:k≤L.length):(paysL L k).length=k:=by simp [paysL];omega
def recs (L:List (List UInt8)) (e:Nat):List (List UInt8):=paysL L (lead L e)
def readsN (k n:Nat):Nat:=if k<n then k+1 else n
theorem readsN_le {k n:Nat} (h:k≤n):readsN k n≤n:=by unfold readsN;split <;> omega
def scanR (s:DS) (a n e:Nat):DS×List (List UInt8)×Nat:=
 if 1≤s.fail∧s.fail≤readsN (lead (rowOf s a n) e) n then (⟨s.sec,s.opn,0,s.reads+s.fail⟩,[],18)
 else (⟨s.sec,s.opn,s.fail-readsN (lead (rowOf s a n) e) n,s.reads+readsN (lead (rowOf s a n) e) n⟩,recs (rowOf s a n) e,0)
structure WS where
 at_:Nat
 n:Nat
 st:Option (Nat×Nat)
def scanS (s:DS) (a n e:Nat):Option (Nat×Nat):=if (scanR s a n e).2.2=0 then some (e,(scanR s a n e).2.1.length) else none
def putW (s:DS) (a:Nat) (x:List UInt8):DS×Bool:=
 if (Dk.writeR s (a:Int) x).2=0 then ((Dk.flushR (Dk.writeR s (a:Int) x).1).1,(Dk.flushR (Dk.writeR s (a:Int) x).1).2==0) else ((Dk.writeR s (a:Int) x).1,false)
def appR (s:DS) (t:WS) (p:List UInt8):DS×Option (Nat×Nat)×Nat:=
 if 43<p.length then (s,t.st,1)
 else match t.st with
  | none=>(s,none,13)
  | some (e,c)=>
   if c=t.n then (s,t.st,22)
   else if (putW s (t.at_+c) (sec p e c)).2=true then ((putW s (t.at_+c) (sec p e c)).1,some (e,c+1),0) else ((putW s (t.at_+c) (sec p e c)).1,none,18)
structure WS.Fit (t:WS) (ns:Nat):Prop where
 n1:1≤t.n
 room:t.at_+t.n≤ns
 st:∀ e c,t.st=some (e,c)→1≤e∧e<18446744073709551616∧c≤t.n
theorem appR_long {s:DS} {t:WS} {p:List UInt8} (h:43<p.length):appR s t p=(s,t.st,1):=by unfold appR;rw [if_pos h]
theorem appR_shut {s:DS} {t:WS} {p:List UInt8} (h:p.length≤43) (hs:t.st=none):appR s t p=(s,none,13):=by unfold appR;rw [if_neg (by omega),hs]
theorem appR_full {s:DS} {t:WS} {p:List UInt8} {e c:Nat} (h:p.length≤43) (hs:t.st=some (e,c)) (hc:c=t.n):appR s t p=(s,t.st,22):=by unfold appR;rw [if_neg (by omega),hs];simp only;rw [if_pos hc]
theorem appR_put {s:DS} {t:WS} {p:List UInt8} {e c:Nat} (h:p.length≤43) (hs:t.st=some (e,c)) (hc:c≠t.n):appR s t p=if (putW s (t.at_+c) (sec p e c)).2=true then ((putW s (t.at_+c) (sec p e c)).1,some (e,c+1),0) else ((putW s (t.at_+c) (sec p e c)).1,none,18):=by
 unfold appR;rw [if_neg (by omega),hs];simp only;rw [if_neg hc]
def dsRead (s:DS) (i:Nat):DS:=⟨s.sec,s.opn,s.fail-i,s.reads+i⟩
theorem dsRead_next {s:DS} {i a:Nat} (ha:a<s.sec.length) (hio:s.fail-i≠1):Dk.readR (dsRead s i) (a:Int)=(dsRead s (i+1),Dk.newestOf s a,0):=by
 rw [Dk.newest_read (dsRead s i) (by omega) (by show (a:Int)<(s.sec.length:Int);omega) hio]
 unfold dsRead
 rw [Nat.sub_sub]
 rfl
theorem dsRead_io {s:DS} {i a:Nat} (ha:a<s.sec.length) (hio:s.fail-i=1):Dk.readR (dsRead s i) (a:Int)=(⟨s.sec,s.opn,0,s.reads+i+1⟩,[],18):=by
 rw [Dk.io_read (dsRead s i) (by omega) (by show (a:Int)<(s.sec.length:Int);omega) hio]
 rfl
def Got (s:DS) (a n e i:Nat):Prop:=i≤n∧(∀ j (h:j<(rowOf s a n).length),j<i→whole (rowOf s a n)[j] e j=true)∧(s.fail=0∨i<s.fail)
theorem got_zero (s:DS) (a n e:Nat):Got s a n e 0:=⟨by omega,fun j _ h=>by omega,by omega⟩
theorem Got.succ {s:DS} {a n e i:Nat} (h:Got s a n e i) (hi:i<n) (hw:whole (Dk.newestOf s (a+i)) e i=true) (hio:s.fail-i≠1):Got s a n e (i+1):=by
 refine ⟨hi,fun j hj hji=>?_,by have:=h.2.2;omega⟩
 rcases Nat.lt_or_ge j i with h'|h'
 · exact h.2.1 j hj h'
 ·obtain rfl:j=i:=by omega
  rw [rowOf_get];exact hw
theorem Got.full {s:DS} {a n e:Nat} (h:Got s a n e n):scanR s a n e=(dsRead s n,paysL (rowOf s a n) n,0):=by
 have hl:lead (rowOf s a n) e=n:=lead_is (by rw [rowOf_length];omega) h.2.1 (fun hh=>by rw [rowOf_length] at hh;omega)
 unfold scanR recs
 rw [hl]
 have hr:readsN n n=n:=by unfold readsN;split <;> omega
 rw [hr,if_neg (by have:=h.2.2;omega)]
 rfl
theorem Got.none {s:DS} {a n e i:Nat} (h:Got s a n e i) (hi:i<n) (hw:whole (Dk.newestOf s (a+i)) e i=false) (hio:s.fail-i≠1):scanR s a n e=(dsRead s (i+1),paysL (rowOf s a n) i,0):=by
 have hl:lead (rowOf s a n) e=i:=lead_is (by rw [rowOf_length];omega) h.2.1 (fun hh=>by rw [rowOf_get];exact hw)
 unfold scanR recs
 rw [hl]
 have hr:readsN i n=i+1:=by unfold readsN;split <;> omega
 rw [hr,if_neg (by have:=h.2.2;omega)]
 rfl
theorem Got.io {s:DS} {a n e i:Nat} (h:Got s a n e i) (hi:i<n) (hio:s.fail-i=1):scanR s a n e=(⟨s.sec,s.opn,0,s.reads+i+1⟩,[],18):=by
 have hl:i≤lead (rowOf s a n) e:=by
  rcases Nat.lt_or_ge (lead (rowOf s a n) e) i with h'|h'
  ·have hlt:lead (rowOf s a n) e<(rowOf s a n).length:=by rw [rowOf_length];omega
   have h1:=lead_not hlt
   rw [h.2.1 _ hlt h'] at h1;cases h1
  · exact h'
 unfold scanR
 rw [if_pos ⟨by omega,by unfold readsN;split <;> omega⟩]
 have:s.fail=i+1:=by omega
 rw [this]
 rfl
theorem paysL_row {s:DS} {a n i:Nat} (hi:i<n):paysL (rowOf s a n) (i+1)=paysL (rowOf s a n) i++[payOf (Dk.newestOf s (a+i))]:=by
 rw [paysL_succ (by rw [rowOf_length];exact hi),rowOf_get]
end Go.Proofs.YteempfoajgblaaaGreat.Wl
namespace Go.Proofs.YteempfoajgblaaaGreat.Wl
open Dk (DS)
open Sl (rowOf rowOf_length rowOf_get mix mix_zero mix_all mix_length mix_cases whole_epoch whole_rdc)
structure Inv (L:List (List UInt8)) (e:Nat) (rs:List (List UInt8)):Prop where
 len:rs.length≤L.length
 rcd:∀ i (h:i<rs.length) (h':i<L.length),L[i]=sec rs[i] e i∧rs[i].length≤43
 rest:∀ i (h:i<L.length),rs.length≤i→¬(epochOf L[i]=e∧numberOf L[i]=i)
theorem not_whole {x:List UInt8} {e i:Nat} (h:¬(epochOf x=e∧numberOf x=i)):whole x e i=false:=by
 cases hw:whole x e i with
 | false=>rfl
 | true=>exact absurd ⟨(whole_epoch hw).1,(whole_epoch hw).2.1⟩ h
theorem sec_whole {p:List UInt8} {e i:Nat} (hp:p.length≤43) (he:e<18446744073709551616) (hi:i<18446744073709551616):whole (sec p e i) e i=true:=by
 rw [whole_sec hp he hi];simp
theorem Inv.lead {L:List (List UInt8)} {e:Nat} {rs:List (List UInt8)} (h:Inv L e rs) (he:e<18446744073709551616) (hL:L.length<18446744073709551616):lead L e=rs.length:=
 lead_is h.len (fun j hj hjr=>by obtain ⟨h1,h2⟩:=h.rcd j hjr hj;rw [h1];exact sec_whole h2 he (by omega)) (fun hh=>not_whole (h.rest _ hh (Nat.le_refl _)))
theorem Inv.recs {L:List (List UInt8)} {e:Nat} {rs:List (List UInt8)} (h:Inv L e rs) (he:e<18446744073709551616) (hL:L.length<18446744073709551616):recs L e=rs:=by
 unfold Wl.recs paysL
 rw [h.lead he hL]
 apply List.ext_getElem
 ·have:=h.len
  simp;omega
 ·intro i h1 h2
  simp only [List.getElem_map,List.getElem_take]
  obtain ⟨h3,h4⟩:=h.rcd i h2 (by have:=h.len;omega)
  rw [h3,payOf_sec h4]
theorem Inv.push {L:List (List UInt8)} {e:Nat} {rs:List (List UInt8)} (h:Inv L e rs) (hl:rs.length<L.length) {p:List UInt8} (hp:p.length≤43):Inv (L.set rs.length (sec p e rs.length)) e (rs++[p]):=by
 refine ⟨by simp;omega,fun i hi hi'=>?_,fun i hi hir=>?_⟩
 ·simp only [List.length_append,List.length_singleton] at hi
  rw [List.getElem_set]
  by_cases hir:rs.length=i
  ·subst hir
   rw [if_pos rfl]
   simp [hp]
  ·rw [if_neg hir,List.getElem_append_left (by omega)]
   exact h.rcd i (by omega) (by simpa using hi')
 ·simp only [List.length_append,List.length_singleton] at hir
  rw [List.getElem_set,if_neg (by omega)]
  exact h.rest i (by simpa using hi) (by omega)
def Small (L:List (List UInt8)):Prop:=∀ x∈L,x.length=64∧epochOf x<256∧numberOf x<256
theorem Small.get {L:List (List UInt8)} (h:Small L) {i:Nat} (hi:i<L.length):L[i].length=64∧epochOf L[i]<256∧numberOf L[i]<256:=h _ (List.getElem_mem hi)
theorem Small.set {L:List (List UInt8)} (h:Small L) {i:Nat} {x:List UInt8} (hx:x.length=64∧epochOf x<256∧numberOf x<256):Small (L.set i x):=fun y hy=>by
 rcases List.mem_or_eq_of_mem_set hy with hy|rfl
 · exact h y hy
 · exact hx
theorem sec_small {p:List UInt8} {e i:Nat} (hp:p.length≤43) (he:e<256) (hi:i<256):(sec p e i).length=64∧epochOf (sec p e i)<256∧numberOf (sec p e i)<256:=
 ⟨sec_length hp e i,by rw [epochOf_sec hp (by omega)];exact he,by rw [numberOf_sec hp _ (by omega)];exact hi⟩
theorem mix_small {p o:List UInt8} {e i j:Nat} (hp:p.length≤43) (he:e<256) (hi:i<256) (ho:o.length=64∧epochOf o<256∧numberOf o<256):(mix j (sec p e i) o).length=64∧epochOf (mix j (sec p e i) o)<256∧numberOf (mix j (sec p e i) o)<256:=by
 refine ⟨mix_length (sec_length hp e i) ho.1,?_⟩
 rcases mix_cases (j:=j) hp he hi ho.1 ho.2.1 ho.2.2 with ⟨h1,h2⟩|⟨h1,h2,_⟩|h1
 · rw [h1,h2];exact ho.2
 · rw [h1,h2];exact ⟨he,ho.2.2⟩
 · rw [h1];exact (sec_small hp he hi).2
theorem Inv.torn {L:List (List UInt8)} {e:Nat} {rs:List (List UInt8)} (h:Inv L e rs) (hs:Small L) (hl:rs.length<L.length) {p:List UInt8} (hp:p.length≤43) (he:e<256) (hn:L.length<256) (j:Nat) :
 Inv (L.set rs.length (mix j (sec p e rs.length) L[rs.length])) e (rs++[p])∨Inv (L.set rs.length (mix j (sec p e rs.length) L[rs.length])) e rs:=by
 have ho:=hs.get hl
 have stay:¬(epochOf (mix j (sec p e rs.length) L[rs.length])=e∧numberOf (mix j (sec p e rs.length) L[rs.length])=rs.length)→Inv (L.set rs.length (mix j (sec p e rs.length) L[rs.length])) e rs:=fun hne=>by
  refine ⟨by simp;omega,fun i hi hi'=>?_,fun i hi hir=>?_⟩
  ·rw [List.getElem_set,if_neg (by omega)]
   exact h.rcd i hi (by simpa using hi')
  ·rw [List.getElem_set]
   by_cases hh:rs.length=i
   · rw [if_pos hh];rw [← hh];exact hne
   · rw [if_neg hh];exact h.rest i (by simpa using hi) hir
 have old:=h.rest _ hl (Nat.le_refl _)
 rcases mix_cases (i:=rs.length) (j:=j) hp he (by omega) ho.1 ho.2.1 ho.2.2 with ⟨h1,h2⟩|⟨h1,h2,h3⟩|h1
 · exact .inr (stay (by rw [h1,h2];exact old))
 ·by_cases hh:numberOf L[rs.length]=rs.length
  · left;rw [h3 hh];exact h.push hl hp
  · exact .inr (stay (by rw [h2];exact fun hc=>hh hc.2))
 · left;rw [h1];exact h.push hl hp
theorem zero_tag:epochOf (List.replicate 64 0)=0∧numberOf (List.replicate 64 0)=0:=by decide
theorem inv_none {L:List (List UInt8)} {e:Nat} (h:∀ x∈L,epochOf x≠e):Inv L e []:=⟨by simp,fun i h=>by simp at h,fun i hi _ hc=>h _ (List.getElem_mem hi) hc.1⟩
def rw_ (S:List (List UInt8)) (a n:Nat):List (List UInt8):=(S.drop a).take n
theorem row_plain {S:List (List UInt8)} {a n f r:Nat} (h:a+n≤S.length):rowOf ⟨S,[],f,r⟩ a n=rw_ S a n:=by
 apply List.ext_getElem
 · rw [rowOf_length];simp [rw_];omega
 ·intro i h1 h2
  rw [rowOf_length] at h1
  rw [rowOf_get]
  unfold Dk.newestOf
  simp [Dk.lastOf,rw_,show a+i<S.length by omega]
theorem rw_length {S:List (List UInt8)} {a n:Nat} (h:a+n≤S.length):(rw_ S a n).length=n:=by simp [rw_];omega
theorem rw_get {S:List (List UInt8)} {a n i:Nat} (h:i<(rw_ S a n).length):(rw_ S a n)[i]=S[a+i]'(by simp [rw_] at h;omega):=by simp [rw_]
theorem rw_set {S:List (List UInt8)} {a n c:Nat} (h:a+n≤S.length) (hc:c<n) (x:List UInt8):rw_ (S.set (a+c) x) a n=(rw_ S a n).set c x:=by
 apply List.ext_getElem
 · simp [rw_]
 ·intro i h1 h2
  rw [rw_get,List.getElem_set,List.getElem_set]
  by_cases hh:c=i
  · rw [if_pos (by omega),if_pos hh]
  · rw [if_neg (by omega),if_neg hh,rw_get]
theorem putS_all {S:List (List UInt8)} {a:Nat} {x:List UInt8} (h:a<S.length) (hS:∀ y∈S,y.length=64) (j:Nat):Dk.putS S a x j=S.set a (mix j x S[a]):=by
 unfold Dk.putS mix
 simp [h]
theorem putW_calm {S:List (List UInt8)} {a f r:Nat} {x:List UInt8} (ha:a<S.length) (hx:x.length=64) (hS:∀ y∈S,y.length=64) (hf:f≠1) (hf2:f≠2):putW ⟨S,[],f,r⟩ a x=(⟨S.set a x,[],f-2,r⟩,true):=by
 unfold putW
 have e1:Dk.writeR ⟨S,[],f,r⟩ (a:Int) x=(⟨S,[(a,x)],f-1,r⟩,0):=by
  unfold Dk.writeR
  rw [if_pos ⟨⟨by omega,by show (a:Int)<(S.length:Int);omega⟩,hx⟩,if_neg hf]
  simp
 rw [e1,if_pos rfl]
 unfold Dk.flushR
 rw [if_neg (by show ¬f-1=1;omega)]
 have e2:Dk.flushedS ⟨S,[(a,x)],f-1,r⟩=S.set a x:=by
  unfold Dk.flushedS
  show Dk.putS S a x 64=_
  rw [putS_all ha hS,mix_all hx (hS _ (List.getElem_mem ha)) (Nat.le_refl _)]
 rw [e2]
 show (DS.mk _ _ (f-1-1) _,_)=_
 rw [Nat.sub_sub]
 rfl
theorem putW_one {S:List (List UInt8)} {a r:Nat} {x:List UInt8} (ha:a<S.length) (hx:x.length=64):putW ⟨S,[],1,r⟩ a x=(⟨S,[],0,r⟩,false):=by
 unfold putW
 have e1:Dk.writeR ⟨S,[],1,r⟩ (a:Int) x=(⟨S,[],0,r⟩,18):=by
  unfold Dk.writeR
  rw [if_pos ⟨⟨by omega,by show (a:Int)<(S.length:Int);omega⟩,hx⟩,if_pos rfl]
 rw [e1,if_neg (by simp)]
theorem putW_two {S:List (List UInt8)} {a r:Nat} {x:List UInt8} (ha:a<S.length) (hx:x.length=64):putW ⟨S,[],2,r⟩ a x=(⟨S,[(a,x)],0,r⟩,false):=by
 unfold putW
 have e1:Dk.writeR ⟨S,[],2,r⟩ (a:Int) x=(⟨S,[(a,x)],1,r⟩,0):=by
  unfold Dk.writeR
  rw [if_pos ⟨⟨by omega,by show (a:Int)<(S.length:Int);omega⟩,hx⟩,if_neg (by show ¬(2=1);omega)]
  simp
 rw [e1,if_pos rfl]
 unfold Dk.flushR
 rw [if_pos rfl]
 rfl
theorem crash_one {S:List (List UInt8)} {a f r:Nat} {x:List UInt8} (ha:a<S.length) (hS:∀ y∈S,y.length=64) (fs:List (Int×Int)):(Dk.crashR ⟨S,[(a,x)],f,r⟩ fs).1=⟨S.set a (mix (Dk.keptAt fs 0) x S[a]),[],0,0⟩:=by
 unfold Dk.crashR Dk.crashedS
 show DS.mk (Dk.putS S a x (Dk.keptAt fs 0)) [] 0 0=_
 rw [putS_all ha hS]
theorem app_crash {S:List (List UInt8)} {t:WS} {e c f r:Nat} {p:List UInt8} (hp:p.length≤43) (ht:t.st=some (e,c)) (hc:c<t.n) (hr:t.at_+t.n≤S.length) (hS:∀ y∈S,y.length=64) (fs:List (Int×Int)) :
 ∃ j,(Dk.crashR (appR ⟨S,[],f,r⟩ t p).1 fs).1=⟨S.set (t.at_+c) (mix j (sec p e c) (S[t.at_+c]'(by omega))),[],0,0⟩∧((appR ⟨S,[],f,r⟩ t p).2.2=0∧j=64∨(appR ⟨S,[],f,r⟩ t p).2.2=18)∧(appR ⟨S,[],f,r⟩ t p).1.opn.length≤1∧(appR ⟨S,[],f,r⟩ t p).1.sec.length=S.length:=by
 have ha:t.at_+c<S.length:=by omega
 have hx:=sec_length hp e c
 have hL:=hS _ (List.getElem_mem ha)
 rw [appR_put hp ht (by omega)]
 by_cases h1:f=1
 ·subst h1
  rw [putW_one ha hx]
  refine ⟨0,?_,.inr rfl,by simp,rfl⟩
  rw [if_neg (by simp),mix_zero]
  show DS.mk S [] 0 0=_
  congr 1
  exact (List.set_getElem_self ha).symm
 ·by_cases h2:f=2
  ·subst h2
   rw [putW_two ha hx]
   refine ⟨Dk.keptAt fs 0,?_,.inr rfl,by simp,rfl⟩
   rw [if_neg (by simp)]
   exact crash_one ha hS fs
  ·rw [putW_calm ha hx hS h1 h2]
   refine ⟨64,?_,.inl ⟨by simp,rfl⟩,by simp,by simp⟩
   rw [if_pos rfl,mix_all hx hL (Nat.le_refl _)]
   rfl
theorem set_len {S:List (List UInt8)} {a:Nat} {x:List UInt8} (hS:∀ y∈S,y.length=64) (hx:x.length=64):∀ y∈S.set a x,y.length=64:=fun y hy=>by
 rcases List.mem_or_eq_of_mem_set hy with hy|rfl
 · exact hS y hy
 · exact hx
end Go.Proofs.YteempfoajgblaaaGreat.Wl
