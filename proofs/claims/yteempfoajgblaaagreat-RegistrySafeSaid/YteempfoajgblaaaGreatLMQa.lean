/- Whether tasks fit: the mathematics of the first time of too much work, and of the path. The times .. -/
import Derived.Test.YteempfoajgblaaaGreatLMDm
import Derived.Test.YteempfoajgblaaaGreatLMBa
import Derived.RangeFuncNested
import Derived.RangeFuncBound
import Derived.RangeFuncCalls
import Derived.RangeFuncLeaves
import Derived.RangeFuncBox
import Derived.Maps.AppendAt
import Derived.Shelf.Abstract
import Derived.Shelf.RegionOpen
import Derived.OwnWalkIn
import Derived.TacticsInMore
import Derived.LoopNIn
import Derived.LoopIn
import Derived.Stop.RegionWithIn
import Derived.Sort.CutIn
import Derived.Lib.Builder
import Derived.RangeFuncWrites
set_option maxRecDepth 100000
set_option linter.unusedVariables false
set_option linter.unusedSimpArgs false
set_option maxHeartbeats 4000000
namespace Go.Proofs.YteempfoajgblaaaGreat.Qp
open Pm (Tk chk chk_iff rowB rowB_all rowB_len pers pers_pos periodR period_ok work work_le Ld loadR)
open Dm (isTime isTime_iff cnt parts div_of cnt_lt cnt_ge cnt_nonneg cnt_le one sum ofR sum_step isDl befs befs_is beforeR sumR_sum ofR_yes)
open Bs (rel rel_zero rel_pos rel_nonneg rel_mono wk Len lengthR lengthR_bad lengthR_over lengthR_len good_of Good leastR leastR_cons leastD_is len_load)
theorem rel_ge {t:Tk} {x:Int} (ht:0<t.t):x≤t.t*rel t x:=by
 by_cases h:x≤0
 · rw [rel_zero h];omega
 ·rw [rel_pos (by omega),Int.mul_add]
  have h1:=Int.mul_ediv_add_emod (x-1) t.t
  have h2:=Int.emod_lt_of_pos (x-1) ht
  omega
theorem rel_le_of {t:Tk} {x k:Int} (ht:0<t.t) (hk:0≤k) (h:x≤t.t*k):rel t x≤k:=by
 by_cases h0:x≤0
 · rw [rel_zero h0];exact hk
 ·rw [rel_pos (by omega)]
  have:(x-1)/t.t<k:=Int.ediv_lt_of_lt_mul ht (by rw [Int.mul_comm];omega)
  omega
theorem rel_sub {t:Tk} {a b:Int} (ht:0<t.t):rel t (a+b)≤rel t a+rel t b:=by
 refine rel_le_of ht (by have:=rel_nonneg (x:=a) ht;have:=rel_nonneg (x:=b) ht;omega) ?_
 rw [Int.mul_add]
 have:=rel_ge (x:=a) ht
 have:=rel_ge (x:=b) ht
 omega
theorem cnt_eq {t:Tk} {x:Int}:cnt t x=rel t (x-t.d+1):=by
 by_cases h:x<t.d
 · rw [cnt_lt h,rel_zero (by omega)]
 · rw [cnt_ge (by omega),rel_pos (by omega),show x-t.d+1-1=x-t.d by omega]
theorem cnt_split {t:Tk} {n x:Int} (ht:0<t.t):cnt t x≤rel t n+cnt t (x-n):=by
 rw [cnt_eq,cnt_eq,show x-t.d+1=n+(x-n-t.d+1) by omega]
 exact rel_sub ht
theorem sum_split {l:List Tk} {n x:Int} (hl:∀ t∈l,0<t.t∧0≤t.c):sum l x≤wk l n+sum l (x-n):=by
 induction l with
 | nil=>simp [sum,wk]
 | cons t l ih=>
  have ht:=hl t (by simp)
  have h1:=ih (fun a ha=>hl a (by simp [ha]))
  have h2:=Int.mul_le_mul_of_nonneg_left (cnt_split (t:=t) (n:=n) (x:=x) ht.1) ht.2
  rw [Int.mul_add] at h2
  simp only [sum,wk,one]
  omega
theorem sum_zero {l:List Tk} {x:Int} (hl:∀ t∈l,1≤t.d) (hx:x≤0):sum l x=0:=by
 induction l with
 | nil=>rfl
 | cons t l ih=>
  have:=hl t (by simp)
  rw [sum,ih (fun a ha=>hl a (by simp [ha])),one,cnt_lt (by omega)];simp
theorem sum_mono {l:List Tk} {x y:Int} (hl:∀ t∈l,0<t.t∧0≤t.c) (h:x≤y):sum l x≤sum l y:=by
 induction l with
 | nil=>simp [sum]
 | cons t l ih=>
  have ht:=hl t (by simp)
  have h1:=ih (fun a ha=>hl a (by simp [ha]))
  have h2:=Int.mul_le_mul_of_nonneg_left (cnt_le ht.1 h) ht.2
  simp only [sum,one]
  omega
theorem chk_all {l:List Tk} (hr:rowB l=true):∀ t∈l,0<t.t∧1≤t.c∧1≤t.d∧t.d≤t.t∧t.c≤t.d:=fun t ht=>by have:=chk_iff.1 (rowB_all hr t ht);omega
def least (l:List Tk) (t:Int):Prop:=1≤t∧t<sum l t∧∀ s,1≤s→s<t→sum l s≤s
theorem least_of {l:List Tk} {x:Int} (h1:1≤x) (h2:x<sum l x):∃ t,least l t∧t≤x:=by
 have key:∀ (n:Nat) (x:Int),x=n→1≤x→x<sum l x→∃ t,least l t∧t≤x:=by
  intro n
  induction n using Nat.strongRecOn with
  | _ n ih=>
   intro x hx h1 h2
   by_cases h:∃ s,1≤s∧s<x∧s<sum l s
   ·obtain ⟨s,a,b,c⟩:=h
    obtain ⟨t,d,e⟩:=ih s.toNat (by omega) s (by omega) a c
    exact ⟨t,d,by omega⟩
   ·refine ⟨x,⟨h1,h2,fun s a b=>?_⟩,by omega⟩
    rcases Int.lt_or_le s (sum l s) with c|c
    · exact absurd ⟨s,a,b,c⟩ h
    · exact c
 exact key x.toNat x (by omega) h1 h2
theorem least_lt {l:List Tk} {n t:Int} (hl:∀ t∈l,0<t.t∧1≤t.c∧1≤t.d) (hn:Len l n) (h:least l t):t<n:=by
 rcases Int.lt_or_le t n with h0|h0
 · exact h0
 ·exfalso
  obtain ⟨h1,h2,h3⟩:=h
  have h4:=sum_split (l:=l) (n:=n) (x:=t) (fun t ht=>by have:=hl t ht;omega)
  rw [hn.fix] at h4
  have:=hn.pos
  by_cases h5:t-n=0
  · rw [h5,sum_zero (x:=0) (fun t ht=>(hl t ht).2.2) (by omega)] at h4;omega
  · have:=h3 (t-n) (by omega) (by omega);omega
theorem least_dl {l:List Tk} {t:Int} (hl:∀ t∈l,0<t.t∧1≤t.c∧1≤t.d) (h:least l t):∃ u∈l,isDl u t:=by
 obtain ⟨h1,h2,h3⟩:=h
 refine (sum_step (l:=l) (x:=t) (fun u hu=>by have:=hl u hu;omega)).2.1 ?_
 by_cases h4:t=1
 ·subst h4
  rw [show (1:Int)-1=0 by omega,sum_zero (fun t ht=>(hl t ht).2.2) (by omega)];omega
 · have:=h3 (t-1) (by omega) (by omega);omega
def seekM (l:List Tk):Nat→Int→Int
 | 0,_=>0
 | n+1,x=>if x<ofR l x then x else seekM l n (x+1)
def missN (l:List Tk):Int:=seekM l (loadR l).p.toNat 1
structure MissR where
 n:Int
 e:Int
def missR (l:List Tk):MissR:=if (loadR l).e≠0∨(loadR l).p<(loadR l).n then ⟨0,(loadR l).e⟩ else ⟨missN l,0⟩
def testR (l:List Tk):Int:=if (loadR l).e≠0 then (loadR l).e else if (loadR l).p<(loadR l).n∨0<missN l then 17 else 0
theorem of_sum {l:List Tk} {x:Int} (hr:rowB l=true) (h0:0≤x) (h1:x≤1099511627776):ofR l x=sum l x:=by
 rw [ofR_yes hr,sumR_sum (isTime_iff.2 ⟨h0,h1⟩) (rowB_all hr)]
theorem seekM_is {l:List Tk} (hr:rowB l=true):∀ (n:Nat) (x:Int),1≤x→x+n≤1099511627776→(∀ s,1≤s→s<x→sum l s≤s) →
 (seekM l n x=0∧∀ s,1≤s→s<x+n→sum l s≤s)∨(least l (seekM l n x)∧seekM l n x<x+n):=by
 intro n
 induction n with
 | zero=>intro x h1 h2 h3;exact .inl ⟨rfl,fun s a b=>h3 s a (by simpa using b)⟩
 | succ n ih=>
  intro x h1 h2 h3
  have e:=of_sum hr (x:=x) (by omega) (by omega)
  rw [seekM,e]
  by_cases h:x<sum l x
  · rw [if_pos h];exact .inr ⟨⟨h1,h,h3⟩,by omega⟩
  ·rw [if_neg h]
   rcases ih (x+1) (by omega) (by omega) (fun s a b=>by
    by_cases e:s=x
    · subst e;omega
    · exact h3 s a (by omega)) with ⟨a,b⟩|⟨a,b⟩
   · exact .inl ⟨a,fun s c d=>b s c (by omega)⟩
   · exact .inr ⟨a,by omega⟩
theorem least_uniq {l:List Tk} {s t:Int} (h:least l s) (k:least l t):s=t:=by
 rcases Int.lt_trichotomy s t with h1|h1|h1
 · have:=k.2.2 s h.1 h1;have:=h.2.1;omega
 · exact h1
 · have:=h.2.2 t k.1 h1;have:=k.2.1;omega
structure May (l:List Tk):Prop where
 e:(loadR l).e=0
 over:(loadR l).n≤(loadR l).p
 row:rowB l=true
 p0:0<(loadR l).p
 p1:(loadR l).p≤1048576
theorem load_row {l:List Tk} (h:(loadR l).e=0):rowB l=true∧0<(loadR l).p∧(loadR l).p≤1048576:=by
 unfold loadR at h ⊢
 by_cases h0:(periodR l).2=0
 ·rw [if_pos h0] at h ⊢
  simp only at *
  obtain ⟨hr,p,hp,hp1,hp0,hp2⟩:=period_ok h0
  exact ⟨hr,by omega,by omega⟩
 · rw [if_neg h0] at h;exact absurd h h0
theorem may_of {l:List Tk} (h:(loadR l).e=0) (h2:(loadR l).n≤(loadR l).p):May l:=by
 obtain ⟨a,b,c⟩:=load_row h
 exact ⟨h,h2,a,b,c⟩
theorem missN_is {l:List Tk} (h:May l):(missN l=0∧∀ s,1≤s→s≤(loadR l).p→sum l s≤s)∨(least l (missN l)∧missN l≤(loadR l).p):=by
 have h1:=h.p0
 have h2:=h.p1
 rcases seekM_is h.row (loadR l).p.toNat 1 (by omega) (by omega) (fun s a b=>by omega) with ⟨a,b⟩|⟨a,b⟩
 · exact .inl ⟨a,fun s c d=>b s c (by omega)⟩
 · exact .inr ⟨a,by unfold missN;omega⟩
theorem missN_least {l:List Tk} {t:Int} (h:May l) (ht:least l t) (hp:t≤(loadR l).p):missN l=t:=by
 rcases missN_is h with ⟨a,b⟩|⟨a,b⟩
 · have:=b t ht.1 hp;have:=ht.2.1;omega
 · exact least_uniq a ht
theorem missN_none {l:List Tk} (h:May l) (hb:∀ s,1≤s→s≤(loadR l).p→sum l s≤s):missN l=0:=by
 rcases missN_is h with ⟨a,b⟩|⟨a,b⟩
 · exact a
 · have:=hb _ a.1 b;have:=a.2.1;omega
theorem missN_nonneg {l:List Tk} (h:May l):0≤missN l∧missN l≤(loadR l).p:=by
 rcases missN_is h with ⟨a,b⟩|⟨a,b⟩
 · have:=h.p0;omega
 · have:=a.1;omega
theorem len_may {l:List Tk} (h:May l) (hne:l≠[]):∃ n,Len l n∧n≤(loadR l).p:=(len_load h.e h.over hne).2.2.2.2
theorem missN_all {l:List Tk} (h:May l):missN l=0↔∀ s,1≤s→sum l s≤s:=by
 refine ⟨fun e s h1=>?_,fun hb=>missN_none h (fun s a _=>hb s a)⟩
 by_cases hne:l=[]
 · subst hne;simp [sum];omega
 ·rcases Int.lt_or_le s (sum l s) with h2|h2
  ·exfalso
   obtain ⟨n,hn,hp⟩:=len_may h hne
   obtain ⟨t,ht,hts⟩:=least_of h1 h2
   have h3:=least_lt (fun t ht=>by have:=chk_all h.row t ht;omega) hn ht
   have h4:=missN_least h ht (by omega)
   have:=ht.1
   omega
  · exact h2
theorem testR_zero {l:List Tk}:testR l=0↔(loadR l).e=0∧(loadR l).n≤(loadR l).p∧∀ s,1≤s→sum l s≤s:=by
 unfold testR
 by_cases h1:(loadR l).e=0
 ·rw [if_neg (by omega)]
  by_cases h2:(loadR l).p<(loadR l).n
  ·rw [if_pos (.inl h2)]
   exact ⟨fun h=>(by cases h),fun h=>(by have:=h.2.1;omega)⟩
  ·have hm:=may_of h1 (by omega)
   have h0:=missN_nonneg hm
   by_cases h3:missN l=0
   ·rw [if_neg (by omega)]
    exact ⟨fun _=>⟨h1,by omega,(missN_all hm).1 h3⟩,fun _=>rfl⟩
   ·rw [if_pos (.inr (by omega))]
    exact ⟨fun h=>(by cases h),fun h=>absurd ((missN_all hm).2 h.2.2) h3⟩
 ·rw [if_pos h1]
  exact ⟨fun h=>absurd h h1,fun h=>absurd h.1 h1⟩
theorem testR_is {l:List Tk} (h:(loadR l).e=0):testR l=0∨testR l=17:=by
 unfold testR
 rw [if_neg (by omega)]
 split
 · exact .inr rfl
 · exact .inl rfl
theorem testR_may {l:List Tk} (h:May l):testR l=if 0<missN l then 17 else 0:=by
 unfold testR
 have:=h.over
 rw [if_neg (by have:=h.e;omega)]
 by_cases h1:0<missN l
 · rw [if_pos (.inr h1),if_pos h1]
 · rw [if_neg (by omega),if_neg h1]
def behR (l:List Tk) (x n:Int):Option Int:=if n<x then some n else beforeR l x
def nextP (l:List Tk) (x:Int):Option Int:=if ofR l x≤leastR l then none else behR l x (ofR l x)
def chainP (l:List Tk):Option Int→List Int→Prop
 | _,[]=>True
 | o,y :: r=>o=some y∧chainP l (nextP l y) r
def afterP (l:List Tk):Option Int→List Int→Option Int
 | o,[]=>o
 | _,y :: r=>afterP l (nextP l y) r
theorem chainP_snoc {l:List Tk}:∀ {r:List Int} {o:Option Int} {y:Int},chainP l o (r++[y])↔chainP l o r∧afterP l o r=some y:=by
 intro r
 induction r with
 | nil=>intro o y;exact ⟨fun h=>⟨trivial,h.1⟩,fun h=>⟨h.2,trivial⟩⟩
 | cons z r ih=>intro o y;exact ⟨fun h=>⟨⟨h.1,(ih.1 h.2).1⟩,(ih.1 h.2).2⟩,fun h=>⟨h.1.1,ih.2 ⟨h.1.2,h.2⟩⟩⟩
theorem afterP_snoc {l:List Tk}:∀ {r:List Int} {o:Option Int} {y:Int},afterP l o (r++[y])=nextP l y:=by
 intro r
 induction r with
 | nil=>intro o y;rfl
 | cons z r ih=>intro o y;exact ih
theorem before_fall {l:List Tk} {x y:Int} (h:beforeR l x=some y):1≤y∧y<x∧rowB l=true∧isTime x=true:=by
 unfold beforeR at h
 split at h
 ·rename_i hr
  split at h
  ·cases h
   have:=befs_is (l:=l) (x:=x) (fun t ht=>by have:=chk_all hr.1 t ht;omega)
   exact ⟨by omega,by omega,hr.1,hr.2⟩
  · cases h
 · cases h
theorem leastR_nonneg (l:List Tk):0≤leastR l:=by
 unfold leastR
 cases l with
 | nil=>simp
 | cons t r=>
  simp only
  by_cases h:rowB (t :: r)=true
  ·rw [if_pos h]
   have hl:=rowB_all h
   obtain ⟨-,-,h3⟩:=leastD_is (l:=t :: r) (m:=t.d)
   have h4:=chk_iff.1 (hl t (by simp))
   rcases h3 with h3|⟨u,hu,h3⟩
   · omega
   · have:=chk_iff.1 (hl u hu);omega
  · rw [if_neg h];omega
theorem leastR_le {l:List Tk} (hr:rowB l=true) {t:Tk} (ht:t∈l):leastR l≤t.d:=by
 cases l with
 | nil=>cases ht
 | cons u r=>rw [leastR_cons hr];exact (leastD_is (l:=u :: r) (m:=u.d)).2.1 t ht
theorem nextP_fall {l:List Tk} {x y:Int} (h:nextP l x=some y):1≤y∧y<x:=by
 unfold nextP at h
 split at h
 · cases h
 ·unfold behR at h
  split at h
  ·cases h
   have:=leastR_nonneg l
   omega
  · have:=before_fall h;omega
theorem chainP_fall {l:List Tk}:∀ {r:List Int} {o:Option Int} {m:Int},(∀ y,o=some y→1≤y∧y<m)→chainP l o r→(∀ y∈r,1≤y∧y<m)∧(r.length:Int)≤(if m≤1 then 0 else m-1)∧r.Pairwise (· > ·):=by
 intro r
 induction r with
 | nil=>intro o m _ _;refine ⟨by simp,?_,by simp⟩;simp only [List.length_nil];split <;> omega
 | cons y r ih=>
  intro o m ho hc
  obtain ⟨rfl,h2⟩:=hc
  have hy:=ho y rfl
  obtain ⟨h3,h4,h5⟩:=ih (m:=y) (fun z hz=>nextP_fall hz) h2
  refine ⟨fun z hz=>?_,?_,List.pairwise_cons.2 ⟨fun z hz=>(h3 z hz).2,h5⟩⟩
  ·rcases List.mem_cons.1 hz with rfl|hz
   · exact hy
   · have:=h3 z hz;omega
  ·simp only [List.length_cons]
   split at h4 <;> split <;> omega
def lastM (l:List Tk) (m:Int):List Int→Int
 | []=>m
 | y :: r=>lastM l (if y<ofR l y then y else m) r
theorem lastM_low {l:List Tk} (hr:rowB l=true) {t:Int} (ht:∀ s,1≤s→s<t→sum l s≤s):∀ {r:List Int} {m:Int},(∀ y∈r,1≤y∧y<t∧y≤1099511627776)→lastM l m r=m:=by
 intro r
 induction r with
 | nil=>intro m _;rfl
 | cons y r ih=>
  intro m h
  have hy:=h y (by simp)
  rw [lastM,of_sum hr (by omega) hy.2.2,if_neg (by have:=ht y hy.1 hy.2.1;omega)]
  exact ih (fun z hz=>h z (by simp [hz]))
theorem chain_least {l:List Tk} (hr:rowB l=true) {t:Int} (ht:least l t):∀ {r:List Int} {o:Option Int} {m:Int},(∃ y,o=some y∧t≤y∧y≤1099511627776)→chainP l o r→afterP l o r=none→t∈r∧lastM l m r=t:=by
 have hl:=chk_all hr
 have hdl:=least_dl (fun t ht=>by have:=hl t ht;omega) ht
 obtain ⟨t1,t2,t3⟩:=ht
 have hlt:leastR l≤t:=by
  obtain ⟨u,hu,h⟩:=hdl
  have:=leastR_le hr hu
  have:=h.1
  omega
 intro r
 induction r with
 | nil=>rintro o m ⟨y,rfl,-,-⟩ _ h;cases h
 | cons y r ih=>
  rintro o m ⟨y',rfl,h1,h2⟩ ⟨e,hc⟩ ha
  cases e
  have e:=of_sum hr (x:=y) (by omega) h2
  have hm:=sum_mono (l:=l) (x:=t) (y:=y) (fun t ht=>by have:=hl t ht;omega) h1
  rw [lastM,e]
  by_cases h3:y=t
  ·subst h3
   rw [if_pos t2]
   refine ⟨by simp,lastM_low hr t3 (fun z hz=>?_)⟩
   have:=(chainP_fall (m:=y) (fun z hz=>nextP_fall hz) hc).1 z hz
   omega
  ·have hn:∃ z,nextP l y=some z∧t≤z∧z≤1099511627776:=by
    unfold nextP behR
    rw [e,if_neg (by omega)]
    by_cases h4:sum l y<y
    · rw [if_pos h4];exact ⟨_,rfl,by omega,by omega⟩
    ·rw [if_neg h4]
     unfold beforeR
     rw [if_pos ⟨hr,isTime_iff.2 ⟨by omega,h2⟩⟩]
     obtain ⟨u,hu,hd⟩:=hdl
     rcases befs_is (l:=l) (x:=y) (fun t ht=>by have:=hl t ht;omega) with ⟨-,h6⟩|⟨h6,h7,-,h8⟩
     · have:=h6 u hu;have:=hd.1;omega
     · rw [if_pos h6];exact ⟨_,rfl,h8 u hu t hd (by omega),by omega⟩
   obtain ⟨h5,h6⟩:=ih (m:=if y<sum l y then y else m) hn hc ha
   exact ⟨by simp [h5],h6⟩
def startP (l:List Tk):Option Int:=beforeR l (lengthR l).n
theorem start_in {l:List Tk} {m y:Int} (hg:Bs.Good l m) (hE:lengthR l=⟨m,0⟩) (h:startP l=some y):1≤y∧y<m:=by
 unfold startP at h
 rw [hE] at h
 have:=before_fall h
 simp only at this
 omega
theorem path_tells {l:List Tk} (h:May l) {r:List Int} (hc:chainP l (startP l) r) (ha:afterP l (startP l) r=none):lastM l 0 r=missN l:=by
 obtain ⟨m,hg,hE⟩:=good_of h.e h.over
 rcases missN_is h with ⟨e,hb⟩|⟨ht,hp⟩
 ·rw [e]
  have hin:=(chainP_fall (m:=m) (fun y hy=>start_in hg hE hy) hc).1
  have hmp:m≤(loadR l).p∨l=[]:=by
   by_cases hne:l=[]
   · exact .inr hne
   ·obtain ⟨n,hn,hnp⟩:=len_may h hne
    have:=lengthR_len h.e h.over hne hn hnp
    rw [hE] at this
    cases this
    exact .inl hnp
  have h1:=h.p1
  refine lastM_low h.row (t:=m) (fun s a b=>?_) (fun y hy=>?_)
  ·rcases hmp with h2|rfl
   · exact hb s a (by omega)
   · simp [sum];omega
  · have:=hin y hy;have:=hg.2.1;omega
 ·have hne:l≠[]:=by
   rintro rfl
   have:=ht.2.1;have:=ht.1
   simp [sum] at *;omega
  obtain ⟨n,hn,hnp⟩:=len_may h hne
  have e:=lengthR_len h.e h.over hne hn hnp
  have hl:=chk_all h.row
  have hlt:=least_lt (fun t ht=>by have:=hl t ht;omega) hn ht
  have h1:=h.p1
  have h0:=ht.1
  refine (chain_least h.row ht ?_ hc ha).2
  unfold startP
  rw [e]
  simp only
  unfold beforeR
  rw [if_pos ⟨h.row,isTime_iff.2 ⟨by omega,by omega⟩⟩]
  obtain ⟨u,hu,hd⟩:=least_dl (fun t ht=>by have:=hl t ht;omega) ht
  rcases befs_is (l:=l) (x:=n) (fun t ht=>by have:=hl t ht;omega) with ⟨-,h6⟩|⟨h6,h7,-,h8⟩
  · have:=h6 u hu;have:=hd.1;omega
  · rw [if_pos h6];exact ⟨_,rfl,h8 u hu _ hd hlt,by omega⟩
theorem lastM_none {l:List Tk}:∀ {r:List Int} {m:Int},(∀ y∈r,ofR l y≤y)→lastM l m r=m:=by
 intro r
 induction r with
 | nil=>intro m _;rfl
 | cons y r ih=>
  intro m h
  rw [lastM,if_neg (by have:=h y (by simp);omega)]
  exact ih (fun z hz=>h z (by simp [hz]))
theorem test_bad {l:List Tk} (h:May l) {r:List Int} {x:Int} (hc:chainP l (startP l) (r++[x])) (hx:x<ofR l x):testR l=17:=by
 obtain ⟨m,hg,hE⟩:=good_of h.e h.over
 have hin:=(chainP_fall (m:=m) (fun y hy=>start_in hg hE hy) hc).1 x (by simp)
 have h1:=hg.2.1
 rw [of_sum h.row (by omega) (by omega)] at hx
 rw [testR_may h]
 by_cases h2:missN l=0
 · have:=(missN_all h).1 h2 x hin.1;omega
 ·have:=missN_nonneg h
  rw [if_pos (by omega)]
theorem test_good {l:List Tk} (h:May l) {r:List Int} (hc:chainP l (startP l) r) (ha:afterP l (startP l) r=none) (hb:∀ y∈r,ofR l y≤y):testR l=0:=by
 rw [testR_may h,← path_tells h hc ha,lastM_none hb,if_neg (by omega)]
end Go.Proofs.YteempfoajgblaaaGreat.Qp
namespace Go.Proofs.YteempfoajgblaaaGreat.Qp
open Go.ChangeShapes Go.WideShapes Go.ChangeAt Go.RowKit Go.Joins Go.Shelf
open Pm (Tk chk chk_iff rowB rowB_all rowB_len TkAt Ts)
open Dm (ans before_any beforeR ofR of_any)
open Bs (leastR least_any)
attribute [local go_sem] Oper.semAt_some
theorem times_any (ao:Option Addr) (n cap:Nat) (len:Int) (w:World) :
 Calls Tryz.prog 201 #[.slice ao n cap,.int .i64 len] w fun e w'=>e=.returned (.func (.func 223) #[] #[.pointer (some ⟨w.heap.size,0,none⟩),.pointer (some ⟨w.heap.size+1,0,none⟩)])∧w'=(w.alloc (.cells #[.slice ao n cap] 75)).alloc (.cells #[.int .i64 len] 2):=by
 go_enter Tryz.func201,Tryz.ntmps201
 go_wp2
 go_ret
 exact ⟨rfl,rfl⟩
theorem ans_two (n:Option Int):∃ y b,ans n=.tuple #[.int .i64 y,.bool b]∧((n=some y∧b=true)∨(n=none∧y=0∧b=false)):=by
 cases n with
 | none=>exact ⟨0,false,rfl,.inr ⟨rfl,rfl,rfl⟩⟩
 | some y=>exact ⟨y,true,rfl,.inl ⟨rfl,rfl⟩⟩
theorem behind_any (l:List Tk) (ao:Option Addr) (cap:Nat) (x n:Int) (w:World) (hT:Ts ao l w) (hl:l.length≤1000000) :
 Calls Tryz.prog 227 #[.slice ao l.length cap,.int .i64 x,.int .i64 n] w fun e w'=>e=.returned (ans (behR l x n))∧Below w.heap.size w w':=by
 have BE:=Lib.hid (before_any l ao cap x w hT (by omega))
 unfold behR
 by_cases h:n<x
 ·rw [if_pos h]
  clear BE hT
  go_enter Tryz.func227,Tryz.ntmps227
  go_wp2
  refine bodyPost_ret (v:=.tuple #[.int .i64 n,.bool true]) (by simp [results,Tryz.results227,go_sem]) rfl ⟨rfl,Below.refl _ _⟩
 ·rw [if_neg h]
  obtain ⟨y,b,ea,-⟩:=ans_two (beforeR l x)
  rw [ea] at BE ⊢
  have h':x≤n:=by omega
  clear hT h ea
  go_enter Tryz.func227,Tryz.ntmps227
  go_wp2_with fail
  (with_reducible refine BE.out.mono ?_)
  rintro e w1 ⟨rfl,b1⟩
  have K1:=Lib.hid b1
  clear b1 BE
  go_wp2
  refine bodyPost_ret (v:=.tuple #[.int .i64 y,.bool b]) (by simp [results,Tryz.results227,go_sem]) rfl ⟨rfl,K1.out⟩
def Kt (X b:Nat) (A B:World):Prop:=B.heap[X]?=A.heap[X]?∧B.heap[X+1]?=A.heap[X+1]?∧B.heap[b]?=A.heap[b]?∧A.heap.size≤B.heap.size
theorem Kt.trans {X q:Nat} {A B C:World} (h:Kt X q A B) (k:Kt X q B C):Kt X q A C:=⟨k.1.trans h.1,k.2.1.trans h.2.1,k.2.2.1.trans h.2.2.1,Nat.le_trans h.2.2.2 k.2.2.2⟩
theorem Kt.put {X q:Nat} {w:World} (hX:X+1<w.heap.size) (hq:q<w.heap.size) (W:World) (l:Nat) (o o':Obj) (hl:w.heap.size≤l) (h:W.heap[l]?=some o) (_:o.isCells=false) (_:o.isWalk=false):Kt X q W (W.putObj l o'):=
 ⟨World.putObj_heap_other (by omega),World.putObj_heap_other (by omega),World.putObj_heap_other (by omega),by simp [World.putObj]⟩
theorem Kt.call {X b:Nat} {A B:World} (hb:Below A.heap.size A B) (hX:X+1<A.heap.size) (hq:b<A.heap.size):Kt X b A B:=⟨hb.block X (by omega),hb.block (X+1) hX,hb.block b hq,hb.size⟩
theorem Kt.lt {X b k:Nat} {A B:World} (h:Kt X b A B) (hk:k<A.heap.size):k<B.heap.size:=by have:=h.2.2.2;omega
theorem Kt.ts {X b:Nat} {ao:Option Addr} {l:List Tk} {A B:World} (h:Kt X b A B) (hbo:0<l.length→∀ k off,ao=some ⟨k,off,none⟩→k=b) (hT:Ts ao l A):Ts ao l B:=fun h0=>by
 obtain ⟨g,off,rfl,hl,hc⟩:=hT h0
 obtain rfl:=hbo h0 g off rfl
 exact ⟨g,off,rfl,by have:=h.2.2.2;omega,fun i x hi=>(hc i x hi).of_block h.2.2.1⟩
def encT (l:List Tk) (x:Int):Array Value:=#[.int .i64 x,.int .i64 (ofR l x)]
def measT (s t:Value):Nat:=match t with
 | .bool true=>(intOf s).toNat+1
 | _=>0
def toldP (o:Option Int) (s t:Value):Prop:=(∃ y,o=some y∧s=.int .i64 y∧t=.bool true)∨(o=none∧s=.int .i64 0∧t=.bool false)
theorem times1_in (n:Nat) (hn:1≤n) (Y X b N0:Nat) (l:List Tk) (ao:Option Addr) (cap:Nat) (len:Int) (hl:l.length≤1000000) (hlen:len≤1048576) (hbo:0<l.length→∀ k off,ao=some ⟨k,off,none⟩→k=b) (J Jx:List Int→World→Prop) (hJ:AbidesFrom N0 J)
 (hY:∀ pre x W,J pre W→pre.length<1048576→YieldAt Fence.wide (n-1) Tryz.prog Y (encT l x) W fun e W' =>
  (e=.returned (.bool true)∧J (pre++[x]) W'∧Kt X b W W')∨(e=.returned (.bool false)∧Jx (pre++[x]) W'))
 (W:World) (hX:W.cell? ⟨X,0,none⟩=some (.slice ao l.length cap)) (hX2:W.cell? ⟨X+1,0,none⟩=some (.int .i64 len)) (hT:Ts ao l W) (hb:b<W.heap.size) (h0:J [] W) :
 CallsIn Fence.wide n Tryz.prog 223 #[.func (.yield Y) #[] #[],.pointer (some ⟨X,0,none⟩),.pointer (some ⟨X+1,0,none⟩)] W fun e W'=>(∃ v,e=.returned v) ∧
  ((∃ ys,(chainP l (beforeR l len) ys∧afterP l (beforeR l len) ys=none)∧J ys W')∨(∃ pre,(∃ q z,pre=q++[z]∧chainP l (beforeR l len) pre)∧Jx pre W')):=by
 have LE:=Lib.hid (fun k w (h:Ts ao l w)=>(callsIn_wide (n:=k)).2 (least_any l ao cap w h (by omega)))
 have BE:=Lib.hid (fun k x w (h:Ts ao l w)=>(callsIn_wide (n:=k)).2 (before_any l ao cap x w h (by omega)))
 have OF:=Lib.hid (fun k x w (h:Ts ao l w)=>(callsIn_wide (n:=k)).2 (of_any l ao cap x w h (by omega)))
 have BH:=Lib.hid (fun k x m w (h:Ts ao l w)=>(callsIn_wide (n:=k)).2 (behind_any l ao cap x m w h hl))
 refine callsIn_of_wp Tryz.func223 rfl trivial ?_ rfl
 simp only [Tryz.ntmps223,List.size_toArray,List.length_cons,List.length_nil,Nat.reduceAdd,Nat.reduceSub,Array.replicate_succ,Array.replicate_zero,List.push_toArray,List.append_toArray,List.nil_append,List.cons_append]
 have hXl:X+1<W.heap.size:=World.block_lt_of_cell? _ _ hX2
 have hfall:∀ y,beforeR l len=some y→1≤y∧y<len:=fun y h=>by have:=before_fall h;omega
 have grown:∀ {A B:World},Below A.heap.size A B→A.grownBy B none:=fun h=>⟨h.os,h.tape,h.output,h.size,fun k hk _=>h.block k hk⟩
 have hG:∀ pre A B,J pre A→Below A.heap.size A B→J pre B:=fun pre A B h k=>hJ pre A B none h (grown k) (fun r e=>by cases e)
 have HT:=Lib.hid hT
 have HG:=Lib.hid hG
 have HF:=Lib.hid hfall
 have H0:=Lib.hid h0
 have LE0:=Lib.hid (LE.out (n-1) W hT)
 obtain ⟨ms,hms⟩:∃ ms,leastR l=ms:=⟨_,rfl⟩
 rw [hms] at LE0
 have HMS:=Lib.hid hms
 clear hms
 obtain ⟨y0,b0,ea,ho⟩:=ans_two (beforeR l len)
 have BE0:=Lib.hid (fun w h=>BE.out (n-1) len w h)
 rw [ea] at BE0
 generalize beforeR l len=o at *
 have TO0:Hid (toldP o (.int .i64 y0) (.bool b0)):=Lib.hid (by
  rcases ho with ⟨h1,rfl⟩|⟨h1,rfl,rfl⟩
  · exact .inl ⟨y0,h1,rfl,rfl⟩
  · exact .inr ⟨h1,rfl,rfl⟩)
 clear ho ea hG h0 hT grown hfall LE BE
 gi_wp2
 refine ⟨trivial,LE0.out.mono ?_⟩
 rintro e w1 ⟨rfl,hb1⟩
 have JW:=Lib.hid (HG.out _ _ _ H0.out hb1)
 have KW:=Lib.hid (Kt.call hb1 hXl hb)
 have T1:=Lib.hid (HT.out.call hb1)
 have c1:w1.cell? ⟨X,0,none⟩=some (.slice ao l.length cap):=(World.cell?_of_block (w:=W) (a:=⟨X,0,none⟩) KW.out.1).trans hX
 have c2:w1.cell? ⟨X+1,0,none⟩=some (.int .i64 len):=(World.cell?_of_block (w:=W) (a:=⟨X+1,0,none⟩) KW.out.2.1).trans hX2
 clear hb1 LE0 H0
 gi_wp2
 refine ⟨trivial,(BE0.out _ T1.out).mono ?_⟩
 rintro e w2 ⟨rfl,hb2⟩
 have JW2:=Lib.hid (HG.out _ _ _ JW.out hb2)
 have KW2:=Lib.hid (KW.out.trans (Kt.call hb2 (KW.out.lt hXl) (KW.out.lt hb)))
 clear hb2 BE0 JW KW c1 c2 T1
 gi_wp2
 gi_loopw [5,6] (fun s t wr=>∃ pre,toldP (afterP l o pre) s t∧chainP l o pre∧J pre wr∧Kt X b W wr) (fun s t _=>measT s t)
 case atStart=>exact ⟨[],TO0.out,trivial,JW2.out,KW2.out⟩
 case round=>
  obtain ⟨pre,⟨y,hn,rfl,rfl⟩|⟨hn,rfl,rfl⟩,hc,hJs,hkp⟩:=hrel
  ·have hcs:chainP l o (pre++[y]):=chainP_snoc.2 ⟨hc,hn⟩
   have hfa:=chainP_fall HF.out hcs
   have hlt:pre.length<1048576:=by
    have:=hfa.2.1
    simp only [List.length_append,List.length_singleton] at this
    split at this <;> omega
   have hy1:=(hfa.1 y (by simp)).1
   have CS:=Lib.hid hcs
   have KB:=Lib.hid hkp
   have TW:=Lib.hid (hkp.ts hbo HT.out)
   have OF0:=Lib.hid (OF.out (n-1) y wr TW.out)
   have JB:=Lib.hid hJs
   have NE:Hid (ofR l y≤ms→nextP l y=none):=Lib.hid (fun h=>by unfold nextP;rw [HMS.out,if_pos h])
   have NS:Hid (ms<ofR l y→nextP l y=behR l y (ofR l y)):=Lib.hid (fun h=>by unfold nextP;rw [HMS.out,if_neg (by omega)])
   have NF:=Lib.hid (fun z (h:nextP l y=some z)=>nextP_fall h)
   have BH1:=Lib.hid (fun m w h=>BH.out (n-1) y m w h)
   have cX:wr.cell? ⟨X,0,none⟩=some (.slice ao l.length cap):=(World.cell?_of_block (w:=W) (a:=⟨X,0,none⟩) hkp.1).trans hX
   have HYY:=Lib.hid (fun A (h:J pre A)=>hY pre y A h hlt)
   have AF:Hid (∀ e,nextP l y=e→afterP l o (pre++[y])=e):=Lib.hid (fun e h=>by rw [afterP_snoc,h])
   clear hY hc hJs hkp hlt hfa hcs hn JW2 KW2 TO0 OF BH hX2
   gi_wp2
   refine ⟨trivial,OF0.out.mono ?_⟩
   rintro e w3 ⟨rfl,b3⟩
   have J3:=Lib.hid (HG.out _ _ _ JB.out b3)
   have K3:=Lib.hid (KB.out.trans (Kt.call b3 (KB.out.lt hXl) (KB.out.lt hb)))
   obtain ⟨fn,tmps,assign,body,hy,hR⟩:=HYY.out w3 J3.out
   have HR:=Lib.hid hR
   unfold encT at hy
   clear b3 hR HYY JB KB OF0 TW cX
   generalize ofR l y=m at *
   gi_wp2
   refine HR.out.mono ?_
   rintro e W3 (⟨rfl,hJ3,hk3⟩|⟨rfl,hJx3⟩)
   ·have K4:=Lib.hid (K3.out.trans hk3)
    have J4:=Lib.hid hJ3
    clear hJ3 hk3 HR hy
    by_cases hm:m≤ms
    ·have NE1:=Lib.hid (NE.out hm)
     gi_wp2
     refine bodyPost_ret (results_none rfl _ _ _) rfl ?_
     exact ⟨⟨_,rfl⟩,.inl ⟨pre++[y],⟨CS.out,AF.out _ NE1.out⟩,J4.out⟩⟩
    ·have hm':ms<m:=by omega
     have NS1:=Lib.hid (NS.out hm')
     have cX:W3.cell? ⟨X,0,none⟩=some (.slice ao l.length cap):=(World.cell?_of_block (w:=W) (a:=⟨X,0,none⟩) K4.out.1).trans hX
     obtain ⟨y1,b1,ea,ho⟩:=ans_two (behR l y m)
     have B1:=Lib.hid (BH1.out m W3 (K4.out.ts hbo HT.out))
     rw [ea] at B1
     have HO:=Lib.hid ho
     clear ho ea BH1 hm
     gi_wp2
     refine ⟨trivial,B1.out.mono ?_⟩
     rintro e w4 ⟨rfl,b4⟩
     have J5:=Lib.hid (HG.out _ _ _ J4.out b4)
     have K5:=Lib.hid (K4.out.trans (Kt.call b4 (K4.out.lt hXl) (K4.out.lt hb)))
     clear b4 B1 J4 K4 cX
     gi_wp2
     go_roundw
     case rel=>
      refine ⟨pre++[y],?_,CS.out,J5.out,K5.out⟩
      rw [AF.out _ NS1.out]
      rcases HO.out with ⟨h1,rfl⟩|⟨h1,rfl,rfl⟩
      · exact .inl ⟨y1,h1,rfl,rfl⟩
      · exact .inr ⟨h1,rfl,rfl⟩
     case measure=>
      rcases HO.out with ⟨h1,rfl⟩|⟨h1,rfl,rfl⟩
      ·have:=NF.out y1 (NS1.out.trans h1)
       simp [measT,intOf];omega
      · simp [measT,intOf]
   ·gi_wp2
    refine bodyPost_ret (results_none rfl _ _ _) rfl ?_
    exact ⟨⟨_,rfl⟩,.inr ⟨pre++[y],⟨pre,y,rfl,CS.out⟩,hJx3⟩⟩
  ·gi_wp2
   go_end0
   exact ⟨⟨_,rfl⟩,.inl ⟨pre,⟨hc,hn⟩,hJs⟩⟩
end Go.Proofs.YteempfoajgblaaaGreat.Qp
namespace Go.Proofs.YteempfoajgblaaaGreat.Qp
open Go.ChangeShapes Go.WideShapes Go.ChangeAt Go.RowKit Go.Joins Go.Shelf
open Pm (Tk chk chk_iff rowB rowB_all rowB_len TkAt Ts loadR)
open Dm (ans before_any beforeR ofR of_any)
open Bs (lengthR lengthR_bad lengthR_over good_of length_any)
attribute [local go_sem] Oper.semAt_some
theorem length_may {l:List Tk} (h:(lengthR l).e=0):May l∧∃ m,Bs.Good l m∧lengthR l=⟨m,0⟩:=by
 by_cases h1:(loadR l).e=0
 ·by_cases h2:(loadR l).n≤(loadR l).p
  · exact ⟨may_of h1 h2,good_of h1 h2⟩
  · rw [lengthR_over h1 (by omega)] at h;cases h
 · rw [lengthR_bad h1] at h;exact absurd h h1
theorem length_err {l:List Tk} (h:(lengthR l).e≠0):((loadR l).e≠0∧lengthR l=⟨0,(loadR l).e⟩)∨((loadR l).e=0∧(loadR l).p<(loadR l).n∧lengthR l=⟨0,17⟩):=by
 by_cases h1:(loadR l).e=0
 ·by_cases h2:(loadR l).n≤(loadR l).p
  ·obtain ⟨m,-,e⟩:=good_of h1 h2
   rw [e] at h;exact absurd rfl h
  · exact .inr ⟨h1,by omega,lengthR_over h1 (by omega)⟩
 · exact .inl ⟨h1,lengthR_bad h1⟩
theorem testR_err {l:List Tk} (h:(lengthR l).e≠0):testR l=(lengthR l).e:=by
 unfold testR
 rcases length_err h with ⟨h1,h2⟩|⟨h1,h2,h3⟩
 · rw [if_pos h1,h2]
 · rw [if_neg (by omega),if_pos (.inl h2),h3]
theorem enter_times (args:Array Value) (w:World):(callFunc 223 args).run Tryz.prog w=.ok (.enter 223 args) w:=enters_of Tryz.func223 (by kernel_rfl) rfl args w
theorem times_stops (n:Nat) (hn:1≤n) (X b:Nat) (l:List Tk) (ao:Option Addr) (cap:Nat) (len:Int) (hl:l.length≤1000000) (hlen:len≤1048576) (hbo:0<l.length→∀ k off,ao=some ⟨k,off,none⟩→k=b) (w:World) (hX:X+1<w.heap.size) (hb:b<w.heap.size)
 (cX:w.cell? ⟨X,0,none⟩=some (.slice ao l.length cap)) (cX2:w.cell? ⟨X+1,0,none⟩=some (.int .i64 len)) (hT:Ts ao l w) :
 SeqStopsK Fence.wide n Tryz.prog 223 #[.pointer (some ⟨X,0,none⟩),.pointer (some ⟨X+1,0,none⟩)] (encT l) (Kt X b) (fun ys=>chainP l (beforeR l len) ys∧afterP l (beforeR l len) ys=none) (fun pre=>∃ q z,pre=q++[z]∧chainP l (beforeR l len) pre) 1048576 w:=fun Y J Jx W hW hJ hJx hY h0=>
 times1_in n hn Y X b W.heap.size l ao cap len hl hlen hbo J Jx hJ hY W ((hW.cell (p:=⟨X,0,none⟩) (by show X<_;omega)).trans cX) ((hW.cell (p:=⟨X+1,0,none⟩) hX).trans cX2) (hT.call hW) (Nat.lt_of_lt_of_le hb hW.size) h0
structure Own1 (w:World) (o:Obj) (W:World):Prop where
 cell:W.heap[w.heap.size]?=some o
 bel:Below w.heap.size w W
theorem Own1.grown {w W W':World} {o:Obj} {row:Option Nat} (h:Own1 w o W) (hg:W.grownBy W' row) (hr:∀ r,row=some r→w.heap.size+1≤r):Own1 w o W':=by
 have hlt:w.heap.size<W.heap.size:=(Array.getElem?_eq_some_iff.1 h.cell).1
 refine ⟨(hg.block _ hlt (fun e=>by have:=hr _ e.symm;omega)).trans h.cell,hg.os.trans h.bel.os,hg.tape.trans h.bel.tape,hg.output.trans h.bel.output,Nat.le_trans h.bel.size hg.size,fun k hk=>?_⟩
 rw [hg.block k (Nat.lt_of_lt_of_le hk h.bel.size) (fun e=>by have:=hr _ e.symm;omega),h.bel.block k hk]
theorem Own1.put {w W:World} {v v':Value} {T:TypeId} (h:Own1 w (.cells #[v] T (0,0)) W) :
 W.cell? ⟨w.heap.size,0,none⟩=some v∧W.frozen? ⟨w.heap.size,0,none⟩=false∧Own1 w (.cells #[v'] T (0,0)) (W.setCell ⟨w.heap.size,0,none⟩ v') ∧
 KeepsFrom (w.heap.size+1) W (W.setCell ⟨w.heap.size,0,none⟩ v')∧(∀ k,k≠w.heap.size→(W.setCell ⟨w.heap.size,0,none⟩ v').heap[k]?=W.heap[k]?)∧(W.setCell ⟨w.heap.size,0,none⟩ v').heap.size=W.heap.size:=by
 have other:∀ k,k≠w.heap.size→(W.setCell ⟨w.heap.size,0,none⟩ v').heap[k]?=W.heap[k]?:=fun k hn=>Below.heap_setCell _ _ _ _ hn
 have hsz:(W.setCell ⟨w.heap.size,0,none⟩ v').heap.size=W.heap.size:=by simp [World.setCell]
 refine ⟨by rw [Lib.cell_of_heap h.cell];rfl,Lib.frozen_of_heap h.cell 0,⟨?_,h.bel.setCell (by simp) _⟩,⟨by omega,fun k o hB hk ho=>(other k (by omega)).trans hk⟩,other,hsz⟩
 simp [World.setCell,Array.getElem?_modify,h.cell]
def TsI (w:World) (l:List Tk) (pre:List Int) (W:World):Prop:=(∀ y∈pre,ofR l y≤y)∧Own1 w (.cells #[.int .i64 0] 29 (0,0)) W
def TsX (w:World) (l:List Tk) (c:Code) (pre:List Int) (W:World):Prop:=c=.ret∧(∃ q x,pre=q++[x]∧x<ofR l x)∧Own1 w (.cells #[.int .i64 17] 29 (0,0)) W
theorem tsI_own {w:World} {l:List Tk} {N:Nat} (hN:w.heap.size+1≤N):OwnFrom N (TsI w l):=fun pre X Y row hs hg hr=>⟨hs.1,hs.2.grown hg (fun r e=>Nat.le_trans hN (hr r e).1)⟩
theorem tsX_own {w:World} {l:List Tk} {N:Nat} (hN:w.heap.size+1≤N) (c:Code):OwnFrom N (TsX w l c):=fun pre X Y row hs hg hr=>⟨hs.1,hs.2.1,hs.2.2.grown hg (fun r e=>Nat.le_trans hN (hr r e).1)⟩
theorem test_any (l:List Tk) (ao:Option Addr) (cap:Nat) (w:World) (hT:Ts ao l w) (hl:l.length≤1000000) :
 Calls Tryz.prog 172 #[.slice ao l.length cap] w fun e w'=>e=.returned (.int .i64 (testR l))∧Below w.heap.size w w':=by
 have o0:Own1 w (.cells #[.int .i64 0] 29 (0,0)) (w.alloc (.cells #[.int .i64 0] 29)):=⟨(by show (w.heap.push _)[w.heap.size]?=_;rw [Array.getElem?_push_size]),(Below.refl _ _).alloc (Nat.le_refl _) _⟩
 have LE:=Lib.hid (fun w h=>length_any l ao cap w h hl)
 have O0:=Lib.hid o0
 have T0:=Lib.hid (hT.call o0.bel)
 have SS:=Lib.hid (fun len w=>times_any ao l.length cap len w)
 clear o0
 by_cases he:(lengthR l).e=0
 ·obtain ⟨hmay,m,hg,hE⟩:=length_may he
  rw [hE] at LE
  simp only at LE
  have hm1:=hg.2.1
  refine (callsIn_wide (n:=3)).1 ?_
  refine callsIn_of_wp_marks Tryz.func172 rfl trivial ?_ rfl
  simp only [Tryz.ntmps172,List.size_toArray,List.length_cons,List.length_nil,Nat.reduceAdd,Nat.reduceSub,Array.replicate_succ,Array.replicate_zero,List.push_toArray,List.append_toArray,List.nil_append,List.cons_append]
  refine wpIn_wide.2 ?_
  go_wp2_with fail
  (with_reducible refine (LE.out _ T0.out).mono ?_)
  rintro e w1 ⟨rfl,b1⟩
  have o1:=O0.out.grown (row:=none) ⟨b1.os,b1.tape,b1.output,b1.size,fun k hk _=>b1.block k hk⟩ (fun r e=>by cases e)
  have T1:=T0.out.call b1
  have z1:w.heap.size+1≤w1.heap.size:=by have:=b1.size;simp at this;omega
  clear b1 LE O0 T0
  go_wp2_with fail
  (with_reducible refine (SS.out _ _).mono ?_)
  rintro e w2 ⟨rfl,e2⟩
  clear SS
  have b2:Below w1.heap.size w1 w2:=by rw [e2];exact ((Below.refl _ _).alloc (Nat.le_refl _) _).alloc (by simp) _
  have lay:w2.cell? ⟨w1.heap.size,0,none⟩=some (.slice ao l.length cap)∧w2.cell? ⟨w1.heap.size+1,0,none⟩=some (.int .i64 m)∧w2.heap.size=w1.heap.size+2:=by
   rw [e2]
   exact ⟨by simp [go_sem],by simp [go_sem],by simp⟩
  clear e2
  obtain ⟨y0,y1,z2⟩:=lay
  have o2:=o1.grown (row:=none) ⟨b2.os,b2.tape,b2.output,b2.size,fun k hk _=>b2.block k hk⟩ (fun r e=>by cases e)
  have T2:=T1.call b2
  obtain ⟨b,hb,hbo⟩:∃ b,b<w2.heap.size∧b≠w.heap.size∧(0<l.length→∀ k off,ao=some ⟨k,off,none⟩→k=b):=by
   by_cases h0:0<l.length
   ·obtain ⟨g,off,rfl,hg,-⟩:=hT h0
    exact ⟨g,by omega,by omega,fun _ k o e=>by cases e;rfl⟩
   · exact ⟨w1.heap.size,by omega,by omega,fun h=>absurd h h0⟩
  obtain ⟨hbn,hbo⟩:=hbo
  have hN:w.heap.size+1≤w2.heap.size:=by omega
  have E2:=Lib.hid (fun ys h1 h2 h3=>test_good hmay (r:=ys) h1 h2 h3)
  have E1:=Lib.hid (fun q x h1 h2=>test_bad hmay (r:=q) (x:=x) h1 h2)
  have ST:startP l=beforeR l m:=by unfold startP;rw [hE]
  rw [ST] at E2 E1
  clear T1 o1 b2 hmay hg hE he ST
  go_wp2_with fail
  refine (wpIn_wide (n:=3)).1 ?_
  refine wpIn_rangeFunc_ownG rfl (by omega) (gf:=223) (lb:=#[.pointer (some ⟨w1.heap.size,0,none⟩),.pointer (some ⟨w1.heap.size+1,0,none⟩)]) rfl trivial enter_times
   (times_stops _ (by omega) w1.heap.size b l ao cap m hl hm1 hbo w2 (by omega) (by omega) y0 y1 T2) Kt.trans (Kt.put (by omega) (by omega)) (Below.refl _ _) (fun _=>rfl)
   (TsI w l) (TsX w l) (tsI_own hN) (fun c=>tsX_own hN c)
   ⟨by simp,o2⟩
   (fun x=>{ tmps:=#[.slice ao l.length cap,undef,.pointer (some ⟨w.heap.size,0,none⟩),.int .i64 m,.int .i64 0,.int .i64 x,.int .i64 (ofR l x),.tuple #[.int .i64 m,.int .i64 0],.slice ao l.length cap,.tuple #[.int .i64 m,.int .i64 0],.int .i64 m,.int .i64 0,.int .i64 0,.bool false,undef,.slice ao l.length cap,.int .i64 m,.func (.func 223) #[] #[.pointer (some ⟨w1.heap.size,0,none⟩),.pointer (some ⟨w1.heap.size+1,0,none⟩)],.int .i64 x,.int .i64 (ofR l x),undef,undef,undef],defers:=[] }) ?assign ?body ?done ?stop
  case assign=>
   intro Y x W K hK
   simp only [encT]
   gi_wp2
   exact hK
  case body=>
   rintro Y pre x W ⟨hb1,hO⟩ hpl
   obtain ⟨p1,p2,p3,p4,p5,p6⟩:=hO.put (v':=.int .i64 17)
   by_cases hx:x<ofR l x
   ·have FIN:Hid (KeepsFrom w2.heap.size W (W.setCell ⟨w.heap.size,0,none⟩ (.int .i64 17))∧TsX w l .ret (pre++[x]) (W.setCell ⟨w.heap.size,0,none⟩ (.int .i64 17))):=Lib.hid ⟨⟨p4.size,fun k o hk=>p4.same k o (by omega)⟩,rfl,⟨pre,x,rfl,hx⟩,p3⟩
    clear hb1 hO hpl p3 p4 p5 p6 E1 E2 T2 y0 y1
    generalize ofR l x=n at *
    gi_wp2
    exact FIN.out
   ·have FIN:Hid (KeepsFrom w2.heap.size W W∧Kt w1.heap.size b W W∧TsI w l (pre++[x]) W):=Lib.hid ⟨KeepsFrom.refl _ _,⟨rfl,rfl,rfl,Nat.le_refl _⟩,fun y hy=>by
     rcases List.mem_append.1 hy with hy|hy
     · exact hb1 y hy
     ·obtain rfl:y=x:=by simpa using hy
      omega,hO⟩
    have hx':ofR l x≤x:=by omega
    clear hb1 hO hpl p1 p2 p3 p4 p5 p6 E1 E2 T2 y0 y1 hx
    generalize ofR l x=n at *
    gi_wp2
    exact FIN.out
  case done=>
   rintro D xs W hD ⟨hc,hn⟩ ⟨hb1,hO⟩ hK
   have E:=Lib.hid (E2.out xs hc hn hb1)
   obtain ⟨p1,p2,p3,p4,p5,p6⟩:=hO.put (v':=.int .i64 0)
   have hK':=(p5 D (by omega)).trans hK
   have hg:=p3.grown (grownBy_putObj' _ D (.deferred none)) (fun r e=>by cases e;omega)
   have c0:=Lib.hid hg.cell
   have FB:=Lib.hid hg.bel
   have HK:=Lib.hid hK'
   clear hK hK' hc hb1 E1 E2 T2 y0 y1 hO p3 p4 p5 p6 hg
   go_wp2
   try simp only [Exit.noGoto]
   refine ⟨by simp,.inl ⟨_,_,rfl,run_takeDeferred HK.out,?_⟩⟩
   refine ⟨.int .i64 0,?_,by rw [E.out],FB.out⟩
   have hc5:((W.setCell ⟨w.heap.size,0,none⟩ (.int .i64 0)).putObj D (.deferred none)).cell? ⟨w.heap.size,0,none⟩=some (.int .i64 0):=by rw [Lib.cell_of_heap c0.out];rfl
   simp [results,Tryz.results172,go_sem,hc5]
  case stop=>
   rintro D c pre W hD ⟨q0,z0,rfl,hc⟩ ⟨rfl,⟨q,x,he,hx⟩,hO⟩ hK
   obtain ⟨rfl,hz⟩:=List.append_inj' he rfl
   obtain rfl:z0=x:=by simpa using hz
   have E:=Lib.hid (E1.out _ _ hc hx)
   have hg:=hO.grown (grownBy_putObj' _ D (.deferred none)) (fun r e=>by cases e;omega)
   have c0:=Lib.hid hg.cell
   have FB:=Lib.hid hg.bel
   have HK:=Lib.hid hK
   clear hK hc E1 E2 T2 y0 y1 hO hg he
   refine wpIn_wide.2 ?_
   go_wp2
   try simp only [Exit.noGoto]
   refine ⟨by simp,.inl ⟨_,_,rfl,run_takeDeferred HK.out,?_⟩⟩
   refine ⟨.int .i64 17,?_,by rw [E.out],FB.out⟩
   have hc5:(W.putObj D (.deferred none)).cell? ⟨w.heap.size,0,none⟩=some (.int .i64 17):=by rw [Lib.cell_of_heap c0.out];rfl
   simp [results,Tryz.results172,go_sem,hc5]
 ·have E:=Lib.hid (testR_err he)
  generalize (lengthR l).e=e0 at *
  generalize (lengthR l).n=n0 at *
  have h1:(e0==0)=false:=by simpa using he
  have h2:(e0 != 0)=true:=by simpa using he
  clear he SS
  go_enter Tryz.func172,Tryz.ntmps172
  go_wp2_with fail
  (with_reducible refine (LE.out _ T0.out).mono ?_)
  rintro e w1 ⟨rfl,b1⟩
  have o1:=O0.out.grown (row:=none) ⟨b1.os,b1.tape,b1.output,b1.size,fun k hk _=>b1.block k hk⟩ (fun r e=>by cases e)
  obtain ⟨p1,p2,p3,p4,p5,p6⟩:=o1.put (v':=.int .i64 e0)
  have FB:=Lib.hid p3.bel
  have hc5:(w1.setCell ⟨w.heap.size,0,none⟩ (.int .i64 e0)).cell? ⟨w.heap.size,0,none⟩=some (.int .i64 e0):=by rw [Lib.cell_of_heap p3.cell];rfl
  clear b1 LE o1 p3 p4 p5 p6
  go_wp2
  exact bodyPost_ret (v:=.int .i64 e0) (by simp [results,Tryz.results172,go_sem,hc5]) rfl ⟨by rw [E.out],FB.out⟩
end Go.Proofs.YteempfoajgblaaaGreat.Qp
