/- Whether a set may be: the mathematics of layer 15. Ops by plain numbers, and sets by such ops: the .. -/
import Derived.Test.YteempfoajgblaaaGreatLMQa
import Derived.Test.YteempfoajgblaaaGreatLTbL
import Derived.Test.YteempfoajgblaaaGreatLMTt
set_option maxRecDepth 100000
set_option linter.unusedVariables false
set_option linter.unusedSimpArgs false
namespace Go.Proofs.YteempfoajgblaaaGreat.Ju
open Pm (Tk chk chk_iff rowB rowB_all rowB_len rowB_yes pers periodR pers_pos work Ld loadR load_yes)
open Dm (sum one cnt cnt_nonneg)
open Qp (testR testR_zero testR_is)
open Tb
open Ox (Od chkR chkR_iff tk0)
theorem pers_some {l:List Tk} {m:Nat} (hm:m≤1048576) (h0:0<m):∀ {p:Nat},p ∣ m→(∀ t∈l,t.t.toNat ∣ m)→∃ q,pers l p=some q∧q ∣ m:=by
 induction l with
 | nil=>intro p hp _;exact ⟨p,rfl,hp⟩
 | cons x l ih=>
  intro p hp hl
  have h1:Nat.lcm p x.t.toNat ∣ m:=Nat.lcm_dvd hp (hl x (by simp))
  have h2:=Nat.le_of_dvd h0 h1
  rw [pers,if_neg (by omega)]
  exact ih h1 (fun y hy=>hl y (by simp [hy]))
theorem div_mul {q p t:Int} (ht:0<t) (h1:p%t=0) (h2:q%p=0) (hp:0<p):q/t=(p/t)*(q/p):=by
 obtain ⟨j,rfl⟩:=Int.dvd_of_emod_eq_zero h1
 obtain ⟨k,rfl⟩:=Int.dvd_of_emod_eq_zero h2
 have ht0:t≠0:=by omega
 rw [Int.mul_ediv_cancel_left _ ht0,Int.mul_ediv_cancel_left _ (by omega),Int.mul_assoc,Int.mul_ediv_cancel_left _ ht0]
theorem work_more {l:List Tk} {p q:Int} (hp:0<p) (h:q%p=0) (hl:∀ x∈l,0<x.t∧p%x.t=0):work q l=work p l*(q/p):=by
 induction l with
 | nil=>simp [work]
 | cons x l ih=>
  have hx:=hl x (by simp)
  rw [work,work,ih (fun y hy=>hl y (by simp [hy])),div_mul hx.1 hx.2 h hp,Int.add_mul,Int.mul_assoc]
structure Nice (l:List Tk):Prop where
 row:rowB l=true
 dv:∀ t∈l,t.t.toNat ∣ 120
def fit (l:List Tk):Prop:=work 120 l≤120∧∀ s,1≤s→sum l s≤s
theorem nice_load {l:List Tk} (h:Nice l):(loadR l).e=0∧((loadR l).n≤(loadR l).p↔work 120 l≤120):=by
 obtain ⟨q,hq,hd⟩:=pers_some (l:=l) (m:=120) (by omega) (by omega) (Nat.one_dvd _) h.dv
 have e1:periodR l=((q:Int),0):=by unfold periodR;rw [if_pos h.row,hq]
 have hl:=rowB_all h.row
 obtain ⟨hq0,hq1,-,hpd⟩:=pers_pos (by omega) (by omega) hl hq
 have e2:loadR l=⟨work q l,q,0⟩:=by rw [load_yes (by rw [e1]),e1]
 rw [e2]
 obtain ⟨k,hk⟩:=hd
 have hk0:0<k:=by
  rcases Nat.eq_zero_or_pos k with h0|h0
  · rw [h0] at hk;omega
  · exact h0
 have hkI:(120:Int)=(q:Int)*(k:Int):=by rw [← Int.natCast_mul,← hk];rfl
 have hm:(120:Int)%(q:Int)=0:=by rw [hkI];exact Int.mul_emod_right _ _
 have hdv:(120:Int)/(q:Int)=(k:Int):=by rw [hkI];exact Int.mul_ediv_cancel_left _ (by omega)
 have hw:=work_more (l:=l) (p:=(q:Int)) (q:=120) (by omega) hm (fun x hx=>by
  have h1:=chk_iff.1 (hl x hx)
  have h2:=hpd x hx
  have h3:x.t=((x.t.toNat:Nat):Int):=by omega
  refine ⟨by omega,?_⟩
  rw [h3,← Int.natCast_emod,Nat.mod_eq_zero_of_dvd h2];rfl)
 rw [hdv] at hw
 refine ⟨rfl,?_⟩
 show work (q:Int) l≤(q:Int)↔work 120 l≤120
 rw [hw]
 constructor
 ·intro h1
  have:=Int.mul_le_mul_of_nonneg_right h1 (show (0:Int)≤(k:Int) by omega)
  omega
 ·intro h1
  have h2:work (q:Int) l*(k:Int)≤(q:Int)*(k:Int):=by omega
  exact Int.le_of_mul_le_mul_right h2 (by omega)
theorem nice_test {l:List Tk} (h:Nice l):testR l=0↔fit l:=by
 obtain ⟨h1,h2⟩:=nice_load h
 rw [testR_zero]
 exact ⟨fun k=>⟨h2.1 k.2.1,k.2.2⟩,fun k=>⟨h1,h2.2 k.1,k.2⟩⟩
theorem inT_cons (k:Int) (r:Rw) (l:List Rw):inT k (r :: l)=if bt k r.t=true then r.t :: inT k l else inT k l:=by
 unfold inT
 rw [List.filter_cons]
 split <;> simp
def firstF (l:List Rw):Nat→Int→Int×Int
 | 0,_=>(-1,0)
 | n+1,m=>if testR (inT m l)≠0 then (m,testR (inT m l)) else firstF l n (m+1)
def firstR (t:Tb.Tb):Int×Int:=if chkT t=true then firstF t.rows 4 0 else (-1,1)
def fitsR (t:Tb.Tb):Int:=(firstR t).2
def withR (t:Tb.Tb) (ex:List Tk):Int:=if fitsR t≠0 then fitsR t else if 16<(inM t.mode t.rows++ex).length then 15 else testR (inM t.mode t.rows++ex)
def mayR (t:Tb.Tb) (o:Od) (ex:List Tk):Tb.Tb×Int:=if (applyR t o).2≠0 then (tb0,(applyR t o).2) else if withR (applyR t o).1 ex≠0 then (tb0,withR (applyR t o).1 ex) else ((applyR t o).1,0)
theorem firstF_zero {l:List Rw}:∀ {n:Nat} {m:Int},(firstF l n m).2=0↔∀ k:Int,m≤k→k<m+n→testR (inT k l)=0:=by
 intro n
 induction n with
 | zero=>intro m;exact ⟨fun _ k h1 h2=>by omega,fun _=>rfl⟩
 | succ n ih=>
  intro m
  unfold firstF
  by_cases h:testR (inT m l)=0
  ·rw [if_neg (by omega),ih]
   refine ⟨fun h1 k h2 h3=>?_,fun h1 k h2 h3=>h1 k (by omega) (by omega)⟩
   by_cases e:k=m
   · rw [e];exact h
   · exact h1 k (by omega) (by omega)
  ·rw [if_pos h]
   exact ⟨fun h1=>absurd h1 h,fun h1=>absurd (h1 m (by omega) (by omega)) h⟩
theorem firstF_four (l:List Rw):firstF l 4 0=if testR (inT 0 l)≠0 then (0,testR (inT 0 l)) else if testR (inT 1 l)≠0 then (1,testR (inT 1 l)) else if testR (inT 2 l)≠0 then (2,testR (inT 2 l)) else if testR (inT 3 l)≠0 then (3,testR (inT 3 l)) else (-1,0):=rfl
theorem fits_zero {t:Tb.Tb}:fitsR t=0↔chkT t=true∧∀ k:Int,0≤k→k≤3→testR (inT k t.rows)=0:=by
 unfold fitsR firstR
 by_cases h:chkT t=true
 ·rw [if_pos h,firstF_zero]
  exact ⟨fun h1=>⟨h,fun k h2 h3=>h1 k h2 (by omega)⟩,fun h1 k h2 h3=>h1.2 k h2 (by omega)⟩
 ·rw [if_neg h]
  exact ⟨fun h1=>(by cases h1),fun h1=>absurd h1.1 h⟩
theorem with_zero {t:Tb.Tb} {ex:List Tk} (h:withR t ex=0):fitsR t=0:=by
 unfold withR at h
 by_cases h1:fitsR t=0
 · exact h1
 · rw [if_pos h1] at h;exact h
theorem with_nil {t:Tb.Tb} (h:fitsR t=0):withR t []=0:=by
 obtain ⟨hc,hf⟩:=fits_zero.1 h
 obtain ⟨-,-,c3,c4,c5⟩:=chkT_iff.1 hc
 unfold withR
 rw [if_neg (by omega),List.append_nil]
 have e:inM t.mode t.rows=inT t.mode t.rows:=if_pos ⟨c4,c5⟩
 rw [e,if_neg (by have:=inT_len t.mode t.rows;omega)]
 exact hf _ c4 c5
theorem may_zero {t:Tb.Tb} {o:Od} {ex:List Tk} (h:(mayR t o ex).2=0):(mayR t o ex).1=(applyR t o).1∧(applyR t o).2=0∧withR (applyR t o).1 ex=0:=by
 unfold mayR at h ⊢
 by_cases h1:(applyR t o).2=0
 ·rw [if_neg (by omega)] at h ⊢
  by_cases h2:withR (applyR t o).1 ex=0
  ·rw [if_neg (by omega)] at h ⊢
   exact ⟨rfl,h1,h2⟩
  · rw [if_pos h2] at h;exact absurd h h2
 · rw [if_pos h1] at h;exact absurd h h1
theorem may_not {t:Tb.Tb} {o:Od} {ex:List Tk} (h:(mayR t o ex).2≠0):(mayR t o ex).1=tb0:=by
 unfold mayR at h ⊢
 by_cases h1:(applyR t o).2=0
 ·rw [if_neg (by omega)] at h ⊢
  by_cases h2:withR (applyR t o).1 ex=0
  · rw [if_neg (by omega)] at h;exact absurd rfl h
  · rw [if_pos h2]
 · rw [if_pos h1]
theorem may_yes {t:Tb.Tb} {o:Od} {ex:List Tk} (h1:(applyR t o).2=0) (h2:withR (applyR t o).1 ex=0):mayR t o ex=((applyR t o).1,0):=by
 unfold mayR
 rw [if_neg (by omega),if_neg (by omega)]
theorem may_fits {t:Tb.Tb} {o:Od} {ex:List Tk} (h:(mayR t o ex).2=0):fitsR (mayR t o ex).1=0:=by
 obtain ⟨h1,-,h3⟩:=may_zero h
 rw [h1];exact with_zero h3
theorem fits_tb0:fitsR tb0=0:=by
 refine fits_zero.2 ⟨chk_tb0,fun k h1 h2=>?_⟩
 show testR []=0
 refine (nice_test (l:=[]) ⟨by decide,by simp⟩).2 ⟨by decide,fun s hs=>?_⟩
 show (0:Int)≤s
 omega
end Go.Proofs.YteempfoajgblaaaGreat.Ju
namespace Go.Proofs.YteempfoajgblaaaGreat.Ju
open Pm (Tk chk chk_iff I64)
open Tb
open Ox (Od chkR chkR_iff tk0)
structure Nm where
 kind:Int
 id:Int
 c:Int
 d:Int
 t:Int
 m:Int
 sv:Bool
theorem and_low (n:Int) (k:Nat) (hk:k≤31):bits .and .i64 n ((2^k:Nat)-1:Int)=n%((2^k:Nat):Int):=by
 have h2:2^k≤2^31:=Nat.pow_le_pow_right (by omega) hk
 have h1:0<2^k:=Nat.two_pow_pos k
 have hm:(BitVec.ofInt 64 ((2^k:Nat)-1:Int)).toNat=2^k-1:=by
  rw [BitVec.toNat_ofInt]
  omega
 have hd:2^k ∣ 2^64:=Nat.pow_dvd_pow 2 (by omega)
 have key:(BitVec.ofInt 64 n &&& BitVec.ofInt 64 ((2^k:Nat)-1:Int)).toNat=(n%((2^64:Nat):Int)).toNat%2^k:=by
  rw [BitVec.toNat_and,BitVec.toNat_ofInt,hm,Nat.and_two_pow_sub_one_eq_mod]
 show IntKind.i64.wrap ((BitVec.ofInt 64 n &&& BitVec.ofInt 64 ((2^k:Nat)-1:Int)).toNat:Nat)=n%((2^k:Nat):Int)
 rw [key]
 have e0:0≤n%((2^64:Nat):Int):=Int.emod_nonneg _ (by omega)
 have e1:(((n%((2^64:Nat):Int)).toNat%2^k:Nat):Int)=n%((2^k:Nat):Int):=by
  rw [Int.natCast_emod,Int.toNat_of_nonneg e0]
  exact Int.emod_emod_of_dvd n (Int.natCast_dvd_natCast.2 hd)
 rw [e1]
 have e2:0≤n%((2^k:Nat):Int):=Int.emod_nonneg _ (by omega)
 have e3:n%((2^k:Nat):Int)<((2^k:Nat):Int):=Int.emod_lt_of_pos _ (by omega)
 exact IntWalk.i64_in _ (by omega)
theorem and1 (n:Int):bits .and .i64 n 1=n%2:=and_low n 1 (by omega)
theorem and3 (n:Int):bits .and .i64 n 3=n%4:=and_low n 2 (by omega)
theorem and7 (n:Int):bits .and .i64 n 7=n%8:=and_low n 3 (by omega)
def rm (a m:Int):Int:=(a.tmod m+m).tmod m
theorem rm_in (a:Int) {m:Int} (hm:0<m):0≤rm a m∧rm a m<m∧-m<a.tmod m∧a.tmod m<m:=by
 have h1:=Int.tmod_lt_of_pos a hm
 have h2:=Int.lt_tmod_of_pos a hm
 unfold rm
 rw [Int.tmod_eq_emod_of_nonneg (by omega)]
 exact ⟨Int.emod_nonneg _ (by omega),Int.emod_lt_of_pos _ hm,h2,h1⟩
def perA:List Int:=[2,3,4,5,6,8,10,12]
def per (n:Int):Int:=perA.getD (n%8).toNat 2
theorem per_in (n:Int):2≤per n∧per n≤12∧(per n).toNat ∣ 120∧perA[(n%8).toNat]?=some (per n):=by
 unfold per
 have h:(n%8).toNat<8:=by omega
 generalize (n%8).toNat=k at *
 rcases (by omega:k=0∨k=1∨k=2∨k=3∨k=4∨k=5∨k=6∨k=7) with rfl|rfl|rfl|rfl|rfl|rfl|rfl|rfl <;> decide
def dR (n:Nm):Int:=if n.sv=true then per n.t else 1+rm n.d (per n.t)
theorem dR_in (n:Nm):1≤dR n∧dR n≤per n.t:=by
 have h:=per_in n.t
 have h2:=rm_in n.d (show 0<per n.t by omega)
 unfold dR
 split <;> omega
def taskR (n:Nm):Tk:=⟨n.id%8,1+rm n.c (dR n),dR n,per n.t,1+rm n.m 15⟩
def opR (n:Nm):Od:=if n.kind%8=5 then ⟨2,tk0,false,n.id%8,0,0⟩ else if n.kind%8=6 then ⟨3,tk0,false,n.id%8,(taskR n).c,0⟩ else if n.kind%8=7 then ⟨4,tk0,false,0,0,n.m%4⟩ else ⟨1,taskR n,n.sv,0,0,0⟩
end Go.Proofs.YteempfoajgblaaaGreat.Ju
