/- How long without a pause: the mathematics. No dump is imported. Contracts of package busy's isTime, .. -/
import Derived.Test.YteempfoajgblaaaGreatLMDm
import Derived.Test.YteempfoajgblaaaGreatLMPb
import Derived.Deep.RegionHeld3
import Derived.RangeFuncNested
import Derived.RangeFuncBound
import Derived.RangeFuncCalls
import Derived.RangeFuncLeaves
import Derived.RangeFuncBox
import Derived.Maps.AppendAt
import Derived.Shelf.Abstract
import Derived.Shelf.RegionOpen
import Derived.OwnWalkIn
import Derived.TacticsInMore
import Derived.LoopNIn
import Derived.LoopIn
import Derived.Stop.RegionWithIn
import Derived.Lib.Builder
import Derived.RangeFuncWrites
import Derived.Sort.CutIn
import Derived.BigQuiet
set_option maxRecDepth 100000
set_option linter.unusedVariables false
set_option linter.unusedSimpArgs false
open Go.ChangeShapes Go.WideShapes Go.ChangeAt Go.RowKit Go.Joins
set_option maxHeartbeats 4000000
namespace Go.Proofs.YteempfoajgblaaaGreat.Bs
open Pm (Tk chk chk_iff rowB rowB_all rowB_len pers pers_pos periodR period_ok work work_le Ld loadR)
open Dm (isTime cnt parts div_of cnt_lt cnt_ge one)
def rel (t:Tk) (x:Int):Int:=if x≤0 then 0 else (x-1)/t.t+1
def wk:List Tk→Int→Int
 | [],_=>0
 | t :: l,x=>t.c*rel t x+wk l x
def workR (l:List Tk) (x:Int):Int:=if rowB l=true∧isTime x=true then wk l x else 0
def leastD (m:Int):List Tk→Int
 | []=>m
 | t :: l=>leastD (if t.d<m then t.d else m) l
def leastR (l:List Tk):Int:=match l with
 | []=>0
 | t :: r=>if rowB (t :: r)=true then leastD t.d (t :: r) else 0
theorem rel_zero {t:Tk} {x:Int} (h:x≤0):rel t x=0:=by unfold rel;rw [if_pos h]
theorem rel_pos {t:Tk} {x:Int} (h:1≤x):rel t x=(x-1)/t.t+1:=by unfold rel;rw [if_neg (by omega)]
theorem rel_one {t:Tk} (ht:0<t.t):rel t 1=1:=by rw [rel_pos (by omega)];simp
theorem rel_nonneg {t:Tk} {x:Int} (ht:0<t.t):0≤rel t x:=by
 by_cases h:x≤0
 · rw [rel_zero h];omega
 ·rw [rel_pos (by omega)]
  have:=Int.ediv_nonneg (show 0≤x-1 by omega) (show 0≤t.t by omega)
  omega
theorem rel_mono {t:Tk} {x y:Int} (ht:0<t.t) (h:x≤y):rel t x≤rel t y:=by
 by_cases hx:x≤0
 · rw [rel_zero hx];exact rel_nonneg ht
 ·rw [rel_pos (by omega),rel_pos (by omega)]
  have:=Int.ediv_le_ediv ht (show x-1≤y-1 by omega)
  omega
theorem rel_period {t:Tk} {x:Int} (ht:0<t.t) (hx:0≤x):rel t (x+t.t)=rel t x+1:=by
 by_cases h:x≤0
 ·obtain rfl:x=0:=by omega
  rw [show rel t 0=0 from rel_zero (by omega),rel_pos (x:=0+t.t) (by omega),(div_of (a:=0+t.t-1) (b:=t.t) (q:=0) (r:=t.t-1) ht (by omega) (by omega) (by omega)).1]
 ·rw [rel_pos (by omega),rel_pos (by omega)]
  rw [show x+t.t-1=(x-1)+t.t by omega,Int.add_ediv_of_dvd_right (Int.dvd_refl _),Int.ediv_self (by omega)]
theorem rel_mul {t:Tk} {p:Int} (ht:0<t.t) (hp:0<p) (h:p%t.t=0):rel t p=p/t.t:=by
 obtain ⟨k,rfl⟩:=Int.dvd_of_emod_eq_zero h
 have hk:1≤k:=by
  rcases Int.lt_or_le k 1 with h1|h1
  ·have:=Int.mul_nonneg (show 0≤t.t by omega) (show 0≤-k by omega)
   rw [Int.mul_neg] at this
   omega
  · exact h1
 rw [rel_pos (by omega),Int.mul_ediv_cancel_left _ (by omega)]
 have e:t.t*k=t.t*(k-1)+t.t:=by rw [Int.mul_sub];omega
 rw [(div_of (a:=t.t*k-1) (b:=t.t) (q:=k-1) (r:=t.t-1) ht (by omega) (by omega) (by omega)).1]
 omega
theorem rel_le {t:Tk} {x:Int} (ht:0<t.t) (hx:0≤x):t.t*rel t x≤x+t.t-1∨x=0:=by
 by_cases h:x≤0
 · right;omega
 ·left
  rw [rel_pos (by omega),Int.mul_add]
  have:=Int.mul_ediv_self_le (x:=x-1) (k:=t.t) (by omega)
  omega
theorem wk_zero (l:List Tk) {x:Int} (h:x≤0):wk l x=0:=by
 induction l with
 | nil=>rfl
 | cons t l ih=>rw [wk,ih,rel_zero h];simp
theorem wk_mono {l:List Tk} {x y:Int} (hl:∀ t∈l,0<t.t∧0≤t.c) (h:x≤y):wk l x≤wk l y:=by
 induction l with
 | nil=>simp [wk]
 | cons t l ih=>
  have ht:=hl t (by simp)
  rw [wk,wk]
  have h1:=ih (fun a ha=>hl a (by simp [ha]))
  have h2:=Int.mul_le_mul_of_nonneg_left (rel_mono ht.1 h) ht.2
  omega
theorem wk_append {l m:List Tk} {x:Int}:wk (l++m) x=wk l x+wk m x:=by
 induction l with
 | nil=>simp [wk]
 | cons t l ih=>rw [List.cons_append,wk,wk,ih];omega
theorem wk_take {l:List Tk} {i:Nat} (h:i<l.length) (x:Int):wk (l.take (i+1)) x=wk (l.take i) x+l[i].c*rel l[i] x:=by
 rw [List.take_succ_eq_append_getElem h,wk_append];simp [wk]
theorem term_le {t:Tk} {x:Int} (h:chk t=true) (hx:0≤x):0≤t.c*rel t x∧t.c*rel t x≤x+2147483648:=by
 obtain ⟨-,-,h1,h2,h3,h4,-⟩:=chk_iff.1 h
 have h0:=rel_nonneg (t:=t) (x:=x) (by omega)
 refine ⟨Int.mul_nonneg (by omega) h0,?_⟩
 have h5:=Int.mul_le_mul_of_nonneg_right (show t.c≤t.t by omega) h0
 rcases rel_le (t:=t) (by omega) hx with h6|h6
 · omega
 · subst h6;rw [rel_zero (by omega)];simp
theorem wk_le {l:List Tk} {x:Int} (hl:∀ t∈l,chk t=true) (hx:0≤x):0≤wk l x∧wk l x≤l.length*(x+2147483648):=by
 induction l with
 | nil=>simp [wk]
 | cons t l ih=>
  have h1:=term_le (hl t (by simp)) hx
  have h2:=ih (fun a ha=>hl a (by simp [ha]))
  simp only [wk,List.length_cons]
  have:((l.length+1:Nat):Int)*(x+2147483648)=l.length*(x+2147483648)+(x+2147483648):=by rw [Int.natCast_add,Int.add_mul];simp
  omega
theorem wk_period {l:List Tk} {p:Int} (hp:0<p) (hl:∀ t∈l,0<t.t∧p%t.t=0):wk l p=work p l:=by
 induction l with
 | nil=>rfl
 | cons t l ih=>
  have ht:=hl t (by simp)
  rw [wk,work,ih (fun a ha=>hl a (by simp [ha])),rel_mul ht.1 hp ht.2]
theorem wk_pos {l:List Tk} (hl:∀ t∈l,0<t.t∧1≤t.c) (hne:l≠[]) {x:Int} (hx:1≤x):1≤wk l x:=by
 cases l with
 | nil=>exact absurd rfl hne
 | cons t l=>
  have ht:=hl t (by simp)
  have h1:=wk_mono (l:=t :: l) (x:=1) (y:=x) (fun a ha=>⟨(hl a ha).1,by have:=(hl a ha).2;omega⟩) hx
  have h2:=wk_mono (l:=l) (x:=0) (y:=1) (fun a ha=>⟨(hl a (by simp [ha])).1,by have:=(hl a (by simp [ha])).2;omega⟩) (by omega)
  rw [wk_zero l (Int.le_refl 0)] at h2
  rw [wk,rel_one ht.1] at h1
  omega
def seek (l:List Tk):Nat→Int→Int
 | 0,x=>x
 | n+1,x=>if wk l x=x then x else seek l n (x+1)
structure Len (l:List Tk) (n:Int):Prop where
 pos:1≤n
 fix:wk l n=n
 more:∀ k,1≤k→k<n→k<wk l k
theorem Len.uniq {l:List Tk} {n m:Int} (h:Len l n) (k:Len l m):n=m:=by
 rcases Int.lt_trichotomy n m with h1|h1|h1
 · have:=k.more n h.pos h1;have:=h.fix;omega
 · exact h1
 · have:=h.more m k.pos h1;have:=k.fix;omega
theorem len_of {l:List Tk} (hl:∀ t∈l,0<t.t∧1≤t.c) (hne:l≠[]) {p:Int} (hp:1≤p) (hw:wk l p≤p):∃ n,Len l n∧n≤p:=by
 have key:∀ (d:Nat) (x:Int),1≤x→x+d=p→(∀ k,1≤k→k<x→k<wk l k)→∃ n,Len l n∧n≤p:=by
  intro d
  induction d with
  | zero=>
   intro x hx he hk
   have:x=p:=by omega
   subst this
   refine ⟨x,⟨hx,?_,hk⟩,Int.le_refl _⟩
   rcases Int.lt_or_le x 2 with h2|h2
   · have:=wk_pos hl hne hx;omega
   ·have h3:=hk (x-1) (by omega) (by omega)
    have h4:=wk_mono (l:=l) (x:=x-1) (y:=x) (fun a ha=>⟨(hl a ha).1,by have:=(hl a ha).2;omega⟩) (by omega)
    omega
  | succ d ih=>
   intro x hx he hk
   by_cases hlt:x<wk l x
   · exact ih (x+1) (by omega) (by omega) (fun k h1 h2=>by
    by_cases h3:k=x
    · subst h3;exact hlt
    · exact hk k h1 (by omega))
   ·refine ⟨x,⟨hx,?_,hk⟩,by omega⟩
    rcases Int.lt_or_le x 2 with h2|h2
    · have:=wk_pos hl hne hx;omega
    ·have h3:=hk (x-1) (by omega) (by omega)
     have h4:=wk_mono (l:=l) (x:=x-1) (y:=x) (fun a ha=>⟨(hl a ha).1,by have:=(hl a ha).2;omega⟩) (by omega)
     omega
 exact key (p-1).toNat 1 (by omega) (by omega) (fun k h1 h2=>by omega)
theorem Len.first {l:List Tk} {n:Int} (h:Len l n):∀ k,1≤k→k<n→wk l k≠k:=fun k h1 h2=>by have:=h.more k h1 h2;omega
theorem Len.under {l:List Tk} {n x:Int} (hl:∀ t∈l,0<t.t∧0≤t.c) (h:Len l n) (hx:x≤n):wk l x≤n:=by
 have:=wk_mono hl hx;have:=h.fix;omega
theorem Len.step {l:List Tk} {n x:Int} (hl:∀ t∈l,0<t.t∧0≤t.c) (h:Len l n) (h1:1≤x) (h2:x≤n):(x=n∧wk l x=x)∨(x<n∧x<wk l x∧wk l x≤n):=by
 by_cases e:x=n
 · left;subst e;exact ⟨rfl,h.fix⟩
 · right;exact ⟨by omega,h.more x h1 (by omega),h.under hl h2⟩
theorem Len.start {l:List Tk} {n:Int} (hl:∀ t∈l,0<t.t∧1≤t.c) (hne:l≠[]) (h:Len l n):1≤wk l 1∧wk l 1≤n:=
 ⟨wk_pos hl hne (Int.le_refl 1),h.under (fun a ha=>⟨(hl a ha).1,by have:=(hl a ha).2;omega⟩) h.pos⟩
structure LenR where
 n:Int
 e:Int
def lengthR (l:List Tk):LenR:=
 if (loadR l).e≠0 then ⟨0,(loadR l).e⟩ else if (loadR l).p<(loadR l).n then ⟨0,17⟩ else if l.length=0 then ⟨0,0⟩ else ⟨seek l (loadR l).p.toNat 1,0⟩
theorem seek_len {l:List Tk} {n:Int} (h:Len l n):∀ (d:Nat) (x:Int),1≤x→x≤n→n-x≤d→seek l d x=n:=by
 intro d
 induction d with
 | zero=>intro x h1 h2 h3;show x=n;omega
 | succ d ih=>
  intro x h1 h2 h3
  rw [seek]
  by_cases hw:wk l x=x
  ·rw [if_pos hw]
   rcases Int.lt_or_le x n with h4|h4
   · exact absurd hw (h.first x h1 h4)
   · omega
  ·rw [if_neg hw]
   have:x≠n:=fun e=>by subst e;exact hw h.fix
   exact ih (x+1) (by omega) (by omega) (by omega)
theorem lengthR_bad {l:List Tk} (h:(loadR l).e≠0):lengthR l=⟨0,(loadR l).e⟩:=by unfold lengthR;rw [if_pos h]
theorem lengthR_over {l:List Tk} (h:(loadR l).e=0) (h2:(loadR l).p<(loadR l).n):lengthR l=⟨0,17⟩:=by unfold lengthR;rw [if_neg (by omega),if_pos h2]
theorem lengthR_len {l:List Tk} {n:Int} (h:(loadR l).e=0) (h2:(loadR l).n≤(loadR l).p) (hne:l≠[]) (hn:Len l n) (hp:n≤(loadR l).p):lengthR l=⟨n,0⟩:=by
 unfold lengthR
 rw [if_neg (by omega),if_neg (by omega),if_neg (fun e=>hne (List.eq_nil_of_length_eq_zero e)),seek_len hn _ _ (by omega) hn.pos (by have:=hn.pos;omega)]
theorem lengthR_nil:lengthR []=⟨0,0⟩:=by
 have e1:(loadR []).e=0:=by decide +kernel
 have e2:¬(loadR []).p<(loadR []).n:=by decide +kernel
 unfold lengthR
 rw [if_neg (by omega),if_neg e2];rfl
theorem len_load {l:List Tk} (h:(loadR l).e=0) (h2:(loadR l).n≤(loadR l).p) (hne:l≠[]):rowB l=true∧0<(loadR l).p∧(loadR l).p≤1048576∧wk l (loadR l).p=(loadR l).n∧∃ n,Len l n∧n≤(loadR l).p:=by
 unfold loadR at h h2 ⊢
 by_cases h0:(periodR l).2=0
 ·rw [if_pos h0] at h h2 ⊢
  simp only at *
  obtain ⟨hr,p,hp,hp1,hp0,hp2⟩:=period_ok h0
  have hl:=rowB_all hr
  obtain ⟨-,-,-,hdv⟩:=pers_pos (by omega) (by omega) hl hp
  rw [hp1] at h2 ⊢
  have hw:wk l (p:Int)=work (p:Int) l:=wk_period (by omega) (fun t ht=>by
   have h1:=chk_iff.1 (hl t ht)
   have h3:=hdv t ht
   have h4:t.t=((t.t.toNat:Nat):Int):=by omega
   refine ⟨by omega,?_⟩
   rw [h4,← Int.natCast_emod,Nat.mod_eq_zero_of_dvd h3];rfl)
  refine ⟨hr,by omega,by omega,hw,len_of (fun t ht=>by have:=chk_iff.1 (hl t ht);omega) hne (by omega) (by omega)⟩
 ·rw [if_neg h0] at h
  exact absurd h h0
end Go.Proofs.YteempfoajgblaaaGreat.Bs
namespace Go.Proofs.YteempfoajgblaaaGreat.Bs
open Pm (Tk chk chk_iff rowB rowB_all rowB_len TkAt Ts wrap_in row_any rrow_any below_drewN)
open Dm (isTime isTime_iff Quo quo_of Bx bx_new)
theorem isTime_any (x:Int) (w:World) :
 Calls Tryz.prog 251 #[.int .i64 x] w fun e w'=>e=.returned (.bool (isTime x))∧w'=w:=by
 by_cases h:0≤x
 ·have E:Hid (isTime x=decide (x≤1099511627776)):=Lib.hid (by unfold isTime;apply decide_eq_decide.2;omega)
  go_enter Tryz.func251,Tryz.ntmps251
  go_wp2
  go_ret
  exact ⟨by rw [E.out];rfl,rfl⟩
 ·have E:Hid (isTime x=false):=Lib.hid (by unfold isTime;exact decide_eq_false (by omega))
  have h':x<0:=by omega
  clear h
  go_enter Tryz.func251,Tryz.ntmps251
  go_wp2
  go_ret
  exact ⟨by rw [E.out];rfl,rfl⟩
theorem rel_code {t:Tk} {x:Int} (ht:1≤t.t) (hx:0≤x):(x+t.t-1)/t.t=rel t x:=by
 by_cases h:x≤0
 ·obtain rfl:x=0:=by omega
  rw [rel_zero (by omega),Int.ediv_eq_zero_of_lt (by omega) (by omega)]
 · rw [rel_pos (by omega),show x+t.t-1=(x-1)+t.t by omega,Int.add_ediv_of_dvd_right (Int.dvd_refl _),Int.ediv_self (by omega)]
theorem released_any (t:Tk) (x:Int) (w:World) (ht:chk t=true) (h0:0≤x) (h1:x≤1099511627776) :
 Calls Tryz.prog 252 #[t.v,.int .i64 x] w fun e w'=>e=.returned (.int .i64 (rel t x))∧Below w.heap.size w w':=by
 obtain ⟨-,-,c1,c2,c3,c4,-⟩:=chk_iff.1 ht
 clear ht
 have E:=Lib.hid (rel_code (t:=t) (x:=x) (by omega) h0)
 obtain ⟨z,zb,d,d',q0,q1,wq⟩:=quo_of (a:=x+t.t-1) (t:=t.t) (by omega) (by omega) (by omega)
 generalize rel t x=r at *
 obtain ⟨ti,tc,td,tt,tm⟩:=t
 unfold Tk.v
 simp only at *
 generalize hA:x+tt=A at *
 generalize hB:A-1=B at *
 generalize B/tt=q at *
 have w1:IntKind.i64.wrap A=A:=wrap_in (by omega) (by omega)
 have w2:IntKind.i64.wrap B=B:=wrap_in (by omega) (by omega)
 go_enter Tryz.func252,Tryz.ntmps252
 go_wp2
 go_ret
 exact ⟨by rw [E.out];rfl,(Below.refl _ _).alloc (Nat.le_refl _) _⟩
theorem workR_yes {l:List Tk} {x:Int} (h:rowB l=true) (hx:isTime x=true):workR l x=wk l x:=by unfold workR;rw [if_pos ⟨h,hx⟩]
theorem workR_no {l:List Tk} {x:Int} (h:rowB l=false):workR l x=0:=by unfold workR;rw [if_neg (by rw [h];simp)]
theorem workR_no2 {l:List Tk} {x:Int} (h:isTime x=false):workR l x=0:=by unfold workR;rw [if_neg (by rw [h];simp)]
def WkRel (l:List Tk) (x:Int) (B:Nat) (w:World) (g:Nat) (s t:Value) (wx:World):Prop:=
 ∃ i:Nat,i+g=l.length∧s=.int .i64 (wk (l.take i) x)∧t=.int .i64 (i:Int)∧Below B w wx
structure Rnd (S R c M:Int):Prop where
 m:c*R=M
 wm:IntKind.i64.wrap M=M
 ws:IntKind.i64.wrap (S+M)=S+M
 r0:0≤R
 m0:0≤M
 m1:M≤1101659111424
 s0:0≤S
 s1:S≤17626545782784
theorem rnd_of {l:List Tk} {x:Int} {i:Nat} (hr:rowB l=true) (hx:isTime x=true) (hlt:i<l.length) :
 ∃ S R M,wk (l.take i) x=S∧rel l[i] x=R∧wk (l.take (i+1)) x=S+M∧Rnd S R l[i].c M:=by
 obtain ⟨h0,h1⟩:=isTime_iff.1 hx
 have hc:=rowB_all hr _ (List.getElem_mem hlt)
 have h2:=term_le hc h0
 have h3:=wk_le (l:=l.take i) (x:=x) (fun t ht=>rowB_all hr t (List.mem_of_mem_take ht)) h0
 have hl:=rowB_len hr
 have h4:((l.take i).length:Int)*(x+2147483648)≤16*(1099511627776+2147483648):=Int.mul_le_mul (by simp;omega) (by omega) (by omega) (by omega)
 have hk:=chk_iff.1 hc
 refine ⟨_,_,_,rfl,rfl,wk_take hlt x,⟨rfl,wrap_in (by omega) (by omega),wrap_in (by omega) (by omega),rel_nonneg (by omega),h2.1,by omega,h3.1,by omega⟩⟩
theorem bx_cells {b:Nat} {w w':World} {t:Tk} (h:Bx b w t w'):Bx b w t w'∧w'.cell? ⟨b,0,none⟩=some (.int .i64 t.id)∧w'.cell? ⟨b,1,none⟩=some (.int .i64 t.c)∧w'.cell? ⟨b,2,none⟩=some (.int .i64 t.d)∧w'.cell? ⟨b,3,none⟩=some (.int .i64 t.t)∧w'.cell? ⟨b,4,none⟩=some (.int .i64 t.m):=⟨h,h.c0,h.c1,h.c2,h.c3,h.c4⟩
theorem work_any (l:List Tk) (ao:Option Addr) (cap:Nat) (x:Int) (w:World) (hT:Ts ao l w) (hl:l.length≤9223372036854775807) :
 Calls Tryz.prog 244 #[.slice ao l.length cap,.int .i64 x] w fun e w'=>e=.returned (.int .i64 (workR l x))∧Below w.heap.size w w':=by
 have RO:=Lib.hid (fun w h=>row_any l ao cap w h hl)
 have TM:=Lib.hid (isTime_any x)
 have T:=Lib.hid hT
 cases hr:rowB l with
 | false=>
  have E:=Lib.hid (workR_no (x:=x) hr)
  rw [hr] at RO
  generalize workR l x=r at *
  clear hr
  go_enter Tryz.func244,Tryz.ntmps244
  go_wp2_with fail
  (with_reducible refine (RO.out _ hT).mono ?_)
  rintro e w1 ⟨rfl,b1⟩
  have K1:=Lib.hid b1
  clear b1 hT
  go_wp2
  go_ret
  exact ⟨by rw [E.out];rfl,K1.out⟩
 | true=>
  rw [hr] at RO
  cases hx:isTime x with
  | false=>
   have E:=Lib.hid (workR_no2 (l:=l) hx)
   rw [hx] at TM
   generalize workR l x=r at *
   clear hr hx
   go_enter Tryz.func244,Tryz.ntmps244
   go_wp2_with fail
   (with_reducible refine (RO.out _ hT).mono ?_)
   rintro e w1 ⟨rfl,b1⟩
   have K1:=Lib.hid b1
   clear b1 hT
   go_wp2_with fail
   (with_reducible refine (TM.out _).mono ?_)
   rintro e w2 ⟨rfl,rfl⟩
   go_wp2
   go_ret
   exact ⟨by rw [E.out];rfl,K1.out⟩
  | true=>
   have E:=Lib.hid (workR_yes hr hx)
   rw [hx] at TM
   obtain ⟨h0,h1⟩:=isTime_iff.1 hx
   have RD:=Lib.hid (fun i (hlt:i<l.length)=>rnd_of hr hx hlt)
   have RL:=Lib.hid (fun i (hlt:i<l.length) w=>released_any l[i] x w (rowB_all hr _ (List.getElem_mem hlt)) h0 h1)
   generalize workR l x=r at *
   clear hr hx
   go_enter Tryz.func244,Tryz.ntmps244
   go_wp2_with fail
   (with_reducible refine (RO.out _ hT).mono ?_)
   rintro e w1 ⟨rfl,b1⟩
   have K1:=Lib.hid b1
   clear b1 hT RO
   go_wp2_with fail
   (with_reducible refine (TM.out _).mono ?_)
   rintro e w2 ⟨rfl,rfl⟩
   clear TM
   go_wp2_with fail
   go_loopg [5,18] l.length (WkRel l x w.heap.size w)
   case atStart=>exact ⟨0,by omega,by simp [wk],rfl,K1.out⟩
   case round=>
    obtain ⟨i,hi,rfl,rfl,hB⟩:=hrel
    have TQ:=T.out.below hB (Nat.le_refl _)
    by_cases hlt:i<l.length
    ·obtain ⟨b,off,rfl,hb,hat⟩:=TQ (by omega)
     have hx:=hat i l[i] (List.getElem?_eq_getElem hlt)
     obtain ⟨S,R,M,e1,e2,e3,st⟩:=RD.out i hlt
     have ON:=Lib.hid (fun w=>RL.out i hlt w)
     rw [e2] at ON
     rw [e1]
     have HI:=Lib.hid hi
     have KB:=Lib.hid hB
     have NX:=Lib.hid e3
     have hg0:0<gk:=by omega
     clear hi hat TQ hB e1 e2 e3 RL RD
     generalize l[i]=t at *
     obtain ⟨c0,c1,c2,c3,c4⟩:=hx
     obtain ⟨ti,tc,td,tt,tm⟩:=t
     unfold Tk.v at ON
     simp only at c0 c1 c2 c3 c4 ON st
     have B0:=Lib.hid (bx_new wr ⟨ti,tc,td,tt,tm⟩ 45)
     simp only at B0
     obtain ⟨sm,wm,ws,r0,m0,m1,s0,s1⟩:=st
     go_wp2_with fail
     obtain ⟨d0,d1,d2,d3,d4,-⟩:=B0.out
     have BD:=Lib.hid B0.out.drew
     generalize wr.alloc (.cells #[.int .i64 ti,.int .i64 tc,.int .i64 td,.int .i64 tt,.int .i64 tm] 45)=wa at *
     go_region_held3 (fun w'=>Bx wr.heap.size wr ⟨ti,tc,td,tt,tm⟩ w'∧w'.cell? ⟨wr.heap.size,0,none⟩=some (.int .i64 ti)∧w'.cell? ⟨wr.heap.size,1,none⟩=some (.int .i64 tc)∧w'.cell? ⟨wr.heap.size,2,none⟩=some (.int .i64 td)∧w'.cell? ⟨wr.heap.size,3,none⟩=some (.int .i64 tt)∧w'.cell? ⟨wr.heap.size,4,none⟩=some (.int .i64 tm)) (first|exact bx_cells BD.out|assumption|fail) (first|(go_at_call 252;(with_reducible refine (ON.out _).mono ?_);rintro e w3 ⟨rfl,b3⟩;(have B3:=BD.out.call b3);(have S3:=bx_cells B3))|fail)
     all_goals
      have FIN:=Lib.hid (KB.out.trans (B3.bel.mono KB.out.size))
      clear B3 S3 BD
      go_wp2
      go_roundg (gk-1)
      case measure=>omega
      case rel=>exact ⟨i+1,by have:=HI.out;omega,by rw [NX.out],by go_num,FIN.out⟩
    ·have hge:(l.length:Int)≤(i:Int):=by omega
     rw [List.take_of_length_le (by omega)]
     have K2:=Lib.hid hB
     clear hB TQ hi hlt RL RD
     go_wp2
     go_ret
     exact ⟨by rw [E.out];rfl,K2.out⟩
end Go.Proofs.YteempfoajgblaaaGreat.Bs
namespace Go.Proofs.YteempfoajgblaaaGreat.Bs
open Go.ChangeShapes Go.WideShapes Go.ChangeAt Go.RowKit Go.Joins Go.Shelf
open Pm (Tk chk chk_iff rowB rowB_all rowB_len TkAt Ts)
attribute [local go_sem] Oper.semAt_some
def chainW (l:List Tk):Int→List Int→Prop
 | _,[]=>True
 | x,y :: r=>y=workR l x∧chainW l y r
def lastI (x:Int):List Int→Int
 | []=>x
 | y :: r=>lastI y r
theorem lastI_snoc (x y:Int) (r:List Int):lastI x (r++[y])=y:=by
 induction r generalizing x with
 | nil=>rfl
 | cons z r ih=>exact ih z
theorem chainW_snoc {l:List Tk}:∀ {r:List Int} {x y:Int},chainW l x (r++[y])↔chainW l x r∧y=workR l (lastI x r):=by
 intro r
 induction r with
 | nil=>intro x y;exact ⟨fun h=>⟨trivial,h.1⟩,fun h=>⟨h.2,trivial⟩⟩
 | cons z r ih=>intro x y;exact ⟨fun h=>⟨⟨h.1,(ih.1 h.2).1⟩,(ih.1 h.2).2⟩,fun h=>⟨h.1.1,ih.2 ⟨h.1.2,h.2⟩⟩⟩
structure Off (lo hi:Nat) (A B:World):Prop where
 os:B.os=A.os
 tape:B.tape=A.tape
 output:B.output=A.output
 size:A.heap.size≤B.heap.size
 block:∀ k,k<A.heap.size→(k<lo∨hi≤k)→B.heap[k]?=A.heap[k]?
theorem Off.of_below {lo hi:Nat} {A B:World} (h:Below A.heap.size A B):Off lo hi A B:=⟨h.os,h.tape,h.output,h.size,fun k hk _=>h.block k hk⟩
theorem Off.mono {lo hi lo' hi':Nat} {A B:World} (h:Off lo hi A B) (h1:lo'≤lo) (h2:hi≤hi'):Off lo' hi' A B:=⟨h.os,h.tape,h.output,h.size,fun k hk ho=>h.block k hk (by omega)⟩
theorem Off.put {lo hi k:Nat} (A:World) (o:Obj) (h1:lo≤k) (h2:k<hi):Off lo hi A (A.putObj k o):=⟨rfl,rfl,rfl,by simp [World.putObj],fun j hj ho=>World.putObj_heap_other (by omega)⟩
theorem Off.below {lo hi N:Nat} {A B W:World} (h:Off lo hi A B) (h1:N≤lo) (hb:Below N W A) (h2:N≤W.heap.size):Below N W B:=
 ⟨h.os.trans hb.os,h.tape.trans hb.tape,h.output.trans hb.output,Nat.le_trans hb.size h.size,fun k hk=>(h.block k (by have:=hb.size;omega) (by omega)).trans (hb.block k hk)⟩
theorem Ts.of_block {b:Nat} {ao:Option Addr} {l:List Tk} {A B:World} (hT:Ts ao l A) (hbo:0<l.length→∀ k off,ao=some ⟨k,off,none⟩→k=b) (hs:A.heap.size≤B.heap.size) (h:B.heap[b]?=A.heap[b]?):Ts ao l B:=fun h0=>by
 obtain ⟨g,off,rfl,hl,hc⟩:=hT h0
 obtain rfl:=hbo h0 g off rfl
 exact ⟨g,off,rfl,by omega,fun i x hi=>(hc i x hi).of_block h⟩
theorem stepping_any (ao:Option Addr) (n cap:Nat) (w:World) :
 Calls Tryz.prog 233 #[.slice ao n cap] w fun e w'=>e=.returned (.func (.func 243) #[] #[.pointer (some ⟨w.heap.size,0,none⟩),.pointer (some ⟨w.heap.size+1,0,none⟩)])∧w'=(w.alloc (.cells #[.slice ao n cap] 75)).alloc (.cells #[.int .i64 1] 2):=by
 go_enter Tryz.func233,Tryz.ntmps233
 go_wp2
 go_ret
 exact ⟨rfl,rfl⟩
theorem steps_any (ao:Option Addr) (n cap:Nat) (w:World) :
 Calls Tryz.prog 222 #[.slice ao n cap] w fun e w'=>e=.returned (.func (.func 232) #[] #[.pointer (some ⟨w.heap.size,0,none⟩)])∧w'=w.alloc (.cells #[.slice ao n cap] 75):=by
 go_enter Tryz.func222,Tryz.ntmps222
 go_wp2
 go_ret
 exact ⟨rfl,rfl⟩
structure St (B b:Nat) (ao:Option Addr) (l:List Tk) (cap:Nat) (x:Int) (w:World):Prop where
 box:w.heap[B]?=some (.cells #[.slice ao l.length cap] 75 (0,0))
 num:w.heap[B+1]?=some (.cells #[.int .i64 x] 2 (0,0))
 row:Ts ao l w
theorem step_any (B b:Nat) (ao:Option Addr) (l:List Tk) (cap:Nat) (x:Int) (w:World) (hl:l.length≤9223372036854775807) (hbo:0<l.length→∀ k off,ao=some ⟨k,off,none⟩→k=b) (hb:b<B) (h:St B b ao l cap x w) :
 Calls Tryz.prog 243 #[.pointer (some ⟨B,0,none⟩),.pointer (some ⟨B+1,0,none⟩)] w fun e w'=>e=.returned (.int .i64 (workR l x))∧St B b ao l cap (workR l x) w'∧Off B (B+2) w w':=by
 have WK:=Lib.hid (work_any l ao cap x w h.row hl)
 have cB:w.cell? ⟨B,0,none⟩=some (.slice ao l.length cap):=by rw [Lib.cell_of_heap h.box];rfl
 have cX:w.cell? ⟨B+1,0,none⟩=some (.int .i64 x):=by rw [Lib.cell_of_heap h.num];rfl
 have hB1:B+1<w.heap.size:=(Array.getElem?_eq_some_iff.1 h.num).1
 have H:=Lib.hid h
 have FIN:Hid (∀ w1 y,Below w.heap.size w w1→w1.cell? ⟨B+1,0,none⟩=some (.int .i64 x)∧w1.frozen? ⟨B+1,0,none⟩=false∧St B b ao l cap y (w1.setCell ⟨B+1,0,none⟩ (.int .i64 y))∧Off B (B+2) w (w1.setCell ⟨B+1,0,none⟩ (.int .i64 y))):=Lib.hid (fun w1 y b1=>by
  have n1:=(b1.block (B+1) hB1).trans h.num
  have hz:=b1.size
  have other:∀ k,k≠B+1→(w1.setCell ⟨B+1,0,none⟩ (.int .i64 y)).heap[k]?=w1.heap[k]?:=fun k hn=>Below.heap_setCell _ _ _ _ hn
  have hsz:(w1.setCell ⟨B+1,0,none⟩ (.int .i64 y)).heap.size=w1.heap.size:=by simp [World.setCell]
  refine ⟨by rw [Lib.cell_of_heap n1];rfl,Lib.frozen_of_heap n1 0,⟨?_,?_,?_⟩,⟨b1.os,b1.tape,b1.output,by omega,fun k hk ho=>(other k (by omega)).trans (b1.block k hk)⟩⟩
  · rw [other B (by omega)];exact (b1.block B (by omega)).trans h.box
  · simp [World.setCell,Array.getElem?_modify,n1]
  · exact Ts.of_block (h.row.call b1) hbo (by omega) (other b (by omega)))
 clear h hB1
 generalize workR l x=y at *
 go_enter Tryz.func243,Tryz.ntmps243
 go_wp2_with fail
 (with_reducible refine WK.out.mono ?_)
 rintro e w1 ⟨rfl,b1⟩
 obtain ⟨c1,f1,s1,o1⟩:=FIN.out w1 y b1
 have S1:=Lib.hid s1
 have O1:=Lib.hid o1
 clear b1 FIN WK s1 o1 cB cX
 go_wp2
 go_ret
 exact ⟨rfl,S1.out,O1.out⟩
def Kq (b N:Nat) (A B:World):Prop:=B.heap[b]?=A.heap[b]?∧B.heap[N]?=A.heap[N]?∧B.heap[N+1]?=A.heap[N+1]?∧A.heap.size≤B.heap.size
theorem Kq.trans {b N:Nat} {A B C:World} (h:Kq b N A B) (k:Kq b N B C):Kq b N A C:=⟨k.1.trans h.1,k.2.1.trans h.2.1,k.2.2.1.trans h.2.2.1,Nat.le_trans h.2.2.2 k.2.2.2⟩
theorem Kq.put {b N k:Nat} (A:World) (o:Obj) (h1:k≠b) (h2:k<N):Kq b N A (A.putObj k o):=⟨World.putObj_heap_other (Ne.symm h1),World.putObj_heap_other (by omega),World.putObj_heap_other (by omega),by simp [World.putObj]⟩
theorem Kq.st {b N:Nat} {A B:World} {ao:Option Addr} {l:List Tk} {cap:Nat} {x:Int} (hbo:0<l.length→∀ k off,ao=some ⟨k,off,none⟩→k=b) (h:Kq b N A B) (s:St N b ao l cap x A):St N b ao l cap x B:=
 ⟨h.2.1.trans s.box,h.2.2.1.trans s.num,Ts.of_block s.row hbo h.2.2.2 h.1⟩
def encS (x:Int):Array Value:=#[.int .i64 x]
def SgRel (M N b:Nat) (ao:Option Addr) (l:List Tk) (cap:Nat) (J:List Int→World→Prop) (g:Nat) (wr:World):Prop:=
 ∃ pre,pre.length+g=M∧chainW l 1 pre∧J pre wr∧St N b ao l cap (lastI 1 pre) wr
theorem steps1_in (n:Nat) (hn:1≤n) (Y X0 b M:Nat) (l:List Tk) (ao:Option Addr) (cap:Nat) (hl:l.length≤9223372036854775807) (hbo:0<l.length→∀ k off,ao=some ⟨k,off,none⟩→k=b) (J Jx:List Int→World→Prop) (W:World)
 (hJ:∀ pre A B,J pre A→Off W.heap.size (W.heap.size+2) A B→J pre B) (hM:∀ pre A,J pre A→pre.length≤M)
 (hY:∀ pre x A,W.heap.size+2≤A.heap.size→J pre A→chainW l 1 (pre++[x])→YieldAt Fence.wide (n-1) Tryz.prog Y (encS x) A fun e B=>
  (e=.returned (.bool true)∧J (pre++[x]) B∧Kq b W.heap.size A B)∨(e=.returned (.bool false)∧Jx (pre++[x]) B))
 (hX:W.cell? ⟨X0,0,none⟩=some (.slice ao l.length cap)) (hT:Ts ao l W) (hb:b<W.heap.size) (h0:J [] W) :
 CallsIn Fence.wide n Tryz.prog 232 #[.func (.yield Y) #[] #[],.pointer (some ⟨X0,0,none⟩)] W fun e W'=>(∃ v,e=.returned v)∧∃ pre,chainW l 1 pre∧Jx pre W':=by
 have SG:=Lib.hid (fun k w=>(callsIn_wide (n:=k)).2 (stepping_any ao l.length cap w))
 have SA:=Lib.hid (fun k x w h=>(callsIn_wide (n:=k)).2 (step_any W.heap.size b ao l cap x w hl hbo hb h))
 have HJ:=Lib.hid hJ
 have HM:=Lib.hid hM
 have S0:Hid (J [] ((W.alloc (.cells #[.slice ao l.length cap] 75)).alloc (.cells #[.int .i64 1] 2))∧St W.heap.size b ao l cap 1 ((W.alloc (.cells #[.slice ao l.length cap] 75)).alloc (.cells #[.int .i64 1] 2))):=Lib.hid (by
  have b2:Below W.heap.size W ((W.alloc (.cells #[.slice ao l.length cap] 75)).alloc (.cells #[.int .i64 1] 2)):=((Below.refl _ _).alloc (Nat.le_refl _) _).alloc (by simp) _
  refine ⟨hJ _ _ _ h0 (Off.of_below b2),⟨?_,?_,hT.call b2⟩⟩
  all_goals simp only [World.alloc,Array.getElem?_push,Array.size_push]
  · rw [if_neg (by omega),if_pos trivial]
  · rw [if_pos trivial])
 have SG0:=Lib.hid (SG.out (n-1) W)
 clear SG
 refine callsIn_of_wp Tryz.func232 rfl trivial ?_ rfl
 simp only [Tryz.ntmps232,List.size_toArray,List.length_cons,List.length_nil,Nat.reduceAdd,Nat.reduceSub,Array.replicate_succ,Array.replicate_zero,List.push_toArray,List.append_toArray,List.nil_append,List.cons_append]
 have HYY:=Lib.hid hY
 clear hJ hM hY h0 hT
 gi_wp2
 refine ⟨trivial,SG0.out.mono ?_⟩
 rintro e w1 ⟨rfl,e1⟩
 obtain ⟨j0,s0⟩:=S0.out
 rw [← e1] at j0 s0
 have J0:=Lib.hid j0
 have T0:=Lib.hid s0
 clear e1 j0 s0 S0 SG0 hX
 gi_wp2
 gi_loopw [] (fun wr=>∃ g,SgRel M W.heap.size b ao l cap J g wr) (fun wr=>leastOf (fun g=>SgRel M W.heap.size b ao l cap J g wr))
 case atStart=>exact ⟨M,[],by simp,trivial,J0.out,T0.out⟩
 case round=>
  have hsp:=leastOf_spec hrel
  have LE:=Lib.hid (fun (wr':World) (h:∃ g,g<leastOf (fun g=>SgRel M W.heap.size b ao l cap J g wr)∧SgRel M W.heap.size b ao l cap J g wr')=>(show (∃ g,SgRel M W.heap.size b ao l cap J g wr')∧leastOf (fun g=>SgRel M W.heap.size b ao l cap J g wr')<leastOf (fun g=>SgRel M W.heap.size b ao l cap J g wr) by
   obtain ⟨g,h1,h2⟩:=h
   exact ⟨⟨g,h2⟩,Nat.lt_of_le_of_lt ((leastOf_spec ⟨g,h2⟩).2 g h2) h1⟩))
  obtain ⟨⟨pre,hg,hc,hj,hst⟩,-⟩:=hsp
  generalize leastOf (fun g=>SgRel M W.heap.size b ao l cap J g wr)=gk at *
  have hML:=HM.out _ _ hj
  have SA1:=Lib.hid (SA.out (n-1) _ wr hst)
  have PC:=Lib.hid hc
  have PJ:=Lib.hid hj
  have PG:=Lib.hid hg
  have PS:=Lib.hid ((Array.getElem?_eq_some_iff.1 hst.num).1)
  clear hrel hg hc hj hst J0 T0 hML
  gi_wp2
  refine ⟨trivial,SA1.out.mono ?_⟩
  rintro e w2 ⟨rfl,s2,o2⟩
  have CH:Hid (chainW l 1 (pre++[workR l (lastI 1 pre)])):=Lib.hid (chainW_snoc.2 ⟨PC.out,rfl⟩)
  have LA:Hid (lastI 1 (pre++[workR l (lastI 1 pre)])=workR l (lastI 1 pre)):=Lib.hid (lastI_snoc _ _ _)
  have j2:=HJ.out _ _ _ PJ.out o2
  have S2:=Lib.hid s2
  have z2:=o2.size
  generalize workR l (lastI 1 pre)=y at *
  obtain ⟨fn,tmps,assign,body,hy,hR⟩:=HYY.out pre y w2 (by have:=PS.out;omega) j2 CH.out
  have HR:=Lib.hid hR
  unfold encS at hy
  clear hR s2 o2 j2 z2 SA1
  gi_wp2
  refine HR.out.mono ?_
  rintro e W3 (⟨rfl,hJ3,hk3⟩|⟨rfl,hJx3⟩)
  ·have J3:=Lib.hid hJ3
   have T3:=Lib.hid (hk3.st hbo S2.out)
   have RR:Hid ((∃ g,SgRel M W.heap.size b ao l cap J g W3)∧leastOf (fun g=>SgRel M W.heap.size b ao l cap J g W3)<gk):=Lib.hid (LE.out W3 (by
    have h1:=HM.out _ _ J3.out
    have h2:=PG.out
    simp only [List.length_append,List.length_singleton] at h1
    exact ⟨gk-1,by omega,_,by simp only [List.length_append,List.length_singleton];omega,CH.out,J3.out,by rw [LA.out];exact T3.out⟩))
   clear hJ3 hk3
   gi_wp2
   go_roundw
   case rel=>exact RR.out.1
   case measure=>exact RR.out.2
  ·gi_wp2
   go_end0
   exact ⟨⟨_,rfl⟩,_,CH.out,hJx3⟩
end Go.Proofs.YteempfoajgblaaaGreat.Bs
namespace Go.Proofs.YteempfoajgblaaaGreat.Bs
open Go.ChangeShapes Go.WideShapes Go.ChangeAt Go.RowKit Go.Joins Go.Shelf
open Pm (Tk chk chk_iff rowB rowB_all rowB_len TkAt Ts)
theorem enter_steps (args:Array Value) (w:World):(callFunc 232 args).run Tryz.prog w=.ok (.enter 232 args) w:=enters_of Tryz.func232 (by kernel_rfl) rfl args w
def recOf (fn:FuncId) (a:Act) (ps:Array Tmp) (assign body:Code) (D:Nat) (st:LoopState) (pe:Option Code):Obj:=
 .loop { state:=st,pending:=pe,fn:=fn,tmps:=a.tmps,params:=ps,assign:=assign,body:=body,defers:=D }
theorem range_steps {g:Operand} {ps:Array Tmp} {assign body:Code} {Q:Exit→Act→World→Prop} {a:Act} {w:World} (n:Nat) (hn:2≤n)
 (l:List Tk) (ao:Option Addr) (cap X0 b M:Nat) (hl:l.length≤9223372036854775807) (hbo:0<l.length→∀ k off,ao=some ⟨k,off,none⟩→k=b)
 (hg:a.eval g=.func (.func 232) #[] #[.pointer (some ⟨X0,0,none⟩)]) (hps:ps.size=1)
 (hX:w.cell? ⟨X0,0,none⟩=some (.slice ao l.length cap)) (hT:Ts ao l w) (hb:b<w.heap.size)
 (I:List Int→World→Prop) (Ix:Code→List Int→World→Prop)
 (hI:∀ pre A B,I pre A→Off w.heap.size (w.heap.size+4) A B→I pre B) (hIx:∀ c pre A B,Ix c pre A→Off w.heap.size (w.heap.size+4) A B→Ix c pre B)
 (hM:∀ pre A,I pre A→pre.length≤M) (h0:I [] w) (a₁:Int→Act)
 (hassign:∀ (L:Nat) (x:Int) (W:World) (K:Act→World→Prop),K (a₁ x) W →
  assign.wpIn (Fence.wide.inRound L) (n-1-1) Tryz.prog (Exit.then K (fun _ _ _=>False)) { tmps:=(ps.zip (encS x)).foldl (fun t (p,v)=>t.setIfInBounds p v) a.tmps,defers:=[] } W)
 (hbody:∀ (L:Nat) (pre:List Int) (x:Int) (W:World),w.heap.size+4≤W.heap.size→I pre W→chainW l 1 (pre++[x]) →
  body.wpIn (Fence.wide.inRound L) (n-1-1) Tryz.prog (ownPostG w.heap.size (Kq b (w.heap.size+2)) I Ix (pre++[x]) W) (a₁ x) W)
 (hstop:∀ (c:Code) (pre:List Int) (W:World),chainW l 1 pre→Ix c pre W→W.heap[w.heap.size]?=some (.deferred (some [])) →
  c.wpIn Fence.wide n Tryz.prog Q { a with defers:={ target:=.collected w.heap.size,args:=#[] } :: a.defers } W) :
 (Code.rangeFunc g ps assign body).wpIn Fence.wide n Tryz.prog Q a w:=by
 refine wpIn_rangeFunc fun fn hfn=>?_
 have b1:Below w.heap.size w ((w.alloc (.deferred (some []))).alloc (recOf fn a ps assign body w.heap.size .ready none)):=((Below.refl _ _).alloc (Nat.le_refl _) _).alloc (by simp) _
 have lay:((w.alloc (.deferred (some []))).alloc (recOf fn a ps assign body w.heap.size .ready none)).heap[w.heap.size]?=some (.deferred (some []))∧((w.alloc (.deferred (some []))).alloc (recOf fn a ps assign body w.heap.size .ready none)).heap[w.heap.size+1]?=some (recOf fn a ps assign body w.heap.size .ready none)∧((w.alloc (.deferred (some []))).alloc (recOf fn a ps assign body w.heap.size .ready none)).heap.size=w.heap.size+2:=by
  refine ⟨?_,?_,by simp⟩
  all_goals simp only [World.alloc,Array.getElem?_push,Array.size_push]
  · rw [if_neg (by omega),if_pos trivial]
  · rw [if_pos trivial]
 have ent:(Instr.enterLoop fn a.tmps ps assign body none).run Tryz.prog w=.ok (w.heap.size+1,[{ target:=.collected w.heap.size,args:=#[] }]) ((w.alloc (.deferred (some []))).alloc (recOf fn a ps assign body w.heap.size .ready none)):=run_enterLoop_outer _ _ _ _ _
 generalize (w.alloc (.deferred (some []))).alloc (recOf fn a ps assign body w.heap.size .ready none)=W1 at *
 refine ⟨w.heap.size+1,[{ target:=.collected w.heap.size,args:=#[] }],W1,{ target:=.fn (.func 232) #[.pointer (some ⟨X0,0,none⟩)],args:=#[.func (.yield (w.heap.size+1)) #[] #[]] },W1,232,#[.func (.yield (w.heap.size+1)) #[] #[],.pointer (some ⟨X0,0,none⟩)],W1,ent,?_,fun f' hf'=>trivial,?_,fun h=>by omega,?_⟩
 ·simp only [resolve,hg]
  simp [go_sem]
 · simp [invoke,go_sem,enter_steps]
 obtain ⟨d1,r1,z1⟩:=lay
 have far:∀ {lo hi:Nat} {A B:World},Off lo hi A B→w.heap.size≤lo→hi≤w.heap.size+4→Off w.heap.size (w.heap.size+4) A B:=fun h h1 h2=>h.mono h1 h2
 have kept:∀ {A B:World} {k:Nat} {o:Obj},Off W1.heap.size (W1.heap.size+2) A B→k<w.heap.size+2→A.heap[k]?=some o→B.heap[k]?=some o:=fun h h1 h2=>(h.block _ (Array.getElem?_eq_some_iff.1 h2).1 (by omega)).trans h2
 refine (steps1_in (n-1) (by omega) (w.heap.size+1) X0 b M l ao cap hl hbo
  (fun pre A=>I pre A∧A.heap[w.heap.size]?=some (.deferred (some []))∧A.heap[w.heap.size+1]?=some (recOf fn a ps assign body w.heap.size .ready none))
  (fun pre A=>∃ c,Ix c pre A∧A.heap[w.heap.size]?=some (.deferred (some []))∧A.heap[w.heap.size+1]?=some (recOf fn a ps assign body w.heap.size .done (some c)))
  W1 (fun pre A B h o=>⟨hI _ _ _ h.1 (far o (by omega) (by omega)),kept o (by omega) h.2.1,kept o (by omega) h.2.2⟩) (fun pre A h=>hM _ _ h.1) ?_
  (carry b1 hX) (hT.call b1) (by omega) ⟨hI _ _ _ h0 (Off.of_below b1),d1,r1⟩).mono ?_
 ·rintro pre x A hA ⟨hi,hd,hr⟩ hc
  refine ⟨fn,_,assign,body,run_yield hr (by show (encS x).size=ps.size;rw [hps];rfl),roundIn_of_wpIn hfn (hassign _ x A _ ⟨_,run_beginRound hr rfl,?_⟩)⟩
  have hlt:=(Array.getElem?_eq_some_iff.1 hr).1
  have o2:=Off.put (lo:=w.heap.size) (hi:=w.heap.size+4) (k:=w.heap.size+1) A (recOf fn a ps assign body w.heap.size .busy none) (by omega) (by omega)
  have k2:=Kq.put (b:=b) (N:=w.heap.size+2) (k:=w.heap.size+1) A (recOf fn a ps assign body w.heap.size .busy none) (by omega) (by omega)
  have r2:(A.putObj (w.heap.size+1) (recOf fn a ps assign body w.heap.size .busy none)).heap[w.heap.size+1]?=some (recOf fn a ps assign body w.heap.size .busy none):=World.putObj_heap_same hlt
  have d2:(A.putObj (w.heap.size+1) (recOf fn a ps assign body w.heap.size .busy none)).heap[w.heap.size]?=some (.deferred (some [])):=(World.putObj_heap_other (by omega)).trans hd
  refine wpIn_mono (hbody _ pre x (A.putObj (w.heap.size+1) (recOf fn a ps assign body w.heap.size .busy none)) (by have:=o2.size;omega) (hI _ _ _ hi o2) hc) ?_
  have behind:∀ (jump:Option Code) (W3:World),KeepsFrom w.heap.size (A.putObj (w.heap.size+1) (recOf fn a ps assign body w.heap.size .busy none)) W3→∀ o:Obj,o=recOf fn a ps assign body w.heap.size (if jump.isNone then .ready else .done) jump →
   (Instr.endRound (w.heap.size+1) jump).run Tryz.prog W3=.ok (.bool jump.isNone) (W3.putObj (w.heap.size+1) o)∧(W3.putObj (w.heap.size+1) o).heap[w.heap.size]?=some (.deferred (some []))∧(W3.putObj (w.heap.size+1) o).heap[w.heap.size+1]?=some o:=by
   rintro jump W3 k o rfl
   have r3:=k.same _ _ (by omega) r2 rfl
   exact ⟨run_endRound jump r3,(World.putObj_heap_other (by omega)).trans (k.same _ _ (Nat.le_refl _) d2 rfl),World.putObj_heap_same (Array.getElem?_eq_some_iff.1 r3).1⟩
  have off3:∀ (W3:World) (o:Obj),Off w.heap.size (w.heap.size+4) W3 (W3.putObj (w.heap.size+1) o):=fun W3 o=>Off.put W3 o (by omega) (by omega)
  rintro e a3 W3 hp
  cases e with
  | normal=>
   obtain ⟨k3,q3,i3⟩:=hp
   obtain ⟨e1,e2,e3⟩:=behind none W3 k3 _ rfl
   exact ⟨_,_,e1,.inl ⟨rfl,⟨hI _ _ _ i3 (off3 _ _),e2,e3⟩,by rw [z1];exact (k2.trans q3).trans (Kq.put W3 _ (by omega) (by omega))⟩⟩
  | ret=>
   obtain ⟨k3,i3⟩:=hp
   obtain ⟨e1,e2,e3⟩:=behind (some .ret) W3 k3 _ rfl
   exact ⟨_,_,e1,.inr ⟨rfl,_,hIx _ _ _ _ i3 (off3 _ _),e2,e3⟩⟩
  | exit id=>
   obtain ⟨k3,i3⟩:=hp
   obtain ⟨e1,e2,e3⟩:=behind (some (.exit id)) W3 k3 _ rfl
   exact ⟨_,_,e1,.inr ⟨rfl,_,hIx _ _ _ _ i3 (off3 _ _),e2,e3⟩⟩
  | goto t=>
   obtain ⟨k3,i3⟩:=hp
   obtain ⟨e1,e2,e3⟩:=behind (some (.goto t)) W3 k3 _ rfl
   exact ⟨_,_,e1,.inr ⟨rfl,_,hIx _ _ _ _ i3 (off3 _ _),e2,e3⟩⟩
  | panic ch=>exact hp.elim
  | outgrown=>exact hp.elim
 ·rintro e W2 ⟨⟨v,rfl⟩,pre,hc,c,hi,hd,hr⟩
  exact ⟨some c,_,run_endLoop hr (by simp),hstop c pre _ hc (hIx _ _ _ _ hi (Off.put W2 _ (by omega) (by omega))) ((World.putObj_heap_other (by omega)).trans hd)⟩
end Go.Proofs.YteempfoajgblaaaGreat.Bs
namespace Go.Proofs.YteempfoajgblaaaGreat.Bs
open Go.ChangeShapes Go.WideShapes Go.ChangeAt Go.RowKit Go.Joins Go.Shelf
open Pm (Tk chk chk_iff rowB rowB_all rowB_len TkAt Ts loadR over_any)
open Dm (isTime isTime_iff)
attribute [local go_sem] Oper.semAt_some
def Good (l:List Tk) (m:Int):Prop:=0≤m∧m≤1048576∧((l=[]∧m=0)∨(l≠[]∧rowB l=true∧Len l m))
theorem lastI_two {r:List Int} (h:r≠[]) (x y:Int):lastI x r=lastI y r:=by
 cases r with
 | nil=>exact absurd rfl h
 | cons z r=>rfl
theorem good_next {l:List Tk} {m:Int} (h:Good l m) {pre:List Int} {x:Int} (hc:chainW l 1 (pre++[x])) (h1:(pre.length:Int)≤lastI 0 pre) (h2:lastI 0 pre≤m) :
 (x=lastI 0 pre∧lastI 0 pre=m)∨(x≠lastI 0 pre∧lastI 0 pre<x∧x≤m):=by
 obtain ⟨m0,m1,⟨rfl,rfl⟩|⟨hne,hr,hm⟩⟩:=h
 ·have hx:=(chainW_snoc.1 hc).2
  have e0:workR [] (lastI 1 pre)=0:=by unfold workR;split <;> rfl
  left
  constructor <;> omega
 ·have hx:=(chainW_snoc.1 hc).2
  have hl:∀ t∈l,0<t.t∧1≤t.c:=fun t ht=>by have:=chk_iff.1 (rowB_all hr t ht);omega
  have hl0:∀ t∈l,0<t.t∧0≤t.c:=fun t ht=>by have:=hl t ht;omega
  cases pre with
  | nil=>
   right
   have:=hm.start hl hne
   simp only [lastI] at *
   rw [workR_yes hr (by decide)] at hx
   omega
  | cons z r=>
   have e:=lastI_two (r:=z :: r) (by simp) 1 0
   rw [e] at hx
   simp only [List.length_cons] at h1
   rw [workR_yes hr (isTime_iff.2 ⟨by omega,by omega⟩)] at hx
   rcases hm.step hl0 (x:=lastI 0 (z :: r)) (by omega) h2 with ⟨h3,h4⟩|⟨h3,h4,h5⟩
   · left;exact ⟨by omega,h3⟩
   · right;omega
theorem good_of {l:List Tk} (h:(loadR l).e=0) (h2:(loadR l).n≤(loadR l).p):∃ m,Good l m∧lengthR l=⟨m,0⟩:=by
 cases hl:l with
 | nil=>exact ⟨0,⟨by omega,by omega,.inl ⟨rfl,rfl⟩⟩,lengthR_nil⟩
 | cons t r=>
  rw [← hl]
  have hne:l≠[]:=by rw [hl];simp
  obtain ⟨hr,p0,p1,-,m,hm,hmp⟩:=len_load h h2 hne
  exact ⟨m,⟨by have:=hm.pos;omega,by omega,.inr ⟨hne,hr,hm⟩⟩,lengthR_len h h2 hne hm hmp⟩
structure LnI (w:World) (Lb:Nat) (m:Int) (pre:List Int) (W:World):Prop where
 num:W.heap[Lb]?=some (.cells #[.int .i64 (lastI 0 pre)] 2 (0,0))
 bel:Below w.heap.size w W
 h1:(pre.length:Int)≤lastI 0 pre
 h2:lastI 0 pre≤m
def LnX (id:Nat) (w:World) (Lb:Nat) (m:Int) (c:Code) (pre:List Int) (W:World):Prop:=
 c=.exit id∧W.heap[Lb]?=some (.cells #[.int .i64 m] 2 (0,0))∧Below w.heap.size w W
theorem Off.at {lo hi k:Nat} {A B:World} {o:Obj} (h:Off lo hi A B) (hk:k<lo) (ho:A.heap[k]?=some o):B.heap[k]?=some o:=(h.block k (Array.getElem?_eq_some_iff.1 ho).1 (.inl hk)).trans ho
theorem lnI_off {w:World} {Lb lo hi:Nat} {m:Int} (h1:Lb<lo) (h2:w.heap.size≤lo) (pre:List Int) (A B:World) (h:LnI w Lb m pre A) (o:Off lo hi A B):LnI w Lb m pre B:=
 ⟨o.at h1 h.num,o.below h2 h.bel (Nat.le_refl _),h.h1,h.h2⟩
theorem lnX_off {id:Nat} {w:World} {Lb lo hi:Nat} {m:Int} (h1:Lb<lo) (h2:w.heap.size≤lo) (c:Code) (pre:List Int) (A B:World) (h:LnX id w Lb m c pre A) (o:Off lo hi A B):LnX id w Lb m c pre B:=
 ⟨h.1,o.at h1 h.2.1,o.below h2 h.2.2 (Nat.le_refl _)⟩
theorem length_any (l:List Tk) (ao:Option Addr) (cap:Nat) (w:World) (hT:Ts ao l w) (hl:l.length≤1000000) :
 Calls Tryz.prog 200 #[.slice ao l.length cap] w fun e w'=>e=.returned (.tuple #[.int .i64 (lengthR l).n,.int .i64 (lengthR l).e])∧Below w.heap.size w w':=by
 have OV:=Lib.hid (over_any l ao cap w hT hl)
 have SS:=Lib.hid (fun w=>steps_any ao l.length cap w)
 by_cases he:(loadR l).e=0
 ·by_cases ho:(loadR l).p<(loadR l).n
  ·have E:=Lib.hid (lengthR_over he ho)
   have ho':decide ((loadR l).p<(loadR l).n)=true:=by simpa using ho
   rw [he,ho'] at OV
   generalize lengthR l=r at *
   clear he ho ho' SS
   go_enter Tryz.func200,Tryz.ntmps200
   go_wp2_with fail
   go_step3
   go_wp2_with fail
   (with_reducible refine OV.out.mono ?_)
   rintro e w1 ⟨rfl,b1⟩
   have K1:=Lib.hid b1
   clear b1 hT
   go_wp2
   try simp only [Exit.noGoto]
   exact bodyPost_ret (v:=.tuple #[.int .i64 0,.int .i64 17]) (by simp [results,Tryz.results200,go_sem]) rfl ⟨by rw [E.out],K1.out⟩
  ·obtain ⟨m,hg,hE⟩:=good_of he (by omega)
   have E:=Lib.hid hE
   have ho':decide ((loadR l).p<(loadR l).n)=false:=by simpa using ho
   rw [he,ho'] at OV
   clear he ho ho' hE
   generalize lengthR l=r at *
   refine (callsIn_wide (n:=3)).1 ?_
   refine callsIn_of_wp_marks Tryz.func200 rfl trivial ?_ rfl
   simp only [Tryz.ntmps200,List.size_toArray,List.length_cons,List.length_nil,Nat.reduceAdd,Nat.reduceSub,Array.replicate_succ,Array.replicate_zero,List.push_toArray,List.append_toArray,List.nil_append,List.cons_append]
   refine wpIn_wide.2 ?_
   go_wp2_with fail
   go_step3
   go_wp2_with fail
   (with_reducible refine OV.out.mono ?_)
   rintro e w1 ⟨rfl,b1⟩
   have T1:=hT.call b1
   have K1:=b1
   have z1:=b1.size
   clear b1 OV
   go_wp2_with fail
   go_step3
   go_wp2_with fail
   (with_reducible refine (SS.out _).mono ?_)
   rintro e w2 ⟨rfl,e2⟩
   clear SS
   have b2:Below w1.heap.size w1 w2:=by rw [e2];exact ((Below.refl _ _).alloc (Nat.le_refl _) _).alloc (by simp) _
   have lay:w2.heap[w1.heap.size]?=some (.cells #[.int .i64 0] 2 (0,0))∧w2.heap[w1.heap.size+1]?=some (.cells #[.slice ao l.length cap] 75 (0,0))∧w2.heap.size=w1.heap.size+2:=by
    rw [e2]
    refine ⟨?_,?_,by simp⟩
    all_goals simp only [World.alloc,Array.getElem?_push,Array.size_push]
    · rw [if_neg (by omega),if_pos trivial]
    · rw [if_pos trivial]
   have he2:(w1.alloc (.cells #[.int .i64 0] 2)).heap.size=w1.heap.size+1:=by simp
   simp only [he2]
   clear e2 he2
   obtain ⟨y1,y2,z2⟩:=lay
   have T2:=T1.call b2
   have K2:=K1.trans (b2.mono z1)
   obtain ⟨b,hb,hbo⟩:∃ b,(b<w.heap.size∨b=w1.heap.size+1)∧(0<l.length→∀ k off,ao=some ⟨k,off,none⟩→k=b):=by
    by_cases h0:0<l.length
    ·obtain ⟨g,off,rfl,hg,-⟩:=hT h0
     exact ⟨g,.inl hg,fun _ k o e=>by cases e;rfl⟩
    · exact ⟨w1.heap.size+1,.inr rfl,fun h=>absurd h h0⟩
   clear T1 K1 b2 hT
   have GN:=Lib.hid (fun (pre:List Int) (x:Int) hc h1 h2=>good_next hg (pre:=pre) (x:=x) hc h1 h2)
   have cX:w2.cell? ⟨w1.heap.size+1,0,none⟩=some (.slice ao l.length cap):=by rw [Lib.cell_of_heap y2];rfl
   have I0:LnI w w1.heap.size m [] w2:=⟨y1,K2,by simp [lastI],hg.1⟩
   have m1:=hg.2.1
   clear hg y1 y2 K2
   generalize w1.heap.size=Lb at *
   go_wp2_with fail
   refine (wpIn_wide (n:=3)).1 ?_
   refine range_steps 3 (by omega) l ao cap (Lb+1) b 1048576 (by omega) hbo rfl rfl cX T2 (by omega)
    (LnI w Lb m) (LnX 1 w Lb m) (lnI_off (by omega) (by omega)) (lnX_off (by omega) (by omega)) (fun pre A h=>by have:=h.h1;have:=h.h2;omega) I0
    (fun x=>{ tmps:=#[.slice ao l.length cap,undef,.int .i64 0,.int .i64 0,.bool false,.int .i64 0,.pointer (some ⟨Lb,0,none⟩),.int .i64 x,.tuple #[.bool false,.int .i64 0],.slice ao l.length cap,.tuple #[.bool false,.int .i64 0],.bool false,.int .i64 0,.bool false,.int .i64 0,.bool false,undef,.bool false,.bool false,.slice ao l.length cap,.func (.func 232) #[] #[.pointer (some ⟨Lb+1,0,none⟩)],.int .i64 x,undef,undef,undef,undef,undef],defers:=[] }) ?assign ?body ?stop
   case assign=>
    intro Y x W K hK
    simp only [encS]
    gi_wp2
    exact hK
   case body=>
    rintro Y pre x W hz hi hc
    have c6:W.cell? ⟨Lb,0,none⟩=some (.int .i64 (lastI 0 pre)):=by rw [Lib.cell_of_heap hi.num];rfl
    have f6:W.frozen? ⟨Lb,0,none⟩=false:=Lib.frozen_of_heap hi.num 0
    rcases GN.out pre x hc hi.h1 hi.h2 with ⟨h3,h4⟩|⟨h3,h4,h5⟩
    ·have FIN:Hid (LnX 1 w Lb m (.exit 1) (pre++[x]) W):=Lib.hid ⟨rfl,by rw [← h4];exact hi.num,hi.bel⟩
     subst h3
     clear hc h4 hi T2 I0 cX f6
     generalize lastI 0 pre=c at *
     gi_wp2
     exact ⟨KeepsFrom.refl _ _,FIN.out⟩
    ·have other:∀ k,k≠Lb→(W.setCell ⟨Lb,0,none⟩ (.int .i64 x)).heap[k]?=W.heap[k]?:=fun k hn=>Below.heap_setCell _ _ _ _ hn
     have FIN:Hid (KeepsFrom w2.heap.size W (W.setCell ⟨Lb,0,none⟩ (.int .i64 x))∧Kq b (w2.heap.size+2) W (W.setCell ⟨Lb,0,none⟩ (.int .i64 x))∧LnI w Lb m (pre++[x]) (W.setCell ⟨Lb,0,none⟩ (.int .i64 x))):=Lib.hid (by
      have sz:(W.setCell ⟨Lb,0,none⟩ (.int .i64 x)).heap.size=W.heap.size:=by simp [World.setCell]
      refine ⟨⟨by omega,fun k o hk ho _=>(other k (by omega)).trans ho⟩,⟨other _ (by omega),other _ (by omega),other _ (by omega),by omega⟩,⟨?_,hi.bel.setCell (by simp;omega) _,?_,?_⟩⟩
      · rw [lastI_snoc];simp [World.setCell,Array.getElem?_modify,hi.num]
      · rw [lastI_snoc];have:=hi.h1;simp only [List.length_append,List.length_singleton];omega
      · rw [lastI_snoc];exact h5)
     have e4:(x==lastI 0 pre)=false:=by simpa using h3
     clear hc h4 h5 hi T2 I0 cX other
     generalize lastI 0 pre=c at *
     gi_wp2
     exact FIN.out
   case stop=>
    rintro c pre W hc ⟨rfl,hn,hB⟩ hD
    have c6:W.cell? ⟨Lb,0,none⟩=some (.int .i64 m):=by rw [Lib.cell_of_heap hn];rfl
    have HD:=Lib.hid hD
    have HB:=Lib.hid ((Off.put (lo:=w2.heap.size) (hi:=w2.heap.size+4) (k:=w2.heap.size) W (.deferred none) (Nat.le_refl _) (by omega)).below (by omega) hB (Nat.le_refl _))
    refine wpIn_wide.2 ?_
    clear hc hn hB hD T2 I0 cX
    go_wp2
    simp only [Exit.noGoto]
    refine ⟨by simp,.inl ⟨_,_,rfl,run_takeDeferred HD.out,?_⟩⟩
    exact ⟨.tuple #[.int .i64 m,.int .i64 0],by simp [results,Tryz.results200,go_sem],by rw [E.out],HB.out⟩
 ·have E:=Lib.hid (lengthR_bad he)
  generalize lengthR l=r at *
  generalize (loadR l).e=e0 at *
  generalize decide ((loadR l).p<(loadR l).n)=ob at *
  have h1:(e0==0)=false:=by simpa using he
  have h2:(e0 != 0)=true:=by simpa using he
  clear he SS
  go_enter Tryz.func200,Tryz.ntmps200
  go_wp2_with fail
  go_step3
  go_wp2_with fail
  (with_reducible refine OV.out.mono ?_)
  rintro e w1 ⟨rfl,b1⟩
  have K1:=Lib.hid b1
  clear b1 hT
  go_wp2
  try simp only [Exit.noGoto]
  exact bodyPost_ret (v:=.tuple #[.int .i64 0,.int .i64 e0]) (by simp [results,Tryz.results200,go_sem]) rfl ⟨by rw [E.out],K1.out⟩
end Go.Proofs.YteempfoajgblaaaGreat.Bs
namespace Go.Proofs.YteempfoajgblaaaGreat.Bs
open Pm (Tk chk chk_iff rowB rowB_all rowB_len TkAt Ts wrap_in row_any rrow_any below_drewN)
open Dm (isTime isTime_iff Quo quo_of Bx bx_new)
end Go.Proofs.YteempfoajgblaaaGreat.Bs
namespace Go.Proofs.YteempfoajgblaaaGreat.Bs
open Pm (Tk chk chk_iff rowB rowB_all rowB_len TkAt Ts wrap_in row_any rrow_any below_drewN)
open Dm (isTime isTime_iff isDl nextR nextR_is nextR_none nextR_no ans next_any)
theorem leastD_is {l:List Tk}:∀ {m:Int},leastD m l≤m∧(∀ t∈l,leastD m l≤t.d)∧(leastD m l=m∨∃ t∈l,leastD m l=t.d):=by
 induction l with
 | nil=>intro m;simp [leastD]
 | cons t l ih=>
  intro m
  rw [leastD]
  obtain ⟨h1,h2,h3⟩:=ih (m:=if t.d<m then t.d else m)
  have h4:(if t.d<m then t.d else m)≤m∧(if t.d<m then t.d else m)≤t.d∧((if t.d<m then t.d else m)=m∨(if t.d<m then t.d else m)=t.d):=by
   split
   · exact ⟨by omega,by omega,.inr rfl⟩
   · exact ⟨by omega,by omega,.inl rfl⟩
  generalize (if t.d<m then t.d else m)=k at *
  refine ⟨by omega,fun u hu=>?_,?_⟩
  ·rcases List.mem_cons.1 hu with rfl|hu
   · omega
   · exact h2 u hu
  ·rcases h3 with h3|⟨u,hu,h3⟩
   ·rcases h4.2.2 with h5|h5
    · left;omega
    · right;exact ⟨t,by simp,by omega⟩
   · right;exact ⟨u,by simp [hu],h3⟩
theorem leastR_cons {t:Tk} {r:List Tk} (h:rowB (t :: r)=true):leastR (t :: r)=leastD t.d (t :: r):=by unfold leastR;simp only;rw [if_pos h]
theorem leastR_no {l:List Tk} (h:rowB l=false):leastR l=0:=by
 unfold leastR
 split
 · rfl
 · rw [if_neg (by rw [h];simp)]
theorem next_least (l:List Tk):(nextR l 0=some (leastR l))∨(nextR l 0=none∧leastR l=0):=by
 cases hr:rowB l with
 | false=>exact .inr ⟨nextR_no hr,leastR_no hr⟩
 | true=>
  cases l with
  | nil=>exact .inr ⟨by decide,rfl⟩
  | cons t r=>
   have hl:=rowB_all hr
   have hp:∀ u∈t :: r,0<u.t:=fun u hu=>by have:=chk_iff.1 (hl u hu);omega
   left
   have hd:=fun u (hu:u∈t :: r)=>chk_iff.1 (hl u hu)
   have own:∀ u∈t :: r,isDl u u.d:=fun u hu=>⟨Int.le_refl _,by simp⟩
   obtain ⟨h1,h2,h3⟩:=leastD_is (l:=t :: r) (m:=t.d)
   rw [leastR_cons hr]
   cases hn:nextR (t :: r) 0 with
   | none=>
    have:=nextR_none hr (by decide) hp hn t (by simp) _ (own t (by simp)) (by have:=hd t (by simp);omega)
    have:=hd t (by simp)
    omega
   | some y=>
    obtain ⟨-,-,⟨v,hv,hdv⟩,h5⟩:=nextR_is hp hn
    have h6:=h2 v hv
    have h7:=hdv.1
    rcases h3 with h3|⟨u,hu,h3⟩
    ·have h8:=h5 t (by simp) _ (own t (by simp)) (by have:=hd t (by simp);omega)
     congr 1;omega
    ·have h8:=h5 u hu _ (own u hu) (by have:=hd u hu;omega)
     congr 1;omega
theorem least_any (l:List Tk) (ao:Option Addr) (cap:Nat) (w:World) (hT:Ts ao l w) (hl:l.length≤9223372036854775807) :
 Calls Tryz.prog 224 #[.slice ao l.length cap] w fun e w'=>e=.returned (.int .i64 (leastR l))∧Below w.heap.size w w':=by
 have NE:=Lib.hid (next_any l ao cap 0 w hT hl)
 obtain ⟨b,hy⟩:∃ b,ans (nextR l 0)=.tuple #[.int .i64 (leastR l),.bool b]:=by
  rcases next_least l with h|⟨h,h2⟩
  · exact ⟨true,by rw [h];rfl⟩
  · exact ⟨false,by rw [h,h2];rfl⟩
 rw [hy] at NE
 clear hy hT
 generalize leastR l=r at *
 go_enter Tryz.func224,Tryz.ntmps224
 go_wp2_with fail
 (with_reducible refine NE.out.mono ?_)
 rintro e w1 ⟨rfl,b1⟩
 go_wp2
 go_ret
 exact ⟨rfl,b1⟩
end Go.Proofs.YteempfoajgblaaaGreat.Bs
namespace Go.Proofs.YteempfoajgblaaaGreat.Bs
open Pm (Tk chk chk_iff rowB rowB_all rowB_len TkAt Ts wrap_in row_any rrow_any below_drewN Ld loadR Ld.v rload_any)
open Dm (isTime isTime_iff)
theorem cells3 (w:World) (a b c:Value) (T:TypeId):(w.alloc (.cells #[a,b,c] T)).cell? ⟨w.heap.size,0,none⟩=some a∧(w.alloc (.cells #[a,b,c] T)).cell? ⟨w.heap.size,1,none⟩=some b∧(w.alloc (.cells #[a,b,c] T)).cell? ⟨w.heap.size,2,none⟩=some c:=
 ⟨by simp [go_sem],by simp [go_sem],by simp [go_sem]⟩
end Go.Proofs.YteempfoajgblaaaGreat.Bs
