/- How much work by when: the mathematics. No dump is imported. Contracts of package demand's isTime, .. -/
import Derived.Test.YteempfoajgblaaaGreatLQC
import Derived.Test.YteempfoajgblaaaGreatLMPb
import Derived.Deep.RegionHeld3
import Derived.BigQuiet
import Derived.Laws.MakeOwn
import Derived.Test.YteempfoajgblaaaGreatLGnH
import Derived.Deep.CutBlock
set_option maxRecDepth 100000
set_option linter.unusedVariables false
set_option linter.unusedSimpArgs false
open Go.ChangeShapes Go.WideShapes Go.ChangeAt Go.RowKit Go.Joins
set_option maxHeartbeats 4000000
namespace Go.Proofs.YteempfoajgblaaaGreat.Dm
open Pm (Tk chk chk_iff rowB)
def isTime (x:Int):Bool:=decide (0≤x∧x≤1099511627776)
def cnt (t:Tk) (x:Int):Int:=if x<t.d then 0 else (x-t.d)/t.t+1
def isDl (t:Tk) (x:Int):Prop:=t.d≤x∧(x-t.d)%t.t=0
def one (t:Tk) (x:Int):Int:=t.c*cnt t x
def oneR (t:Tk) (x:Int):Int:=if chk t=true∧isTime x=true then one t x else 0
def sum (l:List Tk) (x:Int):Int:=match l with
 | []=>0
 | t :: l=>one t x+sum l x
def ofR (l:List Tk) (x:Int):Int:=if rowB l=true∧isTime x=true then sum l x else 0
def nxt (t:Tk) (x:Int):Int:=if x<t.d then t.d else t.d+t.t*((x-t.d)/t.t+1)
def nxts:List Tk→Int→Option Int
 | [],_=>none
 | t :: l,x=>match nxts l x with
  | none=>some (nxt t x)
  | some y=>some (if nxt t x<y then nxt t x else y)
theorem cnt_lt {t:Tk} {x:Int} (h:x<t.d):cnt t x=0:=by unfold cnt;rw [if_pos h]
theorem cnt_ge {t:Tk} {x:Int} (h:t.d≤x):cnt t x=(x-t.d)/t.t+1:=by unfold cnt;rw [if_neg (by omega)]
theorem cnt_nonneg {t:Tk} {x:Int} (ht:0<t.t):0≤cnt t x:=by
 unfold cnt;split
 · omega
 · have:=Int.ediv_nonneg (show 0≤x-t.d by omega) (show 0≤t.t by omega);omega
theorem parts (t:Tk) (x:Int) (ht:0<t.t) (h:t.d≤x):∃ q r,x=t.d+t.t*q+r∧0≤r∧r<t.t∧0≤q∧(x-t.d)/t.t=q∧(x-t.d)%t.t=r:=by
 refine ⟨(x-t.d)/t.t,(x-t.d)%t.t,?_,Int.emod_nonneg _ (by omega),Int.emod_lt_of_pos _ ht,Int.ediv_nonneg (by omega) (by omega),rfl,rfl⟩
 have:=Int.mul_ediv_add_emod (x-t.d) t.t
 omega
theorem div_of {a b q r:Int} (hb:0<b) (h:a=b*q+r) (h0:0≤r) (h1:r<b):a/b=q∧a%b=r:=by
 subst h
 constructor
 · rw [Int.add_comm,Int.add_mul_ediv_left _ _ (by omega),Int.ediv_eq_zero_of_lt h0 h1];omega
 · rw [Int.add_comm,Int.add_mul_emod_self_left];exact Int.emod_eq_of_lt h0 h1
theorem cnt_period {t:Tk} {x:Int} (ht:0<t.t) (hd:t.d≤t.t) (hx:0≤x):cnt t (x+t.t)=cnt t x+1:=by
 by_cases h:x<t.d
 ·rw [cnt_lt h,cnt_ge (by omega)]
  rw [(div_of (a:=x+t.t-t.d) (q:=0) (r:=x+t.t-t.d) ht (by omega) (by omega) (by omega)).1]
 ·rw [cnt_ge (by omega),cnt_ge (by omega)]
  rw [show x+t.t-t.d=(x-t.d)+t.t by omega,Int.add_ediv_of_dvd_right (Int.dvd_refl _),Int.ediv_self (by omega)]
theorem cnt_step {t:Tk} {x:Int} (ht:0<t.t):(isDl t x∧cnt t x=cnt t (x-1)+1)∨(¬isDl t x∧cnt t x=cnt t (x-1)):=by
 by_cases h:x<t.d
 ·right
  rw [cnt_lt h,cnt_lt (by omega)]
  exact ⟨fun e=>by unfold isDl at e;omega,rfl⟩
 ·obtain ⟨q,r,hx,r0,r1,q0,hq,hr⟩:=parts t x ht (by omega)
  rw [cnt_ge (show t.d≤x by omega),hq]
  unfold isDl
  rw [hr]
  by_cases e:r=0
  ·left
   refine ⟨⟨by omega,e⟩,?_⟩
   by_cases e2:x-1<t.d
   ·rw [cnt_lt e2]
    have:t.t*q=0:=by
     have:=Int.mul_nonneg (show 0≤t.t by omega) q0
     omega
    rcases Int.mul_eq_zero.1 this with h1|h1 <;> omega
   ·rw [cnt_ge (by omega)]
    have hq1:1≤q:=by
     rcases Int.lt_or_le q 1 with h1|h1
     ·have:q=0:=by omega
      subst this;simp at hx;omega
     · exact h1
    have e3:t.t*q=t.t*(q-1)+t.t:=by rw [Int.mul_sub];omega
    rw [(div_of (a:=x-1-t.d) (b:=t.t) (q:=q-1) (r:=t.t-1) ht (by omega) (by omega) (by omega)).1]
    omega
  ·right
   refine ⟨fun h1=>e h1.2,?_⟩
   have:=Int.mul_nonneg (show 0≤t.t by omega) q0
   rw [cnt_ge (by omega),(div_of (a:=x-1-t.d) (b:=t.t) (q:=q) (r:=r-1) ht (by omega) (by omega) (by omega)).1]
theorem cnt_mono {t:Tk} (ht:0<t.t):∀ (n:Nat) (x:Int),cnt t x≤cnt t (x+n):=by
 intro n
 induction n with
 | zero=>intro x;simp
 | succ n ih=>
  intro x
  have h1:=ih x
  have h2:=cnt_step (t:=t) (x:=x+((n+1:Nat):Int)) ht
  have e:x+((n+1:Nat):Int)-1=x+(n:Int):=by omega
  rw [e] at h2
  rcases h2 with ⟨-,h2⟩|⟨-,h2⟩ <;> omega
theorem nxt_gt {t:Tk} {x:Int} (ht:0<t.t):x<nxt t x∧isDl t (nxt t x):=by
 unfold nxt isDl
 split
 · rename_i h;refine ⟨h,by omega,by simp⟩
 ·rename_i h
  obtain ⟨q,r,hx,r0,r1,q0,hq,hr⟩:=parts t x ht (by omega)
  rw [hq]
  have e:t.t*(q+1)=t.t*q+t.t:=by rw [Int.mul_add];omega
  have:=Int.mul_nonneg (show 0≤t.t by omega) q0
  refine ⟨by omega,by omega,?_⟩
  rw [show t.d+t.t*(q+1)-t.d=t.t*(q+1) by omega,Int.mul_emod_right]
theorem nxt_least {t:Tk} {x y:Int} (ht:0<t.t) (h:isDl t y) (hy:x<y):nxt t x≤y:=by
 unfold nxt
 obtain ⟨h1,h2⟩:=h
 split
 · exact h1
 ·rename_i h
  obtain ⟨q,r,hx,r0,r1,q0,hq,hr⟩:=parts t x ht (by omega)
  obtain ⟨q',r',hx',r0',r1',q0',hq',hr'⟩:=parts t y ht h1
  rw [hq]
  obtain rfl:r'=0:=by omega
  rcases Int.lt_or_le q' (q+1) with h3|h3
  ·exfalso
   have:=Int.mul_le_mul_of_nonneg_left (show q'≤q by omega) (show 0≤t.t by omega)
   omega
  ·have:=Int.mul_le_mul_of_nonneg_left h3 (show 0≤t.t by omega)
   omega
theorem nxts_some {l:List Tk} {x:Int} (h:l≠[]):∃ y,nxts l x=some y:=by
 cases l with
 | nil=>exact absurd rfl h
 | cons t l=>
  rw [nxts]
  cases nxts l x <;> exact ⟨_,rfl⟩
theorem nxts_is {l:List Tk} {x y:Int} (hl:∀ t∈l,0<t.t) (h:nxts l x=some y):x<y∧(∃ t∈l,isDl t y)∧∀ t∈l,∀ z,isDl t z→x<z→y≤z:=by
 induction l generalizing y with
 | nil=>simp [nxts] at h
 | cons t l ih=>
  have ht:=hl t (by simp)
  have hg:=nxt_gt (x:=x) ht
  rw [nxts] at h
  cases hn:nxts l x with
  | none=>
   rw [hn] at h
   simp only [Option.some.injEq] at h
   subst h
   have hnil:l=[]:=by
    cases l with
    | nil=>rfl
    | cons a l=>obtain ⟨y,hy⟩:=nxts_some (l:=a :: l) (x:=x) (by simp);rw [hy] at hn;cases hn
   subst hnil
   refine ⟨hg.1,⟨t,by simp,hg.2⟩,fun u hu z hz hxz=>?_⟩
   obtain rfl:u=t:=by simpa using hu
   exact nxt_least ht hz hxz
  | some w=>
   rw [hn] at h
   simp only [Option.some.injEq] at h
   obtain ⟨h1,⟨u,hu,hdu⟩,h3⟩:=ih (fun a ha=>hl a (by simp [ha])) hn
   by_cases hlt:nxt t x<w
   ·rw [if_pos hlt] at h;subst h
    refine ⟨hg.1,⟨t,by simp,hg.2⟩,fun v hv z hz hxz=>?_⟩
    rcases List.mem_cons.1 hv with rfl|hv
    · exact nxt_least ht hz hxz
    · have:=h3 v hv z hz hxz;omega
   ·rw [if_neg hlt] at h;subst h
    refine ⟨h1,⟨u,by simp [hu],hdu⟩,fun v hv z hz hxz=>?_⟩
    rcases List.mem_cons.1 hv with rfl|hv
    · have:=nxt_least ht hz hxz;omega
    · exact h3 v hv z hz hxz
theorem sum_step {l:List Tk} {x:Int} (hl:∀ t∈l,0<t.t∧0<t.c):sum l (x-1)≤sum l x∧(sum l (x-1)<sum l x↔∃ t∈l,isDl t x):=by
 induction l with
 | nil=>simp [sum]
 | cons t l ih=>
  have ht:=hl t (by simp)
  obtain ⟨h1,h2⟩:=ih (fun a ha=>hl a (by simp [ha]))
  simp only [sum]
  rcases cnt_step (t:=t) (x:=x) ht.1 with ⟨hd,hc⟩|⟨hd,hc⟩
  ·have e:one t x=one t (x-1)+t.c:=by unfold one;rw [hc,Int.mul_add];omega
   refine ⟨by omega,⟨fun _=>⟨t,by simp,hd⟩,fun _=>by omega⟩⟩
  ·have e:one t x=one t (x-1):=by unfold one;rw [hc]
   refine ⟨by omega,⟨fun h=>?_,fun ⟨u,hu,hdu⟩=>?_⟩⟩
   ·obtain ⟨u,hu,hdu⟩:=h2.1 (by omega)
    exact ⟨u,by simp [hu],hdu⟩
   ·rcases List.mem_cons.1 hu with rfl|hu
    · exact absurd hdu hd
    · have:=h2.2 ⟨u,hu,hdu⟩;omega
theorem cnt_le {t:Tk} (ht:0<t.t) {a b:Int} (h:a≤b):cnt t a≤cnt t b:=by
 have:=cnt_mono ht (b-a).toNat a
 rw [show a+((b-a).toNat:Int)=b by omega] at this
 exact this
def bef (t:Tk) (x:Int):Int:=t.d+t.t*((x-1-t.d)/t.t)
def befs:List Tk→Int→Int
 | [],_=>0
 | t :: l,x=>if t.d<x∧befs l x<bef t x then bef t x else befs l x
theorem bef_is {t:Tk} {x:Int} (ht:0<t.t) (h:t.d<x):bef t x<x∧t.d≤bef t x∧isDl t (bef t x)∧∀ y,isDl t y→y<x→y≤bef t x:=by
 obtain ⟨q,r,hx,r0,r1,q0,hq,hr⟩:=parts t (x-1) ht (by omega)
 unfold bef
 rw [hq]
 have:=Int.mul_nonneg (show 0≤t.t by omega) q0
 refine ⟨by omega,by omega,⟨by omega,by rw [show t.d+t.t*q-t.d=t.t*q by omega,Int.mul_emod_right]⟩,fun y hy hyx=>?_⟩
 obtain ⟨h1,h2⟩:=hy
 obtain ⟨q',r',hx',r0',r1',q0',hq',hr'⟩:=parts t y ht h1
 obtain rfl:r'=0:=by omega
 rcases Int.lt_or_le q q' with h3|h3
 ·exfalso
  have h4:=Int.mul_le_mul_of_nonneg_left (show q+1≤q' by omega) (show 0≤t.t by omega)
  have e:t.t*(q+1)=t.t*q+t.t:=by rw [Int.mul_add];omega
  omega
 ·have:=Int.mul_le_mul_of_nonneg_left h3 (show 0≤t.t by omega)
  omega
theorem befs_is {l:List Tk} {x:Int} (hl:∀ t∈l,0<t.t∧0<t.d):(befs l x=0∧∀ t∈l,x≤t.d)∨(0<befs l x∧befs l x<x∧(∃ t∈l,isDl t (befs l x))∧∀ t∈l,∀ y,isDl t y→y<x→y≤befs l x):=by
 induction l with
 | nil=>left;simp [befs]
 | cons t l ih=>
  have ht:=hl t (by simp)
  have ih:=ih (fun a ha=>hl a (by simp [ha]))
  rw [befs]
  by_cases hd:t.d<x
  ·obtain ⟨b1,b2,b3,b4⟩:=bef_is ht.1 hd
   right
   by_cases hlt:befs l x<bef t x
   ·rw [if_pos ⟨hd,hlt⟩]
    refine ⟨by omega,b1,⟨t,by simp,b3⟩,fun u hu y hy hyx=>?_⟩
    rcases List.mem_cons.1 hu with rfl|hu
    · exact b4 y hy hyx
    ·rcases ih with ⟨h0,h1⟩|⟨h0,h1,h2,h3⟩
     · have:=h1 u hu;have:=hy.1;omega
     · have:=h3 u hu y hy hyx;omega
   ·rw [if_neg (fun h=>hlt h.2)]
    rcases ih with ⟨h0,h1⟩|⟨h0,h1,⟨v,hv,hdv⟩,h3⟩
    · omega
    ·refine ⟨h0,h1,⟨v,by simp [hv],hdv⟩,fun u hu y hy hyx=>?_⟩
     rcases List.mem_cons.1 hu with rfl|hu
     · have:=b4 y hy hyx;omega
     · exact h3 u hu y hy hyx
  ·rw [if_neg (fun h=>hd h.1)]
   rcases ih with ⟨h0,h1⟩|⟨h0,h1,⟨v,hv,hdv⟩,h3⟩
   ·left
    refine ⟨h0,fun u hu=>?_⟩
    rcases List.mem_cons.1 hu with rfl|hu
    · omega
    · exact h1 u hu
   ·right
    refine ⟨h0,h1,⟨v,by simp [hv],hdv⟩,fun u hu y hy hyx=>?_⟩
    rcases List.mem_cons.1 hu with rfl|hu
    · have:=hy.1;omega
    · exact h3 u hu y hy hyx
def nextR (l:List Tk) (x:Int):Option Int:=if rowB l=true∧isTime x=true then (match nxts l x with|some y=>if 1099511627776<y then none else some y|none=>none) else none
def firsts (l:List Tk):List Int→Option Int
 | []=>none
 | p :: r=>if p<sum l p then some p else firsts l r
theorem nextR_is {l:List Tk} {x y:Int} (hl:∀ t∈l,0<t.t) (h:nextR l x=some y):x<y∧y≤1099511627776∧(∃ t∈l,isDl t y)∧∀ t∈l,∀ z,isDl t z→x<z→y≤z:=by
 unfold nextR at h
 split at h
 ·cases hn:nxts l x with
  | none=>rw [hn] at h;cases h
  | some w=>
   rw [hn] at h
   simp only at h
   split at h
   · cases h
   ·cases h
    obtain ⟨h1,h2,h3⟩:=nxts_is hl hn
    exact ⟨h1,by omega,h2,h3⟩
 · cases h
theorem nextR_none {l:List Tk} {x:Int} (hr:rowB l=true) (hx:isTime x=true) (hl:∀ t∈l,0<t.t) (h:nextR l x=none):∀ t∈l,∀ z,isDl t z→x<z→1099511627776<z:=by
 intro t ht z hz hxz
 unfold nextR at h
 rw [if_pos ⟨hr,hx⟩] at h
 obtain ⟨w,hw⟩:=nxts_some (l:=l) (x:=x) (by intro e;subst e;cases ht)
 rw [hw] at h
 simp only at h
 split at h
 · have:=(nxts_is hl hw).2.2 t ht z hz hxz;omega
 · cases h
theorem one_le {t:Tk} {x:Int} (h:chk t=true) (hx:0≤x):0≤one t x∧one t x≤x+2147483648:=by
 obtain ⟨-,-,h1,h2,h3,h4,-⟩:=chk_iff.1 h
 unfold one
 refine ⟨Int.mul_nonneg (by omega) (cnt_nonneg (by omega)),?_⟩
 by_cases hd:x<t.d
 · rw [cnt_lt hd];omega
 ·obtain ⟨q,r,hq1,r0,r1,q0,hq,hr⟩:=parts t x (by omega) (by omega)
  rw [cnt_ge (by omega),hq,Int.mul_add]
  have:=Int.mul_le_mul_of_nonneg_right (show t.c≤t.t by omega) q0
  omega
end Go.Proofs.YteempfoajgblaaaGreat.Dm
namespace Go.Proofs.YteempfoajgblaaaGreat.Dm
open Pm (Tk chk chk_iff rowB TkAt Ts chk_any rchk_any wrap_in)
theorem isTime_iff {x:Int}:isTime x=true↔0≤x∧x≤1099511627776:=by simp [isTime]
theorem isTime_any (x:Int) (w:World) :
 Calls Tryz.prog 236 #[.int .i64 x] w fun e w'=>e=.returned (.bool (isTime x))∧w'=w:=by
 by_cases h:0≤x
 ·have E:Hid (isTime x=decide (x≤1099511627776)):=Lib.hid (by unfold isTime;apply decide_eq_decide.2;omega)
  go_enter Tryz.func236,Tryz.ntmps236
  go_wp2
  go_ret
  exact ⟨by rw [E.out];rfl,rfl⟩
 ·have E:Hid (isTime x=false):=Lib.hid (by unfold isTime;exact decide_eq_false (by omega))
  have h':x<0:=by omega
  clear h
  go_enter Tryz.func236,Tryz.ntmps236
  go_wp2
  go_ret
  exact ⟨by rw [E.out];rfl,rfl⟩
theorem time_any (x:Int) (w:World) :
 Calls Tryz.prog 228 #[.int .i64 x] w fun e w'=>e=.returned (.bool (isTime x))∧w'=w:=by
 by_cases h:0≤x
 ·have E:Hid (isTime x=decide (x≤1099511627776)):=Lib.hid (by unfold isTime;apply decide_eq_decide.2;omega)
  go_enter Tryz.func228,Tryz.ntmps228
  go_wp2
  go_ret
  exact ⟨by rw [E.out];rfl,rfl⟩
 ·have E:Hid (isTime x=false):=Lib.hid (by unfold isTime;exact decide_eq_false (by omega))
  have h':x<0:=by omega
  clear h
  go_enter Tryz.func228,Tryz.ntmps228
  go_wp2
  go_ret
  exact ⟨by rw [E.out];rfl,rfl⟩
structure Quo (a t q:Int):Prop where
 z:¬t=0
 zb:(t==0)=false
 d:a/t=q
 d':a.tdiv t=q
 q0:0≤q
 q1:q≤a
 w:IntKind.i64.wrap q=q
theorem quo_of {a t:Int} (h0:0≤a) (h1:a≤9223372036854775807) (ht:1≤t):Quo a t (a/t):=by
 have q0:=Int.ediv_nonneg h0 (show 0≤t by omega)
 have q1:=Int.ediv_le_self t h0
 exact ⟨by omega,by simp;omega,rfl,Int.tdiv_eq_ediv_of_nonneg h0,q0,q1,wrap_in (by omega) (by omega)⟩
theorem due_any (t:Tk) (x:Int) (w:World) (ht:chk t=true) (h0 : -1≤x) (h1:x≤1099511627776) :
 Calls Tryz.prog 237 #[t.v,.int .i64 x] w fun e w'=>e=.returned (.int .i64 (cnt t x))∧Below w.heap.size w w':=by
 obtain ⟨-,-,c1,c2,c3,c4,-⟩:=chk_iff.1 ht
 clear ht
 by_cases h:x<t.d
 ·have E:=Lib.hid (cnt_lt h)
  generalize cnt t x=r at *
  obtain ⟨ti,tc,td,tt,tm⟩:=t
  unfold Tk.v
  simp only at *
  go_enter Tryz.func237,Tryz.ntmps237
  go_wp2
  go_ret
  exact ⟨by rw [E.out];rfl,(Below.refl _ _).alloc (Nat.le_refl _) _⟩
 ·have E:=Lib.hid (cnt_ge (show t.d≤x by omega))
  obtain ⟨z,zb,d,d',q0,q1,wq⟩:=quo_of (a:=x-t.d) (t:=t.t) (by omega) (by omega) (by omega)
  generalize (x-t.d)/t.t=q at *
  generalize cnt t x=r at *
  have h':t.d≤x:=by omega
  clear h
  obtain ⟨ti,tc,td,tt,tm⟩:=t
  unfold Tk.v
  simp only at *
  generalize hA:x-td=A at *
  have w1:IntKind.i64.wrap A=A:=wrap_in (by omega) (by omega)
  go_enter Tryz.func237,Tryz.ntmps237
  go_wp2
  go_ret
  exact ⟨by rw [E.out];rfl,(Below.refl _ _).alloc (Nat.le_refl _) _⟩
theorem deadline_any (t:Tk) (n:Int) (w:World) (h1:0≤n*t.t) (h2:n*t.t≤4611686018427387904) (h3:0≤t.d) (h4:t.d≤2147483648) :
 Calls Tryz.prog 238 #[t.v,.int .i64 n] w fun e w'=>e=.returned (.int .i64 (t.d+t.t*n))∧Below w.heap.size w w':=by
 have e:t.t*n=n*t.t:=Int.mul_comm _ _
 rw [e]
 clear e
 obtain ⟨ti,tc,td,tt,tm⟩:=t
 unfold Tk.v
 simp only at *
 generalize hM:n*tt=M at *
 go_enter Tryz.func238,Tryz.ntmps238
 go_wp2
 go_ret
 exact ⟨rfl,(Below.refl _ _).alloc (Nat.le_refl _) _⟩
end Go.Proofs.YteempfoajgblaaaGreat.Dm
namespace Go.Proofs.YteempfoajgblaaaGreat.Dm
open Pm (Tk chk chk_iff rowB TkAt Ts chk_any rchk_any wrap_in)
structure Bx (b:Nat) (w:World) (t:Tk) (w':World):Prop where
 c0:w'.cell? ⟨b,0,none⟩=some (.int .i64 t.id)
 c1:w'.cell? ⟨b,1,none⟩=some (.int .i64 t.c)
 c2:w'.cell? ⟨b,2,none⟩=some (.int .i64 t.d)
 c3:w'.cell? ⟨b,3,none⟩=some (.int .i64 t.t)
 c4:w'.cell? ⟨b,4,none⟩=some (.int .i64 t.m)
 bel:Below w.heap.size w w'
theorem bx_new (w:World) (t:Tk) (T:TypeId):Bx w.heap.size w t (w.alloc (.cells #[.int .i64 t.id,.int .i64 t.c,.int .i64 t.d,.int .i64 t.t,.int .i64 t.m] T)):=
 ⟨by simp [go_sem],by simp [go_sem],by simp [go_sem],by simp [go_sem],by simp [go_sem],(Below.refl _ _).alloc (Nat.le_refl _) _⟩
theorem Bx.call {b:Nat} {w w1 w2:World} {t:Tk} (h:Bx b w t w1) (hb:Below w1.heap.size w1 w2):Bx b w t w2:=
 ⟨carry hb h.c0,carry hb h.c1,carry hb h.c2,carry hb h.c3,carry hb h.c4,h.bel.trans (hb.mono h.bel.size)⟩
theorem Bx.drew {b:Nat} {w w1:World} {t:Tk} (h:Bx b w t w1):Bx b w t w1.drew:=
 ⟨h.c0,h.c1,h.c2,h.c3,h.c4,h.bel.drew⟩
theorem one_yes {t:Tk} {x:Int} (h:chk t=true) (hx:isTime x=true):oneR t x=t.c*cnt t x:=by unfold oneR;rw [if_pos ⟨h,hx⟩];rfl
theorem one_no {t:Tk} {x:Int} (h:chk t=false):oneR t x=0:=by unfold oneR;rw [if_neg (by rw [h];simp)]
theorem one_no2 {t:Tk} {x:Int} (h:isTime x=false):oneR t x=0:=by unfold oneR;rw [if_neg (by rw [h];simp)]
theorem cnt_le_time {t:Tk} {x:Int} (h:chk t=true) (hx:isTime x=true):0≤cnt t x∧cnt t x≤1099511627777:=by
 obtain ⟨h0,h1⟩:=isTime_iff.1 hx
 obtain ⟨-,-,c1,c2,c3,c4,-⟩:=chk_iff.1 h
 refine ⟨cnt_nonneg (by omega),?_⟩
 by_cases hd:x<t.d
 · rw [cnt_lt hd];omega
 ·rw [cnt_ge (by omega)]
  have:=Int.ediv_le_self (a:=x-t.d) t.t (by omega)
  omega
theorem one_any (t:Tk) (x:Int) (w:World) :
 Calls Tryz.prog 239 #[t.v,.int .i64 x] w fun e w'=>e=.returned (.int .i64 (oneR t x))∧Below w.heap.size w w':=by
 have CK:=Lib.hid (chk_any t)
 have TM:=Lib.hid (isTime_any x)
 have B0:=Lib.hid (bx_new w t 45)
 cases hc:chk t with
 | false=>
  have E:=Lib.hid (one_no (x:=x) hc)
  rw [hc] at CK
  clear hc
  generalize oneR t x=r at *
  have TC:=fun w'=>Lib.hid (fun h:Bx w.heap.size w t w'=>h)
  obtain ⟨ti,tc,td,tt,tm⟩:=t
  unfold Tk.v at *
  simp only at *
  go_enter Tryz.func239,Tryz.ntmps239
  go_wp2_with fail
  (with_reducible refine (CK.out _).mono ?_)
  rintro e w1 ⟨rfl,b1⟩
  have B1:=Lib.hid (B0.out.call b1)
  clear b1
  go_wp2
  go_ret
  exact ⟨by rw [E.out];rfl,B1.out.bel⟩
 | true=>
  rw [hc] at CK
  cases hx:isTime x with
  | false=>
   have E:=Lib.hid (one_no2 (t:=t) hx)
   rw [hx] at TM
   clear hx hc
   generalize oneR t x=r at *
   obtain ⟨ti,tc,td,tt,tm⟩:=t
   unfold Tk.v at *
   simp only at *
   go_enter Tryz.func239,Tryz.ntmps239
   go_wp2_with fail
   (with_reducible refine (CK.out _).mono ?_)
   rintro e w1 ⟨rfl,b1⟩
   have B1:=Lib.hid (B0.out.call b1)
   clear b1
   go_wp2_with fail
   (with_reducible refine (TM.out _).mono ?_)
   rintro e w2 ⟨rfl,rfl⟩
   go_wp2
   go_ret
   exact ⟨by rw [E.out];rfl,B1.out.bel⟩
  | true=>
   have E:=Lib.hid (one_yes hc hx)
   rw [hx] at TM
   obtain ⟨h0,h1⟩:=isTime_iff.1 hx
   have DU:=Lib.hid (fun w=>due_any t x w hc (by omega) h1)
   have n0:=one_le hc h0
   unfold one at n0
   obtain ⟨n1,n2⟩:=n0
   generalize oneR t x=r at *
   generalize cnt t x=n at *
   have wm:IntKind.i64.wrap (t.c*n)=t.c*n:=wrap_in (by omega) (by omega)
   generalize hM:t.c*n=M at *
   clear hx hc
   obtain ⟨ti,tc,td,tt,tm⟩:=t
   unfold Tk.v at *
   simp only at *
   go_enter Tryz.func239,Tryz.ntmps239
   go_wp2_with fail
   (with_reducible refine (CK.out _).mono ?_)
   rintro e w1 ⟨rfl,b1⟩
   have B1:=Lib.hid (B0.out.call b1)
   clear b1
   go_wp2_with fail
   (with_reducible refine (TM.out _).mono ?_)
   rintro e w2 ⟨rfl,rfl⟩
   obtain ⟨c0,c1,c2,c3,c4,bel⟩:=B1.out
   have BEL:=Lib.hid bel
   clear bel CK TM B0
   go_wp2_with fail
   have BD:=Lib.hid B1.out.drew
   go_region_held3 (fun w'=>Bx w.heap.size w ⟨ti,tc,td,tt,tm⟩ w'∧w'.cell? ⟨w.heap.size,0,none⟩=some (.int .i64 ti)∧w'.cell? ⟨w.heap.size,1,none⟩=some (.int .i64 tc)∧w'.cell? ⟨w.heap.size,2,none⟩=some (.int .i64 td)∧w'.cell? ⟨w.heap.size,3,none⟩=some (.int .i64 tt)∧w'.cell? ⟨w.heap.size,4,none⟩=some (.int .i64 tm)) (first|exact ⟨BD.out,BD.out.c0,BD.out.c1,BD.out.c2,BD.out.c3,BD.out.c4⟩|assumption|fail) (first|(go_at_call 237;(with_reducible refine (DU.out _).mono ?_);rintro e w3 ⟨rfl,b3⟩;(have B3:=BD.out.call b3);(have S3:=And.intro B3 (And.intro B3.c0 (And.intro B3.c1 (And.intro B3.c2 (And.intro B3.c3 B3.c4))))))|fail)
   all_goals
    have FIN:=Lib.hid B3.bel
    clear B3 S3 BD
    go_wp2
    go_ret
    exact ⟨by rw [E.out];rfl,FIN.out⟩
end Go.Proofs.YteempfoajgblaaaGreat.Dm
namespace Go.Proofs.YteempfoajgblaaaGreat.Dm
open Pm (Tk chk chk_iff rowB TkAt Ts chk_any rchk_any wrap_in below_drewN)
theorem Bx.drewN {b:Nat} {w w1:World} {t:Tk} (h:Bx b w t w1) (n:Nat):Bx b w t (w1.drewN n):=
 ⟨h.c0,h.c1,h.c2,h.c3,h.c4,h.bel.trans ((below_drewN w1 n).mono h.bel.size)⟩
theorem rone_any (t:Tk) (x:Int) (w:World) :
 Calls Tryz.prog 206 #[t.v,.int .i64 x] w fun e w'=>e=.returned (.int .i64 (oneR t x))∧Below w.heap.size w w':=by
 have CK:=Lib.hid (rchk_any t)
 have TM:=Lib.hid (time_any x)
 have B0:=Lib.hid (bx_new w t 45)
 cases hc:chk t with
 | false=>
  have E:=Lib.hid (one_no (x:=x) hc)
  rw [hc] at CK
  clear hc
  generalize oneR t x=r at *
  generalize isTime x=it at *
  obtain ⟨ti,tc,td,tt,tm⟩:=t
  unfold Tk.v at *
  simp only at *
  go_enter Tryz.func206,Tryz.ntmps206
  go_wp2_with fail
  (with_reducible refine (CK.out _).mono ?_)
  rintro e w1 ⟨rfl,b1⟩
  have B1:=Lib.hid (B0.out.call b1)
  clear b1
  go_wp2_with fail
  (with_reducible refine (TM.out _).mono ?_)
  rintro e w2 ⟨rfl,rfl⟩
  go_wp2
  go_ret
  exact ⟨by rw [E.out];rfl,B1.out.bel⟩
 | true=>
  rw [hc] at CK
  cases hx:isTime x with
  | false=>
   have E:=Lib.hid (one_no2 (t:=t) hx)
   rw [hx] at TM
   clear hx hc
   generalize oneR t x=r at *
   obtain ⟨ti,tc,td,tt,tm⟩:=t
   unfold Tk.v at *
   simp only at *
   go_enter Tryz.func206,Tryz.ntmps206
   go_wp2_with fail
   (with_reducible refine (CK.out _).mono ?_)
   rintro e w1 ⟨rfl,b1⟩
   have B1:=Lib.hid (B0.out.call b1)
   clear b1
   go_wp2_with fail
   (with_reducible refine (TM.out _).mono ?_)
   rintro e w2 ⟨rfl,rfl⟩
   go_wp2
   go_ret
   exact ⟨by rw [E.out];rfl,B1.out.bel⟩
  | true=>
   have E0:=one_yes hc hx
   rw [hx] at TM
   obtain ⟨h0,h1⟩:=isTime_iff.1 hx
   obtain ⟨-,-,k1,k2,k3,k4,-⟩:=chk_iff.1 hc
   have n0:=one_le hc h0
   unfold one at n0
   obtain ⟨n1,n2⟩:=n0
   by_cases h:x<t.d
   ·rw [cnt_lt h] at E0
    have E:=Lib.hid E0
    generalize oneR t x=r at *
    clear hx hc n1 n2 E0
    obtain ⟨ti,tc,td,tt,tm⟩:=t
    unfold Tk.v at *
    simp only at *
    go_enter Tryz.func206,Tryz.ntmps206
    go_wp2_with fail
    (with_reducible refine (CK.out _).mono ?_)
    rintro e w1 ⟨rfl,b1⟩
    have B1:=Lib.hid (B0.out.call b1)
    clear b1
    go_wp2_with fail
    (with_reducible refine (TM.out _).mono ?_)
    rintro e w2 ⟨rfl,rfl⟩
    obtain ⟨c0,c1,c2,c3,c4,bel⟩:=B1.out
    have BEL:=Lib.hid bel
    clear bel
    go_wp2
    go_ret
    exact ⟨by rw [E.out,Int.mul_zero];rfl,BEL.out⟩
   ·rw [cnt_ge (show t.d≤x by omega)] at E0 n1 n2
    obtain ⟨z,zb,d,d',q0,q1,wq⟩:=quo_of (a:=x-t.d) (t:=t.t) (by omega) (by omega) (by omega)
    generalize (x-t.d)/t.t=q at *
    have E:=Lib.hid E0
    generalize oneR t x=r at *
    have h':t.d≤x:=by omega
    have wm:IntKind.i64.wrap (t.c*(q+1))=t.c*(q+1):=wrap_in (by omega) (by omega)
    generalize hM:t.c*(q+1)=M at *
    have w2:IntKind.i64.wrap (q+1)=q+1:=wrap_in (by omega) (by omega)
    clear hx hc E0 h
    obtain ⟨ti,tc,td,tt,tm⟩:=t
    unfold Tk.v at *
    simp only at *
    have w1:IntKind.i64.wrap (x-td)=x-td:=wrap_in (by omega) (by omega)
    go_enter Tryz.func206,Tryz.ntmps206
    go_wp2_with fail
    (with_reducible refine (CK.out _).mono ?_)
    rintro e w1 ⟨rfl,b1⟩
    have B1:=Lib.hid (B0.out.call b1)
    clear b1
    go_wp2_with fail
    (with_reducible refine (TM.out _).mono ?_)
    rintro e w2 ⟨rfl,rfl⟩
    obtain ⟨c0,c1,c2,c3,c4,bel⟩:=B1.out
    have BEL:=Lib.hid bel
    clear bel CK TM B0
    go_wp2_with fail
    go_quiet (fail)
    have FIN:=Lib.hid (B1.out.drewN nq)
    go_wp2
    go_ret
    exact ⟨by rw [E.out];rfl,FIN.out.bel⟩
theorem nxt_cnt {t:Tk} {x:Int}:nxt t x=t.d+t.t*cnt t x:=by
 unfold nxt cnt;split <;> simp
theorem nxt_in {t:Tk} {x:Int} (h:chk t=true) (h0:0≤x) (h1:x≤1099511627776):0≤t.t*cnt t x∧t.t*cnt t x≤1101659111424∧x<nxt t x∧nxt t x≤1103806595072:=by
 obtain ⟨-,-,k1,k2,k3,k4,-⟩:=chk_iff.1 h
 have h2:=(nxt_gt (x:=x) (t:=t) (by omega)).1
 have h3:=cnt_nonneg (x:=x) (t:=t) (by omega)
 have h4:=Int.mul_nonneg (show 0≤t.t by omega) h3
 have e:=nxt_cnt (t:=t) (x:=x)
 have hb:t.t*cnt t x≤1101659111424:=by
  by_cases hd:x<t.d
  · rw [cnt_lt hd];omega
  ·obtain ⟨q,r,hq1,r0,r1,q0,hq,hr⟩:=parts t x (by omega) (by omega)
   rw [cnt_ge (by omega),hq,Int.mul_add]
   omega
 exact ⟨h4,hb,h2,by omega⟩
end Go.Proofs.YteempfoajgblaaaGreat.Dm
namespace Go.Proofs.YteempfoajgblaaaGreat.Dm
open Pm (Tk chk chk_iff rowB rowB_all rowB_len TkAt Ts chk_any rchk_any wrap_in below_drewN row_any rrow_any)
def sumR:List Tk→Int→Int
 | [],_=>0
 | t :: l,x=>oneR t x+sumR l x
theorem oneR_le (t:Tk) (x:Int):0≤oneR t x∧oneR t x≤1101659111424:=by
 unfold oneR
 split
 ·rename_i h
  have h1:=isTime_iff.1 h.2
  have h2:=one_le h.1 h1.1
  omega
 · omega
theorem sumR_le (l:List Tk) (x:Int):0≤sumR l x∧sumR l x≤l.length*1101659111424:=by
 induction l with
 | nil=>simp [sumR]
 | cons t l ih=>
  have h1:=oneR_le t x
  simp only [sumR,List.length_cons]
  have:((l.length+1:Nat):Int)*1101659111424=l.length*1101659111424+1101659111424:=by rw [Int.natCast_add,Int.add_mul];simp
  omega
theorem sumR_append {l m:List Tk} {x:Int}:sumR (l++m) x=sumR l x+sumR m x:=by
 induction l with
 | nil=>simp [sumR]
 | cons t l ih=>rw [List.cons_append,sumR,sumR,ih];omega
theorem sumR_take {l:List Tk} {i:Nat} (h:i<l.length) (x:Int):sumR (l.take (i+1)) x=sumR (l.take i) x+oneR l[i] x:=by
 rw [List.take_succ_eq_append_getElem h,sumR_append];simp [sumR]
theorem sumR_zero {l:List Tk} {x:Int} (h:isTime x=false):sumR l x=0:=by
 induction l with
 | nil=>rfl
 | cons t l ih=>rw [sumR,ih,one_no2 h];rfl
theorem sumR_sum {l:List Tk} {x:Int} (h:isTime x=true) (hl:∀ t∈l,chk t=true):sumR l x=sum l x:=by
 induction l with
 | nil=>rfl
 | cons t l ih=>rw [sumR,sum,ih (fun a ha=>hl a (by simp [ha])),one_yes (hl t (by simp)) h];rfl
theorem ofR_yes {l:List Tk} {x:Int} (h:rowB l=true):ofR l x=sumR l x:=by
 unfold ofR
 cases hx:isTime x with
 | true=>rw [if_pos ⟨h,rfl⟩,sumR_sum hx (rowB_all h)]
 | false=>rw [if_neg (by simp),sumR_zero hx]
theorem ofR_no {l:List Tk} {x:Int} (h:rowB l=false):ofR l x=0:=by
 unfold ofR;rw [if_neg (by rw [h];simp)]
def OfRel (l:List Tk) (x:Int) (B:Nat) (w:World) (g:Nat) (s t:Value) (wx:World):Prop:=
 ∃ i:Nat,i+g=l.length∧s=.int .i64 (sumR (l.take i) x)∧t=.int .i64 (i:Int)∧Below B w wx
structure Add (S M:Int):Prop where
 s0:0≤S
 s1:S≤35253091565568
 m0:0≤M
 m1:M≤1101659111424
theorem add_of {l:List Tk} {i:Nat} (x:Int) (hl:l.length≤16) (hlt:i<l.length):∃ S M,sumR (l.take i) x=S∧oneR l[i] x=M∧sumR (l.take (i+1)) x=S+M∧Add S M:=by
 have h1:=sumR_le (l.take i) x
 have h2:=oneR_le l[i] x
 have h3:(l.take i).length≤16:=by rw [List.length_take];omega
 exact ⟨_,_,rfl,rfl,sumR_take hlt x,⟨h1.1,by omega,h2.1,h2.2⟩⟩
theorem of_any (l:List Tk) (ao:Option Addr) (cap:Nat) (x:Int) (w:World) (hT:Ts ao l w) (hl:l.length≤9223372036854775807) :
 Calls Tryz.prog 226 #[.slice ao l.length cap,.int .i64 x] w fun e w'=>e=.returned (.int .i64 (ofR l x))∧Below w.heap.size w w':=by
 have RO:=Lib.hid (fun w h=>row_any l ao cap w h hl)
 have T:=Lib.hid hT
 cases hr:rowB l with
 | false=>
  have E:=Lib.hid (ofR_no (x:=x) hr)
  rw [hr] at RO
  generalize ofR l x=r at *
  clear hr
  go_enter Tryz.func226,Tryz.ntmps226
  go_wp2_with fail
  (with_reducible refine (RO.out _ hT).mono ?_)
  rintro e w1 ⟨rfl,b1⟩
  have K1:=Lib.hid b1
  clear b1 hT
  go_wp2
  go_ret
  exact ⟨by rw [E.out];rfl,K1.out⟩
 | true=>
  have E:=Lib.hid (ofR_yes (x:=x) hr)
  have hlen:=rowB_len hr
  rw [hr] at RO
  have AD:=Lib.hid (fun i (hlt:i<l.length)=>add_of x hlen hlt)
  generalize ofR l x=r at *
  clear hr
  go_enter Tryz.func226,Tryz.ntmps226
  go_wp2_with fail
  (with_reducible refine (RO.out _ hT).mono ?_)
  rintro e w1 ⟨rfl,b1⟩
  have K1:=Lib.hid b1
  clear b1 hT RO
  go_wp2_with fail
  go_loopg [5,13] l.length (OfRel l x w.heap.size w)
  case atStart=>exact ⟨0,by omega,by simp [sumR],rfl,K1.out⟩
  case round=>
   obtain ⟨i,hi,rfl,rfl,hB⟩:=hrel
   have TQ:=T.out.below hB (Nat.le_refl _)
   by_cases hlt:i<l.length
   ·obtain ⟨b,off,rfl,hb,hat⟩:=TQ (by omega)
    have hx:=hat i l[i] (List.getElem?_eq_getElem hlt)
    obtain ⟨S,M,e1,e2,e3,s0,s1,m0,m1⟩:=AD.out i hlt
    have ON:=Lib.hid (one_any l[i] x)
    rw [e2] at ON
    rw [e1]
    have HI:=Lib.hid hi
    have KB:=Lib.hid (fun o=>hB.alloc hB.size o)
    have NX:=Lib.hid e3
    have hg0:0<gk:=by omega
    clear hi hat TQ hB e1 e2 e3
    generalize l[i]=t at *
    obtain ⟨c0,c1,c2,c3,c4⟩:=hx
    obtain ⟨ti,tc,td,tt,tm⟩:=t
    unfold Tk.v at ON
    simp only at c0 c1 c2 c3 c4 ON
    go_wp2_with fail
    (with_reducible refine (ON.out _).mono ?_)
    rintro e w2 ⟨rfl,b2⟩
    have K2:=Lib.hid ((KB.out _).trans (b2.mono (KB.out _).size))
    clear b2 KB c0 c1 c2 c3 c4 ON
    go_wp2
    go_roundg (gk-1)
    case measure=>omega
    case rel=>exact ⟨i+1,by have:=HI.out;omega,by rw [NX.out],by go_num,K2.out⟩
   ·have hge:(l.length:Int)≤(i:Int):=by omega
    rw [List.take_of_length_le (by omega)]
    have K2:=Lib.hid hB
    clear hB TQ hi hlt AD
    go_wp2
    go_ret
    exact ⟨by rw [E.out];rfl,K2.out⟩
theorem rof_any (l:List Tk) (ao:Option Addr) (cap:Nat) (x:Int) (w:World) (hT:Ts ao l w) (hl:l.length≤1000000) :
 Calls Tryz.prog 180 #[.slice ao l.length cap,.int .i64 x] w fun e w'=>e=.returned (.int .i64 (ofR l x))∧Below w.heap.size w w':=by
 have RO:=Lib.hid (fun w h=>rrow_any l ao cap w h hl)
 have T:=Lib.hid hT
 cases hr:rowB l with
 | false=>
  have E:=Lib.hid (ofR_no (x:=x) hr)
  rw [hr] at RO
  generalize ofR l x=r at *
  clear hr
  go_enter Tryz.func180,Tryz.ntmps180
  go_wp2_with fail
  (with_reducible refine (RO.out _ hT).mono ?_)
  rintro e w1 ⟨rfl,b1⟩
  have K1:=Lib.hid b1
  clear b1 hT
  go_wp2_with fail
  go_loopg [6,7] 0 (fun _ s t wx=>s=.int .i64 0∧t=.int .i64 0∧wx=w1)
  case atStart=>exact ⟨rfl,rfl,rfl⟩
  case round=>
   obtain ⟨rfl,rfl,rfl⟩:=hrel
   by_cases h0:0<l.length
   ·have h1:(0:Int)<(l.length:Int):=by omega
    clear h0
    go_wp2
    go_ret
    exact ⟨by rw [E.out];rfl,K1.out⟩
   ·have h1:(l.length:Int)≤0:=by omega
    have h2:decide (0<l.length)=false:=decide_eq_false h0
    clear h0
    go_wp2
    go_ret
    exact ⟨by rw [E.out];rfl,K1.out⟩
 | true=>
  have E:=Lib.hid (ofR_yes (x:=x) hr)
  have hlen:=rowB_len hr
  rw [hr] at RO
  have AD:=Lib.hid (fun i (hlt:i<l.length)=>add_of x hlen hlt)
  generalize ofR l x=r at *
  clear hr
  go_enter Tryz.func180,Tryz.ntmps180
  go_wp2_with fail
  (with_reducible refine (RO.out _ hT).mono ?_)
  rintro e w1 ⟨rfl,b1⟩
  have K1:=Lib.hid b1
  clear b1 hT RO
  go_wp2_with fail
  go_loopg [6,7] l.length (OfRel l x w.heap.size w)
  case atStart=>exact ⟨0,by omega,by simp [sumR],rfl,K1.out⟩
  case round=>
   obtain ⟨i,hi,rfl,rfl,hB⟩:=hrel
   have TQ:=T.out.below hB (Nat.le_refl _)
   by_cases hlt:i<l.length
   ·obtain ⟨b,off,rfl,hb,hat⟩:=TQ (by omega)
    have hx:=hat i l[i] (List.getElem?_eq_getElem hlt)
    obtain ⟨S,M,e1,e2,e3,s0,s1,m0,m1⟩:=AD.out i hlt
    have ON:=Lib.hid (rone_any l[i] x)
    rw [e2] at ON
    rw [e1]
    have HI:=Lib.hid hi
    have KB:=Lib.hid hB
    have NX:=Lib.hid e3
    have hg0:0<gk:=by omega
    have hlt':(i:Int)<(l.length:Int):=by omega
    clear hi hat TQ hB e1 e2 e3
    generalize l[i]=t at *
    obtain ⟨c0,c1,c2,c3,c4⟩:=hx
    obtain ⟨ti,tc,td,tt,tm⟩:=t
    unfold Tk.v at ON
    simp only at c0 c1 c2 c3 c4 ON
    go_wp2_with fail
    (with_reducible refine (ON.out _).mono ?_)
    rintro e w2 ⟨rfl,b2⟩
    have K2:=Lib.hid (KB.out.trans (b2.mono KB.out.size))
    clear b2 KB c0 c1 c2 c3 c4 ON
    go_wp2
    go_roundg (gk-1)
    case measure=>omega
    case rel=>exact ⟨i+1,by have:=HI.out;omega,by rw [NX.out],by go_num,K2.out⟩
   ·have hge:(l.length:Int)≤(i:Int):=by omega
    rw [List.take_of_length_le (by omega)]
    have K2:=Lib.hid hB
    have hdec:decide (i<l.length)=false:=decide_eq_false hlt
    clear hB TQ hi hlt AD
    go_wp2
    go_ret
    exact ⟨by rw [E.out];rfl,K2.out⟩
end Go.Proofs.YteempfoajgblaaaGreat.Dm
namespace Go.Proofs.YteempfoajgblaaaGreat.Dm
open Pm (Tk chk chk_iff rowB rowB_all rowB_len TkAt Ts wrap_in below_drewN I64)
def nums (l:List Int):List Value:=l.map (Value.int .i64)
theorem infoNum:(Tryz.prog.info? 2).map (fun i=>(i.zero,i.size,i.bytes))=some (some (.int .i64 0),1,8):=by kernel_rfl
def Ns (ao:Option Addr) (l:List Int) (w:World):Prop:=0<l.length→∃ b off,ao=some ⟨b,off,none⟩∧b<w.heap.size∧∀ i x,l[i]?=some x→w.cell? ⟨b,off+i,none⟩=some (.int .i64 x)
def NRow (B:Nat) (w:World) (v:Value) (l:List Int):Prop:=w.ownsRow B 2 1 v l.length (nums l)
theorem NRow.call {B:Nat} {w w':World} {v:Value} {l:List Int} (h:NRow B w v l) (hb:Below w.heap.size w w'):NRow B w' v l:=by
 refine ⟨h.1,?_⟩
 rcases h.2 with hn|⟨g,cap,cur,rfl,hB,hg,rest⟩
 · exact .inl hn
 · exact .inr ⟨g,cap,cur,rfl,hB,by rw [hb.block g (Array.getElem?_eq_some_iff.1 hg).1];exact hg,rest⟩
theorem NRow.lt {B:Nat} {w:World} {v:Value} {l:List Int} (h:NRow B w v l):∀ k,v.ownBlock=some k→B≤k∧k<w.heap.size:=World.ownsRow.lt h
theorem NRow.form {B:Nat} {w:World} {v:Value} {l:List Int} (h:NRow B w v l):∃ ao cap,v=.slice ao l.length cap∧l.length≤cap∧Ns ao l w:=by
 have hc:=fun g (e:v.ownBlock=some g)=>World.ownsRow.cells h (g:=g) e
 rcases h.2 with ⟨rfl,h0⟩|⟨g,cap,cur,rfl,hB,hg,hcap,-⟩
 · refine ⟨none,0,by rw [h0],by omega,fun h=>by omega⟩
 ·refine ⟨some ⟨g,0,none⟩,cap,rfl,hcap,fun h0=>⟨g,0,rfl,(Array.getElem?_eq_some_iff.1 hg).1,fun i x hi=>?_⟩⟩
  have:=hc g rfl i (.int .i64 x) (by simp [nums,hi])
  rw [addr_add] at this
  exact this
theorem nrow_made (B:Nat) (w:World) (hB:B≤w.heap.size):NRow B (w.alloc (.cells (madeCells #[.int .i64 0] 16) 2)) (.slice (some ⟨w.heap.size,0,none⟩) 0 16) []:=by
 unfold NRow
 exact World.ownsRow_made w _ 16 hB (by simp [maxLen]) (size_madeCells _ _)
theorem run_made (w:World):(Instr.makeSlice 335 (.int .i64 0) (.int .i64 16)).run Tryz.prog w=.ok (.slice (some ⟨w.heap.size,0,none⟩) 0 16) (w.alloc (.cells (madeCells #[.int .i64 0] 16) 2)):=by
 obtain ⟨i,hi,hz⟩:=Option.map_eq_some_iff.1 infoNum
 simp only [Prod.mk.injEq] at hz
 obtain ⟨hz,hs,hy⟩:=hz
 have:=run_make (P:=Tryz.prog) w 335 2 i _ Tryz.underlying335 hi hz .i64 .i64 0 16 (by omega) (by omega) (by rw [hy];decide) (by decide)
 rw [hs] at this
 exact this
theorem nrow_append (B:Nat) (w:World) (v:Value) (l:List Int) (x:Int) (h:NRow B w v l) (hB:B≤w.heap.size) (hn:l.length≤4000000) :
 ∃ v' w',(Builtin.append_ #[335,335] 335 #[v,.slice (some ⟨w.heap.size,0,none⟩) 1 1]).run Tryz.prog (w.alloc (.cells #[.int .i64 x] 2))=.ok v' w'∧NRow B w' v' (l++[x])∧Below B w w'∧(∀ k,k<w.heap.size→v.ownBlock≠some k→w'.heap[k]?=w.heap[k]?)∧w.heap.size≤w'.heap.size:=by
 obtain ⟨i,hi,hz⟩:=Option.map_eq_some_iff.1 infoNum
 simp only [Prod.mk.injEq] at hz
 obtain ⟨hz,hs,hy⟩:=hz
 have h1:=h.call ((Below.refl _ w).alloc (Nat.le_refl _) (.cells #[.int .i64 x] 2))
 obtain ⟨v',w',hr,ho,hg,-⟩:=run_append_own (P:=Tryz.prog) (w.alloc (.cells #[.int .i64 x] 2)) B 335 335 2 i _ 1 8 Tryz.underlying335 hi hz hs hy rfl (by omega) v l.length _ h1
  ⟨w.heap.size,0,none⟩ 1 1 [.int .i64 x] rfl (fun j u hj=>by
   match j,hj with
   | 0,hj=>simp at hj;subst hj;simp [go_sem,Addr.add]
   | j+1,hj=>simp at hj) (fun u hu=>by simp at hu;subst hu;rfl) (by unfold maxLen;omega) (by omega) (by simp;omega)
 have gs:=hg.size
 have asz:(w.alloc (.cells #[.int .i64 x] 2)).heap.size=w.heap.size+1:=by simp
 refine ⟨v',w',hr,?_,?_,fun k hk hne=>?_,by omega⟩
 ·unfold NRow
  rw [List.length_append]
  simpa [nums] using ho
 · exact ((Below.refl B w).alloc hB _).grown hg (by simp;omega) (fun k hk=>(h1.lt k hk).1)
 ·rw [hg.block k (by omega) (fun e=>hne e.symm)]
  exact ((Below.refl w.heap.size w).alloc (Nat.le_refl _) _).block k hk
def leastR (m:Int):List Int→Int
 | []=>m
 | y :: l=>leastR (if y<m then y else m) l
theorem leastR_take {l:List Int}:∀ {m:Int} {i:Nat} (h:i<l.length),leastR m (l.take (i+1))=if l[i]<leastR m (l.take i) then l[i] else leastR m (l.take i):=by
 induction l with
 | nil=>intro m i h;simp at h
 | cons y l ih=>
  intro m i h
  cases i with
  | zero=>simp [leastR]
  | succ i=>
   rw [List.take_succ_cons,List.take_succ_cons,leastR,leastR,List.getElem_cons_succ]
   exact ih (by simpa using h)
def LeRel (l:List Int) (W:World) (g:Nat) (s t:Value) (wx:World):Prop:=
 ∃ i:Nat,i+g=l.length∧s=.int .i64 (leastR 1099511627777 (l.take i))∧t=.int .i64 (i:Int)∧wx=W
theorem least_any (l:List Int) (ao:Option Addr) (cap:Nat) (w:World) (hT:Ns ao l w) (hl:l.length≤1000000) :
 Calls Tryz.prog 245 #[.slice ao l.length cap] w fun e w'=>e=.returned (.int .i64 (leastR 1099511627777 l))∧w'=w:=by
 have T:=Lib.hid hT
 clear hT
 go_enter Tryz.func245,Tryz.ntmps245
 go_wp2_with fail
 go_loopg [3,8] l.length (LeRel l w)
 case atStart=>exact ⟨0,by omega,rfl,rfl,rfl⟩
 case round=>
  obtain ⟨i,hi,rfl,rfl,rfl⟩:=hrel
  by_cases hlt:i<l.length
  ·obtain ⟨b,off,rfl,hb,hat⟩:=T.out (by omega)
   have hx:=hat i l[i] (List.getElem?_eq_getElem hlt)
   have e:=leastR_take (m:=1099511627777) hlt
   have HI:=Lib.hid hi
   have hg0:0<gk:=by omega
   clear hat T hi
   generalize leastR 1099511627777 (l.take i)=M at *
   generalize l[i]=y at *
   by_cases h:y<M
   ·have HN:=Lib.hid (e.trans (if_pos h))
    clear e
    go_wp2
    go_roundg (gk-1)
    case measure=>omega
    case rel=>exact ⟨i+1,by have:=HI.out;omega,by rw [HN.out],by go_num,rfl⟩
   ·have HN:=Lib.hid (e.trans (if_neg h))
    have h':M≤y:=by omega
    clear e h
    go_wp2
    go_roundg (gk-1)
    case measure=>omega
    case rel=>exact ⟨i+1,by have:=HI.out;omega,by rw [HN.out],by go_num,rfl⟩
  ·have hge:(l.length:Int)≤(i:Int):=by omega
   rw [List.take_of_length_le (by omega)]
   clear hi hlt T
   go_wp2
   go_ret
   exact ⟨rfl,rfl⟩
end Go.Proofs.YteempfoajgblaaaGreat.Dm
namespace Go.Proofs.YteempfoajgblaaaGreat.Dm
open Pm (Tk chk chk_iff rowB rowB_all rowB_len TkAt Ts chk_any wrap_in below_drewN row_any load_tk exec_load1 exec_build1 wp_val name_world)
def ans:Option Int→Value
 | some y=>.tuple #[.int .i64 y,.bool true]
 | none=>.tuple #[.int .i64 0,.bool false]
theorem nextR_no {l:List Tk} {x:Int} (h:rowB l=false):nextR l x=none:=by unfold nextR;rw [if_neg (by rw [h];simp)]
theorem nextR_no2 {l:List Tk} {x:Int} (h:isTime x=false):nextR l x=none:=by unfold nextR;rw [if_neg (by rw [h];simp)]
theorem least_nxts {l:List Tk} {x:Int}:∀ m,(nxts l x=none∧leastR m (l.map (nxt · x))=m)∨∃ y,nxts l x=some y∧leastR m (l.map (nxt · x))=(if y<m then y else m):=by
 induction l with
 | nil=>intro m;left;exact ⟨rfl,rfl⟩
 | cons t l ih=>
  intro m
  right
  rw [List.map_cons,leastR,nxts]
  rcases ih (if nxt t x<m then nxt t x else m) with ⟨h1,h2⟩|⟨y,h1,h2⟩
  · rw [h1,h2];exact ⟨_,rfl,rfl⟩
  ·rw [h1,h2]
   refine ⟨_,rfl,?_⟩
   repeat' split
   all_goals omega
theorem next_least {l:List Tk} {x:Int} (hr:rowB l=true) (hx:isTime x=true):nextR l x=if isTime (leastR 1099511627777 (l.map (nxt · x)))=true then some (leastR 1099511627777 (l.map (nxt · x))) else none:=by
 have hl:=rowB_all hr
 have ht:∀ t∈l,0<t.t:=fun t h=>by have:=chk_iff.1 (hl t h);omega
 have h0:=isTime_iff.1 hx
 unfold nextR
 rw [if_pos ⟨hr,hx⟩]
 rcases least_nxts (l:=l) (x:=x) 1099511627777 with ⟨h1,h2⟩|⟨y,h1,h2⟩
 · rw [h1,h2];rfl
 ·have h3:=(nxts_is ht h1).1
  rw [h1,h2]
  simp only
  by_cases h:y<1099511627777
  · rw [if_pos h,if_neg (by omega),if_pos (isTime_iff.2 (by omega))]
  · rw [if_neg h,if_pos (by omega)];rfl
theorem leastR_in {l:List Int}:∀ {m:Int},(∀ y∈l,0≤y)→0≤m→0≤leastR m l∧leastR m l≤m:=by
 induction l with
 | nil=>intro m _ h;exact ⟨h,Int.le_refl _⟩
 | cons y l ih=>
  intro m hy h
  have h1:=hy y (by simp)
  rw [leastR]
  by_cases h2:y<m
  · rw [if_pos h2];have:=ih (m:=y) (fun z hz=>hy z (by simp [hz])) h1;omega
  · rw [if_neg h2];exact ih (m:=m) (fun z hz=>hy z (by simp [hz])) h
theorem build_num (w:World) (x:Int):(Instr.buildSlice 335 1 #[(0,.int .i64 x)]).run Tryz.prog w=.ok (.slice (some ⟨w.heap.size,0,none⟩) 1 1) (w.alloc (.cells #[.int .i64 x] 2)):=by kernel_rfl
structure Nx (w:World) (b:Nat) (t:Tk) (v:Value) (l:List Int) (W:World):Prop where
 bx:TkAt b 0 t W
 row:NRow w.heap.size W v l
 bel:Below w.heap.size w W
theorem Nx.call {w:World} {b:Nat} {t:Tk} {v:Value} {l:List Int} {W W':World} (h:Nx w b t v l W) (hb:Below W.heap.size W W'):Nx w b t v l W' :=
 ⟨h.bx.call hb,h.row.call hb,h.bel.trans (hb.mono h.bel.size)⟩
def NxRel (l:List Tk) (x:Int) (w:World) (g:Nat) (s t:Value) (wx:World):Prop:=
 ∃ (i:Nat) (v:Value),i+g=l.length∧t=.int .i64 (i:Int)∧v=s∧NRow w.heap.size wx v ((l.map (nxt · x)).take i)∧Below w.heap.size w wx
theorem nx_next {l:List Tk} {x:Int} {i:Nat} (h:i<l.length):(l.map (nxt · x)).take (i+1)=(l.map (nxt · x)).take i++[nxt l[i] x]:=by
 rw [List.take_succ_eq_append_getElem (by simpa using h)];simp
theorem next_any (l:List Tk) (ao:Option Addr) (cap:Nat) (x:Int) (w:World) (hT:Ts ao l w) (hl:l.length≤9223372036854775807) :
 Calls Tryz.prog 234 #[.slice ao l.length cap,.int .i64 x] w fun e w'=>e=.returned (ans (nextR l x))∧Below w.heap.size w w':=by
 have RO:=Lib.hid (fun w h=>row_any l ao cap w h hl)
 have TM:=Lib.hid (isTime_any x)
 have T:=Lib.hid hT
 cases hr:rowB l with
 | false=>
  have E:=Lib.hid (nextR_no (x:=x) hr)
  rw [hr] at RO
  generalize nextR l x=r at *
  clear hr
  go_enter Tryz.func234,Tryz.ntmps234
  go_wp2_with fail
  (with_reducible refine (RO.out _ hT).mono ?_)
  rintro e w1 ⟨rfl,b1⟩
  have K1:=Lib.hid b1
  clear b1 hT
  go_wp2
  exact bodyPost_ret (v:=.tuple #[.int .i64 0,.bool false]) (by simp [results,Tryz.results234,go_sem]) rfl ⟨by rw [E.out];rfl,K1.out⟩
 | true=>
  rw [hr] at RO
  cases hx:isTime x with
  | false=>
   have E:=Lib.hid (nextR_no2 (l:=l) hx)
   rw [hx] at TM
   generalize nextR l x=r at *
   clear hr hx
   go_enter Tryz.func234,Tryz.ntmps234
   go_wp2_with fail
   (with_reducible refine (RO.out _ hT).mono ?_)
   rintro e w1 ⟨rfl,b1⟩
   have K1:=Lib.hid b1
   clear b1 hT
   go_wp2_with fail
   (with_reducible refine (TM.out _).mono ?_)
   rintro e w2 ⟨rfl,rfl⟩
   go_wp2
   exact bodyPost_ret (v:=.tuple #[.int .i64 0,.bool false]) (by simp [results,Tryz.results234,go_sem]) rfl ⟨by rw [E.out];rfl,K1.out⟩
  | true=>
   have E:=Lib.hid (next_least hr hx)
   have hlen:=rowB_len hr
   have hall:=rowB_all hr
   have h0:=isTime_iff.1 hx
   rw [hx] at TM
   have DU:=Lib.hid (fun i (h:i<l.length) w=>due_any l[i] x w (hall _ (List.getElem_mem h)) (by omega) h0.2)
   have DE:=Lib.hid (fun i (h:i<l.length) w=>deadline_any l[i] (cnt l[i] x) w (by have:=(nxt_in (hall _ (List.getElem_mem h)) h0.1 h0.2).1;rw [Int.mul_comm];exact this) (by have:=(nxt_in (hall _ (List.getElem_mem h)) h0.1 h0.2).2.1;rw [Int.mul_comm];omega) (by have:=chk_iff.1 (hall _ (List.getElem_mem h));omega) (by have:=chk_iff.1 (hall _ (List.getElem_mem h));omega))
   simp only [← nxt_cnt] at DE
   have MK:=Lib.hid run_made
   have LI:=leastR_in (l:=l.map (nxt · x)) (m:=1099511627777) (fun y hy=>by
    obtain ⟨t,ht,rfl⟩:=List.mem_map.1 hy
    have:=(nxt_in (hall t ht) h0.1 h0.2).2.2.1
    omega) (by omega)
   generalize nextR l x=r at *
   clear hr hx h0 hall
   go_enter Tryz.func234,Tryz.ntmps234
   go_wp2_with fail
   (with_reducible refine (RO.out _ hT).mono ?_)
   rintro e w1 ⟨rfl,b1⟩
   have K1:=Lib.hid b1
   have N1:=Lib.hid (nrow_made w.heap.size w1 b1.size)
   have K2:=Lib.hid (fun o=>b1.alloc b1.size o)
   clear b1 hT RO
   go_wp2_with fail
   (with_reducible refine (TM.out _).mono ?_)
   rintro e w2 ⟨rfl,rfl⟩
   have mk:=MK.out
   go_wp2_with fail
   clear mk MK TM
   go_loopg [6,21] l.length (NxRel l x w)
   case atStart=>exact ⟨0,_,by omega,rfl,rfl,N1.out,K2.out _⟩
   case round=>
    obtain ⟨i,v0,hi,rfl,rfl,hN,hB⟩:=hrel
    have TQ:=T.out.below hB (Nat.le_refl _)
    by_cases hlt:i<l.length
    ·obtain ⟨b,off,rfl,hb,hat⟩:=TQ (by omega)
     have hx:=hat i l[i] (List.getElem?_eq_getElem hlt)
     have DUI:=Lib.hid (DU.out i hlt)
     have DEI:=Lib.hid (DE.out i hlt)
     have NXE:=Lib.hid (nx_next (x:=x) hlt)
     have hlen2:((l.map (nxt · x)).take i).length≤16:=by rw [List.length_take,List.length_map];omega
     have HI:=Lib.hid hi
     have NN:=Lib.hid hN
     have KB:=Lib.hid hB
     have hg0:0<gk:=by omega
     clear hi hat TQ hB hN DU DE
     generalize (l.map (nxt · x)).take i=L at *
     generalize nxt l[i] x=nx at *
     generalize cnt l[i] x=cn at *
     generalize l[i]=t at *
     have F0:Hid (Nx w wr.heap.size t v0 L (wr.alloc (.cells #[.int .i64 t.id,.int .i64 t.c,.int .i64 t.d,.int .i64 t.t,.int .i64 t.m] 45))):=Lib.hid (by
      have a1:=(Below.refl wr.heap.size wr).alloc (Nat.le_refl _) (.cells #[.int .i64 t.id,.int .i64 t.c,.int .i64 t.d,.int .i64 t.t,.int .i64 t.m] 45)
      exact ⟨⟨by simp [go_sem],by simp [go_sem],by simp [go_sem],by simp [go_sem],by simp [go_sem]⟩,NN.out.call a1,KB.out.trans (a1.mono KB.out.size)⟩)
     obtain ⟨c0,c1,c2,c3,c4⟩:=hx
     have LT:=Lib.hid (fun (W:World) (h:TkAt wr.heap.size 0 t W)=>load_tk h)
     have TV:Hid (t.v=.agg #[.int .i64 t.id,.int .i64 t.c,.int .i64 t.d,.int .i64 t.t,.int .i64 t.m]):=Lib.hid rfl
     clear NN
     generalize hV:t.v=tv at *
     go_upto_region 7 with (fail)
     refine name_world (fun W=>Nx w wr.heap.size t v0 L W) F0.out ?_
     intro S HS
     have H0:=Lib.hid (HS.call ((Below.refl _ _).drew))
     clear c0 c1 c2 c3 c4 F0 HS TV hV
     refine wp_region_any (by kernel_rfl) ?_
     (try (change wpAny _ _ _ _ _ _ _ (World.drew _)))
     refine Gh.tka 0 ?_
     refine Gh.tka 3 ?_
     refine wpAny_ready (rs:=[1,2]) (by kernel_rfl) (by simp) ?_
     refine AllReady.cons rfl (fun K hK=>?_) ?_
     ·rw [if_pos (by rfl)]
      refine wp_val (exec_load1 rfl rfl (LT.out _ H0.out.bx)) (hK _ _ ?_)
      clear hK K
      refine Gh.pta ?_
      refine Gh.rda 2 (fun K hK=>?_)
      rw [if_pos (by rfl)]
      refine wp_val (exec_load1 rfl rfl (LT.out _ H0.out.bx)) (hK _ _ ?_)
      clear hK K
      refine Gh.pta ?_
      refine Gh.rda 4 (fun K hK=>?_)
      rw [if_pos (by rfl)]
      go_simp
      (with_reducible refine (DUI.out _).mono ?_)
      rintro e wz1 ⟨rfl,b4⟩
      go_simp
      refine hK _ _ ?_
      have H1:=Lib.hid (H0.out.call b4)
      clear b4
      clear hK K
      refine Gh.pta ?_
      refine Gh.rda 5 (fun K hK=>?_)
      rw [if_pos (by rfl)]
      go_simp
      (with_reducible refine (DEI.out _).mono ?_)
      rintro e wz2 ⟨rfl,b5⟩
      go_simp
      refine hK _ _ ?_
      have H2:=Lib.hid (H1.out.call b5)
      clear b5
      clear hK K
      refine Gh.pta ?_
      refine Gh.rda 6 (fun K hK=>?_)
      rw [if_pos (by rfl)]
      refine wp_val (exec_build1 rfl rfl (build_num wz2 nx)) (hK _ _ ?_)
      obtain ⟨v6,w6,r6,n6,b6,-,s6⟩:=nrow_append w.heap.size wz2 v0 L nx H2.out.row H2.out.bel.size (by omega)
      have KF:=Lib.hid (H2.out.bel.trans b6)
      have NF:=Lib.hid n6
      clear b6 n6 s6
      clear hK K
      refine Gh.pta ?_
      refine Gh.rda 7 (fun K hK=>?_)
      rw [if_pos (by rfl)]
      refine Lib.wp_append_run _ _ _ _ _ rfl _ _ rfl rfl _ _ r6 (hK _ _ ?_)
      clear r6
      clear hK K
      refine Gh.pta ?_
      refine Gh.tka 8 ?_
      refine wpAny_done (by kernel_rfl) ?_ _
      go_wp2
      go_roundg (gk-1)
      case measure=>omega
      case rel=>exact ⟨i+1,_,by have:=HI.out;omega,by go_num,rfl,by rw [NXE.out];exact NF.out,KF.out⟩
     refine AllReady.cons rfl (fun K hK=>?_) ?_
     ·rw [if_pos (by rfl)]
      refine wp_val (exec_load1 rfl rfl (LT.out _ H0.out.bx)) (hK _ _ ?_)
      clear hK K
      refine Gh.pta ?_
      refine wpAny_ready (rs:=[1,4]) (by kernel_rfl) (by simp) ?_
      refine AllReady.cons rfl (fun K hK=>?_) ?_
      ·rw [if_pos (by rfl)]
       refine wp_val (exec_load1 rfl rfl (LT.out _ H0.out.bx)) (hK _ _ ?_)
       clear hK K
       refine Gh.pta ?_
       refine Gh.rda 4 (fun K hK=>?_)
       rw [if_pos (by rfl)]
       go_simp
       (with_reducible refine (DUI.out _).mono ?_)
       rintro e wz1 ⟨rfl,b4⟩
       go_simp
       refine hK _ _ ?_
       have H1:=Lib.hid (H0.out.call b4)
       clear b4
       clear hK K
       refine Gh.pta ?_
       refine Gh.rda 5 (fun K hK=>?_)
       rw [if_pos (by rfl)]
       go_simp
       (with_reducible refine (DEI.out _).mono ?_)
       rintro e wz2 ⟨rfl,b5⟩
       go_simp
       refine hK _ _ ?_
       have H2:=Lib.hid (H1.out.call b5)
       clear b5
       clear hK K
       refine Gh.pta ?_
       refine Gh.rda 6 (fun K hK=>?_)
       rw [if_pos (by rfl)]
       refine wp_val (exec_build1 rfl rfl (build_num wz2 nx)) (hK _ _ ?_)
       obtain ⟨v6,w6,r6,n6,b6,-,s6⟩:=nrow_append w.heap.size wz2 v0 L nx H2.out.row H2.out.bel.size (by omega)
       have KF:=Lib.hid (H2.out.bel.trans b6)
       have NF:=Lib.hid n6
       clear b6 n6 s6
       clear hK K
       refine Gh.pta ?_
       refine Gh.rda 7 (fun K hK=>?_)
       rw [if_pos (by rfl)]
       refine Lib.wp_append_run _ _ _ _ _ rfl _ _ rfl rfl _ _ r6 (hK _ _ ?_)
       clear r6
       clear hK K
       refine Gh.pta ?_
       refine Gh.tka 8 ?_
       refine wpAny_done (by kernel_rfl) ?_ _
       go_wp2
       go_roundg (gk-1)
       case measure=>omega
       case rel=>exact ⟨i+1,_,by have:=HI.out;omega,by go_num,rfl,by rw [NXE.out];exact NF.out,KF.out⟩
      refine AllReady.cons rfl (fun K hK=>?_) ?_
      ·rw [if_pos (by rfl)]
       go_simp
       (with_reducible refine (DUI.out _).mono ?_)
       rintro e wz1 ⟨rfl,b4⟩
       go_simp
       refine hK _ _ ?_
       have H1:=Lib.hid (H0.out.call b4)
       clear b4
       clear hK K
       refine Gh.pta ?_
       refine Gh.rda 1 (fun K hK=>?_)
       rw [if_pos (by rfl)]
       refine wp_val (exec_load1 rfl rfl (LT.out _ H1.out.bx)) (hK _ _ ?_)
       clear hK K
       refine Gh.pta ?_
       refine Gh.rda 5 (fun K hK=>?_)
       rw [if_pos (by rfl)]
       go_simp
       (with_reducible refine (DEI.out _).mono ?_)
       rintro e wz2 ⟨rfl,b5⟩
       go_simp
       refine hK _ _ ?_
       have H2:=Lib.hid (H1.out.call b5)
       clear b5
       clear hK K
       refine Gh.pta ?_
       refine Gh.rda 6 (fun K hK=>?_)
       rw [if_pos (by rfl)]
       refine wp_val (exec_build1 rfl rfl (build_num wz2 nx)) (hK _ _ ?_)
       obtain ⟨v6,w6,r6,n6,b6,-,s6⟩:=nrow_append w.heap.size wz2 v0 L nx H2.out.row H2.out.bel.size (by omega)
       have KF:=Lib.hid (H2.out.bel.trans b6)
       have NF:=Lib.hid n6
       clear b6 n6 s6
       clear hK K
       refine Gh.pta ?_
       refine Gh.rda 7 (fun K hK=>?_)
       rw [if_pos (by rfl)]
       refine Lib.wp_append_run _ _ _ _ _ rfl _ _ rfl rfl _ _ r6 (hK _ _ ?_)
       clear r6
       clear hK K
       refine Gh.pta ?_
       refine Gh.tka 8 ?_
       refine wpAny_done (by kernel_rfl) ?_ _
       go_wp2
       go_roundg (gk-1)
       case measure=>omega
       case rel=>exact ⟨i+1,_,by have:=HI.out;omega,by go_num,rfl,by rw [NXE.out];exact NF.out,KF.out⟩
      exact AllReady.nil
     exact AllReady.nil
    ·have hge:(l.length:Int)≤(i:Int):=by omega
     rw [List.take_of_length_le (by rw [List.length_map];omega)] at hN
     obtain ⟨a2,k2,rfl,-,hns⟩:=hN.form
     have LE:=Lib.hid (least_any _ a2 k2 wr hns (by rw [List.length_map];omega))
     have TY:=Lib.hid (isTime_any (leastR 1099511627777 (l.map (nxt · x))))
     have KB:=Lib.hid hB
     generalize leastR 1099511627777 (l.map (nxt · x))=y at *
     generalize (l.map (nxt · x)).length=ll at *
     clear hB hns hN TQ DU DE hi hlt
     cases hy:isTime y with
     | true=>
      rw [hy] at TY
      have E2:Hid (r=some y):=Lib.hid (by rw [E.out,if_pos hy])
      clear hy E
      go_wp2_with fail
      (with_reducible refine (LE.out).mono ?_)
      rintro e w3 ⟨rfl,rfl⟩
      go_wp2_with fail
      (with_reducible refine (TY.out _).mono ?_)
      rintro e w4 ⟨rfl,rfl⟩
      go_wp2
      exact bodyPost_ret (v:=.tuple #[.int .i64 y,.bool true]) (by simp [results,Tryz.results234,go_sem]) rfl ⟨by rw [E2.out];rfl,KB.out⟩
     | false=>
      rw [hy] at TY
      have E2:Hid (r=none):=Lib.hid (by rw [E.out,if_neg (by rw [hy];simp)])
      clear hy E
      go_wp2_with fail
      (with_reducible refine (LE.out).mono ?_)
      rintro e w3 ⟨rfl,rfl⟩
      go_wp2_with fail
      (with_reducible refine (TY.out _).mono ?_)
      rintro e w4 ⟨rfl,rfl⟩
      go_wp2
      exact bodyPost_ret (v:=.tuple #[.int .i64 0,.bool false]) (by simp [results,Tryz.results234,go_sem]) rfl ⟨by rw [E2.out];rfl,KB.out⟩
end Go.Proofs.YteempfoajgblaaaGreat.Dm
namespace Go.Proofs.YteempfoajgblaaaGreat.Dm
open Pm (Tk chk chk_iff rowB rowB_all rowB_len TkAt Ts chk_any wrap_in below_drewN row_any)
def beforeR (l:List Tk) (x:Int):Option Int:=if rowB l=true∧isTime x=true then (if 0<befs l x then some (befs l x) else none) else none
theorem beforeR_no {l:List Tk} {x:Int} (h:rowB l=false):beforeR l x=none:=by unfold beforeR;rw [if_neg (by rw [h];simp)]
theorem beforeR_no2 {l:List Tk} {x:Int} (h:isTime x=false):beforeR l x=none:=by unfold beforeR;rw [if_neg (by rw [h];simp)]
def befL (x m:Int):List Tk→Int
 | []=>m
 | t :: l=>befL x (if t.d<x∧m<bef t x then bef t x else m) l
theorem befL_take {l:List Tk} {x:Int}:∀ {m:Int} {i:Nat} (h:i<l.length),befL x m (l.take (i+1))=if l[i].d<x∧befL x m (l.take i)<bef l[i] x then bef l[i] x else befL x m (l.take i):=by
 induction l with
 | nil=>intro m i h;simp at h
 | cons y l ih=>
  intro m i h
  cases i with
  | zero=>simp [befL]
  | succ i=>
   rw [List.take_succ_cons,List.take_succ_cons,befL,befL,List.getElem_cons_succ]
   exact ih (by simpa using h)
theorem befL_befs {l:List Tk} {x:Int}:∀ {m:Int},0≤m→befL x m l=if m<befs l x then befs l x else m:=by
 induction l with
 | nil=>intro m h;show m=if m<0 then 0 else m;split <;> omega
 | cons t l ih=>
  intro m h
  rw [befL,ih (by split <;> omega),befs]
  by_cases hd:t.d<x
  ·simp only [hd,true_and]
   repeat' split
   all_goals omega
  · simp only [hd,false_and,if_false]
theorem befL_zero {l:List Tk} {x:Int} (hl:∀ t∈l,0<t.t∧0<t.d):befL x 0 l=befs l x:=by
 rw [befL_befs (by omega)]
 have:=befs_is (x:=x) hl
 split
 · rfl
 · omega
theorem before_befL {l:List Tk} {x:Int} (hr:rowB l=true) (hx:isTime x=true):beforeR l x=if 0<befL x 0 l then some (befL x 0 l) else none:=by
 have hl:=rowB_all hr
 unfold beforeR
 rw [if_pos ⟨hr,hx⟩,befL_zero (fun t h=>by have:=chk_iff.1 (hl t h);omega)]
theorem befL_in {l:List Tk} {x:Int} (hl:∀ t∈l,chk t=true):∀ {m:Int},0≤m→m≤1099511627776→x≤1099511627776→0≤befL x m l∧befL x m l≤1099511627776:=by
 induction l with
 | nil=>intro m h h1 _;exact ⟨h,h1⟩
 | cons t l ih=>
  intro m h h1 hx
  rw [befL]
  have ht:=chk_iff.1 (hl t (by simp))
  by_cases hd:t.d<x∧m<bef t x
  ·rw [if_pos hd]
   have:=bef_is (t:=t) (x:=x) (by omega) hd.1
   exact ih (fun a ha=>hl a (by simp [ha])) (by omega) (by omega) hx
  ·rw [if_neg hd]
   exact ih (fun a ha=>hl a (by simp [ha])) h h1 hx
theorem bef_step {t:Tk} {x m:Int} (hc:chk t=true):(t.d<x→0<cnt t (x-1)∧t.d+t.t*(cnt t (x-1)-1)=bef t x)∧(¬t.d<x→cnt t (x-1)=0):=by
 have ht:=chk_iff.1 hc
 refine ⟨fun h=>?_,fun h=>cnt_lt (by omega)⟩
 rw [cnt_ge (by omega)]
 have:=Int.ediv_nonneg (show 0≤x-1-t.d by omega) (show 0≤t.t by omega)
 refine ⟨by omega,?_⟩
 unfold bef
 rw [show (x-1-t.d)/t.t+1-1=(x-1-t.d)/t.t by omega]
def BeRel (l:List Tk) (x:Int) (B:Nat) (w:World) (g:Nat) (s t:Value) (wx:World):Prop:=
 ∃ i:Nat,i+g=l.length∧s=.int .i64 (befL x 0 (l.take i))∧t=.int .i64 (i:Int)∧Below B w wx
theorem before_any (l:List Tk) (ao:Option Addr) (cap:Nat) (x:Int) (w:World) (hT:Ts ao l w) (hl:l.length≤9223372036854775807) :
 Calls Tryz.prog 225 #[.slice ao l.length cap,.int .i64 x] w fun e w'=>e=.returned (ans (beforeR l x))∧Below w.heap.size w w':=by
 have RO:=Lib.hid (fun w h=>row_any l ao cap w h hl)
 have TM:=Lib.hid (isTime_any x)
 have T:=Lib.hid hT
 cases hr:rowB l with
 | false=>
  have E:=Lib.hid (beforeR_no (x:=x) hr)
  rw [hr] at RO
  generalize beforeR l x=r at *
  clear hr
  go_enter Tryz.func225,Tryz.ntmps225
  go_wp2_with fail
  (with_reducible refine (RO.out _ hT).mono ?_)
  rintro e w1 ⟨rfl,b1⟩
  have K1:=Lib.hid b1
  clear b1 hT
  go_wp2
  exact bodyPost_ret (v:=.tuple #[.int .i64 0,.bool false]) (by simp [results,Tryz.results225,go_sem]) rfl ⟨by rw [E.out];rfl,K1.out⟩
 | true=>
  rw [hr] at RO
  cases hx:isTime x with
  | false=>
   have E:=Lib.hid (beforeR_no2 (l:=l) hx)
   rw [hx] at TM
   generalize beforeR l x=r at *
   clear hr hx
   go_enter Tryz.func225,Tryz.ntmps225
   go_wp2_with fail
   (with_reducible refine (RO.out _ hT).mono ?_)
   rintro e w1 ⟨rfl,b1⟩
   have K1:=Lib.hid b1
   clear b1 hT
   go_wp2_with fail
   (with_reducible refine (TM.out _).mono ?_)
   rintro e w2 ⟨rfl,rfl⟩
   go_wp2
   exact bodyPost_ret (v:=.tuple #[.int .i64 0,.bool false]) (by simp [results,Tryz.results225,go_sem]) rfl ⟨by rw [E.out];rfl,K1.out⟩
  | true=>
   have E:=Lib.hid (before_befL hr hx)
   have hlen:=rowB_len hr
   have hall:=rowB_all hr
   have h0:=isTime_iff.1 hx
   rw [hx] at TM
   have CK:=Lib.hid (fun i (h:i<l.length)=>hall _ (List.getElem_mem h))
   have DU:=Lib.hid (fun i (h:i<l.length) w=>due_any l[i] (x-1) w (hall _ (List.getElem_mem h)) (by omega) (by omega))
   have BI:=Lib.hid (fun i=>befL_in (x:=x) (l:=l.take i) (fun t ht=>hall t (List.mem_of_mem_take ht)) (m:=0) (by omega) (by omega) h0.2)
   have x0:=h0.1
   have x1:=h0.2
   generalize beforeR l x=r at *
   clear hr hx h0 hall
   go_enter Tryz.func225,Tryz.ntmps225
   go_wp2_with fail
   (with_reducible refine (RO.out _ hT).mono ?_)
   rintro e w1 ⟨rfl,b1⟩
   have K1:=Lib.hid b1
   clear b1 hT RO
   go_wp2_with fail
   (with_reducible refine (TM.out _).mono ?_)
   rintro e w2 ⟨rfl,rfl⟩
   clear TM
   go_wp2_with fail
   go_loopg [6,20] l.length (BeRel l x w.heap.size w)
   case atStart=>exact ⟨0,by omega,rfl,rfl,K1.out⟩
   case round=>
    obtain ⟨i,hi,rfl,rfl,hB⟩:=hrel
    have TQ:=T.out.below hB (Nat.le_refl _)
    by_cases hlt:i<l.length
    ·obtain ⟨b,off,rfl,hb,hat⟩:=TQ (by omega)
     have hx:=hat i l[i] (List.getElem?_eq_getElem hlt)
     have hck:=CK.out i hlt
     have DUI:=Lib.hid (DU.out i hlt)
     have NX:=befL_take (x:=x) (m:=0) hlt
     have m0:=(BI.out i).1
     have m1:=(BI.out i).2
     have HI:=Lib.hid hi
     have KB:=Lib.hid hB
     have hg0:0<gk:=by omega
     have F0:Hid (Bx wr.heap.size wr l[i] (wr.alloc (.cells #[.int .i64 l[i].id,.int .i64 l[i].c,.int .i64 l[i].d,.int .i64 l[i].t,.int .i64 l[i].m] 45))):=Lib.hid (bx_new _ _ _)
     obtain ⟨s1,s2⟩:=bef_step (t:=l[i]) (x:=x) (m:=0) hck
     obtain ⟨-,-,k1,k2,k3,k4,-⟩:=chk_iff.1 hck
     clear hi hat TQ hB DU BI CK
     by_cases hd:l[i].d<x
     ·obtain ⟨n0,n1⟩:=s1 hd
      have bi:=bef_is (t:=l[i]) (x:=x) (by omega) hd
      have DEI:=Lib.hid (fun w=>deadline_any l[i] (cnt l[i] (x-1)-1) w (by
       rw [Int.mul_comm];exact Int.mul_nonneg (by omega) (by omega)) (by rw [Int.mul_comm];omega) (by omega) (by omega))
      rw [n1] at DEI
      have b0:=bi.1
      have b1:=bi.2.1
      have n2:cnt l[i] (x-1)≤1099511627777:=(cnt_le_time hck (isTime_iff.2 ⟨by omega,by omega⟩)).2
      clear s1 s2 n1 bi hck
      generalize befL x 0 (l.take i)=M at *
      generalize bef l[i] x=bb at *
      generalize cnt l[i] (x-1)=n at *
      generalize l[i]=t at *
      obtain ⟨c0,c1,c2,c3,c4⟩:=hx
      obtain ⟨ti,tc,td,tt,tm⟩:=t
      unfold Tk.v at DUI DEI
      simp only at *
      by_cases hm:M<bb
      ·have NE:=Lib.hid (NX.trans (if_pos ⟨hd,hm⟩))
       have hm':bb > M:=hm
       clear NX
       go_wp2_with fail
       (with_reducible refine (DUI.out _).mono ?_)
       rintro e w3 ⟨rfl,b3⟩
       have F1:=Lib.hid (F0.out.call b3)
       clear b3 F0 c0 c1 c2 c3 c4
       obtain ⟨c0,c1,c2,c3,c4,-⟩:=F1.out
       go_wp2_with fail
       (with_reducible refine (DEI.out _).mono ?_)
       rintro e w4 ⟨rfl,b4⟩
       have KF:=Lib.hid (KB.out.trans ((F1.out.call b4).bel.mono KB.out.size))
       clear b4 F1 KB c0 c1 c2 c3 c4 DEI DUI
       go_wp2
       go_roundg (gk-1)
       case measure=>omega
       case rel=>exact ⟨i+1,by have:=HI.out;omega,by rw [NE.out],by go_num,KF.out⟩
      ·have NE:=Lib.hid (NX.trans (if_neg (fun h=>hm h.2)))
       have hm':bb≤M:=by omega
       clear NX hm
       go_wp2_with fail
       (with_reducible refine (DUI.out _).mono ?_)
       rintro e w3 ⟨rfl,b3⟩
       have F1:=Lib.hid (F0.out.call b3)
       clear b3 F0 c0 c1 c2 c3 c4
       obtain ⟨c0,c1,c2,c3,c4,-⟩:=F1.out
       go_wp2_with fail
       (with_reducible refine (DEI.out _).mono ?_)
       rintro e w4 ⟨rfl,b4⟩
       have KF:=Lib.hid (KB.out.trans ((F1.out.call b4).bel.mono KB.out.size))
       clear b4 F1 KB c0 c1 c2 c3 c4 DEI DUI
       go_wp2
       go_roundg (gk-1)
       case measure=>omega
       case rel=>exact ⟨i+1,by have:=HI.out;omega,by rw [NE.out],by go_num,KF.out⟩
     ·rw [s2 hd] at DUI
      have NE:=Lib.hid (NX.trans (if_neg (fun h=>hd h.1)))
      clear s1 s2 NX hck
      generalize befL x 0 (l.take i)=M at *
      generalize l[i]=t at *
      obtain ⟨c0,c1,c2,c3,c4⟩:=hx
      obtain ⟨ti,tc,td,tt,tm⟩:=t
      unfold Tk.v at DUI
      simp only at *
      go_wp2_with fail
      (with_reducible refine (DUI.out _).mono ?_)
      rintro e w3 ⟨rfl,b3⟩
      have KF:=Lib.hid (KB.out.trans ((F0.out.call b3).bel.mono KB.out.size))
      clear b3 F0 KB c0 c1 c2 c3 c4 DUI
      go_wp2
      go_roundg (gk-1)
      case measure=>omega
      case rel=>exact ⟨i+1,by have:=HI.out;omega,by rw [NE.out],by go_num,KF.out⟩
    ·have hge:(l.length:Int)≤(i:Int):=by omega
     rw [List.take_of_length_le (by omega)]
     have m0:=(BI.out l.length).1
     rw [List.take_of_length_le (by omega)] at m0
     have K2:=Lib.hid hB
     generalize befL x 0 l=y at *
     clear hB TQ hi hlt DU BI CK
     by_cases hy:0<y
     ·have E2:Hid (r=some y):=Lib.hid (by rw [E.out,if_pos hy])
      have hd:decide (0<y)=true:=decide_eq_true hy
      clear E
      go_wp2
      exact bodyPost_ret (v:=.tuple #[.int .i64 y,.bool true]) (by simp [results,Tryz.results225,go_sem]) rfl ⟨by rw [E2.out];rfl,K2.out⟩
     ·have E2:Hid (r=none):=Lib.hid (by rw [E.out,if_neg hy])
      obtain rfl:y=0:=by omega
      clear E hy
      go_wp2
      exact bodyPost_ret (v:=.tuple #[.int .i64 0,.bool false]) (by simp [results,Tryz.results225,go_sem]) rfl ⟨by rw [E2.out];rfl,K2.out⟩
end Go.Proofs.YteempfoajgblaaaGreat.Dm
