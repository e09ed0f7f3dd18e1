/- Places of sectors, and what a round of their row keeps. The function over which package slots' .. -/
import Derived.RangeFuncNested
import Derived.RangeFuncBound
import Derived.RangeFuncCalls
import Derived.RangeFuncLeaves
import Derived.RangeFuncBox
import Derived.Maps.AppendAt
import Derived.Shelf.Abstract
import Derived.Shelf.RegionOpen
import Derived.OwnWalkIn
import Derived.TacticsInMore
import Derived.LoopNIn
import Derived.LoopIn
import Derived.Stop.RegionWithIn
import Derived.Test.YteempfoajgblaaaGreatLMSb
set_option maxRecDepth 100000
set_option linter.unusedVariables false
set_option linter.unusedSimpArgs false
set_option maxHeartbeats 4000000
namespace Go.Proofs.YteempfoajgblaaaGreat.Sl
open Go.ChangeShapes Go.WideShapes Go.ChangeAt Go.RowKit Go.Joins Go.Shelf
open Dk (Dk DS Moved ptr)
attribute [local go_sem] Oper.semAt_some
abbrev Pl (k:Nat):Type:={ x:Nat×Nat // x.1<2∧x.2<k }
def plAt {k:Nat} (hk:1≤k) (j:Nat):Pl k:=⟨(j/k%2,j%k),Nat.mod_lt _ (by omega),Nat.mod_lt _ (by omega)⟩
def upto {α:Type} (f:Nat→α) (k:Nat):List α:=(List.range k).map f
theorem upto_succ {α:Type} (f:Nat→α) (k:Nat):upto f (k+1)=upto f k++[f k]:=by simp [upto,List.range_succ]
theorem IntKind.wrap_i64_of {D:Int} (h0:0≤D) (h1:D≤2):IntKind.i64.wrap D=D:=by
 rcases (show D=0∨D=1∨D=2 by omega) with rfl|rfl|rfl <;> decide
theorem upto_length {α:Type} (f:Nat→α) (k:Nat):(upto f k).length=k:=by simp [upto]
def Kp (X q:Nat) (A B:World):Prop:=B.heap[X]?=A.heap[X]?∧B.heap[q]?=A.heap[q]?
theorem Kp.trans {X q:Nat} {A B C:World} (h:Kp X q A B) (k:Kp X q B C):Kp X q A C:=⟨k.1.trans h.1,k.2.trans h.2⟩
theorem Kp.put {X q:Nat} {w:World} (hX:X<w.heap.size) (hq:q<w.heap.size) (W:World) (l:Nat) (o o':Obj) (hl:w.heap.size≤l) (h:W.heap[l]?=some o) (_:o.isCells=false) (_:o.isWalk=false):Kp X q W (W.putObj l o'):=
 ⟨World.putObj_heap_other (by omega),World.putObj_heap_other (by omega)⟩
def encP {k:Nat} (x:Pl k):Array Value:=#[.int .i64 (x.1.1:Int),.int .i64 (x.1.2:Int)]
end Go.Proofs.YteempfoajgblaaaGreat.Sl
namespace Go.Proofs.YteempfoajgblaaaGreat.Sl
open Go.ChangeShapes Go.WideShapes Go.ChangeAt Go.RowKit Go.Joins Go.Shelf
open Dk (Dk DS Moved ptr)
attribute [local go_sem] Oper.semAt_some
theorem places1_in (n:Nat) (hn:1≤n) (l X q k N0:Nat) (hk:1≤k) (hk2:k≤64) (J Jx:List (Pl k)→World→Prop) (hJ:AbidesFrom N0 J)
 (hY:∀ pre x W,J pre W→pre.length<2*k→YieldAt Fence.wide (n-1) Tryz.prog l (encP x) W fun e W' =>
  (e=.returned (.bool true)∧J (pre++[x]) W'∧Kp X q W W')∨(e=.returned (.bool false)∧Jx (pre++[x]) W'))
 (W:World) (hX:W.cell? ⟨X,0,none⟩=some (ptr q)) (hq:W.cell? ⟨q,2,none⟩=some (.int .i64 (k:Int))) (h0:J [] W) :
 CallsIn Fence.wide n Tryz.prog 181 #[.func (.yield l) #[] #[],ptr X] W fun e W'=>(∃ v,e=.returned v) ∧
  ((∃ ys,ys=upto (plAt hk) (2*k)∧J ys W')∨(∃ pre,(∃ m,m≤2*k∧pre=upto (plAt hk) m)∧Jx pre W')):=by
 refine callsIn_of_wp Tryz.func181 rfl trivial ?_ rfl
 simp only [Tryz.ntmps181,List.size_toArray,List.length_cons,List.length_nil,Nat.reduceAdd,Nat.reduceSub,Array.replicate_succ,Array.replicate_zero,List.push_toArray,List.append_toArray,List.nil_append,List.cons_append]
 gi_wp2
 gi_loopw [9] (fun i wr=>∃ m:Nat,m≤2*k∧i=.int .i64 m∧J (upto (plAt hk) m) wr∧Kp X q W wr)
  (fun i _=>2*k-(intOf i).toNat)
 case atStart=>exact ⟨0,Nat.zero_le _,rfl,h0,rfl,rfl⟩
 case round=>
  obtain ⟨m,hm,rfl,hJs,hkp⟩:=hrel
  have cX:wr.cell? ⟨X,0,none⟩=some (ptr q):=(World.cell?_of_block (w:=W) (a:=⟨X,0,none⟩) hkp.1).trans hX
  have cq:wr.cell? ⟨q,2,none⟩=some (.int .i64 (k:Int)):=(World.cell?_of_block (w:=W) (a:=⟨q,2,none⟩) hkp.2).trans hq
  by_cases hlt:m<2*k
  ·have hJd:J (upto (plAt hk) m) wr.drew:=hJ _ wr _ none hJs ⟨rfl,rfl,rfl,Nat.le_refl _,fun _ _ _=>rfl⟩ (fun r e=>by cases e)
   obtain ⟨fn,tmps,assign,body,hy,hR⟩:=hY _ (plAt hk m) wr.drew hJd (by rw [upto_length];exact hlt)
   have hR':=hR.mono (R':=fun e W'=>∃ b,e=.returned (.bool b)∧((b=true∧J (upto (plAt hk) m++[plAt hk m]) W'∧Kp X q wr.drew W')∨(b=false∧Jx (upto (plAt hk) m++[plAt hk m]) W'))) (by
    rintro e W' (⟨rfl,h1,h2⟩|⟨rfl,h1⟩)
    · exact ⟨true,rfl,.inl ⟨rfl,h1,h2⟩⟩
    · exact ⟨false,rfl,.inr ⟨rfl,h1⟩⟩)
   clear hR
   have h1:m/k<2:=by rw [Nat.div_lt_iff_lt_mul (by omega)];exact hlt
   have hd:(m:Int)/(k:Int)=((m/k:Nat):Int):=by push_cast;rfl
   obtain ⟨D,hD⟩:∃ D:Int,D=((m/k:Nat):Int):=⟨_,rfl⟩
   obtain ⟨R,hRR⟩:∃ R:Int,R=((m%k:Nat):Int):=⟨_,rfl⟩
   have E:encP (plAt hk m)=#[.int .i64 D,.int .i64 R]:=by
    have e1:D=(((m/k)%2:Nat):Int):=by rw [hD,Nat.mod_eq_of_lt h1]
    rw [e1,hRR]
    rfl
   have d1:(m:Int)/(k:Int)=D:=by rw [hd,hD]
   have d2:(m:Int).tdiv (k:Int)=D:=by rw [Int.tdiv_eq_ediv_of_nonneg (by omega),d1]
   have d3:(m:Int).tmod (k:Int)=R:=by rw [hRR,Int.ofNat_tmod]
   have d4:(m:Int)%(k:Int)=R:=by rw [hRR];push_cast;rfl
   have d5:0≤D:=by rw [hD];exact Int.natCast_nonneg _
   have d6:D≤2:=by rw [hD];generalize m/k=z at *;omega
   have d7:0≤R:=by rw [hRR];exact Int.natCast_nonneg _
   have d9:IntKind.i64.wrap D=D:=IntKind.wrap_i64_of d5 d6
   have d10:wrap64 D=D:=by unfold wrap64;omega
   have d8:R≤64:=by have:=Nat.mod_lt m (show 0<k by omega);omega
   rw [E] at hy
   have HJK:=Lib.hid (And.intro hJs hkp)
   have HLT:=Lib.hid hlt
   have HR:=Lib.hid hR'
   have lt:(m:Int)<2*(k:Int):=by omega
   have k0:(1:Int)≤(k:Int):=by omega
   have k1:(k:Int)≤64:=by omega
   have m0:(0:Int)≤(m:Int):=by omega
   clear hJs hkp hR' hJd hJ hY hX hq E hlt h1 hd hD hRR
   gi_wp2
   gi_region_with (refine HR.out.mono ?_;rintro e W3 ⟨bb,rfl,hbb⟩)
   all_goals
    rcases hbb with ⟨rfl,hJ3,hk3⟩|⟨rfl,hJx3⟩
    ·gi_wp2
     go_roundw
     case rel=>exact ⟨m+1,by have:=HLT.out;omega,by simp,by rw [upto_succ];exact hJ3,HJK.out.2.trans hk3⟩
     case measure=>simp [intOf];omega
    ·gi_wp2
     refine bodyPost_ret (results_none rfl _ _ _) rfl ?_
     exact ⟨⟨_,rfl⟩,.inr ⟨_,⟨m+1,by have:=HLT.out;omega,(upto_succ _ _).symm⟩,hJx3⟩⟩
  ·obtain rfl:m=2*k:=by omega
   gi_wp2
   go_end0
   exact ⟨⟨_,rfl⟩,.inl ⟨_,rfl,hJs⟩⟩
end Go.Proofs.YteempfoajgblaaaGreat.Sl
namespace Go.Proofs.YteempfoajgblaaaGreat.Sl
open Go.RowKit
section
variable {P:Program} {ops:Array Oper} {Q:Exit→Act→World→Prop} {md:Region.Mode} {l n:Nat}
def defers (o:Oper):Bool:=match o.op with | .defer _=>true|_=>false
theorem not_defer {o:Oper} (h:defers o=false):∀ c,o.op≠.defer c:=fun c e=>by
 unfold defers at h;rw [e] at h;cases h
theorem op_in_round {o:Oper} (hd:defers o=false) {a:Act} {w:World} {K:Act→World→Prop} (h:o.wp P a w K Q):o.wpIn (Fence.wide.inRound l) n P a w K Q:=by
 refine ⟨fun f _=>trivial,?_⟩
 rw [show (Fence.wide.inRound l).round=some l from rfl,Oper.semAt_some l _ _ (not_defer hd)]
 unfold Oper.wp at h
 generalize (execOp a.eval o).run P w=r at h
 cases r with
 | ok x w' =>
  cases x <;> simp only [Oper.upon] at h <;> simp only [Oper.uponIn]
  case value v=>exact h
  case skip=>exact h
  case defer d=>exact h
  case enter f args=>exact ⟨fun e=>(by cases e),CallsIn.inRound l (callsIn_wide.2 h)⟩
  case row row args=>
   refine ⟨fun e=>(by cases e),fun c cs _=>?_⟩
   obtain ⟨v,w'',hr,hs⟩:=h c cs
   exact ⟨v,w'',hr,stepsIn_wide.2 hs⟩
 | halt x w' =>
  cases x <;> simp only [Oper.upon] at h <;> simp only [Oper.uponIn]
  case panic v=>exact h
theorem any_in_round (hd:ops.all (fun o=>!defers o)=true) (hL:¬LetsOut Q):∀ (fuel:Nat) (listed:Array Bool) (a:Act) (w:World),wpAny P md ops Q fuel listed a w→wpAnyIn (Fence.wide.inRound l) n P md ops Q fuel listed a w
 | 0,_,_,_,h=>h
 | fuel+1,listed,a,w,h=>⟨h.1,fun i hi=>by
  have h1:=wpOp_mono (fun a' w'=>any_in_round hd hL fuel (listed.setIfInBounds i true) a' w') (h.2 i hi)
  unfold wpOp at h1
  unfold wpOpIn
  split at h1
  ·rename_i ho
   rw [ho]
   exact h1
  ·rename_i o ho
   rw [ho]
   have hdo:defers o=false:=by
    obtain ⟨hlt,e⟩:=Array.getElem?_eq_some_iff.1 ho
    have:=(Array.all_eq_true.1 hd) i hlt
    rw [e] at this
    simpa using this
   show if Region.wanted o (yielded ops a.tmps)=true then _ else _
   split at h1
   ·rename_i hw
    rw [if_pos hw]
    rcases h1 with h1|⟨_,h1⟩
    · exact op_in_round hdo h1
    · exact absurd h1 hL
   ·rename_i hw
    rw [if_neg hw]
    exact ⟨fun f _=>trivial,h1⟩⟩
end
end Go.Proofs.YteempfoajgblaaaGreat.Sl
