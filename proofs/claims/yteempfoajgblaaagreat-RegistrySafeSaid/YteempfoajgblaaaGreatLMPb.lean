/- Rows of tasks that a call has made: append, what a later call leaves of them, a task of them .. -/
import Derived.Test.YteempfoajgblaaaGreatLQC
import Derived.Laws.AppendOwn
import Derived.Lib.AppendZeros
import Derived.Deep.MidRow
import Derived.Deep.Slices
import Derived.ChangeSlices
set_option maxRecDepth 100000
set_option linter.unusedVariables false
set_option linter.unusedSimpArgs false
open Go.ChangeShapes Go.WideShapes Go.ChangeAt Go.RowKit Go.Joins
set_option maxHeartbeats 4000000
namespace Go.Proofs.YteempfoajgblaaaGreat.Pm
def Tk.cs (x:Tk):List Value:=[.int .i64 x.id,.int .i64 x.c,.int .i64 x.d,.int .i64 x.t,.int .i64 x.m]
end Go.Proofs.YteempfoajgblaaaGreat.Pm
namespace Go.Proofs.YteempfoajgblaaaGreat.Pm
theorem exec_load1 {P:Program} {w w':World} {op:Oper} {a:Act} {v:Value} {ty:TypeId} {x:Operand} {q:Addr} (ho:op.op=.load ty x) (hx:a.eval x=.pointer (some q)) (hr:(loadVar ty q).run P w=.ok v w'):(execOp a.eval op).run P w=.ok (.value v) w':=by
 unfold execOp;simp only [ho,hx,Instr.loadAt,Instr.sureAddr,Sem.run_bind,Sem.run_pure,Result.andThen_ok,hr]
theorem exec_build1 {P:Program} {w w':World} {op:Oper} {a:Act} {v:Value} {ty:TypeId} {n:Nat} {x:Operand} {y:Value} (ho:op.op=.buildSlice ty n #[(0,x)]) (hx:a.eval x=y) (hr:(Instr.buildSlice ty n #[(0,y)]).run P w=.ok v w'):(execOp a.eval op).run P w=.ok (.value v) w':=by
 unfold execOp;simp only [ho,Sem.run_bind,Array.map,List.map_toArray];simp [hx,hr]
theorem wp_val {P:Program} {w w':World} {op:Oper} {a:Act} {K:Act→World→Prop} {Q:Exit→Act→World→Prop} {v:Value} (hr:(execOp a.eval op).run P w=.ok (.value v) w') (h:K (a.put op.dst v) w'):op.wp P a w K Q:=by
 unfold Oper.wp;rw [hr];exact h
theorem load_tk {b o:Nat} {x:Tk} {w:World} (h:TkAt b o x w):(loadVar 45 ⟨b,o,none⟩).run Tryz.prog w=.ok x.v w:=
 run_loadVar_mid w b o 45 x.cs _ (fun j u hj=>by
  have h5:j<5:=by have:=(List.getElem?_eq_some_iff.1 hj).1;simpa [Tk.cs] using this
  match j,h5,hj with
  | 0,_,hj=>simp [Tk.cs] at hj;subst hj;exact h.c0
  | 1,_,hj=>simp [Tk.cs] at hj;subst hj;exact h.c1
  | 2,_,hj=>simp [Tk.cs] at hj;subst hj;exact h.c2
  | 3,_,hj=>simp [Tk.cs] at hj;subst hj;exact h.c3
  | 4,_,hj=>simp [Tk.cs] at hj;subst hj;exact h.c4) Tryz.underlying45 rfl (by kernel_rfl)
end Go.Proofs.YteempfoajgblaaaGreat.Pm
namespace Go.Proofs.YteempfoajgblaaaGreat.Pm
structure Apart (b:Nat) (w w':World):Prop where
 os:w'.os=w.os
 tape:w'.tape=w.tape
 output:w'.output=w.output
 size:w.heap.size≤w'.heap.size
 block:∀ k,k<w.heap.size→k≠b→w'.heap[k]?=w.heap[k]?
theorem Apart.below {B b:Nat} {w w':World} (h:Apart b w w') (hB:B≤b) (hs:B≤w.heap.size):Below B w w' :=
 ⟨h.os,h.tape,h.output,h.size,fun k hk=>h.block k (by omega) (by omega)⟩
theorem carryf {W w1:World} {p:Addr} {v:Value} (hb:Below W.heap.size W w1) (h:W.cell? p=some v) (hf:W.frozen? p=false):w1.frozen? p=false:=by
 rw [← hf]
 apply hb.frozen
 rcases Nat.lt_or_ge p.block W.heap.size with h'|h'
 · exact h'
 · exfalso;unfold World.cell? at h;rw [Array.getElem?_eq_none h'] at h;cases h
structure NumAt (b:Nat) (z:Int) (w:World):Prop where
 c:w.cell? ⟨b,0,none⟩=some (.int .i64 z)
 f:w.frozen? ⟨b,0,none⟩=false
theorem mul_set {B:Nat} {z y:Int} {w w1:World} (h:NumAt B z w) (hb:Below w.heap.size w w1):NumAt B y (w1.setCell ⟨B,0,none⟩ (.int .i64 y))∧Apart B w (w1.setCell ⟨B,0,none⟩ (.int .i64 y)):=by
 have c1:=carry hb h.c
 have f1:=carryf hb h.c h.f
 have hl:=World.block_lt_of_cell? _ _ c1
 refine ⟨⟨by simp [go_sem,hl,c1],by simp [go_sem,hl,f1]⟩,?_⟩
 have hz:=hb.size
 refine ⟨hb.os,hb.tape,hb.output,by simpa [World.setCell] using hz,fun k hk hn=>?_⟩
 rw [Below.heap_setCell w1 ⟨B,0,none⟩ _ k hn]
 exact hb.block k hk
theorem Apart.drew {B:Nat} {w w':World} (h:Apart B w w'):Apart B w w'.drew:=⟨h.os,h.tape,h.output,h.size,h.block⟩
theorem mul_any (B p n:Nat) (w:World) (hp:0<p) (hp2:p≤1048576) (hn:0<n) (hn2:n≤2147483648) (h:NumAt B (p:Int) w) :
 Calls Tryz.prog 249 #[.int .i64 (n:Int),.pointer (some ⟨B,0,none⟩)] w fun e w'=>e=.returned (.tuple #[])∧NumAt B (Nat.lcm p n:Int) w'∧Apart B w w':=by
 have G:=Lib.hid (fun w=>gcd_any (p:Int) (n:Int) w (by omega) (by omega))
 have e1:Int.gcd (p:Int) (n:Int)=Nat.gcd p n:=rfl
 rw [e1] at G
 have hg:=Nat.gcd_pos_of_pos_left n hp
 have hL:p*(n/Nat.gcd p n)=Nat.lcm p n:=lcm_eq hp
 have hL2:=lcm_le hp2 hn2
 have hD:n/Nat.gcd p n≤n:=Nat.div_le_self _ _
 generalize Nat.lcm p n=L at *
 generalize Nat.gcd p n=g at *
 have hd:(n:Int)/(g:Int)=((n/g:Nat):Int):=by omega
 generalize n/g=D at *
 have hw:IntKind.i64.wrap (L:Int)=(L:Int):=by rw [IntKind.wrap_i64];omega
 have hm:(p:Int)*(D:Int)=(L:Int):=by rw [← hL];simp
 have MS:=fun w1 b=>Lib.hid (mul_set (y:=(L:Int)) (w1:=w1) h b)
 have cP:=h.c
 have fP:=h.f
 have hg0:((g:Int)==0)=false:=by simp;omega
 have hl:=World.block_lt_of_cell? _ _ cP
 have CA:=fun w1 (b:Below w.heap.size w w1)=>Lib.hid (And.intro (carry b cP) (And.intro (carryf b cP fP) b.size))
 clear hL h e1
 go_enter Tryz.func249,Tryz.ntmps249
 go_wp2_with fail
 go_region_with (go_at_call 250;refine (G.out _).mono ?_;rintro e w3 ⟨rfl,hb3⟩;obtain ⟨c3,f3,z3⟩:=(CA _ (by first|exact hb3|exact (Below.refl _ _).drew.trans hb3|exact (Below.refl _ _).trans hb3)).out)
 all_goals
  have FI:=MS w3 (by first|exact hb3|exact (Below.refl _ _).drew.trans hb3|exact (Below.refl _ _).trans hb3)
  go_end0
  exact ⟨rfl,FI.out⟩
theorem num_new (w:World) (T:TypeId):NumAt w.heap.size 1 (w.alloc (.cells #[.int .i64 1] T)):=⟨by simp [go_sem],by simp [go_sem]⟩
theorem NumAt.below {b:Nat} {z:Int} {w w':World} (h:NumAt b z w) (hb:Below w.heap.size w w'):NumAt b z w':=⟨carry hb h.c,carryf hb h.c h.f⟩
def PeRel (l:List Tk) (B:Nat) (w:World) (g:Nat) (s:Value) (wx:World):Prop:=
 ∃ i p:Nat,i+g=l.length∧s=.int .i64 (i:Int)∧pers l 1=pers (l.drop i) p∧0<p∧p≤1048576∧NumAt B (p:Int) wx∧Below w.heap.size w wx
theorem pers_next {l:List Tk} {i p:Nat} (h:i<l.length):pers (l.drop i) p=if 1048576<Nat.lcm p l[i].t.toNat then none else pers (l.drop (i+1)) (Nat.lcm p l[i].t.toNat):=by
 rw [List.drop_eq_getElem_cons h,pers]
theorem period_any (l:List Tk) (ao:Option Addr) (cap:Nat) (w:World) (hT:Ts ao l w) (hl:l.length≤1000000) :
 Calls Tryz.prog 242 #[.slice ao l.length cap] w fun e w'=>e=.returned (.tuple #[.int .i64 (periodR l).1,.int .i64 (periodR l).2])∧Below w.heap.size w w':=by
 have RO:=Lib.hid (fun w h=>row_any l ao cap w h (by omega))
 have HP:Hid (periodR l=if rowB l then (match pers l 1 with|some p=>((p:Int),0)|none=>(0,(16:Int))) else (0,1)):=Lib.hid rfl
 have HC:Hid (rowB l=true→∀ x∈l,chk x=true):=Lib.hid rowB_all
 generalize periodR l=pr at *
 generalize rowB l=rb at *
 have T:=Lib.hid hT
 go_enter Tryz.func242,Tryz.ntmps242
 go_wp2_with fail
 go_step3
 go_wp2_with fail
 (with_reducible refine (RO.out _ hT).mono ?_)
 rintro e w1 ⟨rfl,b1⟩
 clear hT
 cases rb
 ·have E:=Lib.hid HP.out
  clear HP
  go_wp2
  try simp only [Exit.noGoto]
  exact bodyPost_ret (v:=.tuple #[.int .i64 0,.int .i64 1]) (by simp [results,Tryz.results242,go_sem]) rfl ⟨by rw [E.out];rfl,b1⟩
 have N0:=Lib.hid (num_new w1 2)
 have K0:=Lib.hid (b1.alloc (by have:=b1.size;omega) (.cells #[.int .i64 1] 2))
 have hB:=b1.size
 have HC1:=Lib.hid (HC.out rfl)
 have hBw:=Lib.hid hB
 clear HC RO hB b1
 go_wp2_with fail
 go_step3
 go_wp2_with fail
 generalize w1.alloc (.cells #[.int .i64 1] 2)=wa at *
 generalize w1.heap.size=B at *
 go_loopg [14] l.length (PeRel l B w)
 case atStart=>exact ⟨0,1,by omega,rfl,rfl,by omega,by omega,N0.out,K0.out⟩
 case round=>
  obtain ⟨i,p,hi,rfl,hp,hp0,hp1,hN,hB⟩:=hrel
  have TQ:=T.out.below hB (Nat.le_refl _)
  by_cases hlt:i<l.length
  ·obtain ⟨b,off,rfl,hb,hat⟩:=TQ (by omega)
   have hx:=hat i l[i] (List.getElem?_eq_getElem hlt)
   have hck:=chk_iff.1 (HC1.out _ (List.getElem_mem hlt))
   rw [pers_next hlt] at hp
   obtain ⟨n,hn⟩:∃ n:Nat,l[i].t=(n:Int):=⟨l[i].t.toNat,by omega⟩
   have hn1:0<n:=by omega
   have hn2:n≤2147483648:=by omega
   have ht:l[i].t.toNat=n:=by omega
   rw [ht] at hp
   have MU:=Lib.hid (fun w h=>mul_any B p n w hp0 hp1 hn1 hn2 h)
   have HL1:0<Nat.lcm p n:=Nat.lcm_pos hp0 hn1
   generalize Nat.lcm p n=L at *
   have HPE:=Lib.hid hp
   have HI:=Lib.hid hi
   have KB:=Lib.hid hB
   have NA:=Lib.hid (fun o=>hN.below ((Below.refl _ _).alloc (Nat.le_refl _) o))
   have hg0:0<gk:=by omega
   clear hp hi hat hck ht hN TQ hp0 hp1 hn1 hn2
   generalize l[i]=x at *
   obtain ⟨c0,c1,c2,c3,c4⟩:=hx
   obtain ⟨xi,xc,xd,xt,xm⟩:=x
   simp only at hn c0 c1 c2 c3 c4
   subst hn
   have KB2:=Lib.hid (fun o=>KB.out.alloc KB.out.size o)
   clear KB
   go_wp2_with fail
   (with_reducible refine (MU.out _ (NA.out _)).mono ?_)
   rintro e w2 ⟨rfl,n2,a2⟩
   have K2:=Lib.hid ((KB2.out _).trans (a2.below hBw.out (KB2.out _).size))
   have N2:=Lib.hid n2
   clear a2 NA MU KB2
   have cB:=n2.c
   clear n2
   by_cases hov:1048576<L
   ·have E:Hid (pr=(0,16)):=Lib.hid (by rw [HP.out,HPE.out,if_pos hov];rfl)
    have hov':(1048576:Int)<(L:Int):=by omega
    clear hov
    go_wp2
    try simp only [Exit.noGoto]
    exact bodyPost_ret (v:=.tuple #[.int .i64 0,.int .i64 16]) (by simp [results,Tryz.results242,go_sem]) rfl ⟨by rw [E.out],K2.out⟩
   ·have hov':(L:Int)≤1048576:=by omega
    have E:=Lib.hid (HPE.out.trans (if_neg hov))
    clear hov HPE
    go_wp2
    go_roundg (gk-1)
    case measure=>omega
    case rel=>exact ⟨i+1,L,by have:=HI.out;omega,by go_num,E.out,HL1,by omega,N2.out,K2.out⟩
  ·have hge:(l.length:Int)≤(i:Int):=by omega
   rw [List.drop_eq_nil_of_le (by omega),pers] at hp
   have E:Hid (pr=((p:Int),0)):=Lib.hid (by rw [HP.out,hp];rfl)
   have K2:=Lib.hid hB
   have cB:=hN.c
   have hov':(p:Int)≤1048576:=by omega
   clear hp hB TQ hi hlt hN
   go_wp2
   try simp only [Exit.noGoto]
   exact bodyPost_ret (v:=.tuple #[.int .i64 (p:Int),.int .i64 0]) (by simp [results,Tryz.results242,go_sem]) rfl ⟨by rw [E.out],K2.out⟩
end Go.Proofs.YteempfoajgblaaaGreat.Pm
namespace Go.Proofs.YteempfoajgblaaaGreat.Pm
def LoRel (l:List Tk) (p:Int) (B:Nat) (w:World) (g:Nat) (s t:Value) (wx:World):Prop:=
 ∃ i:Nat,i+g=l.length∧s=.int .i64 (work p (l.take i))∧t=.int .i64 (i:Int)∧Below B w wx
theorem load_yes {l:List Tk} (h:(periodR l).2=0):loadR l=⟨work (periodR l).1 l,(periodR l).1,0⟩:=by unfold loadR;rw [if_pos h]
theorem load_no {l:List Tk} (h:(periodR l).2≠0):loadR l=⟨0,0,(periodR l).2⟩:=by unfold loadR;rw [if_neg h]
theorem wrap_in {z:Int} (h0 : -9223372036854775808≤z) (h1:z≤9223372036854775807):IntKind.i64.wrap z=z:=by rw [IntKind.wrap_i64];omega
structure Step (S x p D M:Int) (t:Int):Prop where
 d:p/t=D
 d':p.tdiv t=D
 m:x*D=M
 wd:IntKind.i64.wrap D=D
 wm:IntKind.i64.wrap M=M
 ws:IntKind.i64.wrap (S+M)=S+M
 m0:0≤M
 m1:M≤1048576
 s0:0≤S
 s1:S≤16777216
 z:¬t=0
 zb:(t==0)=false
 t0:0<t
theorem step_of {l:List Tk} {p:Nat} {i:Nat} (hr:rowB l=true) (hp:p≤1048576) (hlt:i<l.length) :
 ∃ S D M,work p (l.take i)=S∧work p (l.take (i+1))=S+M∧Step S l[i].c p D M l[i].t:=by
 have hx:=rowB_all hr _ (List.getElem_mem hlt)
 have h1:=term_le hx (p:=(p:Int)) (by omega)
 have h2:=work_le (l:=l.take i) (p:=(p:Int)) (fun x hx=>rowB_all hr x (List.mem_of_mem_take hx)) (by omega)
 have hl:=rowB_len hr
 have h3:((l.take i).length:Int)*(p:Int)≤16*1048576:=Int.mul_le_mul (by simp;omega) (by omega) (by omega) (by omega)
 have hc:=chk_iff.1 hx
 refine ⟨_,(p:Int)/l[i].t,l[i].c*((p:Int)/l[i].t),rfl,work_take hlt _,⟨rfl,?_,rfl,wrap_in (by omega) (by omega),wrap_in (by omega) (by omega),wrap_in (by omega) (by omega),h1.1,by omega,h2.1,by omega,by omega,by simp;omega,by omega⟩⟩
 exact Int.tdiv_eq_ediv_of_nonneg (by omega)
theorem load_any (l:List Tk) (ao:Option Addr) (cap:Nat) (w:World) (hT:Ts ao l w) (hl:l.length≤1000000) :
 Calls Tryz.prog 231 #[.slice ao l.length cap] w fun e w'=>e=.returned (.tuple #[.int .i64 (loadR l).n,.int .i64 (loadR l).p,.int .i64 (loadR l).e])∧Below w.heap.size w w':=by
 have PE:=Lib.hid (fun w h=>period_any l ao cap w h hl)
 have T:=Lib.hid hT
 by_cases h0:(periodR l).2=0
 ·obtain ⟨hr,p,-,hp1,hp0,hp2⟩:=period_ok h0
  rw [h0,hp1] at PE
  have E:=Lib.hid (load_yes h0)
  rw [hp1] at E
  have ST:=Lib.hid (fun i (hlt:i<l.length)=>step_of hr hp2 hlt)
  generalize loadR l=ld at *
  clear h0 hp1
  go_enter Tryz.func231,Tryz.ntmps231
  go_wp2_with fail
  (with_reducible refine (PE.out _ hT).mono ?_)
  rintro e w1 ⟨rfl,b1⟩
  have K0:=Lib.hid b1
  clear hT PE b1
  go_wp2_with fail
  go_loopg [7,20] l.length (LoRel l p w.heap.size w)
  case atStart=>exact ⟨0,by omega,by simp [work],rfl,K0.out⟩
  case round=>
   obtain ⟨i,hi,rfl,rfl,hB⟩:=hrel
   have TQ:=T.out.below hB (Nat.le_refl _)
   by_cases hlt:i<l.length
   ·obtain ⟨b,off,rfl,hb,hat⟩:=TQ (by omega)
    have hx:=hat i l[i] (List.getElem?_eq_getElem hlt)
    obtain ⟨S,D,M,e1,e2,st⟩:=ST.out i hlt
    have HI:=Lib.hid hi
    have KB:=Lib.hid (fun o=>hB.alloc hB.size o)
    have WT2:=Lib.hid e2
    have hg0:0<gk:=by omega
    rw [e1]
    clear hi hat TQ hB e1 e2
    generalize l[i]=x at *
    obtain ⟨c0,c1,c2,c3,c4⟩:=hx
    obtain ⟨xi,xc,xd,xt,xm⟩:=x
    simp only at c0 c1 c2 c3 c4 st
    obtain ⟨sd,sd',sm,wd,wm,ws,m0,m1,hs0,hs1,hz,hzb,ht0⟩:=st
    go_wp2_with fail
    go_quiet (fail)
    go_wp2
    go_roundg (gk-1)
    case measure=>omega
    case rel=>exact ⟨i+1,by have:=HI.out;omega,by rw [WT2.out],by go_num,(KB.out _).trans ((below_drewN _ _).mono (KB.out _).size)⟩
   ·have hge:(l.length:Int)≤(i:Int):=by omega
    rw [List.take_of_length_le (by omega)]
    have K2:=Lib.hid hB
    clear hB TQ hi hlt ST
    go_wp2
    exact bodyPost_ret (v:=.tuple #[.int .i64 (work p l),.int .i64 (p:Int),.int .i64 0]) (by simp [results,Tryz.results231,go_sem]) rfl ⟨by rw [E.out],K2.out⟩
 ·have E:=Lib.hid (load_no h0)
  generalize loadR l=ld at *
  generalize (periodR l).1=pp at *
  generalize (periodR l).2=pe at *
  have h1:(pe==0)=false:=by simpa using h0
  have h2:(pe != 0)=true:=by simpa using h0
  clear h0
  go_enter Tryz.func231,Tryz.ntmps231
  go_wp2_with fail
  (with_reducible refine (PE.out _ hT).mono ?_)
  rintro e w1 ⟨rfl,b1⟩
  clear hT PE
  go_wp2
  exact bodyPost_ret (v:=.tuple #[.int .i64 0,.int .i64 0,.int .i64 pe]) (by simp [results,Tryz.results231,go_sem]) rfl ⟨by rw [E.out],b1⟩
theorem over_any (l:List Tk) (ao:Option Addr) (cap:Nat) (w:World) (hT:Ts ao l w) (hl:l.length≤1000000) :
 Calls Tryz.prog 221 #[.slice ao l.length cap] w fun e w'=>e=.returned (.tuple #[.bool (decide ((loadR l).p<(loadR l).n)),.int .i64 (loadR l).e])∧Below w.heap.size w w':=by
 have LO:=Lib.hid (load_any l ao cap w hT hl)
 generalize loadR l=ld at *
 obtain ⟨n,p,e0⟩:=ld
 simp only at *
 clear hT
 go_enter Tryz.func221,Tryz.ntmps221
 go_wp2_with fail
 (with_reducible refine (LO.out).mono ?_)
 rintro e w1 ⟨rfl,b1⟩
 go_wp2
 exact bodyPost_ret (v:=.tuple #[.bool (decide (p<n)),.int .i64 e0]) (by simp [results,Tryz.results221,go_sem]) rfl ⟨rfl,b1⟩
end Go.Proofs.YteempfoajgblaaaGreat.Pm
namespace Go.Proofs.YteempfoajgblaaaGreat.Pm
instance:Inhabited Tk:=⟨⟨0,0,0,0,0⟩⟩
end Go.Proofs.YteempfoajgblaaaGreat.Pm
namespace Go.Proofs.YteempfoajgblaaaGreat.Pm
theorem rgcd_any (p n:Nat) (w:World) (hp:p≤1048576) (hn:n≤2147483648) :
 Calls Tryz.prog 205 #[.int .i64 (p:Int),.int .i64 (n:Int)] w fun e w'=>e=.returned (.int .i64 (Nat.gcd p n:Int))∧Below w.heap.size w w' :=
 rgcd_nat n (p:Int) (n:Int) w rfl (by omega) (by omega) (by omega)
def RpRel (l:List Tk) (w:World) (g:Nat) (s t:Value) (wx:World):Prop:=
 ∃ i p:Nat,i+g=l.length∧s=.int .i64 (p:Int)∧t=.int .i64 (i:Int)∧pers l 1=pers (l.drop i) p∧0<p∧p≤1048576∧Below w.heap.size w wx
theorem rperiod_any (l:List Tk) (ao:Option Addr) (cap:Nat) (w:World) (hT:Ts ao l w) (hl:l.length≤1000000) :
 Calls Tryz.prog 179 #[.slice ao l.length cap] w fun e w'=>e=.returned (.tuple #[.int .i64 (periodR l).1,.int .i64 (periodR l).2])∧Below w.heap.size w w':=by
 have RO:=Lib.hid (fun w h=>rrow_any l ao cap w h hl)
 have HP:Hid (periodR l=if rowB l then (match pers l 1 with|some p=>((p:Int),0)|none=>(0,(16:Int))) else (0,1)):=Lib.hid rfl
 have HC:Hid (rowB l=true→∀ x∈l,chk x=true):=Lib.hid rowB_all
 generalize periodR l=pr at *
 generalize rowB l=rb at *
 have T:=Lib.hid hT
 go_enter Tryz.func179,Tryz.ntmps179
 go_wp2_with fail
 (with_reducible refine (RO.out _ hT).mono ?_)
 rintro e w1 ⟨rfl,b1⟩
 clear hT
 cases rb
 ·have E:=Lib.hid HP.out
  clear HP
  go_wp2
  exact bodyPost_ret (v:=.tuple #[.int .i64 0,.int .i64 1]) (by simp [results,Tryz.results179,go_sem]) rfl ⟨by rw [E.out];rfl,b1⟩
 have K0:=Lib.hid b1
 have HC1:=Lib.hid (HC.out rfl)
 clear HC RO b1
 go_wp2_with fail
 go_loopg [5,6] l.length (RpRel l w)
 case atStart=>exact ⟨0,1,by omega,rfl,rfl,rfl,by omega,by omega,K0.out⟩
 case round=>
  obtain ⟨i,p,hi,rfl,rfl,hp,hp0,hp1,hB⟩:=hrel
  have TQ:=T.out.below hB (Nat.le_refl _)
  by_cases hlt:i<l.length
  ·obtain ⟨b,off,rfl,hb,hat⟩:=TQ (by omega)
   have hx:=hat i l[i] (List.getElem?_eq_getElem hlt)
   have hck:=chk_iff.1 (HC1.out _ (List.getElem_mem hlt))
   rw [pers_next hlt] at hp
   obtain ⟨n,hn⟩:∃ n:Nat,l[i].t=(n:Int):=⟨l[i].t.toNat,by omega⟩
   have hn1:0<n:=by omega
   have hn2:n≤2147483648:=by omega
   have ht:l[i].t.toNat=n:=by omega
   rw [ht] at hp
   have G:=Lib.hid (fun w=>rgcd_any p n w hp1 hn2)
   have hg:=Nat.gcd_pos_of_pos_left n hp0
   have hL:p/Nat.gcd p n*n=Nat.lcm p n:=lcm_eq'
   have hL2:=lcm_le hp1 hn2
   have HL1:0<Nat.lcm p n:=Nat.lcm_pos hp0 hn1
   have hD:p/Nat.gcd p n≤p:=Nat.div_le_self _ _
   generalize Nat.lcm p n=L at *
   generalize Nat.gcd p n=g at *
   have hd:(p:Int)/(g:Int)=((p/g:Nat):Int):=by omega
   generalize p/g=D at *
   have hw:IntKind.i64.wrap (L:Int)=(L:Int):=by rw [IntKind.wrap_i64];omega
   have hm:(D:Int)*(n:Int)=(L:Int):=by rw [← hL];simp
   have hg0:((g:Int)==0)=false:=by simp;omega
   have HPE:=Lib.hid hp
   have HI:=Lib.hid hi
   have KB:=Lib.hid hB
   have hk0:0<gk:=by omega
   clear hp hi hat hck ht TQ hL hn1 hn2
   generalize l[i]=x at *
   obtain ⟨c0,c1,c2,c3,c4⟩:=hx
   obtain ⟨xi,xc,xd,xt,xm⟩:=x
   simp only at hn c0 c1 c2 c3 c4
   subst hn
   have CA:=fun w1 (bb:Below wr.heap.size wr w1)=>Lib.hid (And.intro (carry bb c3) (And.intro (World.block_lt_of_cell? _ _ (carry bb c3)) (KB.out.trans (bb.mono KB.out.size))))
   have KD:=Lib.hid ((Below.refl wr.heap.size wr).drew)
   clear c0 c1 c2 c4
   go_wp2_with fail
   go_region_with (go_at_call 205;refine (G.out _).mono ?_;rintro e w3 ⟨rfl,hb3⟩;obtain ⟨c3',f3,z3⟩:=(CA _ (by first|exact hb3|exact KD.out.trans hb3)).out)
   all_goals
    have K2:=Lib.hid z3
    clear z3 CA KD KB G
    by_cases hov:1048576<L
    ·have E:Hid (pr=(0,16)):=Lib.hid (by rw [HP.out,HPE.out,if_pos hov];rfl)
     have hov':(1048576:Int)<(L:Int):=by omega
     clear hov
     go_wp2
     exact bodyPost_ret (v:=.tuple #[.int .i64 0,.int .i64 16]) (by simp [results,Tryz.results179,go_sem]) rfl ⟨by rw [E.out],K2.out⟩
    ·have hov':(L:Int)≤1048576:=by omega
     have E:=Lib.hid (HPE.out.trans (if_neg hov))
     clear hov HPE
     go_wp2
     go_roundg (gk-1)
     case measure=>omega
     case rel=>exact ⟨i+1,L,by have:=HI.out;omega,rfl,by go_num,E.out,HL1,by omega,K2.out⟩
  ·have hge:(l.length:Int)≤(i:Int):=by omega
   rw [List.drop_eq_nil_of_le (by omega),pers] at hp
   have E:Hid (pr=((p:Int),0)):=Lib.hid (by rw [HP.out,hp];rfl)
   have K2:=Lib.hid hB
   clear hp hB TQ hi hlt
   go_wp2
   exact bodyPost_ret (v:=.tuple #[.int .i64 (p:Int),.int .i64 0]) (by simp [results,Tryz.results179,go_sem]) rfl ⟨by rw [E.out],K2.out⟩
def Ld.v (x:Ld):Value:=.agg #[.int .i64 x.n,.int .i64 x.p,.int .i64 x.e]
structure Slot3 (b:Nat) (w:World):Prop where
 c0:∃ u,w.cell? ⟨b,0,none⟩=some u
 c1:∃ u,w.cell? ⟨b,1,none⟩=some u
 c2:∃ u,w.cell? ⟨b,2,none⟩=some u
 f0:w.frozen? ⟨b,0,none⟩=false
 f1:w.frozen? ⟨b,1,none⟩=false
 f2:w.frozen? ⟨b,2,none⟩=false
theorem Slot3.call {b:Nat} {w w':World} (h:Slot3 b w) (hb:Below w.heap.size w w'):Slot3 b w':=by
 obtain ⟨⟨u0,c0⟩,⟨u1,c1⟩,⟨u2,c2⟩,f0,f1,f2⟩:=h
 exact ⟨⟨u0,carry hb c0⟩,⟨u1,carry hb c1⟩,⟨u2,carry hb c2⟩,carryf hb c0 f0,carryf hb c1 f1,carryf hb c2 f2⟩
theorem slot3_new (w:World) (a b c:Value) (T:TypeId):Slot3 w.heap.size (w.alloc (.cells #[a,b,c] T)):=
 ⟨⟨a,by simp [go_sem]⟩,⟨b,by simp [go_sem]⟩,⟨c,by simp [go_sem]⟩,by simp [go_sem],by simp [go_sem],by simp [go_sem]⟩
theorem rload_any (l:List Tk) (ao:Option Addr) (cap:Nat) (w:World) (hT:Ts ao l w) (hl:l.length≤1000000) :
 Calls Tryz.prog 145 #[.slice ao l.length cap] w fun e w'=>e=.returned (loadR l).v∧Below w.heap.size w w':=by
 have PE:=Lib.hid (fun w h=>rperiod_any l ao cap w h hl)
 have A0:Hid (∀ o,Ts ao l (w.alloc o)∧Below w.heap.size w (w.alloc o)):=Lib.hid (fun o=>⟨hT.call ((Below.refl _ _).alloc (Nat.le_refl _) o),(Below.refl _ _).alloc (Nat.le_refl _) o⟩)
 have S0:=Lib.hid (fun a b c=>slot3_new w a b c 229)
 have T:=Lib.hid hT
 have AL:Hid (∀ o,(w.alloc o).heap.size=w.heap.size+1):=Lib.hid (fun o=>by simp)
 by_cases h0:(periodR l).2=0
 ·obtain ⟨hr,p,-,hp1,hp0,hp2⟩:=period_ok h0
  rw [h0,hp1] at PE
  have E:=Lib.hid (load_yes h0)
  rw [hp1] at E
  have ST:=Lib.hid (fun i (hlt:i<l.length)=>step_of hr hp2 hlt)
  generalize loadR l=ld at *
  clear h0 hp1 hT
  go_enter Tryz.func145,Tryz.ntmps145
  go_wp2_with fail
  (with_reducible refine (PE.out _ (A0.out _).1).mono ?_)
  rintro e w1 ⟨rfl,b1⟩
  have S1:=Lib.hid ((S0.out _ _ _).call b1)
  have K0:=Lib.hid ((A0.out _).2.trans (b1.mono (by rw [AL.out];omega)))
  have Z1:Hid (w.heap.size<w1.heap.size):=Lib.hid (by have:=b1.size;rw [AL.out] at this;omega)
  clear PE b1 A0 S0 AL
  go_wp2_with fail
  go_loopg [5,6] l.length (LoRel l p w1.heap.size w1)
  case atStart=>exact ⟨0,by omega,by simp [work],rfl,Below.refl _ _⟩
  case round=>
   obtain ⟨i,hi,rfl,rfl,hB⟩:=hrel
   have TQ:=(T.out.below K0.out (Nat.le_refl _)).below hB (Nat.le_refl _)
   by_cases hlt:i<l.length
   ·obtain ⟨b,off,rfl,hb,hat⟩:=TQ (by omega)
    have hx:=hat i l[i] (List.getElem?_eq_getElem hlt)
    obtain ⟨S,D,M,e1,e2,st⟩:=ST.out i hlt
    have HI:=Lib.hid hi
    have KB:=Lib.hid hB
    have WT2:=Lib.hid e2
    have hg0:0<gk:=by omega
    rw [e1]
    clear hi hat TQ hB e1 e2
    generalize l[i]=x at *
    obtain ⟨c0,c1,c2,c3,c4⟩:=hx
    obtain ⟨xi,xc,xd,xt,xm⟩:=x
    simp only at c0 c1 c2 c3 c4 st
    obtain ⟨sd,sd',sm,wd,wm,ws,m0,m1,hs0,hs1,hz,hzb,ht0⟩:=st
    go_wp2_with fail
    go_quiet (fail)
    go_wp2
    go_roundg (gk-1)
    case measure=>omega
    case rel=>exact ⟨i+1,by have:=HI.out;omega,by rw [WT2.out],by go_num,KB.out.trans ((below_drewN _ _).mono KB.out.size)⟩
   ·have hge:(l.length:Int)≤(i:Int):=by omega
    rw [List.take_of_length_le (by omega)]
    have K2:=Lib.hid (K0.out.trans (hB.mono K0.out.size))
    have S2:=Lib.hid (S1.out.call hB)
    obtain ⟨⟨u0,x0⟩,⟨u1,x1⟩,⟨u2,x2⟩,f0,f1,f2⟩:=S1.out.call hB
    have hz:=World.block_lt_of_cell? _ _ x0
    clear hB TQ hi hlt ST
    go_wp2
    refine bodyPost_ret (v:=.agg #[.int .i64 (work p l),.int .i64 (p:Int),.int .i64 0]) (by simp [results,Tryz.results145,go_sem,x0,x1,x2,hz]) rfl ⟨by rw [E.out];rfl,?_⟩
    exact ((K2.out.setCell (by simp) _).setCell (by simp) _).setCell (by simp) _
 ·have E:=Lib.hid (load_no h0)
  generalize loadR l=ld at *
  generalize (periodR l).1=pp at *
  generalize (periodR l).2=pe at *
  have h1:(pe==0)=false:=by simpa using h0
  have h2:(pe != 0)=true:=by simpa using h0
  clear h0 hT
  go_enter Tryz.func145,Tryz.ntmps145
  go_wp2_with fail
  (with_reducible refine (PE.out _ (A0.out _).1).mono ?_)
  rintro e w1 ⟨rfl,b1⟩
  have S1:=Lib.hid ((S0.out _ _ _).call b1)
  have K0:=Lib.hid ((A0.out _).2.trans (b1.mono (by rw [AL.out];omega)))
  obtain ⟨⟨u0,x0⟩,⟨u1,x1⟩,⟨u2,x2⟩,f0,f1,f2⟩:=S1.out
  have hz:=World.block_lt_of_cell? _ _ x0
  clear PE b1 A0 S0 AL
  go_wp2
  refine bodyPost_ret (v:=.agg #[.int .i64 0,.int .i64 0,.int .i64 pe]) (by simp [results,Tryz.results145,go_sem,x0,x1,x2,hz]) rfl ⟨by rw [E.out];rfl,?_⟩
  exact ((K0.out.setCell (by simp) _).setCell (by simp) _).setCell (by simp) _
end Go.Proofs.YteempfoajgblaaaGreat.Pm
