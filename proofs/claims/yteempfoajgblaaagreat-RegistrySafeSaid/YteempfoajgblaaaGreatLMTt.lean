/- Rows of tasks; package table's In. Package table's Tasks, the document's Tasks and In; the same .. -/
import Derived.Test.YteempfoajgblaaaGreatLQE
import Derived.Test.YteempfoajgblaaaGreatLGnH
set_option maxRecDepth 100000
set_option linter.unusedVariables false
set_option linter.unusedSimpArgs false
open Go.ChangeShapes Go.WideShapes Go.ChangeAt Go.RowKit Go.Joins
set_option maxHeartbeats 4000000
namespace Go.Proofs.YteempfoajgblaaaGreat.Tb
open Pm (Tk chk chk_iff below_drewN)
open Ge (El Seen Row)
theorem row_neT {α:Type} {f:α→List Value} {n T:Nat} {B:Nat} {W:World} {v:Value} {l:List α} {p:Nat} {cs:Array Value} {U:Nat} {fz:Nat×Nat} (h:Row f n T B W v l) (hp:W.heap[p]?=some (.cells cs U fz)) (hT:U≠T):v.ownBlock≠some p:=fun e=>by
 rcases h.2 with ⟨rfl,h0⟩|⟨g,c,cur,rfl,hB,hg,-⟩
 · cases e
 ·have:g=p:=by simpa [Value.ownBlock] using e
  subst this
  rw [hg] at hp
  cases hp
  exact hT rfl
theorem app_el {α:Type} {f:α→List Value} {n bytes T ST:Nat} {z:Value} (E:El Tryz.prog T ST n bytes z f) {L:List (Nat×Array Value×Nat)} {w W:World} {v:Value} {l:List α} (x:α) (cs:Array Value) (hcs:cs=(f x).toArray) (h:Bos L w W) (hn:∀ y∈L,y.2.2≠T) (hr:Row f n T w.heap.size W v l) (hl:l.length≤90000) :
 ∃ v' W',(Builtin.append_ #[ST,ST] ST #[v,.slice (some ⟨W.heap.size,0,none⟩) 1 1]).run Tryz.prog (W.alloc (.cells cs T))=.ok v' W'∧Row f n T w.heap.size W' v' (l++[x])∧Bos L w W':=by
 subst hcs
 have ba:Below W.heap.size W (W.alloc (.cells (f x).toArray T)):=(Below.refl _ _).alloc (Nat.le_refl _) _
 have h':=h.call ba
 have hr':=hr.call ba
 obtain ⟨v',W',h1,h2,h3,h4⟩:=Ge.row_one E (x:=x) (b:=W.heap.size) (o:=0) (c:=1) (ty:=ST) hr' (fun j u hj=>by
  rw [Nat.zero_add,Lib.cell_of_heap (heap_alloc_new _ _)]
  simpa using hj) h'.bl.size (by omega)
 exact ⟨v',W',h1,h2,h'.grow (fun y hy=>row_neT hr' (h'.at_ y hy).1 (hn y hy)) (fun g e=>(hr'.lt g e).1) h4⟩
def tcs (t:Tk):List Value:=[.int .i64 t.id,.int .i64 t.c,.int .i64 t.d,.int .i64 t.t,.int .i64 t.m]
theorem tcs_len (t:Tk):(tcs t).length=5:=rfl
theorem elT:El Tryz.prog 45 75 5 40 (.agg #[.int .i64 0,.int .i64 0,.int .i64 0,.int .i64 0,.int .i64 0]) tcs where
 sl:=Tryz.underlying75
 info:=by kernel_rfl
 zs:=rfl
 pos:=by omega
 by_:=by omega
 len:=tcs_len
 one:=fun x u hu=>by simp [tcs] at hu;rcases hu with rfl|rfl|rfl|rfl|rfl <;> rfl
def bt (k:Int) (t:Tk):Bool:=bits .and .i64 (t.m/2^k.toNat) 1==1
def inT (k:Int) (l:List Rw):List Tk:=(l.filter (fun r=>bt k r.t)).map (·.t)
theorem inT_take {k:Int} {l:List Rw} {i:Nat} (h:i<l.length):inT k (l.take (i+1))=if bt k l[i].t=true then inT k (l.take i)++[l[i].t] else inT k (l.take i):=by
 unfold inT
 rw [List.take_succ_eq_append_getElem h,List.filter_append,List.map_append]
 cases hb:bt k l[i].t <;> simp [hb]
theorem inT_len (k:Int) (l:List Rw):(inT k l).length≤l.length:=by unfold inT;rw [List.length_map];exact List.length_filter_le _ _
def inM (k:Int) (l:List Rw):List Tk:=if 0≤k∧k≤3 then inT k l else []
def InTRel (l:List Rw) (k:Int) (L:List (Nat×Array Value×Nat)) (w:World) (g:Nat) (s t:Value) (wx:World):Prop:=
 ∃ (i:Nat) (v:Value),i+g=l.length∧v=s∧t=.int .i64 (i:Int)∧Row tcs 5 45 w.heap.size wx v (inT k (l.take i))∧Bos L w wx
theorem in_any (l:List Rw) (ao:Option Addr) (cap:Nat) (m k:Int) (w:World) (hS:Seen Rw.cs 6 ao l w) (hl:l.length≤1000) :
 Calls Tryz.prog 173 #[tv ao l.length cap m,.int .i64 k] w fun e w'=>∃ v,e=.returned v∧Row tcs 5 45 w.heap.size w' v (inM k l)∧Below w.heap.size w w':=by
 have S:=Lib.hid hS
 have MO:=Lib.hid (mode_any k)
 have H0:=Lib.hid ((bos_nil w).new #[.slice ao l.length cap,.int .i64 m] 52)
 clear hS
 unfold tv
 obtain ⟨t0,t1⟩:=cell2 (H0.out.cell 0 rfl)
 by_cases hk:0≤k∧k≤3
 case neg=>
  have E:inM k l=[]:=if_neg hk
  rw [decide_eq_false hk] at MO
  rw [E]
  clear E hk S
  go_enter Tryz.func173,Tryz.ntmps173
  go_wp2_with fail
  (with_reducible refine (MO.out _).mono ?_)
  rintro e w1 ⟨rfl,rfl⟩
  go_wp2
  go_ret
  exact ⟨_,rfl,Ge.row_nil _ _,H0.out.bl⟩
 have E:inM k l=inT k l:=if_pos hk
 rw [decide_eq_true hk] at MO
 rw [E]
 have hk0:=hk.1
 have hk1:=hk.2
 have FL:Hid (inT k (l.take l.length)=inT k l):=Lib.hid (by rw [List.take_length])
 have NB:Hid (∀ y∈([(w.heap.size,#[.slice ao l.length cap,.int .i64 m],52)]:List (Nat×Array Value×Nat)),y.2.2≠45):=Lib.hid (by
  intro y hy
  rw [List.mem_singleton.1 hy]
  exact (by decide:(52:Nat)≠45))
 clear E hk
 go_enter Tryz.func173,Tryz.ntmps173
 go_wp2_with fail
 (with_reducible refine (MO.out _).mono ?_)
 rintro e w1 ⟨rfl,rfl⟩
 clear MO
 go_wp2_with fail
 go_loopg [5,14] l.length (InTRel l k [(w.heap.size,#[.slice ao l.length cap,.int .i64 m],52)] w)
 case atStart=>exact ⟨0,_,by omega,rfl,rfl,Ge.row_nil _ _,H0.out⟩
 case round=>
  obtain ⟨i,v,hi,rfl,rfl,hr,hB⟩:=hrel
  clear H0 t0 t1
  have HI:=Lib.hid hi
  by_cases hlt:i<l.length
  ·obtain ⟨b,off,rfl,hb,hat⟩:=(S.out.below hB.bl (Nat.le_refl _)) (by omega)
   have hx:=row_cells hat (List.getElem?_eq_getElem hlt)
   have hlt':(i:Int)<(l.length:Int):=by omega
   have hg0:0<gk:=by omega
   have TK:=Lib.hid (inT_take (k:=k) hlt)
   have hlen:(inT k (l.take i)).length≤90000:=by have:=inT_len k (l.take i);rw [List.length_take] at this;omega
   generalize l[i]=x at *
   obtain ⟨⟨xi,xc,xd,xt,xm⟩,xs⟩:=x
   simp only at hx
   obtain ⟨r0,r1,r2,r3,r4,r5⟩:=hx
   have ba:Below wr.heap.size wr (wr.alloc (.cells #[.int .i64 xi,.int .i64 xc,.int .i64 xd,.int .i64 xt,.int .i64 xm,.bool xs] 123)):=(Below.refl _ _).alloc (Nat.le_refl _) _
   have HN:=Lib.hid (hB.new #[.int .i64 xi,.int .i64 xc,.int .i64 xd,.int .i64 xt,.int .i64 xm,.bool xs] 123)
   have RN:=Lib.hid (hr.call ba)
   obtain ⟨qa,qk,qc,rfl⟩:∃ a k c,v=Value.slice a k c:=by obtain ⟨ao,cap,e,-⟩:=Row.form tcs_len hr;exact ⟨_,_,_,e⟩
   obtain ⟨t0,t1⟩:=cell2 (HN.out.cell 1 rfl)
   obtain ⟨c0,c1,c2,c3,c4,c5⟩:=cell6 (HN.out.cell 0 rfl)
   have HM:=Lib.hid (hB.call ba)
   clear hi hat hr hB hb
   have hbb:bt k ⟨xi,xc,xd,xt,xm⟩=(bits .and .i64 (xm/2^k.toNat) 1==1):=rfl
   cases hb:(bits .and .i64 (xm/2^k.toNat) 1==1)
   case true=>
    rw [hbb,hb] at TK
    have TK:=Lib.hid (TK.out.trans (if_pos rfl))
    obtain ⟨v5,w5,ap5,r5,h5⟩:=app_el elT (⟨xi,xc,xd,xt,xm⟩:Tk) #[.int .i64 xi,.int .i64 xc,.int .i64 xd,.int .i64 xt,.int .i64 xm] rfl HM.out NB.out RN.out hlen
    rw [← TK.out] at r5
    have R5:=Lib.hid r5
    have H5:=Lib.hid h5
    clear r5 h5 TK RN HN HM hbb
    rw [World.size_alloc] at ap5
    go_wp2_with (at_builtin;refine Lib.wpList_append_run _ rfl _ _ _ _ rfl _ _ rfl rfl _ _ ap5 ?_)
    go_roundg (gk-1)
    case measure=>omega
    case rel=>exact ⟨i+1,_,by have:=HI.out;omega,rfl,by go_num,R5.out,H5.out⟩
   case false=>
    rw [hbb,hb] at TK
    have TK:=Lib.hid (TK.out.trans (if_neg (by decide)))
    have R5:Hid (Row tcs 5 45 w.heap.size (wr.alloc (.cells #[.int .i64 xi,.int .i64 xc,.int .i64 xd,.int .i64 xt,.int .i64 xm,.bool xs] 123)) (.slice qa qk qc) (inT k (l.take (i+1)))):=Lib.hid (by rw [TK.out];exact RN.out)
    clear TK RN HN hbb
    go_wp2
    go_roundg (gk-1)
    case measure=>omega
    case rel=>exact ⟨i+1,_,by have:=HI.out;omega,rfl,by go_num,R5.out,HM.out⟩
  ·have hge:(l.length:Int)≤(i:Int):=by omega
   obtain rfl:i=l.length:=by omega
   rw [FL.out] at hr
   have RW:=Lib.hid hr
   have KB:=Lib.hid hB.bl
   clear hB hi hr hlt
   go_wp2
   go_ret
   exact ⟨_,rfl,RW.out,KB.out⟩
end Go.Proofs.YteempfoajgblaaaGreat.Tb
namespace Go.Proofs.YteempfoajgblaaaGreat.Tb
open Pm (Tk chk chk_iff)
open Ge (El Seen Row)
theorem tk_cells {b off:Nat} {l:List Tk} {W:World} (h:∀ i x,l[i]?=some x→∀ j u,(tcs x)[j]?=some u→W.cell? ⟨b,off+i*5+j,none⟩=some u) {i:Nat} {x:Tk} (hx:l[i]?=some x) :
 W.cell? ⟨b,off+i*5,none⟩=some (.int .i64 x.id)∧W.cell? ⟨b,off+i*5+1,none⟩=some (.int .i64 x.c)∧W.cell? ⟨b,off+i*5+2,none⟩=some (.int .i64 x.d)∧W.cell? ⟨b,off+i*5+3,none⟩=some (.int .i64 x.t)∧W.cell? ⟨b,off+i*5+4,none⟩=some (.int .i64 x.m):=
 ⟨h i x hx 0 _ rfl,h i x hx 1 _ rfl,h i x hx 2 _ rfl,h i x hx 3 _ rfl,h i x hx 4 _ rfl⟩
def NoRel (L:List (Nat×Array Value×Nat)) (w:World) (g:Nat) (s t:Value) (wx:World):Prop:=g=0∧s=.slice none 0 0∧t=.int .i64 0∧Bos L w wx
theorem rin_any (l:List Rw) (ao:Option Addr) (cap:Nat) (m k:Int) (w:World) (hS:Seen Rw.cs 6 ao l w) (hl:l.length≤1000) :
 Calls Tryz.prog 98 #[tv ao l.length cap m,.int .i64 k] w fun e w'=>∃ v,e=.returned v∧Row tcs 5 45 w.heap.size w' v (inM k l)∧Below w.heap.size w w':=by
 have S:=Lib.hid hS
 have H0:=Lib.hid ((bos_nil w).new #[.slice ao l.length cap,.int .i64 m] 52)
 clear hS
 unfold tv
 obtain ⟨t0,t1⟩:=cell2 (H0.out.cell 0 rfl)
 by_cases hk:0≤k∧k≤3
 case neg=>
  have E:inM k l=[]:=if_neg hk
  rw [E]
  have two:(l.length:Int)≤0∨((0:Int)<(l.length:Int)∧k<0)∨((0:Int)<(l.length:Int)∧0≤k∧3<k):=by omega
  clear E hk S
  generalize l.length=n at *
  go_enter Tryz.func98,Tryz.ntmps98
  go_wp2_with fail
  go_loopg [5,6] 0 (NoRel [(w.heap.size,#[.slice ao n cap,.int .i64 m],52)] w)
  case atStart=>exact ⟨rfl,rfl,rfl,H0.out⟩
  case round=>
   obtain ⟨hg,rfl,rfl,hB⟩:=hrel
   clear H0 t0 t1
   have HB:=Lib.hid hB
   obtain ⟨t0,t1⟩:=cell2 (HB.out.cell 0 rfl)
   clear hB
   rcases two with h1|⟨h1,h2⟩|⟨h1,h2,h3⟩ <;>
   ·go_wp2
    go_ret
    exact ⟨_,rfl,Ge.row_nil _ _,HB.out.bl⟩
 have E:inM k l=inT k l:=if_pos hk
 rw [E]
 have hk0:=hk.1
 have hk1:=hk.2
 have um:IntKind.u64.wrap k=k:=IntWalk.u64_in _ (by omega)
 have um2:k%18446744073709551616=k:=by omega
 have FL:Hid (inT k (l.take l.length)=inT k l):=Lib.hid (by rw [List.take_length])
 have NB:Hid (∀ y∈([(w.heap.size,#[.slice ao l.length cap,.int .i64 m],52)]:List (Nat×Array Value×Nat)),y.2.2≠45):=Lib.hid (by
  intro y hy
  rw [List.mem_singleton.1 hy]
  exact (by decide:(52:Nat)≠45))
 clear E hk
 go_enter Tryz.func98,Tryz.ntmps98
 go_wp2_with fail
 go_loopg [5,6] l.length (InTRel l k [(w.heap.size,#[.slice ao l.length cap,.int .i64 m],52)] w)
 case atStart=>exact ⟨0,_,by omega,rfl,rfl,Ge.row_nil _ _,H0.out⟩
 case round=>
  obtain ⟨i,v,hi,rfl,rfl,hr,hB⟩:=hrel
  clear H0 t0 t1
  have HI:=Lib.hid hi
  by_cases hlt:i<l.length
  ·obtain ⟨b,off,rfl,hb,hat⟩:=(S.out.below hB.bl (Nat.le_refl _)) (by omega)
   have hx:=row_cells hat (List.getElem?_eq_getElem hlt)
   have hlt':(i:Int)<(l.length:Int):=by omega
   have hg0:0<gk:=by omega
   have TK:=Lib.hid (inT_take (k:=k) hlt)
   have hlen:(inT k (l.take i)).length≤90000:=by have:=inT_len k (l.take i);rw [List.length_take] at this;omega
   generalize l[i]=x at *
   obtain ⟨⟨xi,xc,xd,xt,xm⟩,xs⟩:=x
   simp only at hx
   obtain ⟨r0,r1,r2,r3,r4,r5⟩:=hx
   have RN:=Lib.hid hr
   have HM:=Lib.hid hB
   obtain ⟨qa,qk,qc,rfl⟩:∃ a k c,v=Value.slice a k c:=by obtain ⟨ao,cap,e,-⟩:=Row.form tcs_len hr;exact ⟨_,_,_,e⟩
   obtain ⟨t0,t1⟩:=cell2 (HM.out.cell 0 rfl)
   clear hi hat hr hB hb
   have hbb:bt k ⟨xi,xc,xd,xt,xm⟩=(bits .and .i64 (xm/2^k.toNat) 1==1):=rfl
   cases hb:(bits .and .i64 (xm/2^k.toNat) 1==1)
   case true=>
    rw [hbb,hb] at TK
    have TK:=Lib.hid (TK.out.trans (if_pos rfl))
    obtain ⟨v5,w5,ap5,r5,h5⟩:=app_el elT (⟨xi,xc,xd,xt,xm⟩:Tk) #[.int .i64 xi,.int .i64 xc,.int .i64 xd,.int .i64 xt,.int .i64 xm] rfl HM.out NB.out RN.out hlen
    rw [← TK.out] at r5
    have R5:=Lib.hid r5
    have H5:=Lib.hid h5
    clear r5 h5 TK RN HM hbb
    go_wp2_with (at_builtin;refine Lib.wpList_append_run _ rfl _ _ _ _ rfl _ _ rfl rfl _ _ ap5 ?_)
    go_roundg (gk-1)
    case measure=>omega
    case rel=>exact ⟨i+1,_,by have:=HI.out;omega,rfl,by go_num,R5.out,H5.out⟩
   case false=>
    rw [hbb,hb] at TK
    have TK:=Lib.hid (TK.out.trans (if_neg (by decide)))
    have R5:Hid (Row tcs 5 45 w.heap.size wr (.slice qa qk qc) (inT k (l.take (i+1)))):=Lib.hid (by rw [TK.out];exact RN.out)
    clear TK RN hbb
    go_wp2
    go_roundg (gk-1)
    case measure=>omega
    case rel=>exact ⟨i+1,_,by have:=HI.out;omega,rfl,by go_num,R5.out,HM.out⟩
  ·have hge:(l.length:Int)≤(i:Int):=by omega
   obtain rfl:i=l.length:=by omega
   rw [FL.out] at hr
   have RW:=Lib.hid hr
   have KB:=Lib.hid hB.bl
   obtain ⟨t0,t1⟩:=cell2 (hB.cell 0 rfl)
   clear hB hi hr hlt
   go_wp2
   go_ret
   exact ⟨_,rfl,RW.out,KB.out⟩
end Go.Proofs.YteempfoajgblaaaGreat.Tb
