/- Rows of texts; package table's Replay. Package table's write and Bytes; awake. -/
import Derived.Test.YteempfoajgblaaaGreatLMTt
import Derived.Test.YteempfoajgblaaaGreatLQE
import Derived.Test.YteempfoajgblaaaGreatLMOq
import Derived.Test.YteempfoajgblaaaGreatLGnH
set_option maxRecDepth 100000
set_option linter.unusedVariables false
set_option linter.unusedSimpArgs false
open Go.ChangeShapes Go.WideShapes Go.ChangeAt Go.RowKit Go.Joins
set_option maxHeartbeats 8000000
namespace Go.Proofs.YteempfoajgblaaaGreat.Tb
open Ge (El Seen Row)
open Oc (mkB)
open Ox (Od chkR readO od0)
def xcs (s:List UInt8):List Value:=[.string (mkB s)]
theorem seen_text {ao:Option Addr} {l:List (List UInt8)} {w:World} (h:Seen xcs 1 ao l w) {i:Nat} {x:List UInt8} (hx:l[i]?=some x):∃ b off,ao=some ⟨b,off,none⟩∧w.cell? ⟨b,off+i,none⟩=some (.string (mkB x)):=by
 have h0:0<l.length:=by have:=(List.getElem?_eq_some_iff.1 hx).1;omega
 obtain ⟨b,off,rfl,hb,hat⟩:=h h0
 refine ⟨b,off,rfl,?_⟩
 have:=hat i x hx 0 _ rfl
 simpa using this
theorem replay_no {t:Tb} {x:List UInt8} {r:List (List UInt8)} (h:Ox.readR x=none):replayR t (x :: r)=(t,0):=by unfold replayR;rw [h]
theorem replay_not {t:Tb} {x:List UInt8} {r:List (List UInt8)} {o:Od} (h:Ox.readR x=some o) (ha:(applyR t o).2≠0):replayR t (x :: r)=(t,0):=by unfold replayR;rw [h];simp only;rw [if_neg ha]
theorem replay_yes {t:Tb} {x:List UInt8} {r:List (List UInt8)} {o:Od} (h:Ox.readR x=some o) (ha:(applyR t o).2=0):replayR t (x :: r)=((replayR (applyR t o).1 r).1,(replayR (applyR t o).1 r).2+1):=by
 conv=>lhs;unfold replayR
 rw [h];simp only;rw [if_pos ha]
def ReRel (t0:Tb) (xs:List (List UInt8)) (p:Nat) (L:List (Nat×Array Value×Nat)) (w:World) (g:Nat) (s:Value) (wx:World):Prop:=
 ∃ (i:Nat) (t:Tb) (ao:Option Addr) (cap:Nat),i+g=xs.length∧s=.int .i64 (i:Int)∧Bos ((p,#[.slice ao t.rows.length cap,.int .i64 t.mode],52) :: L) w wx∧Sl (.slice ao t.rows.length cap) t.rows wx ao cap∧t.rows.length≤1000∧replayR t0 xs=((replayR t (xs.drop i)).1,(replayR t (xs.drop i)).2+i)
theorem replay_any (t:Tb) (xs:List (List UInt8)) (ao xo:Option Addr) (cap xc:Nat) (w:World) (hS:Sl (.slice ao t.rows.length cap) t.rows w ao cap) (hl:t.rows.length≤1000) (hX:Seen xcs 1 xo xs w) (hxl:xs.length≤1000) (hxs:∀ x∈xs,x.length≤1000000) :
 Calls Tryz.prog 82 #[tv ao t.rows.length cap t.mode,.slice xo xs.length xc] w fun e w'=>∃ v,e=.returned (.tuple #[v,.int .i64 ((replayR t xs).2:Int)])∧Told v (replayR t xs).1 w'∧Below w.heap.size w w':=by
 have OW:Hid (∀ W,Below w.heap.size w W→Calls Tryz.prog 130 #[tv ao t.rows.length cap t.mode] W fun e w'=>∃ ao' cap',e=.returned (tv ao' t.rows.length cap' t.mode)∧Sl (.slice ao' t.rows.length cap') t.rows w' ao' cap'∧Below W.heap.size W w'):=Lib.hid (fun W hb=>own_any t.rows ao cap t.mode W (hS.seen.below hb (Nat.le_refl _)) hl)
 have SX:=Lib.hid hX
 have XL:Hid (∀ x∈xs,x.length≤1000000):=Lib.hid hxs
 have HL:=Lib.hid hl
 have H0:=Lib.hid (tb_new w (.slice ao t.rows.length cap) t.mode)
 clear hS hX hxs hl
 unfold tv at *
 obtain ⟨t0,t1⟩:=cell2 (H0.out.cell 1 rfl)
 go_enter Tryz.func82,Tryz.ntmps82
 go_wp2_with fail
 (with_reducible refine (OW.out _ H0.out.bl).mono ?_)
 rintro e w1 ⟨a1,c1,rfl,s1,b1⟩
 have H1:=Lib.hid ((H0.out.call b1).new #[.slice a1 t.rows.length c1,.int .i64 t.mode] 52)
 have S1:=Lib.hid (s1.call ((Below.refl _ _).alloc (Nat.le_refl _) (.cells #[.slice a1 t.rows.length c1,.int .i64 t.mode] 52)))
 clear b1 s1 OW H0 t0 t1
 go_wp2_with fail
 go_loopg [16] xs.length (ReRel t xs w1.heap.size [(w.heap.size+1,#[.slice none 0 0,.int .i64 0],52),(w.heap.size,#[.slice ao t.rows.length cap,.int .i64 t.mode],52)] w)
 case atStart=>exact ⟨0,t,a1,c1,by omega,rfl,H1.out,S1.out,HL.out,by simp⟩
 case round=>
  clear H1 S1
  obtain ⟨i,T1,a1,c1,hi,rfl,hB,hs,hlen,heq⟩:=hrel
  have HB:=Lib.hid hB
  have SB:=Lib.hid hs
  have HI:=Lib.hid hi
  have HQ:=Lib.hid heq
  have HN:=Lib.hid hlen
  clear hB hs heq hlen
  obtain ⟨p0,p1⟩:=cell2 (HB.out.cell 0 rfl)
  obtain ⟨z0,z1⟩:=cell2 (HB.out.cell 1 rfl)
  have zf:=HB.out.fz 1 rfl
  by_cases hlt:i<xs.length
  ·have hx:=List.getElem?_eq_getElem hlt
   obtain ⟨xb,xoff,rfl,hc⟩:=seen_text (SX.out.below HB.out.bl (Nat.le_refl _)) hx
   have hlt':(i:Int)<(xs.length:Int):=by omega
   have hg0:0<gk:=by omega
   have DR:=List.drop_eq_getElem_cons hlt
   have DRH:=Lib.hid DR
   have RD:=Lib.hid (fun w=>Ox.read_at xs[i] w (XL.out _ (List.getElem_mem hlt)))
   generalize xs[i]=x at *
   clear DR hx hi hlt
   cases hro:Ox.readR x with
   | none=>
    have e1:readO x=(od0,10):=by unfold readO;rw [hro]
    have EQ:Hid (replayR t xs=(T1,i)):=Lib.hid (by rw [HQ.out,DRH.out,replay_no hro];simp)
    rw [e1] at RD
    unfold od0 Od.v Od.cs Ox.tk0 at RD
    simp only at RD
    clear e1 HQ DRH hro
    go_wp2_with fail
    (with_reducible refine (RD.out _).mono ?_)
    rintro e w2 ⟨rfl,b2⟩
    have HX:=Lib.hid ((HB.out.call b2).new #[.int .i64 0,.int .i64 0,.int .i64 0,.int .i64 0,.int .i64 0,.int .i64 0,.bool false,.int .i64 0,.int .i64 0,.int .i64 0] 47)
    have SB:=Lib.hid ((SB.out.call b2).call ((Below.refl _ _).alloc (Nat.le_refl _) (.cells #[.int .i64 0,.int .i64 0,.int .i64 0,.int .i64 0,.int .i64 0,.int .i64 0,.bool false,.int .i64 0,.int .i64 0,.int .i64 0] 47)))
    clear b2 RD hc p0 p1 z0 z1 zf HB
    obtain ⟨p0,p1⟩:=cell2 (HX.out.cell 1 rfl)
    obtain ⟨z0,z1⟩:=cell2 (HX.out.cell 2 rfl)
    have zf:=HX.out.fz 2 rfl
    have HF:=Lib.hid ((HX.out.set 2 rfl 0 (.slice a1 T1.rows.length c1)).set 2 rfl 1 (.int .i64 T1.mode))
    have SF:=Lib.hid ((SB.out.set HX.out 2 rfl (by simp) 0 (.slice a1 T1.rows.length c1)).set (HX.out.set 2 rfl 0 (.slice a1 T1.rows.length c1)) 2 rfl (by simp) 1 (.int .i64 T1.mode))
    obtain ⟨q0,q1⟩:=cell2 (HF.out.cell 2 rfl)
    go_wp2
    refine bodyPost_ret (v:=.tuple #[.agg #[.slice a1 T1.rows.length c1,.int .i64 T1.mode],.int .i64 (i:Int)]) (by simp [results,Tryz.results82,go_sem,q0,q1]) rfl ⟨_,by rw [EQ.out],by rw [EQ.out];exact ⟨a1,c1,rfl,SF.out⟩,HF.out.bl⟩
   | some o=>
    have e1:readO x=(o,0):=by unfold readO;rw [hro]
    rw [e1] at RD
    have AP:Hid (∀ W,Seen Rw.cs 6 a1 T1.rows W→Calls Tryz.prog 132 #[tv a1 T1.rows.length c1 T1.mode,o.v] W fun e w'=>∃ v,e=.returned (.tuple #[v,.int .i64 (applyR T1 o).2])∧Told v (applyR T1 o).1 w'∧Below W.heap.size W w'):=Lib.hid (fun W h=>apply_any T1 o a1 c1 W h HN.out)
    have NO:Hid ((applyR T1 o).2≠0→replayR t xs=(T1,i)):=Lib.hid (fun h=>by rw [HQ.out,DRH.out,replay_not hro h];simp)
    have YES:Hid ((applyR T1 o).2=0→replayR t xs=((replayR (applyR T1 o).1 (xs.drop (i+1))).1,(replayR (applyR T1 o).1 (xs.drop (i+1))).2+(i+1))):=Lib.hid (fun h=>by rw [HQ.out,DRH.out,replay_yes hro h];simp only [Prod.mk.injEq,true_and];omega)
    have LN:Hid ((applyR T1 o).2=0→(applyR T1 o).1.rows.length≤1000):=Lib.hid (fun h=>by have:=(chkT_iff.1 (apply_chk h).1).2.2.1;omega)
    clear e1 HQ DRH hro
    generalize applyR T1 o=R at *
    obtain ⟨R1,R2⟩:=R
    obtain ⟨k,⟨oi,oc,od,ot,om⟩,os,oid,occ,omo⟩:=o
    unfold tv Od.v Od.cs at *
    simp only at RD AP NO YES LN
    go_wp2_with fail
    (with_reducible refine (RD.out _).mono ?_)
    rintro e w2 ⟨rfl,b2⟩
    have HX:=Lib.hid ((HB.out.call b2).new #[.int .i64 k,.int .i64 oi,.int .i64 oc,.int .i64 od,.int .i64 ot,.int .i64 om,.bool os,.int .i64 oid,.int .i64 occ,.int .i64 omo] 47)
    have SB:=Lib.hid ((SB.out.call b2).call ((Below.refl _ _).alloc (Nat.le_refl _) (.cells #[.int .i64 k,.int .i64 oi,.int .i64 oc,.int .i64 od,.int .i64 ot,.int .i64 om,.bool os,.int .i64 oid,.int .i64 occ,.int .i64 omo] 47)))
    clear b2 RD hc p0 p1 z0 z1 zf HB
    obtain ⟨p0,p1⟩:=cell2 (HX.out.cell 1 rfl)
    obtain ⟨o0,o1,o2,o3,o4,o5,o6,o7,o8,o9⟩:=cell10 (HX.out.cell 0 rfl)
    go_wp2_with fail
    (with_reducible refine (AP.out _ SB.out.seen).mono ?_)
    rintro e w3 ⟨v,rfl,⟨a2,c2,rfl,s2⟩,b3⟩
    have HX:=Lib.hid ((HX.out.call b3).new #[.slice a2 R1.rows.length c2,.int .i64 R1.mode] 52)
    have bz:Below w3.heap.size w3 (w3.alloc (.cells #[.slice a2 R1.rows.length c2,.int .i64 R1.mode] 52)):=(Below.refl _ _).alloc (Nat.le_refl _) _
    have SB:=Lib.hid ((SB.out.call b3).call bz)
    have SN:=Lib.hid (s2.call bz)
    clear b3 s2 bz AP p0 p1 o0 o1 o2 o3 o4 o5 o6 o7 o8 o9
    unfold tv
    by_cases he:R2=0
    ·have he1:(R2 != 0)=false:=by simp [he]
     have EQ:=Lib.hid (YES.out he)
     have LN:=Lib.hid (LN.out he)
     obtain ⟨y0,y1⟩:=cell2 (HX.out.cell 0 rfl)
     obtain ⟨p0,p1⟩:=cell2 (HX.out.cell 2 rfl)
     have pf:=HX.out.fz 2 rfl
     have HF:=Lib.hid ((HX.out.set 2 rfl 0 (.slice a2 R1.rows.length c2)).set 2 rfl 1 (.int .i64 R1.mode))
     have SF:=Lib.hid ((SN.out.set HX.out 2 rfl (by simp) 0 (.slice a2 R1.rows.length c2)).set (HX.out.set 2 rfl 0 (.slice a2 R1.rows.length c2)) 2 rfl (by simp) 1 (.int .i64 R1.mode))
     clear he NO YES
     go_wp2
     go_roundg (gk-1)
     case measure=>omega
     case rel=>exact ⟨i+1,R1,a2,c2,by have:=HI.out;omega,by go_num,HF.out.sub (List.Sublist.cons _ (List.sublist_cons_self _ _)),SF.out,LN.out,EQ.out⟩
    ·have he1:(R2 != 0)=true:=by simp [he]
     have EQ:=Lib.hid (NO.out he)
     clear he NO YES LN
     obtain ⟨p0,p1⟩:=cell2 (HX.out.cell 2 rfl)
     obtain ⟨z0,z1⟩:=cell2 (HX.out.cell 3 rfl)
     have zf:=HX.out.fz 3 rfl
     have HF:=Lib.hid ((HX.out.set 3 rfl 0 (.slice a1 T1.rows.length c1)).set 3 rfl 1 (.int .i64 T1.mode))
     have SF:=Lib.hid ((SB.out.set HX.out 3 rfl (by simp) 0 (.slice a1 T1.rows.length c1)).set (HX.out.set 3 rfl 0 (.slice a1 T1.rows.length c1)) 3 rfl (by simp) 1 (.int .i64 T1.mode))
     obtain ⟨q0,q1⟩:=cell2 (HF.out.cell 3 rfl)
     go_wp2
     refine bodyPost_ret (v:=.tuple #[.agg #[.slice a1 T1.rows.length c1,.int .i64 T1.mode],.int .i64 (i:Int)]) (by simp [results,Tryz.results82,go_sem,q0,q1]) rfl ⟨_,by rw [EQ.out],by rw [EQ.out];exact ⟨a1,c1,rfl,SF.out⟩,HF.out.bl⟩
  ·have hge:(xs.length:Int)≤(i:Int):=by omega
   obtain rfl:i=xs.length:=by omega
   have EQ:Hid (replayR t xs=(T1,xs.length)):=Lib.hid (by rw [HQ.out,List.drop_length];simp [replayR])
   clear HQ hi hlt p0 p1 z0 z1 zf
   obtain ⟨p0,p1⟩:=cell2 (HB.out.cell 0 rfl)
   obtain ⟨z0,z1⟩:=cell2 (HB.out.cell 1 rfl)
   have zf:=HB.out.fz 1 rfl
   have HF:=Lib.hid ((HB.out.set 1 rfl 0 (.slice a1 T1.rows.length c1)).set 1 rfl 1 (.int .i64 T1.mode))
   have SF:=Lib.hid ((SB.out.set HB.out 1 rfl (by simp) 0 (.slice a1 T1.rows.length c1)).set (HB.out.set 1 rfl 0 (.slice a1 T1.rows.length c1)) 1 rfl (by simp) 1 (.int .i64 T1.mode))
   obtain ⟨q0,q1⟩:=cell2 (HF.out.cell 1 rfl)
   go_wp2
   refine bodyPost_ret (v:=.tuple #[.agg #[.slice a1 T1.rows.length c1,.int .i64 T1.mode],.int .i64 (xs.length:Int)]) (by simp [results,Tryz.results82,go_sem,q0,q1]) rfl ⟨_,by rw [EQ.out],by rw [EQ.out];exact ⟨a1,c1,rfl,SF.out⟩,HF.out.bl⟩
end Go.Proofs.YteempfoajgblaaaGreat.Tb
namespace Go.Proofs.YteempfoajgblaaaGreat.Tb
open Pm (Tk chk chk_iff below_drewN)
open Ge (El Seen Row)
open Oc (Wr Moved self enc encInt encFlag mkB lt_of_heap fresh_wr bytesOf bytesOf_zero bytesOf_pos)
open Ox (Bd bd_new int_wf len9)
structure Bd2 (B b p T q U:Nat) (cs ds:Array Value) (l:List UInt8) (w W:World):Prop where
 bd:Bd B b p T cs l w W
 at2:W.heap[q]?=some (.cells ds U (0,0))
 ty2:U≠5
 ne2:q≠b
theorem Bd2.moved {B b p T q U:Nat} {cs ds:Array Value} {l l':List UInt8} {w W W':World} (h:Bd2 B b p T q U cs ds l w W) (k:Wr B b l' W') (m:Moved b W W'):Bd2 B b p T q U cs ds l' w W' :=
 ⟨h.bd.moved k m,(m.block q (lt_of_heap h.at2) h.ne2 (h.bd.wr.buf_ne h.at2 h.ty2)).trans h.at2,h.ty2,h.ne2⟩
theorem Bd2.drew {B b p T q U:Nat} {cs ds:Array Value} {l:List UInt8} {w W:World} (h:Bd2 B b p T q U cs ds l w W):Bd2 B b p T q U cs ds l w W.drew:=⟨h.bd.drew,h.at2,h.ty2,h.ne2⟩
theorem Bd2.cell {B b p T q U:Nat} {cs ds:Array Value} {l:List UInt8} {w W:World} (h:Bd2 B b p T q U cs ds l w W) (o:Nat):W.cell? ⟨q,o,none⟩=ds[o]?:=by rw [Lib.cell_of_heap h.at2]
theorem bd2_new {B b p T:Nat} {cs:Array Value} {l:List UInt8} {w W:World} (h:Bd B b p T cs l w W) (ds:Array Value) (U:Nat) (hU:U≠5):Bd2 B b p T W.heap.size U cs ds l w (W.alloc (.cells ds U)):=
 ⟨h.moved (h.wr.call ((Below.refl _ _).alloc (Nat.le_refl _) _)) (Moved.alloc h.wr.lt _),heap_alloc_new _ _,hU,by have:=h.wr.lt;omega⟩
section
variable {B b p T q U:Nat} {cs ds:Array Value} {w:World}
theorem int_2 (l:List UInt8) (n:Int) (hn:0≤n∧n≤1000000) (hl:l.length≤900000) :
 ∀ W,Bd2 B b p T q U cs ds l w W→Calls Tryz.prog 110 #[self b,.int .i64 n] W fun e w'=>e=.returned (self b)∧Bd2 B b p T q U cs ds (l++encInt n) w w':=fun W h=>
 (Oc.int_any B b n l W h.bd.wr (int_wf hn.1 hn.2) hl h.bd.sz).mono fun e w' ⟨he,hw,hm⟩=>⟨he,h.moved hw hm⟩
theorem num_2 (l:List UInt8) (n:Int) (hn:0≤n∧n≤2147483648) (hl:l.length≤900000) :
 ∀ W,Bd2 B b p T q U cs ds l w W→Calls Tryz.prog 155 #[self b,.int .u64 n] W fun e w'=>e=.returned (self b)∧Bd2 B b p T q U cs ds (l++enc n.toNat) w w':=fun W h=>by
 have:=Oc.num_any B b n.toNat l W h.bd.wr (by omega) hl h.bd.sz
 rw [show (n.toNat:Int)=n by omega] at this
 exact this.mono fun e w' ⟨he,hw,hm⟩=>⟨he,h.moved hw hm⟩
theorem flag_2 (l:List UInt8) (f:Bool) (hl:l.length≤900000) :
 ∀ W,Bd2 B b p T q U cs ds l w W→Calls Tryz.prog 156 #[self b,.bool f] W fun e w'=>e=.returned (self b)∧Bd2 B b p T q U cs ds (l++encFlag f) w w':=fun W h=>
 (Oc.flag_any B b f l W h.bd.wr hl h.bd.sz).mono fun e w' ⟨he,hw,hm⟩=>⟨he,h.moved hw hm⟩
end
theorem cell5 {W:World} {p:Nat} {a b c d e:Value} (h:∀ o,W.cell? ⟨p,o,none⟩=(#[a,b,c,d,e]:Array Value)[o]?):W.cell? ⟨p,0,none⟩=some a∧W.cell? ⟨p,1,none⟩=some b∧W.cell? ⟨p,2,none⟩=some c∧W.cell? ⟨p,3,none⟩=some d∧W.cell? ⟨p,4,none⟩=some e:=⟨h 0,h 1,h 2,h 3,h 4⟩
theorem write_any {B b:Nat} {l:List UInt8} (r:Rw) (w:World) (k:Wr B b l w) (hB:B≤w.heap.size) (hl:l.length≤800000) (hc:chk r.t=true) :
 Calls Tryz.prog 111 #[self b,r.v] w fun e w'=>e=.returned (.tuple #[])∧Wr B b (l++encW r) w'∧Moved b w w':=by
 have ⟨q1,q2,q3,q4,q5,q6,q7,q8⟩:=chk_iff.1 hc
 have EW:encW r=encInt r.t.id++enc r.t.c.toNat++enc r.t.d.toNat++enc r.t.t.toNat++encInt r.t.m++encFlag r.s:=rfl
 obtain ⟨⟨i,c,d,t,m⟩,s⟩:=r
 simp only at q1 q2 q3 q4 q5 q6 q7 q8 EW
 have H0:=Lib.hid (bd_new k hB #[.int .i64 i,.int .i64 c,.int .i64 d,.int .i64 t,.int .i64 m,.bool s] 123 (by decide))
 have H0':=Lib.hid (bd2_new H0.out #[.int .i64 i,.int .i64 c,.int .i64 d,.int .i64 t,.int .i64 m] 45 (by decide))
 rw [World.size_alloc] at H0'
 have D0:=Lib.hid H0'.out.drew
 obtain ⟨r0,r1,r2,r3,r4,r5⟩:=cell6 H0.out.cell
 have K0:=Lib.hid (And.intro (cell5 H0'.out.cell) ((H0'.out.bd.cell 5).trans rfl))
 have K0d:=Lib.hid (And.intro (cell5 D0.out.cell) ((D0.out.bd.cell 5).trans rfl))
 have z1:(encInt i).length≤9:=len9 (by omega)
 have z2:(enc c.toNat).length≤9:=len9 (by omega)
 have z3:(enc d.toNat).length≤9:=len9 (by omega)
 have z4:(enc t.toNat).length≤9:=len9 (by omega)
 have z5:(encInt m).length≤9:=len9 (by omega)
 have C1:=Lib.hid (int_2 (B:=B) (b:=b) (p:=w.heap.size) (T:=123) (q:=w.heap.size+1) (U:=45) (cs:=#[.int .i64 i,.int .i64 c,.int .i64 d,.int .i64 t,.int .i64 m,.bool s]) (ds:=#[.int .i64 i,.int .i64 c,.int .i64 d,.int .i64 t,.int .i64 m]) (w:=w) (l) i ⟨by omega,by omega⟩ (by omega))
 have C2:=Lib.hid (num_2 (B:=B) (b:=b) (p:=w.heap.size) (T:=123) (q:=w.heap.size+1) (U:=45) (cs:=#[.int .i64 i,.int .i64 c,.int .i64 d,.int .i64 t,.int .i64 m,.bool s]) (ds:=#[.int .i64 i,.int .i64 c,.int .i64 d,.int .i64 t,.int .i64 m]) (w:=w) (l++encInt i) c ⟨by omega,by omega⟩ (by simp only [List.length_append];omega))
 have C3:=Lib.hid (num_2 (B:=B) (b:=b) (p:=w.heap.size) (T:=123) (q:=w.heap.size+1) (U:=45) (cs:=#[.int .i64 i,.int .i64 c,.int .i64 d,.int .i64 t,.int .i64 m,.bool s]) (ds:=#[.int .i64 i,.int .i64 c,.int .i64 d,.int .i64 t,.int .i64 m]) (w:=w) (l++encInt i++enc c.toNat) d ⟨by omega,by omega⟩ (by simp only [List.length_append];omega))
 have C4:=Lib.hid (num_2 (B:=B) (b:=b) (p:=w.heap.size) (T:=123) (q:=w.heap.size+1) (U:=45) (cs:=#[.int .i64 i,.int .i64 c,.int .i64 d,.int .i64 t,.int .i64 m,.bool s]) (ds:=#[.int .i64 i,.int .i64 c,.int .i64 d,.int .i64 t,.int .i64 m]) (w:=w) (l++encInt i++enc c.toNat++enc d.toNat) t ⟨by omega,by omega⟩ (by simp only [List.length_append];omega))
 have C5:=Lib.hid (int_2 (B:=B) (b:=b) (p:=w.heap.size) (T:=123) (q:=w.heap.size+1) (U:=45) (cs:=#[.int .i64 i,.int .i64 c,.int .i64 d,.int .i64 t,.int .i64 m,.bool s]) (ds:=#[.int .i64 i,.int .i64 c,.int .i64 d,.int .i64 t,.int .i64 m]) (w:=w) (l++encInt i++enc c.toNat++enc d.toNat++enc t.toNat) m ⟨by omega,by omega⟩ (by simp only [List.length_append];omega))
 have C6:=Lib.hid (flag_2 (B:=B) (b:=b) (p:=w.heap.size) (T:=123) (q:=w.heap.size+1) (U:=45) (cs:=#[.int .i64 i,.int .i64 c,.int .i64 d,.int .i64 t,.int .i64 m,.bool s]) (ds:=#[.int .i64 i,.int .i64 c,.int .i64 d,.int .i64 t,.int .i64 m]) (w:=w) (l++encInt i++enc c.toNat++enc d.toNat++enc t.toNat++encInt m) s (by simp only [List.length_append];omega))
 have E:l++encW ⟨⟨i,c,d,t,m⟩,s⟩=l++encInt i++enc c.toNat++enc d.toNat++enc t.toNat++encInt m++encFlag s:=by rw [EW];simp
 rw [E]
 clear E EW z1 z2 z3 z4 z5 H0
 generalize l++encInt i++enc c.toNat++enc d.toNat++enc t.toNat++encInt m++encFlag s=l6 at *
 generalize l++encInt i++enc c.toNat++enc d.toNat++enc t.toNat++encInt m=l5 at *
 generalize l++encInt i++enc c.toNat++enc d.toNat++enc t.toNat=l4 at *
 generalize l++encInt i++enc c.toNat++enc d.toNat=l3 at *
 generalize l++encInt i++enc c.toNat=l2 at *
 generalize l++encInt i=l1 at *
 have u1:IntKind.u64.wrap c=c:=IntWalk.u64_in _ (by omega)
 have u2:IntKind.u64.wrap d=d:=IntWalk.u64_in _ (by omega)
 have u3:IntKind.u64.wrap t=t:=IntWalk.u64_in _ (by omega)
 have v1:c%18446744073709551616=c:=by omega
 have v2:d%18446744073709551616=d:=by omega
 have v3:t%18446744073709551616=t:=by omega
 simp only [Rw.v]
 clear k q1 q2 q3 q4 q5 q6 q7 q8 hl hB hc
 go_enter Tryz.func111,Tryz.ntmps111
 go_wp2_with fail
 go_region_held3 (fun w'=>(w'.cell? ⟨w.heap.size+1,0,none⟩=some (.int .i64 i)∧w'.cell? ⟨w.heap.size+1,1,none⟩=some (.int .i64 c)∧w'.cell? ⟨w.heap.size+1,2,none⟩=some (.int .i64 d)∧w'.cell? ⟨w.heap.size+1,3,none⟩=some (.int .i64 t)∧w'.cell? ⟨w.heap.size+1,4,none⟩=some (.int .i64 m))∧w'.cell? ⟨w.heap.size,5,none⟩=some (.bool s)) (first|exact K0d.out|exact K0.out|assumption|fail) (first|(go_at_call 110;(with_reducible refine (C1.out _ D0.out).mono ?_);rintro e w1 ⟨rfl,h1⟩;(have k1:=And.intro (cell5 h1.cell) ((h1.bd.cell 5).trans rfl));(have H1:=Lib.hid h1);clear h1)|(go_at_call 155;(with_reducible refine (C2.out _ H1.out).mono ?_);rintro e w2 ⟨rfl,h2⟩;(have k2:=And.intro (cell5 h2.cell) ((h2.bd.cell 5).trans rfl));(have H2:=Lib.hid h2);clear h2)|(go_at_call 155;(with_reducible refine (C3.out _ H2.out).mono ?_);rintro e w3 ⟨rfl,h3⟩;(have k3:=And.intro (cell5 h3.cell) ((h3.bd.cell 5).trans rfl));(have H3:=Lib.hid h3);clear h3)|(go_at_call 155;(with_reducible refine (C4.out _ H3.out).mono ?_);rintro e w4 ⟨rfl,h4⟩;(have k4:=And.intro (cell5 h4.cell) ((h4.bd.cell 5).trans rfl));(have H4:=Lib.hid h4);clear h4)|(go_at_call 110;(with_reducible refine (C5.out _ H4.out).mono ?_);rintro e w5 ⟨rfl,h5⟩;(have k5:=And.intro (cell5 h5.cell) ((h5.bd.cell 5).trans rfl));(have H5:=Lib.hid h5);clear h5)|(go_at_call 156;(with_reducible refine (C6.out _ H5.out).mono ?_);rintro e w6 ⟨rfl,h6⟩;(have k6:=And.intro (cell5 h6.cell) ((h6.bd.cell 5).trans rfl));(have H6:=Lib.hid h6);clear h6)|fail)
 have HF:=Lib.hid (And.intro H6.out.bd.wr H6.out.bd.mv)
 go_wp2
 go_end0
 exact ⟨rfl,HF.out⟩
theorem Bos.wr {L:List (Nat×Array Value×Nat)} {w W W':World} {B b:Nat} {l:List UInt8} (h:Bos L w W) (k:Wr B b l W) (m:Moved b W W') (hB:w.heap.size≤B) (hs:B≤W.heap.size) (hn:∀ x∈L,x.1≠b∧x.2.2≠5):Bos L w W' :=
 ⟨fun x hx=>⟨(m.block x.1 (lt_of_heap (h.at_ x hx).1) (hn x hx).1 (k.buf_ne (h.at_ x hx).1 (hn x hx).2)).trans (h.at_ x hx).1,(h.at_ x hx).2⟩,h.nd,h.bl.trans ((k.below m hs).mono hB)⟩
def bytesT (t:Tb):ByteArray×Int:=if chkT t=true then (mkB (encT t),0) else (⟨#[]⟩,1)
def WrRel (t:Tb) (B b:Nat) (L:List (Nat×Array Value×Nat)) (w:World) (g:Nat) (s:Value) (wx:World):Prop:=
 ∃ i:Nat,i+g=t.rows.length∧s=.int .i64 (i:Int)∧Wr B b (encInt t.mode++encInt (t.rows.length:Int)++encWs (t.rows.take i)) wx∧B≤wx.heap.size∧Bos L w wx
theorem encWs_take {l:List Rw} {i:Nat} (h:i<l.length):encWs (l.take (i+1))=encWs (l.take i)++encW l[i]:=by
 rw [List.take_succ_eq_append_getElem h,encWs_append]
 simp [encWs]
theorem bytes_any (t:Tb) (ao:Option Addr) (cap:Nat) (w:World) (hS:Seen Rw.cs 6 ao t.rows w) (hl:t.rows.length≤1000) :
 Calls Tryz.prog 66 #[tv ao t.rows.length cap t.mode] w fun e w'=>e=.returned (.tuple #[.string (bytesT t).1,.int .i64 (bytesT t).2])∧Below w.heap.size w w':=by
 have S:=Lib.hid hS
 have CT:Hid (∀ W,Below w.heap.size w W→Calls Tryz.prog 109 #[tv ao t.rows.length cap t.mode] W fun e w'=>e=.returned (.bool (chkT t))∧Below W.heap.size W w'):=Lib.hid (fun W hb=>check_any t ao cap W (hS.below hb (Nat.le_refl _)) hl)
 have H0:=Lib.hid ((bos_nil w).new #[.slice ao t.rows.length cap,.int .i64 t.mode] 52)
 clear hS
 cases hct:chkT t
 case false=>
  have E:bytesT t=(⟨#[]⟩,1):=by unfold bytesT;rw [if_neg (by rw [hct];decide)]
  rw [E]
  rw [hct] at CT
  clear E hct S
  obtain ⟨l,m⟩:=t
  unfold tv at *
  simp only at *
  obtain ⟨t0,t1⟩:=cell2 (H0.out.cell 0 rfl)
  go_enter Tryz.func66,Tryz.ntmps66
  go_wp2_with fail
  (with_reducible refine (CT.out _ H0.out.bl).mono ?_)
  rintro e w1 ⟨rfl,b1⟩
  have H1:=Lib.hid (H0.out.call b1)
  clear b1
  go_wp2
  go_ret2
  exact ⟨rfl,H1.out.bl⟩
 case true=>
  have E:bytesT t=(mkB (encT t),0):=by unfold bytesT;rw [if_pos hct]
  rw [E]
  rw [hct] at CT
  obtain ⟨c1,c2,c3,c4,c5⟩:=chkT_iff.1 hct
  clear E hct
  have ET:encT t=encInt t.mode++encInt (t.rows.length:Int)++encWs t.rows:=rfl
  have ETH:=Lib.hid ET
  have OK:Hid (∀ r∈t.rows,chk r.t=true):=Lib.hid (fun r hr=>(okW_iff.1 (c1 r hr)).1)
  have LN:Hid (∀ i,(encInt t.mode++encInt (t.rows.length:Int)++encWs (t.rows.take i)).length≤800000):=Lib.hid (fun i=>by
   have z1:(encInt t.mode).length≤9:=len9 (by omega)
   have z2:(encInt (t.rows.length:Int)).length≤9:=len9 (by omega)
   have z3:=encWs_len (l:=t.rows.take i) (fun r hr=>(okW_iff.1 (c1 r (List.mem_of_mem_take hr))).1)
   rw [List.length_take] at z3
   simp only [List.length_append];omega)
  clear c1 c2 ET
  obtain ⟨l,m⟩:=t
  unfold tv at *
  simp only at *
  obtain ⟨t0,t1⟩:=cell2 (H0.out.cell 0 rfl)
  have hl16:(l.length:Int)≤16:=by omega
  go_enter Tryz.func66,Tryz.ntmps66
  go_wp2_with fail
  (with_reducible refine (CT.out _ H0.out.bl).mono ?_)
  rintro e w1 ⟨rfl,b1⟩
  have H1:=Lib.hid (H0.out.call b1)
  clear b1 CT H0 t0 t1
  have HD:=Lib.hid H1.out.drew
  have HA:=Lib.hid (H1.out.call ((Below.refl _ _).alloc (Nat.le_refl _) (.cells #[.pointer none,.slice none 0 0,.pointer none] 191)).drew)
  have FW:Hid (Wr w1.heap.size w1.heap.size [] (w1.alloc (.cells #[.pointer none,.slice none 0 0,.pointer none] 191)).drew):=Lib.hid ((fresh_wr w1).call (Below.refl _ _).drew)
  have NB:Hid (∀ x∈([(w.heap.size,#[.slice ao l.length cap,.int .i64 m],52)]:List (Nat×Array Value×Nat)),x.1≠w1.heap.size∧x.2.2≠5):=Lib.hid (by
   intro x hx
   have:=(H1.out.lt 0 rfl).1
   rw [List.mem_singleton.1 hx]
   exact ⟨by show w.heap.size≠w1.heap.size;omega,(by decide:(52:Nat)≠5)⟩)
  have hsz:Hid (w.heap.size≤w1.heap.size):=Lib.hid H1.out.bl.size
  have IC:Hid (∀ (x:List UInt8) (n:Int) W,0≤n∧n≤1000000→x.length≤900000→Wr w1.heap.size w1.heap.size x W→w1.heap.size≤W.heap.size→Bos [(w.heap.size,#[.slice ao l.length cap,.int .i64 m],52)] w W→Calls Tryz.prog 110 #[self w1.heap.size,.int .i64 n] W fun e w'=>e=.returned (self w1.heap.size)∧Wr w1.heap.size w1.heap.size (x++encInt n) w'∧w1.heap.size≤w'.heap.size∧Bos [(w.heap.size,#[.slice ao l.length cap,.int .i64 m],52)] w w'):=Lib.hid (fun x n W hn hx k hs h=>
   (Oc.int_any w1.heap.size w1.heap.size n x W k (int_wf hn.1 hn.2) hx hs).mono fun e w' ⟨he,hw,hm⟩=>⟨he,hw,Nat.le_trans hs hm.size,h.wr k hm hsz.out hs NB.out⟩)
  have WC:Hid (∀ (x:List UInt8) (r:Rw) W,chk r.t=true→x.length≤800000→Wr w1.heap.size w1.heap.size x W→w1.heap.size≤W.heap.size→Bos [(w.heap.size,#[.slice ao l.length cap,.int .i64 m],52)] w W→Calls Tryz.prog 111 #[self w1.heap.size,r.v] W fun e w'=>e=.returned (.tuple #[])∧Wr w1.heap.size w1.heap.size (x++encW r) w'∧w1.heap.size≤w'.heap.size∧Bos [(w.heap.size,#[.slice ao l.length cap,.int .i64 m],52)] w w'):=Lib.hid (fun x r W hr hx k hs h=>
   (write_any r W k hs hx hr).mono fun e w' ⟨he,hw,hm⟩=>⟨he,hw,Nat.le_trans hs hm.size,h.wr k hm hsz.out hs NB.out⟩)
  have hm1:0≤m∧m≤1000000:=⟨c4,by omega⟩
  have KEEP:Hid (∀ W,Bos [(w.heap.size,#[.slice ao l.length cap,.int .i64 m],52)] w W→(W.cell? ⟨w.heap.size,0,none⟩=some (.slice ao l.length cap)∧W.cell? ⟨w.heap.size,1,none⟩=some (.int .i64 m))):=Lib.hid (fun W h=>cell2 (h.cell 0 rfl))
  go_wp2_with fail
  refine wp_region_held_drew (S:=(fun W'=>W'.cell? ⟨w.heap.size,0,none⟩=some (.slice ao l.length cap)∧W'.cell? ⟨w.heap.size,1,none⟩=some (.int .i64 m))) (by kernel_rfl) (KEEP.out _ HD.out) (fun hHeld=>?_)
  refine Gh.tk 1 ?_
  refine Gh.tk 2 ?_
  refine Gh.tk 4 ?_
  refine Gh.tk 5 ?_
  refine Gh.tk 6 ?_
  refine Gh.rd 0 (fun K hK=>?_)
  go_simp
  refine hK.out _ _ (KEEP.out _ HA.out) (fun hHeld=>?_)
  clear hK K
  refine Gh.pt ?_
  refine Gh.rd 3 (fun K hK=>?_)
  go_simp
  (with_reducible refine (IC.out [] m _ hm1 (by simp) FW.out (by simp) HA.out).mono ?_)
  rintro e w2 ⟨rfl,k2,s2,h2⟩
  have K2:=Lib.hid k2
  have S2:=Lib.hid s2
  have H2:=Lib.hid h2
  clear k2 s2 h2
  go_simp
  refine hK.out _ _ (KEEP.out _ H2.out) (fun hHeld=>?_)
  clear hK K
  refine Gh.pt ?_
  refine Gh.rd 7 (fun K hK=>?_)
  go_simp
  (with_reducible refine (IC.out _ (l.length:Int) _ ⟨by omega,by omega⟩ (by have:=LN.out 0;simp only [List.length_append,List.nil_append] at this ⊢;omega) K2.out S2.out H2.out).mono ?_)
  rintro e w3 ⟨rfl,k3,s3,h3⟩
  have K3:=Lib.hid k3
  have S3:=Lib.hid s3
  have H3:=Lib.hid h3
  clear k3 s3 h3
  go_simp
  refine hK.out _ _ (KEEP.out _ H3.out) (fun hHeld=>?_)
  clear hK K
  refine Gh.pt ?_
  refine Gh.tk 8 ?_
  refine wpAnyH_done (by kernel_rfl) ?_ _
  clear HA HD FW H1 K2 S2 H2
  rw [List.nil_append] at K3
  obtain ⟨t0,t1⟩:=cell2 (H3.out.cell 0 rfl)
  have G:Hid (WrRel ⟨l,m⟩ w1.heap.size w1.heap.size [(w.heap.size,#[.slice ao l.length cap,.int .i64 m],52)] w l.length (.int .i64 0) w3):=Lib.hid ⟨0,by simp,rfl,by rw [List.take_zero];simpa [encWs] using K3.out,S3.out,H3.out⟩
  clear K3 S3 H3
  go_wp2_with fail
  go_loopg [21] l.length (WrRel ⟨l,m⟩ w1.heap.size w1.heap.size [(w.heap.size,#[.slice ao l.length cap,.int .i64 m],52)] w)
  case atStart=>exact G.out
  case round=>
   obtain ⟨i,hi,rfl,hk,hs,hB⟩:=hrel
   simp only at hi hk
   have HB:=Lib.hid hB
   have HK:=Lib.hid hk
   have HS:=Lib.hid hs
   have HI:=Lib.hid hi
   clear G hB hk hs t0 t1
   by_cases hlt:i<l.length
   ·obtain ⟨b,off,rfl,hb,hat⟩:=(S.out.below HB.out.bl (Nat.le_refl _)) (by omega)
    have hxi:=List.getElem?_eq_getElem hlt
    obtain ⟨r0,r1,r2,r3,r4,r5⟩:=row_cells hat hxi
    have hlt':(i:Int)<(l.length:Int):=by omega
    have hg0:0<gk:=by omega
    have CK:=OK.out _ (List.getElem_mem hlt)
    have NX:=Lib.hid (encWs_take hlt)
    generalize l[i]=x at *
    obtain ⟨⟨xi,xc,xd,xt,xm⟩,xs⟩:=x
    have ba:Below wr.heap.size wr (wr.alloc (.cells #[.int .i64 xi,.int .i64 xc,.int .i64 xd,.int .i64 xt,.int .i64 xm,.bool xs] 123)):=(Below.refl _ _).alloc (Nat.le_refl _) _
    have CW:=Lib.hid (WC.out _ ⟨⟨xi,xc,xd,xt,xm⟩,xs⟩ _ CK (LN.out i) (HK.out.call ba) (Nat.le_trans HS.out ba.size) (HB.out.call ba))
    simp only [Rw.v] at *
    obtain ⟨a0,a1,a2,a3,a4,a5⟩:=cell6 ((HB.out.new #[.int .i64 xi,.int .i64 xc,.int .i64 xd,.int .i64 xt,.int .i64 xm,.bool xs] 123).cell 0 rfl)
    clear hat hxi hb ba CK hi hlt
    go_wp2_with fail
    (with_reducible refine CW.out.mono ?_)
    rintro e w4 ⟨rfl,k4,s4,h4⟩
    have K4:=Lib.hid k4
    have S4:=Lib.hid s4
    have H4:=Lib.hid h4
    clear k4 s4 h4 CW a0 a1 a2 a3 a4 a5 r0 r1 r2 r3 r4 r5
    go_wp2
    go_roundg (gk-1)
    case measure=>omega
    case rel=>exact ⟨i+1,by have:=HI.out;simp only;omega,by go_num,by simp only;rw [NX.out,← List.append_assoc];exact K4.out,S4.out,H4.out⟩
   ·have hge:(l.length:Int)≤(i:Int):=by omega
    obtain rfl:i=l.length:=by omega
    have SC:=Lib.hid (Oc.wstring_any _ _ _ wr HK.out (Nat.le_trans (LN.out l.length) (by omega)))
    have BW:Hid (∀ w',Wr w1.heap.size w1.heap.size (encInt m++encInt (l.length:Int)++encWs (l.take l.length)) w'→Moved w1.heap.size wr w'→Below w.heap.size w w'):=Lib.hid (fun w' k mv=>HB.out.bl.trans ((HK.out.below mv HS.out).mono hsz.out))
    rw [List.take_length,← ETH.out] at SC
    clear hlt hi
    go_wp2_with fail
    (with_reducible refine SC.out.mono ?_)
    rintro e w4 ⟨rfl,k4,m4⟩
    have Z:=Lib.hid (HB.out.bl.trans ((HK.out.below m4 HS.out).mono hsz.out))
    clear k4 m4 SC BW
    go_wp2
    go_ret2
    exact ⟨rfl,Z.out⟩
end Go.Proofs.YteempfoajgblaaaGreat.Tb
