/- Contract of package slots' put. Contract of package slots' Write. -/
import Derived.Test.YteempfoajgblaaaGreatLMSb
import Derived.Deep.RegionWith
set_option maxRecDepth 100000
set_option linter.unusedVariables false
set_option linter.unusedSimpArgs false
open Go.ChangeShapes Go.WideShapes Go.ChangeAt Go.RowKit Go.Joins
set_option maxHeartbeats 2000000
namespace Go.Proofs.YteempfoajgblaaaGreat.Sl
open Dk (Dk DS Moved ptr)
theorem rowOfStrs {B:Nat} {w:World} {v:Value} {ds:List (List UInt8)} (h:Strs B w v ds) (h0:0<ds.length):Row v ds w:=by
 obtain ⟨g,cap,e,-,hg,hc⟩:=h.cell (fun e=>by rw [e] at h0;simp at h0)
 exact ⟨g,cap,e,hg,hc⟩
def RowT (v:Value) (L:List (List UInt8)) (w:World):Prop:=Row v L w∧∃ g n cap cur,v=.slice (some ⟨g,0,none⟩) n cap∧w.heap[g]?=some (Obj.cells cur 9 (0,0))
theorem RowT.of_block {v:Value} {L:List (List UInt8)} {w w':World} (h:RowT v L w) (hs:w.heap.size≤w'.heap.size) (e:∀ (g:Nat) cur,w.heap[g]?=some (Obj.cells cur 9 (0,0))→w'.heap[g]?=w.heap[g]?):RowT v L w':=by
 obtain ⟨⟨g,cap,rfl,hg,hc⟩,g',n,cap',cur,he,hb⟩:=h
 simp only [Value.slice.injEq,Option.some.injEq,Addr.mk.injEq,and_true] at he
 obtain ⟨rfl,rfl,rfl⟩:=he
 have hk:=e g cur hb
 exact ⟨⟨g,_,rfl,by omega,fun j hj=>by rw [World.cell?_of_block (w:=w) (a:=⟨g,j,none⟩) hk];exact hc j hj⟩,g,_,_,cur,rfl,hk.trans hb⟩
theorem RowT.call {v:Value} {L:List (List UInt8)} {w w':World} (h:RowT v L w) (hb:Below w.heap.size w w'):RowT v L w':=h.of_block hb.size (fun g cur hg=>hb.block g (Dk.lt_of_heap hg))
theorem RowT.disk {B b:Nat} {s:DS} {v:Value} {L:List (List UInt8)} {w w':World} (h:RowT v L w) (d:Dk B b s w) (m:Moved b w w'):RowT v L w':=h.of_block m.size (fun g cur hg=>(d.keep m hg (by decide) (by decide) (by decide)).trans hg.symm)
theorem rowT_of {B:Nat} {w:World} {v:Value} {ds:List (List UInt8)} (h:Strs B w v ds) (h0:0<ds.length):RowT v ds w:=by
 refine ⟨rowOfStrs h h0,?_⟩
 rcases h.2 with ⟨rfl,h1⟩|⟨g',cap,cur,rfl,_,hg,_⟩
 · omega
 · exact ⟨g',_,cap,cur,rfl,hg⟩
structure Pu (B b q:Nat) (t:SS) (v:Value) (L:List (List UInt8)) (d:DS) (w W:World):Prop where
 dk:Dk B b d W
 sl:Sl q b t W
 row:RowT v L W
 mv:Moved b w W
section
variable {B b q:Nat} {t:SS} {v:Value} {L:List (List UInt8)} {d d':DS} {w W W':World}
theorem Pu.call (h:Pu B b q t v L d w W) (hb:Below W.heap.size W W'):Pu B b q t v L d w W':=⟨h.dk.call hb,h.sl.call hb,h.row.call hb,h.mv.trans (.of_below hb h.dk.lt)⟩
theorem Pu.disk (h:Pu B b q t v L d w W) (k:Dk B b d' W') (m:Moved b W W'):Pu B b q t v L d' w W':=⟨k,h.sl.disk h.dk m,h.row.disk h.dk m,h.mv.trans m⟩
theorem Pu.drew (h:Pu B b q t v L d w W):Pu B b q t v L d w W.drew:=h.call ((Below.refl _ _).drew)
end
def dsAt (s:DS) (A:Nat) (data:List UInt8) (e i:Nat):DS:=⟨s.sec,s.opn++wrs A data e i,s.fail-i,s.reads⟩
def PuRel (B b q:Nat) (t:SS) (v:Value) (s:DS) (A:Nat) (data:List UInt8) (w:World) (g:Nat) (s16:Value) (wx:World):Prop:=
 ∃ i,i+g=t.k∧s16=.int .i64 (i:Int)∧(s.fail=0∨i<s.fail)∧Pu B b q t v (chunks data) (dsAt s A data t.nw i) w wx
def CpRel (B b q:Nat) (t:SS) (v:Value) (L:List (List UInt8)) (d:DS) (w:World) (p7:Nat) (c:List UInt8×Nat×Nat) (s7:Value) (wx:World):Prop:=
 s7=ptr p7∧ClAt wx p7 c∧Pu B b q t v L d w wx
def CwRel (B b q:Nat) (t:SS) (v:Value) (L:List (List UInt8)) (d:DS) (w:World) (a:Nat) (x:List UInt8) (s53:Value) (wx:World):Prop:=
 s53=.bool (((Dk.writeR d (a:Int) x).2:Int) != 0)∧Pu B b q t v L (Dk.writeR d (a:Int) x).1 w wx
theorem clAt_new (w:World) (p:List UInt8) (e n:Nat):ClAt (w.alloc (.cells #[.string (mkB p),.int .u64 (e:Int),.int .u64 (n:Int)] 204)) w.heap.size (p,e,n):=heap_alloc_new _ _
theorem ClAt.setP {w:World} {p:Nat} {c:List UInt8×Nat×Nat} (h:ClAt w p c) (l:List UInt8):ClAt (w.setCell ⟨p,0,none⟩ (.string (mkB l))) p (l,c.2.1,c.2.2):=by
 unfold ClAt at *;simp [World.setCell,Array.getElem?_modify,h]
theorem Pu.setNew {B b q:Nat} {t:SS} {v:Value} {L:List (List UInt8)} {d:DS} {w W:World} (h:Pu B b q t v L d w W) {p:Nat} {c:List UInt8×Nat×Nat} (hc:ClAt W p c) (hp:w.heap.size≤p) (hb:b<w.heap.size) (o:Nat) (x:Value):Pu B b q t v L d w (W.setCell ⟨p,o,none⟩ x):=by
 have pq:q≠p:=fun e=>by have h1:=h.sl;unfold Sl at h1;rw [e,hc] at h1;cases h1
 have nD:¬Dk.Own W b p:=by
  obtain ⟨g,u,dk⟩:=h.dk
  exact dk.keepT hc (by decide) (by decide) (by decide)
 refine ⟨Dk_setOther h.dk nD,h.sl.of_block (Below.heap_setCell W ⟨p,o,none⟩ x q pq),h.row.of_block (by simp [World.setCell]) (fun g cur hg=>Below.heap_setCell W ⟨p,o,none⟩ x g (fun e=>by have e':g=p:=e;rw [e',hc] at hg;cases hg)),?_⟩
 refine ⟨h.mv.os,h.mv.tape,h.mv.output,by simpa [World.setCell] using h.mv.size,fun k hk hn=>?_,fun k hk=>h.mv.own k (hk.of_block (Below.heap_setCell W ⟨p,o,none⟩ x b (by show b≠p;omega)))⟩
 rw [Below.heap_setCell W ⟨p,o,none⟩ x k (by show k≠p;omega)]
 exact h.mv.block k hk hn
theorem dsAt_write {s:DS} {A:Nat} {data:List UInt8} {e i:Nat} (hi:A+i<s.sec.length) (hio:s.fail-i≠1):Dk.writeR (dsAt s A data e i) ((A+i:Nat):Int) (sec (payAt data i) e i)=(dsAt s A data e (i+1),0):=by
 unfold Dk.writeR
 rw [if_pos ⟨⟨by omega,by show ((A+i:Nat):Int)<(s.sec.length:Int);omega⟩,sec_length (payAt_len _ _) _ _⟩,if_neg (show ¬(dsAt s A data e i).fail=1 from hio)]
 unfold dsAt
 rw [wrs_succ,← List.append_assoc,Nat.sub_sub]
 rfl
theorem dsAt_io {s:DS} {A:Nat} {data:List UInt8} {e i:Nat} (hi:A+i<s.sec.length) (hio:s.fail-i=1):Dk.writeR (dsAt s A data e i) ((A+i:Nat):Int) (sec (payAt data i) e i)=(⟨s.sec,s.opn++wrs A data e i,0,s.reads⟩,18):=by
 unfold Dk.writeR
 rw [if_pos ⟨⟨by omega,by show ((A+i:Nat):Int)<(s.sec.length:Int);omega⟩,sec_length (payAt_len _ _) _ _⟩,if_pos (show (dsAt s A data e i).fail=1 from hio)]
 rfl
theorem put_any (B b q:Nat) (t:SS) (s:DS) (data:List UInt8) (w:World) (dk:Dk B b s w) (sl:Sl q b t w) (hk:1≤t.k) (hk2:t.k≤64) (hx:t.nx≤1) (ha:t.at_+t.nx*t.k+t.k≤s.sec.length) (hnw:t.nw<18446744073709551616) (hd:data.length≤1000) (hd2:data.length≤43*t.k) (hn:s.opn.length≤800000) (hf:s.fail<9223372036854775808) :
 Calls Tryz.prog 152 #[ptr q,.string (mkB data)] w fun e w'=>e=.returned (.bool (putR s (t.at_+t.nx*t.k) t.k data t.nw).2)∧Dk B b (putR s (t.at_+t.nx*t.k) t.k data t.nw).1 w'∧Moved b w w':=by
 have hl:=dk.ok.len
 have bl:=dk.lt
 have CH:=Lib.hid (chunks_any (mkB data) w (by rw [mkB_size];exact hd))
 rw [mkB_data] at CH
 have CL:=chunks_le data hd2 hk
 have C0:0<(chunks data).length:=by
  have:=chunks_ne data
  cases h:chunks data with
  | nil=>exact absurd h this
  | cons x xs=>simp
 have P0:=Lib.hid (show Dk B b s w∧Sl q b t w from ⟨dk,sl⟩)
 have HNW:=Lib.hid hnw
 clear dk sl hnw
 obtain ⟨A,hA⟩:∃ A,A=t.at_+t.nx*t.k:=⟨_,rfl⟩
 rw [← hA] at ha ⊢
 have hA2:t.at_≤1024:=by rw [hA] at ha;omega
 generalize mkB data=DT at *
 go_enter Tryz.func152,Tryz.ntmps152
 go_wp2_with fail
 (with_reducible refine CH.out.mono ?_)
 rintro e w1 ⟨⟨v,rfl,st⟩,b1⟩
 have P1:Hid (Pu B b q t v (chunks data) (dsAt s A data t.nw 0) w w1):=Lib.hid (by
  have e0:dsAt s A data t.nw 0=s:=by cases s;simp [dsAt,wrs]
  rw [e0]
  exact ⟨P0.out.1.call b1,P0.out.2.call b1,rowT_of st C0,.of_below b1 P0.out.1.lt⟩)
 obtain ⟨vg,vcap,hv,-,-⟩:=rowOfStrs st C0
 subst hv
 have c2:=P1.out.sl.c2
 clear CH P0 st b1
 go_wp2_with fail
 clear c2
 go_loopg [16] t.k (PuRel B b q t (.slice (some ⟨vg,0,none⟩) (chunks data).length vcap) s A data w)
 case atStart=>exact ⟨0,by omega,rfl,by omega,P1.out⟩
 case round=>
  clear P1
  obtain ⟨i,hi,rfl,hfl,hp⟩:=hrel
  rcases Nat.lt_or_ge i t.k with hlt|hge
  ·have c4:=hp.sl.c4
   have P2:=Lib.hid hp
   have il:(i:Int)<(t.k:Int):=by omega
   have wl:=hp.mv.size
   have RT:=Lib.hid (hp.row)
   clear hp
   go_upto_if 29 with (fail)
   have P3:=Lib.hid (P2.out.call ((Below.refl _ _).alloc (Nat.le_refl _) (.cells #[.string ⟨#[]⟩,.int .u64 (t.nw:Int),.int .u64 (i:Int)] 204)))
   have C3:Hid (ClAt (wr.alloc (.cells #[.string ⟨#[]⟩,.int .u64 (t.nw:Int),.int .u64 (i:Int)] 204)) wr.heap.size ([],t.nw,i)):=Lib.hid (clAt_new wr [] t.nw i)
   clear P2 RT c4
   generalize (wr.alloc (.cells #[.string ⟨#[]⟩,.int .u64 (t.nw:Int),.int .u64 (i:Int)] 204))=W3 at *
   obtain ⟨p7,hp7⟩:∃ p7,p7=wr.heap.size:=⟨_,rfl⟩
   rw [← hp7] at C3 wl ⊢
   clear hp7
   go_cut [7] (CpRel B b q t (.slice (some ⟨vg,0,none⟩) (chunks data).length vcap) (chunks data) (dsAt s A data t.nw i) w p7 (payAt data i,t.nw,i))
   case first=>
    have z0:=C3.out.c0
    have zf:W3.frozen? ⟨p7,0,none⟩=false:=Lib.frozen_of_heap C3.out 0
    rcases Nat.lt_or_ge i (chunks data).length with hc|hc
    ·obtain ⟨g',cap',e',hg',hcs⟩:=P3.out.row.1
     simp only [Value.slice.injEq,Option.some.injEq,Addr.mk.injEq,and_true,true_and] at e'
     obtain ⟨rfl,rfl⟩:=e'
     have hcell:=hcs i hc
     have PA:(chunks data)[i]=payAt data i:=by
      have:=chunks_at data i
      rw [List.getElem?_eq_getElem hc] at this
      exact this
     rw [PA] at hcell
     have hci:(i:Int)<((chunks data).length:Int):=by omega
     have FIN:=Lib.hid (And.intro (C3.out.setP (payAt data i)) (P3.out.setNew C3.out wl bl 0 (.string (mkB (payAt data i)))))
     clear C3 P3 hcs PA
     go_wp2_with fail
     go_meet
     exact ⟨rfl,FIN.out⟩
    ·have hci:((chunks data).length:Int)≤(i:Int):=by omega
     have PA:payAt data i=[]:=by
      have:=chunks_at data i
      rw [List.getElem?_eq_none hc] at this
      exact this.symm
     go_wp2_with fail
     go_meet
     refine ⟨rfl,?_,P3.out⟩
     rw [PA];exact C3.out
   case rest=>
    obtain ⟨rfl,hcl,hpu⟩:=hcut
    clear C3 P3
    have d0:=hcl.c0
    have d1:=hcl.c1
    have d2:=hcl.c2
    have MK:=Lib.hid (make_yes (mkB (payAt data i)) t.nw i wc (by rw [mkB_size];exact payAt_len _ _) HNW.out (by omega))
    rw [mkB_data] at MK
    have PU:=Lib.hid hpu
    clear hcl hpu
    dsimp only at d0 d1 d2
    go_wp2_with fail
    (with_reducible refine MK.out.mono ?_)
    rintro e w4 ⟨rfl,b4⟩
    have P4:=Lib.hid (PU.out.call b4)
    clear MK PU b4 d0 d1 d2
    go_upto_region 9 with (fail)
    obtain ⟨AI,hAI⟩:∃ AI,AI=A+i:=⟨_,rfl⟩
    have EA:t.at_+t.nx*t.k+i=AI:=by rw [hAI,hA]
    have PL:=Lib.hid (place_any t.nx i w4.drew P4.out.drew.sl hk2 hA2 hx (by omega))
    rw [EA] at PL
    have c0:=P4.out.sl.c0
    have c5:=P4.out.sl.c5
    have FB:=Lib.hid (fun w5 (hb:Below w4.drew.heap.size w4.drew w5)=>(P4.out.drew.call hb).sl.c0)
    have PB:=Lib.hid (fun w5 (hb:Below w4.drew.heap.size w4.drew w5)=>P4.out.drew.call hb)
    have WR:=Lib.hid (fun w5 (hb:Below w4.drew.heap.size w4.drew w5)=>Dk.write_any B b _ (AI:Int) (mkB (sec (payAt data i) t.nw i)) w5 (P4.out.drew.call hb).dk (by show (s.opn++wrs A data t.nw i).length≤_;rw [List.length_append,wrs_length];omega) (by show s.fail-i<_;omega))
    rw [mkB_data] at WR
    go_cut [53] (CwRel B b q t (.slice (some ⟨vg,0,none⟩) (chunks data).length vcap) (chunks data) (dsAt s A data t.nw i) w AI (sec (payAt data i) t.nw i))
    case first=>
     clear hAI EA
     generalize dsAt s A data t.nw i=DA at *
     generalize sec (payAt data i) t.nw i=SC at *
     generalize mkB SC=SX at *
     go_region_with (first
      | (go_at_call 149;(with_reducible refine PL.out.mono ?_);rintro e w5 ⟨rfl,b5⟩;have y0:=FB.out w5 b5)
      | (go_at_call 189;(with_reducible refine (WR.out w5 b5).mono ?_);rintro e w6 ⟨rfl,k6,m6⟩))
     all_goals go_wp2_with fail
     all_goals go_meet
     all_goals exact ⟨rfl,(PB.out w5 b5).disk k6 m6⟩
    case rest=>
     obtain ⟨rfl,hpu⟩:=hcut
     clear PL FB PB WR c0 c5 P4
     by_cases hio:s.fail-i=1
     ·have EW:=dsAt_io (s:=s) (A:=A) (data:=data) (e:=t.nw) (i:=i) (by omega) hio
      rw [← hAI] at EW
      rw [EW] at hpu ⊢
      have FIN:=Lib.hid (show (putR s A t.k data t.nw).2=false∧Dk B b (putR s A t.k data t.nw).1 wc∧Moved b w wc from by
       unfold putR
       rw [if_pos ⟨by omega,by omega⟩,show s.fail-1=i by omega]
       exact ⟨rfl,hpu.dk,hpu.mv⟩)
      clear hpu EW
      have ne:(((18:Nat):Int) != 0)=true:=by decide
      dsimp only
      go_wp2
      go_ret
      exact ⟨by rw [FIN.out.1];rfl,FIN.out.2⟩
     ·have EW:=dsAt_write (s:=s) (A:=A) (data:=data) (e:=t.nw) (i:=i) (by omega) hio
      rw [← hAI] at EW
      rw [EW] at hpu ⊢
      have N:=Lib.hid (show PuRel B b q t (.slice (some ⟨vg,0,none⟩) (chunks data).length vcap) s A data w (gk-1) (.int .i64 ((i+1:Nat):Int)) wc from ⟨i+1,by omega,rfl,by omega,hpu⟩)
      have ne:(((0:Nat):Int) != 0)=false:=by decide
      have hg0:0<gk:=by omega
      clear hpu EW
      dsimp only
      go_wp2
      go_roundg (gk-1)
      case measure=>omega
      case rel=>exact N.out
  ·obtain rfl:i=t.k:=by omega
   have c0:=hp.sl.c0
   have FL:=Lib.hid (Dk.flush_any B b _ wr hp.dk (by show (s.opn++wrs A data t.nw t.k).length≤_;rw [List.length_append,wrs_length];omega) (by show s.fail-t.k<_;omega))
   have MV:=Lib.hid hp.mv
   have FIN:Hid (((((Dk.flushR (dsAt s A data t.nw t.k)).2:Int)==0)=(putR s A t.k data t.nw).2)∧(Dk.flushR (dsAt s A data t.nw t.k)).1=(putR s A t.k data t.nw).1):=Lib.hid (by
    unfold Dk.flushR putR
    by_cases hio:s.fail-t.k=1
    ·rw [if_pos (show (dsAt s A data t.nw t.k).fail=1 from hio),if_pos ⟨by omega,by omega⟩,show s.fail-1=t.k by omega]
     exact ⟨rfl,rfl⟩
    ·rw [if_neg (show ¬(dsAt s A data t.nw t.k).fail=1 from hio),if_neg (by omega)]
     refine ⟨rfl,?_⟩
     show DS.mk _ _ (s.fail-t.k-1) _=_
     rw [Nat.sub_sub]
     rfl)
   clear hp
   go_wp2_with fail
   (with_reducible refine FL.out.mono ?_)
   rintro e w6 ⟨rfl,k6,m6⟩
   clear FL
   generalize ((Dk.flushR (dsAt s A data t.nw t.k)).2:Int)=FR at *
   go_wp2
   go_ret
   rw [← FIN.out.1,← FIN.out.2]
   exact ⟨rfl,k6,MV.out.trans m6⟩
end Go.Proofs.YteempfoajgblaaaGreat.Sl
namespace Go.Proofs.YteempfoajgblaaaGreat.Sl
open Dk (Dk DS Moved ptr)
def wroteT (t:SS) (ok:Bool):SS:=⟨t.at_,t.k,ok,t.nw+1,if ok then 1-t.nx else t.nx⟩
def wroteV (t:SS) (ok:Bool):Value:=if ok then .tuple #[.int .u64 ((t.nw+1:Nat):Int),.int .i64 0] else .tuple #[.int .u64 0,.int .i64 18]
theorem write_any (B b q:Nat) (t:SS) (s:DS) (data:List UInt8) (w:World) (dk:Dk B b s w) (sl:Sl q b t w) (hk:1≤t.k) (hk2:t.k≤64) (hx:t.nx≤1) (ha:t.at_+t.nx*t.k+t.k≤s.sec.length) (hr:t.rd=true) (hnw:t.nw<18446744073709551615) (hd:data.length≤1000) (hd2:data.length≤43*t.k) (hn:s.opn.length≤800000) (hf:s.fail<9223372036854775808) :
 Calls Tryz.prog 107 #[ptr q,.string (mkB data)] w fun e w'=>e=.returned (wroteV t (putR s (t.at_+t.nx*t.k) t.k data (t.nw+1)).2)∧Dk B b (putR s (t.at_+t.nx*t.k) t.k data (t.nw+1)).1 w'∧Sl q b (wroteT t (putR s (t.at_+t.nx*t.k) t.k data (t.nw+1)).2) w'∧Mv b q w w':=by
 have RM:=Lib.hid (room_any w sl hk2)
 have h1:((43*(t.k:Int))==0)=false:=by simp;omega
 have h2:((mkB data).size:Int)≤43*(t.k:Int):=by rw [mkB_size];omega
 have h3:¬43*(t.k:Int)=0:=by omega
 have c3:=sl.c3
 have c4:=sl.c4
 have f4:=sl.fz 4
 rw [hr] at c3
 have hne:((t.nw:Int)==18446744073709551615)=false:=by simp;omega
 have hne2:¬(t.nw:Int)=18446744073709551615:=by omega
 have hnw1:(t.nw:Int)+1<18446744073709551616:=by omega
 have hqb:=sl.ne dk
 have S1:=Lib.hid (fun x (e:x=((t.nw+1:Nat):Int))=>show Dk B b s (w.setCell ⟨q,4,none⟩ (.int .u64 x))∧Sl q b ⟨t.at_,t.k,true,t.nw+1,t.nx⟩ (w.setCell ⟨q,4,none⟩ (.int .u64 x))∧Mv b q w (w.setCell ⟨q,4,none⟩ (.int .u64 x)) from ⟨Dk_setOther dk (sl.notOwn dk),by have:=sl.setNw e;rw [hr] at this;exact this,(Mv.refl b q w).set hqb 4 _⟩)
 have PT:=Lib.hid (fun w1 (hd':Dk B b s w1) (hs:Sl q b ⟨t.at_,t.k,true,t.nw+1,t.nx⟩ w1)=>put_any B b q ⟨t.at_,t.k,true,t.nw+1,t.nx⟩ s data w1 hd' hs hk hk2 hx ha (by show t.nw+1<_;omega) hd hd2 hn hf)
 have HX:=Lib.hid hx
 have HQ:=Lib.hid hqb
 have HNW:=Lib.hid hnw
 clear sl dk hd hd2 ha hf hn hqb hnw
 dsimp only at PT
 generalize hP:putR s (t.at_+t.nx*t.k) t.k data (t.nw+1)=P at *
 clear hP
 obtain ⟨P1,P2⟩:=P
 dsimp only at PT ⊢
 generalize 43*(t.k:Int)=R at *
 generalize mkB data=DT at *
 have E1:=Lib.hid (show (t.nw:Int)+1=((t.nw+1:Nat):Int) by push_cast;rfl)
 have nw0:(0:Int)≤(t.nw:Int):=by omega
 clear hnw1 hne2
 have nw1:(t.nw:Int)≤18446744073709551614:=by have:=HNW.out;omega
 generalize (t.nw:Int)=NI at *
 go_enter Tryz.func107,Tryz.ntmps107
 go_wp2_with fail
 (with_reducible refine RM.out.mono ?_)
 rintro e w1 ⟨rfl,rfl⟩
 go_wp2_with fail
 (with_reducible refine RM.out.mono ?_)
 rintro e w1 ⟨rfl,rfl⟩
 clear RM
 go_wp2_with fail
 have S2:=S1.out _ E1.out
 clear S1
 (with_reducible refine (PT.out _ S2.1 S2.2.1).mono ?_)
 rintro e w2 ⟨rfl,k2,m2⟩
 have K2:=Lib.hid (And.intro k2 (And.intro (S2.2.1.disk S2.1 m2) (S2.2.2.moved m2)))
 clear k2 m2 S2 PT c3 c4 f4
 have d3:=K2.out.2.1.c3
 have g3:=K2.out.2.1.fz 3
 have d4:=K2.out.2.1.c4
 have d5:=K2.out.2.1.c5
 have g5:=K2.out.2.1.fz 5
 cases P2 with
 | false=>
  have FIN:=Lib.hid (show Dk B b P1 (w2.setCell ⟨q,3,none⟩ (.bool false))∧Sl q b (wroteT t false) (w2.setCell ⟨q,3,none⟩ (.bool false))∧Mv b q w1 (w2.setCell ⟨q,3,none⟩ (.bool false)) from ⟨Dk_setOther K2.out.1 (K2.out.2.1.notOwn K2.out.1),K2.out.2.1.setRd false,K2.out.2.2.set HQ.out 3 _⟩)
  clear K2
  go_wp2
  go_ret2
  exact ⟨rfl,FIN.out⟩
 | true=>
  have OT:=Lib.hid (fun w=>other_any t.nx w HX.out)
  have FIN:=Lib.hid (fun x (e:x=((1-t.nx:Nat):Int))=>show Dk B b P1 ((w2.setCell ⟨q,3,none⟩ (.bool true)).setCell ⟨q,5,none⟩ (.int .i64 x))∧Sl q b (wroteT t true) ((w2.setCell ⟨q,3,none⟩ (.bool true)).setCell ⟨q,5,none⟩ (.int .i64 x))∧Mv b q w1 ((w2.setCell ⟨q,3,none⟩ (.bool true)).setCell ⟨q,5,none⟩ (.int .i64 x)) from by
   have s1:=K2.out.2.1.setRd true
   have d1:=Dk_setOther (o:=3) (v:=.bool true) K2.out.1 (K2.out.2.1.notOwn K2.out.1)
   exact ⟨Dk_setOther d1 (s1.notOwn d1),s1.setNx e,(K2.out.2.2.set HQ.out 3 _).set HQ.out 5 _⟩)
  have E2:=Lib.hid (show (1:Int)-(t.nx:Int)=((1-t.nx:Nat):Int) by have:=HX.out;omega)
  clear K2
  go_wp2_with fail
  (with_reducible refine (OT.out _).mono ?_)
  rintro e w3 ⟨rfl,rfl⟩
  clear OT
  go_wp2
  go_ret2
  exact ⟨rfl,FIN.out _ E2.out⟩
end Go.Proofs.YteempfoajgblaaaGreat.Sl
