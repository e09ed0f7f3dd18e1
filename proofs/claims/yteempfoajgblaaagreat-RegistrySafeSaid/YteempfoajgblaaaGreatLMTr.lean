/- The document's Apply, of a task that is admitted. The document's Apply, of a task that is removed, .. -/
import Derived.Test.YteempfoajgblaaaGreatLGnH
import Derived.Test.YteempfoajgblaaaGreatLQE
set_option maxRecDepth 100000
set_option linter.unusedVariables false
set_option linter.unusedSimpArgs false
open Go.ChangeShapes Go.WideShapes Go.ChangeAt Go.RowKit Go.Joins
set_option maxHeartbeats 16000000
namespace Go.Proofs.YteempfoajgblaaaGreat.Tb
open Pm (Tk chk chk_iff below_drewN)
open Ge (El Seen Row)
open Ox (Od chkR chkR_iff tk0)
theorem rapply_admit (t:Tb) (o:Od) (ao:Option Addr) (cap:Nat) (w:World) (hS:Sl (.slice ao t.rows.length cap) t.rows w ao cap) (hl:t.rows.length≤1000) (hT:chkT t=true) {x:Tk} {s:Bool} (hk:o=⟨1,x,s,0,0,0⟩) (hO:chkR o=true) :
 Calls Tryz.prog 60 #[tv ao t.rows.length cap t.mode,o.v] w fun e w'=>∃ v,e=.returned (.tuple #[v,.int .i64 (applyR t o).2])∧Told v (applyR t o).1 w'∧Below w.heap.size w w':=by
 have S:=Lib.hid hS
 have CT:Hid (∀ W,Below w.heap.size w W→Calls Tryz.prog 67 #[tv ao t.rows.length cap t.mode] W fun e w'=>e=.returned (.bool (chkT t))∧Below W.heap.size W w'):=Lib.hid (fun W hb=>rcheck_any t ao cap W (hS.seen.below hb (Nat.le_refl _)) hl)
 have CO:=Lib.hid (Ox.rcheck_any o)
 have AT:Hid (∀ i W,Below w.heap.size w W→Calls Tryz.prog 97 #[tv ao t.rows.length cap t.mode,.int .i64 i] W fun e w'=>e=.returned (.int .i64 (atI t.rows i))∧Below W.heap.size W w'):=Lib.hid (fun i W hb=>rat_any t.rows ao cap t.mode i W (hS.seen.below hb (Nat.le_refl _)) hl)
 have H0:=Lib.hid (to_new w (.slice ao t.rows.length cap) t.mode o.cs)
 have NO:Hid (chkT t=false∨chkR o=false→applyR t o=(tb0,1)):=Lib.hid apply_no
 clear NO
 have hct:=hT
 have hco2:=hO
 rw [hT] at CT
 rw [hO] at CO
 subst hk
 clear hT hO
 obtain ⟨l,m⟩:=t
 obtain ⟨i,c,d,tt,tm⟩:=x
 unfold tv Od.v Od.cs at *
 try unfold tk0 at *
 simp only at *
 obtain ⟨t0,t1⟩:=cell2 (H0.out.cell 2 rfl)
 obtain ⟨o0,o1,o2,o3,o4,o5,o6,o7,o8,o9⟩:=cell10 (H0.out.cell 1 rfl)
 obtain ⟨z0,z1⟩:=cell2 (H0.out.cell 0 rfl)
 have zf:=H0.out.fz 0 rfl
 go_enter Tryz.func60,Tryz.ntmps60
 go_wp2_with fail
 (with_reducible refine (CT.out _ H0.out.bl).mono ?_)
 rintro e w1 ⟨rfl,b1⟩
 have H1:=Lib.hid (H0.out.call b1)
 clear b1 CT H0 t0 t1 o0 o1 o2 o3 o4 o5 o6 o7 o8 o9 z0 z1 zf
 obtain ⟨t0,t1⟩:=cell2 (H1.out.cell 2 rfl)
 obtain ⟨o0,o1,o2,o3,o4,o5,o6,o7,o8,o9⟩:=cell10 (H1.out.cell 1 rfl)
 obtain ⟨z0,z1⟩:=cell2 (H1.out.cell 0 rfl)
 have zf:=H1.out.fz 0 rfl
 go_wp2_with fail
 (with_reducible refine (CO.out _).mono ?_)
 rintro e w2 ⟨rfl,b2⟩
 have H2:=Lib.hid (H1.out.call b2)
 clear b2 CO H1 t0 t1 o0 o1 o2 o3 o4 o5 o6 o7 o8 o9 z0 z1 zf
 obtain ⟨t0,t1⟩:=cell2 (H2.out.cell 2 rfl)
 obtain ⟨o0,o1,o2,o3,o4,o5,o6,o7,o8,o9⟩:=cell10 (H2.out.cell 1 rfl)
 obtain ⟨z0,z1⟩:=cell2 (H2.out.cell 0 rfl)
 have zf:=H2.out.fz 0 rfl
 have H3:=Lib.hid (H2.out.new #[.slice none 0 0,.int .i64 m] 52)
 have NR:Hid (NoRow [(w2.heap.size,#[.slice none 0 0,.int .i64 m],52),(w.heap.size+2,#[.slice none 0 0,.int .i64 0],52),(w.heap.size+1,#[.int .i64 1,.int .i64 i,.int .i64 c,.int .i64 d,.int .i64 tt,.int .i64 tm,.bool s,.int .i64 0,.int .i64 0,.int .i64 0],47),(w.heap.size,#[.slice ao l.length cap,.int .i64 m],52)]):=Lib.hid (noRow4 _ _ _ _ _ _ _ _)
 obtain ⟨t0,t1⟩:=cell2 (H3.out.cell 3 rfl)
 obtain ⟨o0,o1,o2,o3,o4,o5,o6,o7,o8,o9⟩:=cell10 (H3.out.cell 2 rfl)
 obtain ⟨z0,z1⟩:=cell2 (H3.out.cell 1 rfl)
 have zf:=H3.out.fz 1 rfl
 obtain ⟨p0,p1⟩:=cell2 (H3.out.cell 0 rfl)
 have AC:=Lib.hid (AT.out i _ H3.out.bl)
 clear AT
 go_wp2_with fail
 (with_reducible refine AC.out.mono ?_)
 rintro e w4 ⟨rfl,b4⟩
 have H4:=Lib.hid (H3.out.call b4)
 clear b4 AC H3 t0 t1 o0 o1 o2 o3 o4 o5 o6 o7 o8 o9 z0 z1 zf p0 p1
 obtain ⟨t0,t1⟩:=cell2 (H4.out.cell 3 rfl)
 obtain ⟨o0,o1,o2,o3,o4,o5,o6,o7,o8,o9⟩:=cell10 (H4.out.cell 2 rfl)
 obtain ⟨z0,z1⟩:=cell2 (H4.out.cell 1 rfl)
 have zf:=H4.out.fz 1 rfl
 obtain ⟨p0,p1⟩:=cell2 (H4.out.cell 0 rfl)
 have pf:=H4.out.fz 0 rfl
 cases hat:at_ l i with
 | some k=>
  have ek:atI l i=(k:Int):=by unfold atI;rw [hat]
  have E:Hid (applyR ⟨l,m⟩ ⟨1,⟨i,c,d,tt,tm⟩,s,0,0,0⟩=(tb0,14)):=Lib.hid (by rw [apply_admit hct hco2];unfold admR;simp only;rw [hat])
  have h0:(0:Int)≤(k:Int):=by omega
  rw [ek]
  clear hct hco2 hat ek S NR
  have HF:=Lib.hid ((H4.out.set 1 rfl 0 (.slice none 0 0)).set 1 rfl 1 (.int .i64 0))
  obtain ⟨q0,q1⟩:=cell2 (HF.out.cell 1 rfl)
  go_wp2
  refine bodyPost_ret (v:=.tuple #[.agg #[.slice none 0 0,.int .i64 0],.int .i64 14]) (by simp [results,Tryz.results60,go_sem,q0,q1]) rfl ⟨_,by rw [E.out],by rw [E.out];exact told_zero _,HF.out.bl⟩
 | none=>
  have ek:atI l i=-1:=by unfold atI;rw [hat]
  rw [ek]
  clear ek
  by_cases h16:16≤l.length
  ·have E:Hid (applyR ⟨l,m⟩ ⟨1,⟨i,c,d,tt,tm⟩,s,0,0,0⟩=(tb0,15)):=Lib.hid (by rw [apply_admit hct hco2];unfold admR;simp only;rw [hat];simp only;rw [if_pos h16])
   have h16':(16:Int)≤(l.length:Int):=by omega
   clear hct hco2 hat S NR h16
   have HF:=Lib.hid ((H4.out.set 1 rfl 0 (.slice none 0 0)).set 1 rfl 1 (.int .i64 0))
   obtain ⟨q0,q1⟩:=cell2 (HF.out.cell 1 rfl)
   go_wp2
   refine bodyPost_ret (v:=.tuple #[.agg #[.slice none 0 0,.int .i64 0],.int .i64 15]) (by simp [results,Tryz.results60,go_sem,q0,q1]) rfl ⟨_,by rw [E.out],by rw [E.out];exact told_zero _,HF.out.bl⟩
  have E:Hid (applyR ⟨l,m⟩ ⟨1,⟨i,c,d,tt,tm⟩,s,0,0,0⟩=(⟨ins (⟨⟨i,c,d,tt,tm⟩,s⟩:Rw) l,m⟩,0)):=Lib.hid (by rw [apply_admit hct hco2];unfold admR;simp only;rw [hat];simp only;rw [if_neg h16])
  have h16':(l.length:Int)<16:=by omega
  clear hct hco2 hat
  have NRO:Hid (∀ v,NoRow ((w2.heap.size,#[v,.int .i64 m],52) :: [(w.heap.size+2,#[.slice none 0 0,.int .i64 0],52),(w.heap.size+1,#[.int .i64 1,.int .i64 i,.int .i64 c,.int .i64 d,.int .i64 tt,.int .i64 tm,.bool s,.int .i64 0,.int .i64 0,.int .i64 0],47),(w.heap.size,#[.slice ao l.length cap,.int .i64 m],52)])):=Lib.hid (fun v=>noRow4 _ _ _ _ _ _ _ _)
  clear NR
  go_wp2_with fail
  go_loopg [9,10] l.length (InRel l (⟨⟨i,c,d,tt,tm⟩,s⟩:Rw) w2.heap.size m [(w.heap.size+2,#[.slice none 0 0,.int .i64 0],52),(w.heap.size+1,#[.int .i64 1,.int .i64 i,.int .i64 c,.int .i64 d,.int .i64 tt,.int .i64 tm,.bool s,.int .i64 0,.int .i64 0,.int .i64 0],47),(w.heap.size,#[.slice ao l.length cap,.int .i64 m],52)] w)
  case atStart=>exact ⟨0,false,_,by omega,rfl,rfl,H4.out,Ge.row_nil _ _,by simp,by simp⟩
  case round=>
   clear t0 t1 o0 o1 o2 o3 o4 o5 o6 o7 o8 o9 z0 z1 zf p0 p1 pf H4
   obtain ⟨j,put,v,hj,rfl,rfl,hB,hR,hp1,hp2⟩:=hrel
   have HB:=Lib.hid hB
   have HR:=Lib.hid hR
   have HJ:=Lib.hid hj
   have HP1:=Lib.hid hp1
   have HP2:=Lib.hid hp2
   clear hB hR hp1 hp2
   obtain ⟨va,vk,vc,rfl⟩:∃ va vk vc,v=.slice va vk vc:=by obtain ⟨ao,cap,e,-⟩:=Row.form cs_len HR.out;exact ⟨_,_,_,e⟩
   obtain ⟨t0,t1⟩:=cell2 (HB.out.cell 3 rfl)
   obtain ⟨o0,o1,o2,o3,o4,o5,o6,o7,o8,o9⟩:=cell10 (HB.out.cell 2 rfl)
   obtain ⟨z0,z1⟩:=cell2 (HB.out.cell 1 rfl)
   have zf:=HB.out.fz 1 rfl
   obtain ⟨p0,p1⟩:=cell2 (HB.out.cell 0 rfl)
   have pf:=HB.out.fz 0 rfl
   by_cases hlt:j<l.length
   ·have hlt':(j:Int)<(l.length:Int):=by omega
    have ej:IntKind.i64.wrap (j:Int)=(j:Int):=IntWalk.i64_in _ (by omega)
    have hg0:0<gk:=by omega
    have A1:=Lib.hid (fun h=>insP_put (x:=(⟨⟨i,c,d,tt,tm⟩,s⟩:Rw)) hlt h)
    have A2:=Lib.hid (fun h k=>insP_not (x:=(⟨⟨i,c,d,tt,tm⟩,s⟩:Rw)) hlt h k)
    have A3:=Lib.hid (fun h k=>insP_here (x:=(⟨⟨i,c,d,tt,tm⟩,s⟩:Rw)) hlt h k)
    have hyj:=List.getElem?_eq_getElem hlt
    have HYJ:=Lib.hid hyj
    have hlen:=insP_len (⟨⟨i,c,d,tt,tm⟩,s⟩:Rw) put (l.take j)
    rw [List.length_take] at hlen
    generalize l[j]=y at *
    clear hyj hj hlt
    obtain ⟨⟨yi,yc,yd,yt,ym⟩,ys⟩:=y
    simp only at A1 A2 A3
    obtain ⟨b,off,rfl,hb,hat⟩:=(S.out.seen.below HB.out.bl (Nat.le_refl _)) (by omega)
    have row0:=row_cells hat HYJ.out
    simp only at row0
    have YI:=row0.1
    clear hat hb
    have SEE0:Hid (∀ PV W,Bos ((w2.heap.size,PV,52) :: [(w.heap.size+2,#[.slice none 0 0,.int .i64 0],52),(w.heap.size+1,#[.int .i64 1,.int .i64 i,.int .i64 c,.int .i64 d,.int .i64 tt,.int .i64 tm,.bool s,.int .i64 0,.int .i64 0,.int .i64 0],47),(w.heap.size,#[.slice (some ⟨b,off,none⟩) l.length cap,.int .i64 m],52)]) w W→True):=Lib.hid (fun _ _ _=>trivial)
    cases put
    case false=>
     by_cases hxy:i<yi
     ·have hd:decide (i<yi)=true:=decide_eq_true hxy
      have EQ:=Lib.hid (A3.out (HP2.out rfl) hxy)
      clear A1 A2 A3 HP1 HP2
      go_wp2_with fail
      refine wp_region_held_drew (S:=(fun W'=>W'.cell? ⟨w.heap.size,0,none⟩=some (.slice (some ⟨b,off,none⟩) l.length cap)∧W'.cell? ⟨b,off+j*6,none⟩=some (.int .i64 yi)∧W'.cell? ⟨w.heap.size+1,1,none⟩=some (.int .i64 i))) (by kernel_rfl) (⟨t0,YI,o1⟩) (fun hHeld=>?_)
      refine Gh.tk 0 ?_
      refine Gh.tk 1 ?_
      refine Gh.tk 2 ?_
      refine Gh.tk 3 ?_
      refine Gh.tk 4 ?_
      refine Gh.tk 5 ?_
      refine Gh.tk 6 ?_
      refine Gh.tk 7 ?_
      refine Gh.tk 8 ?_
      refine Gh.tk 9 ?_
      refine Gh.tk 10 ?_
      refine Gh.tk 11 ?_
      refine Gh.tk 12 ?_
      refine Gh.tk 13 ?_
      refine Gh.tk 14 ?_
      refine wpAnyH_done (by kernel_rfl) ?_ _
      have HBd:=Lib.hid HB.out.drew
      have RBd:=Lib.hid (HR.out.call (Below.refl _ _).drew)
      obtain ⟨v4,w4',ap4,r4,h4⟩:=app_new (⟨⟨i,c,d,tt,tm⟩,s⟩:Rw) HBd.out (NRO.out _) RBd.out (by omega)
      simp only at ap4
      have R4:=Lib.hid r4
      have H4:=Lib.hid h4
      clear r4 h4
      obtain ⟨va4,vk4,vc4,rfl⟩:∃ va vk vc,v4=.slice va vk vc:=by obtain ⟨ao,cap,e,-⟩:=Row.form cs_len R4.out;exact ⟨_,_,_,e⟩
      clear t0 t1 o0 o1 o2 o3 o4 o5 o6 o7 o8 o9 z0 z1 zf p0 p1 pf
      obtain ⟨t0,t1⟩:=cell2 (HBd.out.cell 3 rfl)
      obtain ⟨o0,o1,o2,o3,o4,o5,o6,o7,o8,o9⟩:=cell10 (HBd.out.cell 2 rfl)
      obtain ⟨z0,z1⟩:=cell2 (HBd.out.cell 1 rfl)
      have zf:=HBd.out.fz 1 rfl
      obtain ⟨p0,p1⟩:=cell2 (HBd.out.cell 0 rfl)
      obtain ⟨s0,s1⟩:=cell2 (H4.out.cell 0 rfl)
      have sf:=H4.out.fz 0 rfl
      have H7:=Lib.hid (H4.out.set 0 rfl 0 (.slice va4 vk4 vc4))
      have R7:=Lib.hid (row_set R4.out H4.out 0 rfl (by decide) 0 (.slice va4 vk4 vc4))
      go_wp2_with (at_builtin;refine Lib.wpList_append_run _ rfl _ _ _ _ rfl _ _ rfl rfl _ _ ap4 ?_)
      clear t0 t1 o0 o1 o2 o3 o4 o5 o6 o7 o8 o9 z0 z1 zf p0 p1 s0 s1 sf
      refine name_world (fun W=>Bos _ w W∧Row Rw.cs 6 _ w.heap.size W _ _) (And.intro H7.out R7.out) ?_
      clear H7 R7 H4 R4 HBd RBd ap4
      rintro W7 ⟨h7,r7⟩
      have H7:=Lib.hid h7
      have R7:=Lib.hid r7
      clear h7 r7
      have HD:=Lib.hid H7.out.drew
      have RD:=Lib.hid (R7.out.call (Below.refl _ _).drew)
      obtain ⟨v5,w5,ap5,r5,h5⟩:=app_new (⟨⟨yi,yc,yd,yt,ym⟩,ys⟩:Rw) HD.out (NRO.out _) RD.out (by simp only [List.length_append,List.length_cons,List.length_nil];omega)
      simp only at ap5
      have R5:=Lib.hid r5
      have H5:=Lib.hid h5
      clear r5 h5
      obtain ⟨va5,vk5,vc5,rfl⟩:∃ va vk vc,v5=.slice va vk vc:=by obtain ⟨ao,cap,e,-⟩:=Row.form cs_len R5.out;exact ⟨_,_,_,e⟩
      have F3o:=Lib.hid (cell2 (HD.out.cell 0 rfl))
      have F3t:=Lib.hid (cell2 (HD.out.cell 3 rfl))
      have F4o:=Lib.hid (cell2 ((H7.out.new #[.int .i64 yi,.int .i64 yc,.int .i64 yd,.int .i64 yt,.int .i64 ym,.bool ys] 123).cell 1 rfl))
      have ROW:=Lib.hid (seen_row S.out HD.out HYJ.out)
      simp only at ROW
      obtain ⟨x0,x1⟩:=cell2 (H5.out.cell 0 rfl)
      have xf:=H5.out.fz 0 rfl
      have H6:=Lib.hid (H5.out.set 0 rfl 0 (.slice va5 vk5 vc5))
      have R6:=Lib.hid (row_set R5.out H5.out 0 rfl (by decide) 0 (.slice va5 vk5 vc5))
      refine wp_region_any (by kernel_rfl) ?_
      (try (change wpAny _ _ _ _ _ _ _ (World.drew _)))
      refine Gh.tka 0 ?_
      refine Gh.tka 2 ?_
      refine Gh.tka 4 ?_
      refine wpAny_ready (rs:=[1,3]) (by kernel_rfl) (by simp) ?_
      refine AllReady.cons rfl (fun K hK=>?_) ?_
      ·rw [if_pos (by rfl)]
       obtain ⟨y0,y1⟩:=F3o.out
       go_simp
       clear y0 y1
       refine hK _ _ ?_
       clear hK K
       refine Gh.pta ?_
       refine Gh.rda 3 (fun K hK=>?_)
       rw [if_pos (by rfl)]
       obtain ⟨y0,y1⟩:=F3t.out
       go_simp
       clear y0 y1
       refine hK _ _ ?_
       clear hK K
       refine Gh.pta ?_
       refine Gh.tka 5 ?_
       refine Gh.rda 6 (fun K hK=>?_)
       rw [if_pos (by rfl)]
       obtain ⟨y0,y1,y2,y3,y4,y5⟩:=ROW.out
       go_simp
       clear y0 y1 y2 y3 y4 y5
       refine hK _ _ ?_
       clear hK K
       refine Gh.pta ?_
       refine Gh.rda 7 (fun K hK=>?_)
       rw [if_pos (by rfl)]
       go_simp
       refine hK _ _ ?_
       clear hK K
       refine Gh.pta ?_
       refine Gh.rda 8 (fun K hK=>?_)
       rw [if_pos (by rfl)]
       refine Lib.wp_append_run _ _ _ _ _ rfl _ _ rfl rfl _ _ ap5 (hK _ _ ?_)
       clear hK K
       refine Gh.pta ?_
       refine Gh.tka 9 ?_
       refine Gh.rda 10 (fun K hK=>?_)
       rw [if_pos (by rfl)]
       go_simp
       refine hK _ _ ?_
       clear hK K
       refine Gh.pta ?_
       refine wpAny_done (by kernel_rfl) ?_ _
       go_wp2
       go_roundg (gk-1)
       case measure=>omega
       case rel=>exact ⟨j+1,true,.slice va5 vk5 vc5,by have:=HJ.out;omega,rfl,by go_num,H6.out,by rw [← EQ.out.1];exact R6.out,fun _=>EQ.out.2,by simp⟩
      refine AllReady.cons rfl (fun K hK=>?_) ?_
      ·rw [if_pos (by rfl)]
       obtain ⟨y0,y1⟩:=F3t.out
       go_simp
       clear y0 y1
       refine hK _ _ ?_
       clear hK K
       refine Gh.pta ?_
       refine Gh.tka 5 ?_
       refine wpAny_ready (rs:=[1,6]) (by kernel_rfl) (by simp) ?_
       refine AllReady.cons rfl (fun K hK=>?_) ?_
       ·rw [if_pos (by rfl)]
        obtain ⟨y0,y1⟩:=F3o.out
        go_simp
        clear y0 y1
        refine hK _ _ ?_
        clear hK K
        refine Gh.pta ?_
        refine Gh.rda 6 (fun K hK=>?_)
        rw [if_pos (by rfl)]
        obtain ⟨y0,y1,y2,y3,y4,y5⟩:=ROW.out
        go_simp
        clear y0 y1 y2 y3 y4 y5
        refine hK _ _ ?_
        clear hK K
        refine Gh.pta ?_
        refine Gh.rda 7 (fun K hK=>?_)
        rw [if_pos (by rfl)]
        go_simp
        refine hK _ _ ?_
        clear hK K
        refine Gh.pta ?_
        refine Gh.rda 8 (fun K hK=>?_)
        rw [if_pos (by rfl)]
        refine Lib.wp_append_run _ _ _ _ _ rfl _ _ rfl rfl _ _ ap5 (hK _ _ ?_)
        clear hK K
        refine Gh.pta ?_
        refine Gh.tka 9 ?_
        refine Gh.rda 10 (fun K hK=>?_)
        rw [if_pos (by rfl)]
        go_simp
        refine hK _ _ ?_
        clear hK K
        refine Gh.pta ?_
        refine wpAny_done (by kernel_rfl) ?_ _
        go_wp2
        go_roundg (gk-1)
        case measure=>omega
        case rel=>exact ⟨j+1,true,.slice va5 vk5 vc5,by have:=HJ.out;omega,rfl,by go_num,H6.out,by rw [← EQ.out.1];exact R6.out,fun _=>EQ.out.2,by simp⟩
       refine AllReady.cons rfl (fun K hK=>?_) ?_
       ·rw [if_pos (by rfl)]
        obtain ⟨y0,y1,y2,y3,y4,y5⟩:=ROW.out
        go_simp
        clear y0 y1 y2 y3 y4 y5
        refine hK _ _ ?_
        clear hK K
        refine Gh.pta ?_
        refine wpAny_ready (rs:=[1,7]) (by kernel_rfl) (by simp) ?_
        refine AllReady.cons rfl (fun K hK=>?_) ?_
        ·rw [if_pos (by rfl)]
         obtain ⟨y0,y1⟩:=F3o.out
         go_simp
         clear y0 y1
         refine hK _ _ ?_
         clear hK K
         refine Gh.pta ?_
         refine Gh.rda 7 (fun K hK=>?_)
         rw [if_pos (by rfl)]
         go_simp
         refine hK _ _ ?_
         clear hK K
         refine Gh.pta ?_
         refine Gh.rda 8 (fun K hK=>?_)
         rw [if_pos (by rfl)]
         refine Lib.wp_append_run _ _ _ _ _ rfl _ _ rfl rfl _ _ ap5 (hK _ _ ?_)
         clear hK K
         refine Gh.pta ?_
         refine Gh.tka 9 ?_
         refine Gh.rda 10 (fun K hK=>?_)
         rw [if_pos (by rfl)]
         go_simp
         refine hK _ _ ?_
         clear hK K
         refine Gh.pta ?_
         refine wpAny_done (by kernel_rfl) ?_ _
         go_wp2
         go_roundg (gk-1)
         case measure=>omega
         case rel=>exact ⟨j+1,true,.slice va5 vk5 vc5,by have:=HJ.out;omega,rfl,by go_num,H6.out,by rw [← EQ.out.1];exact R6.out,fun _=>EQ.out.2,by simp⟩
        refine AllReady.cons rfl (fun K hK=>?_) ?_
        ·rw [if_pos (by rfl)]
         go_simp
         refine hK _ _ ?_
         clear hK K
         refine Gh.pta ?_
         refine Gh.rda 1 (fun K hK=>?_)
         rw [if_pos (by rfl)]
         obtain ⟨y0,y1⟩:=F4o.out
         go_simp
         clear y0 y1
         refine hK _ _ ?_
         clear hK K
         refine Gh.pta ?_
         refine Gh.rda 8 (fun K hK=>?_)
         rw [if_pos (by rfl)]
         refine Lib.wp_append_run _ _ _ _ _ rfl _ _ rfl rfl _ _ ap5 (hK _ _ ?_)
         clear hK K
         refine Gh.pta ?_
         refine Gh.tka 9 ?_
         refine Gh.rda 10 (fun K hK=>?_)
         rw [if_pos (by rfl)]
         go_simp
         refine hK _ _ ?_
         clear hK K
         refine Gh.pta ?_
         refine wpAny_done (by kernel_rfl) ?_ _
         go_wp2
         go_roundg (gk-1)
         case measure=>omega
         case rel=>exact ⟨j+1,true,.slice va5 vk5 vc5,by have:=HJ.out;omega,rfl,by go_num,H6.out,by rw [← EQ.out.1];exact R6.out,fun _=>EQ.out.2,by simp⟩
        exact AllReady.nil
       exact AllReady.nil
      exact AllReady.nil
     ·have hd:decide (i<yi)=false:=decide_eq_false hxy
      have hxz:yi≤i:=by omega
      have EQ:=Lib.hid (A2.out (HP2.out rfl) hxz)
      clear A1 A2 A3 HP1 HP2 hxy
      go_wp2_with fail
      refine wp_region_held_drew (S:=(fun W'=>W'.cell? ⟨w.heap.size,0,none⟩=some (.slice (some ⟨b,off,none⟩) l.length cap)∧W'.cell? ⟨b,off+j*6,none⟩=some (.int .i64 yi)∧W'.cell? ⟨w.heap.size+1,1,none⟩=some (.int .i64 i))) (by kernel_rfl) (⟨t0,YI,o1⟩) (fun hHeld=>?_)
      refine Gh.tk 0 ?_
      refine Gh.tk 1 ?_
      refine Gh.tk 2 ?_
      refine Gh.tk 3 ?_
      refine Gh.tk 4 ?_
      refine Gh.tk 5 ?_
      refine Gh.tk 6 ?_
      refine Gh.tk 7 ?_
      refine Gh.tk 8 ?_
      refine Gh.tk 9 ?_
      refine Gh.tk 10 ?_
      refine Gh.tk 11 ?_
      refine Gh.tk 12 ?_
      refine Gh.tk 13 ?_
      refine Gh.tk 14 ?_
      refine wpAnyH_done (by kernel_rfl) ?_ _
      have H7:=Lib.hid HB.out.drew
      have R7:=Lib.hid (HR.out.call (Below.refl _ _).drew)
      go_wp2_with fail
      have HD:=Lib.hid H7.out.drew
      have RD:=Lib.hid (R7.out.call (Below.refl _ _).drew)
      obtain ⟨v5,w5,ap5,r5,h5⟩:=app_new (⟨⟨yi,yc,yd,yt,ym⟩,ys⟩:Rw) HD.out (NRO.out _) RD.out (by omega)
      simp only at ap5
      have R5:=Lib.hid r5
      have H5:=Lib.hid h5
      clear r5 h5
      obtain ⟨va5,vk5,vc5,rfl⟩:∃ va vk vc,v5=.slice va vk vc:=by obtain ⟨ao,cap,e,-⟩:=Row.form cs_len R5.out;exact ⟨_,_,_,e⟩
      have F3o:=Lib.hid (cell2 (HD.out.cell 0 rfl))
      have F3t:=Lib.hid (cell2 (HD.out.cell 3 rfl))
      have F4o:=Lib.hid (cell2 ((HB.out.new #[.int .i64 yi,.int .i64 yc,.int .i64 yd,.int .i64 yt,.int .i64 ym,.bool ys] 123).cell 1 rfl))
      have ROW:=Lib.hid (seen_row S.out HD.out HYJ.out)
      simp only at ROW
      obtain ⟨x0,x1⟩:=cell2 (H5.out.cell 0 rfl)
      have xf:=H5.out.fz 0 rfl
      have H6:=Lib.hid (H5.out.set 0 rfl 0 (.slice va5 vk5 vc5))
      have R6:=Lib.hid (row_set R5.out H5.out 0 rfl (by decide) 0 (.slice va5 vk5 vc5))
      refine wp_region_any (by kernel_rfl) ?_
      (try (change wpAny _ _ _ _ _ _ _ (World.drew _)))
      refine Gh.tka 0 ?_
      refine Gh.tka 2 ?_
      refine Gh.tka 4 ?_
      refine wpAny_ready (rs:=[1,3]) (by kernel_rfl) (by simp) ?_
      refine AllReady.cons rfl (fun K hK=>?_) ?_
      ·rw [if_pos (by rfl)]
       obtain ⟨y0,y1⟩:=F3o.out
       go_simp
       clear y0 y1
       refine hK _ _ ?_
       clear hK K
       refine Gh.pta ?_
       refine Gh.rda 3 (fun K hK=>?_)
       rw [if_pos (by rfl)]
       obtain ⟨y0,y1⟩:=F3t.out
       go_simp
       clear y0 y1
       refine hK _ _ ?_
       clear hK K
       refine Gh.pta ?_
       refine Gh.tka 5 ?_
       refine Gh.rda 6 (fun K hK=>?_)
       rw [if_pos (by rfl)]
       obtain ⟨y0,y1,y2,y3,y4,y5⟩:=ROW.out
       go_simp
       clear y0 y1 y2 y3 y4 y5
       refine hK _ _ ?_
       clear hK K
       refine Gh.pta ?_
       refine Gh.rda 7 (fun K hK=>?_)
       rw [if_pos (by rfl)]
       go_simp
       refine hK _ _ ?_
       clear hK K
       refine Gh.pta ?_
       refine Gh.rda 8 (fun K hK=>?_)
       rw [if_pos (by rfl)]
       refine Lib.wp_append_run _ _ _ _ _ rfl _ _ rfl rfl _ _ ap5 (hK _ _ ?_)
       clear hK K
       refine Gh.pta ?_
       refine Gh.tka 9 ?_
       refine Gh.rda 10 (fun K hK=>?_)
       rw [if_pos (by rfl)]
       go_simp
       refine hK _ _ ?_
       clear hK K
       refine Gh.pta ?_
       refine wpAny_done (by kernel_rfl) ?_ _
       go_wp2
       go_roundg (gk-1)
       case measure=>omega
       case rel=>exact ⟨j+1,false,.slice va5 vk5 vc5,by have:=HJ.out;omega,rfl,by go_num,H6.out,by rw [← EQ.out.1];exact R6.out,by simp,fun _=>EQ.out.2⟩
      refine AllReady.cons rfl (fun K hK=>?_) ?_
      ·rw [if_pos (by rfl)]
       obtain ⟨y0,y1⟩:=F3t.out
       go_simp
       clear y0 y1
       refine hK _ _ ?_
       clear hK K
       refine Gh.pta ?_
       refine Gh.tka 5 ?_
       refine wpAny_ready (rs:=[1,6]) (by kernel_rfl) (by simp) ?_
       refine AllReady.cons rfl (fun K hK=>?_) ?_
       ·rw [if_pos (by rfl)]
        obtain ⟨y0,y1⟩:=F3o.out
        go_simp
        clear y0 y1
        refine hK _ _ ?_
        clear hK K
        refine Gh.pta ?_
        refine Gh.rda 6 (fun K hK=>?_)
        rw [if_pos (by rfl)]
        obtain ⟨y0,y1,y2,y3,y4,y5⟩:=ROW.out
        go_simp
        clear y0 y1 y2 y3 y4 y5
        refine hK _ _ ?_
        clear hK K
        refine Gh.pta ?_
        refine Gh.rda 7 (fun K hK=>?_)
        rw [if_pos (by rfl)]
        go_simp
        refine hK _ _ ?_
        clear hK K
        refine Gh.pta ?_
        refine Gh.rda 8 (fun K hK=>?_)
        rw [if_pos (by rfl)]
        refine Lib.wp_append_run _ _ _ _ _ rfl _ _ rfl rfl _ _ ap5 (hK _ _ ?_)
        clear hK K
        refine Gh.pta ?_
        refine Gh.tka 9 ?_
        refine Gh.rda 10 (fun K hK=>?_)
        rw [if_pos (by rfl)]
        go_simp
        refine hK _ _ ?_
        clear hK K
        refine Gh.pta ?_
        refine wpAny_done (by kernel_rfl) ?_ _
        go_wp2
        go_roundg (gk-1)
        case measure=>omega
        case rel=>exact ⟨j+1,false,.slice va5 vk5 vc5,by have:=HJ.out;omega,rfl,by go_num,H6.out,by rw [← EQ.out.1];exact R6.out,by simp,fun _=>EQ.out.2⟩
       refine AllReady.cons rfl (fun K hK=>?_) ?_
       ·rw [if_pos (by rfl)]
        obtain ⟨y0,y1,y2,y3,y4,y5⟩:=ROW.out
        go_simp
        clear y0 y1 y2 y3 y4 y5
        refine hK _ _ ?_
        clear hK K
        refine Gh.pta ?_
        refine wpAny_ready (rs:=[1,7]) (by kernel_rfl) (by simp) ?_
        refine AllReady.cons rfl (fun K hK=>?_) ?_
        ·rw [if_pos (by rfl)]
         obtain ⟨y0,y1⟩:=F3o.out
         go_simp
         clear y0 y1
         refine hK _ _ ?_
         clear hK K
         refine Gh.pta ?_
         refine Gh.rda 7 (fun K hK=>?_)
         rw [if_pos (by rfl)]
         go_simp
         refine hK _ _ ?_
         clear hK K
         refine Gh.pta ?_
         refine Gh.rda 8 (fun K hK=>?_)
         rw [if_pos (by rfl)]
         refine Lib.wp_append_run _ _ _ _ _ rfl _ _ rfl rfl _ _ ap5 (hK _ _ ?_)
         clear hK K
         refine Gh.pta ?_
         refine Gh.tka 9 ?_
         refine Gh.rda 10 (fun K hK=>?_)
         rw [if_pos (by rfl)]
         go_simp
         refine hK _ _ ?_
         clear hK K
         refine Gh.pta ?_
         refine wpAny_done (by kernel_rfl) ?_ _
         go_wp2
         go_roundg (gk-1)
         case measure=>omega
         case rel=>exact ⟨j+1,false,.slice va5 vk5 vc5,by have:=HJ.out;omega,rfl,by go_num,H6.out,by rw [← EQ.out.1];exact R6.out,by simp,fun _=>EQ.out.2⟩
        refine AllReady.cons rfl (fun K hK=>?_) ?_
        ·rw [if_pos (by rfl)]
         go_simp
         refine hK _ _ ?_
         clear hK K
         refine Gh.pta ?_
         refine Gh.rda 1 (fun K hK=>?_)
         rw [if_pos (by rfl)]
         obtain ⟨y0,y1⟩:=F4o.out
         go_simp
         clear y0 y1
         refine hK _ _ ?_
         clear hK K
         refine Gh.pta ?_
         refine Gh.rda 8 (fun K hK=>?_)
         rw [if_pos (by rfl)]
         refine Lib.wp_append_run _ _ _ _ _ rfl _ _ rfl rfl _ _ ap5 (hK _ _ ?_)
         clear hK K
         refine Gh.pta ?_
         refine Gh.tka 9 ?_
         refine Gh.rda 10 (fun K hK=>?_)
         rw [if_pos (by rfl)]
         go_simp
         refine hK _ _ ?_
         clear hK K
         refine Gh.pta ?_
         refine wpAny_done (by kernel_rfl) ?_ _
         go_wp2
         go_roundg (gk-1)
         case measure=>omega
         case rel=>exact ⟨j+1,false,.slice va5 vk5 vc5,by have:=HJ.out;omega,rfl,by go_num,H6.out,by rw [← EQ.out.1];exact R6.out,by simp,fun _=>EQ.out.2⟩
        exact AllReady.nil
       exact AllReady.nil
      exact AllReady.nil
    case true=>
     have EQ:=Lib.hid (A1.out (HP1.out rfl))
     clear A1 A2 A3 HP1 HP2
     go_wp2_with fail
     refine wp_region_held_drew (S:=(fun W'=>W'.cell? ⟨w.heap.size,0,none⟩=some (.slice (some ⟨b,off,none⟩) l.length cap)∧W'.cell? ⟨b,off+j*6,none⟩=some (.int .i64 yi)∧W'.cell? ⟨w.heap.size+1,1,none⟩=some (.int .i64 i))) (by kernel_rfl) (⟨t0,YI,o1⟩) (fun hHeld=>?_)
     refine Gh.tk 0 ?_
     refine Gh.tk 1 ?_
     refine Gh.tk 2 ?_
     refine Gh.tn 3 ?_
     refine Gh.tn 4 ?_
     refine Gh.tn 5 ?_
     refine Gh.tn 6 ?_
     refine Gh.tn 7 ?_
     refine Gh.tn 8 ?_
     refine Gh.tn 9 ?_
     refine Gh.tn 10 ?_
     refine Gh.tn 11 ?_
     refine Gh.tn 12 ?_
     refine Gh.tn 13 ?_
     refine Gh.tk 14 ?_
     refine wpAnyH_done (by kernel_rfl) ?_ _
     have H7:=Lib.hid HB.out.drew
     have R7:=Lib.hid (HR.out.call (Below.refl _ _).drew)
     go_wp2_with fail
     have HD:=Lib.hid H7.out.drew
     have RD:=Lib.hid (R7.out.call (Below.refl _ _).drew)
     obtain ⟨v5,w5,ap5,r5,h5⟩:=app_new (⟨⟨yi,yc,yd,yt,ym⟩,ys⟩:Rw) HD.out (NRO.out _) RD.out (by omega)
     simp only at ap5
     have R5:=Lib.hid r5
     have H5:=Lib.hid h5
     clear r5 h5
     obtain ⟨va5,vk5,vc5,rfl⟩:∃ va vk vc,v5=.slice va vk vc:=by obtain ⟨ao,cap,e,-⟩:=Row.form cs_len R5.out;exact ⟨_,_,_,e⟩
     have F3o:=Lib.hid (cell2 (HD.out.cell 0 rfl))
     have F3t:=Lib.hid (cell2 (HD.out.cell 3 rfl))
     have F4o:=Lib.hid (cell2 ((HB.out.new #[.int .i64 yi,.int .i64 yc,.int .i64 yd,.int .i64 yt,.int .i64 ym,.bool ys] 123).cell 1 rfl))
     have ROW:=Lib.hid (seen_row S.out HD.out HYJ.out)
     simp only at ROW
     obtain ⟨x0,x1⟩:=cell2 (H5.out.cell 0 rfl)
     have xf:=H5.out.fz 0 rfl
     have H6:=Lib.hid (H5.out.set 0 rfl 0 (.slice va5 vk5 vc5))
     have R6:=Lib.hid (row_set R5.out H5.out 0 rfl (by decide) 0 (.slice va5 vk5 vc5))
     refine wp_region_any (by kernel_rfl) ?_
     (try (change wpAny _ _ _ _ _ _ _ (World.drew _)))
     refine Gh.tka 0 ?_
     refine Gh.tka 2 ?_
     refine Gh.tka 4 ?_
     refine wpAny_ready (rs:=[1,3]) (by kernel_rfl) (by simp) ?_
     refine AllReady.cons rfl (fun K hK=>?_) ?_
     ·rw [if_pos (by rfl)]
      obtain ⟨y0,y1⟩:=F3o.out
      go_simp
      clear y0 y1
      refine hK _ _ ?_
      clear hK K
      refine Gh.pta ?_
      refine Gh.rda 3 (fun K hK=>?_)
      rw [if_pos (by rfl)]
      obtain ⟨y0,y1⟩:=F3t.out
      go_simp
      clear y0 y1
      refine hK _ _ ?_
      clear hK K
      refine Gh.pta ?_
      refine Gh.tka 5 ?_
      refine Gh.rda 6 (fun K hK=>?_)
      rw [if_pos (by rfl)]
      obtain ⟨y0,y1,y2,y3,y4,y5⟩:=ROW.out
      go_simp
      clear y0 y1 y2 y3 y4 y5
      refine hK _ _ ?_
      clear hK K
      refine Gh.pta ?_
      refine Gh.rda 7 (fun K hK=>?_)
      rw [if_pos (by rfl)]
      go_simp
      refine hK _ _ ?_
      clear hK K
      refine Gh.pta ?_
      refine Gh.rda 8 (fun K hK=>?_)
      rw [if_pos (by rfl)]
      refine Lib.wp_append_run _ _ _ _ _ rfl _ _ rfl rfl _ _ ap5 (hK _ _ ?_)
      clear hK K
      refine Gh.pta ?_
      refine Gh.tka 9 ?_
      refine Gh.rda 10 (fun K hK=>?_)
      rw [if_pos (by rfl)]
      go_simp
      refine hK _ _ ?_
      clear hK K
      refine Gh.pta ?_
      refine wpAny_done (by kernel_rfl) ?_ _
      go_wp2
      go_roundg (gk-1)
      case measure=>omega
      case rel=>exact ⟨j+1,true,.slice va5 vk5 vc5,by have:=HJ.out;omega,rfl,by go_num,H6.out,by rw [← EQ.out.1];exact R6.out,fun _=>EQ.out.2,by simp⟩
     refine AllReady.cons rfl (fun K hK=>?_) ?_
     ·rw [if_pos (by rfl)]
      obtain ⟨y0,y1⟩:=F3t.out
      go_simp
      clear y0 y1
      refine hK _ _ ?_
      clear hK K
      refine Gh.pta ?_
      refine Gh.tka 5 ?_
      refine wpAny_ready (rs:=[1,6]) (by kernel_rfl) (by simp) ?_
      refine AllReady.cons rfl (fun K hK=>?_) ?_
      ·rw [if_pos (by rfl)]
       obtain ⟨y0,y1⟩:=F3o.out
       go_simp
       clear y0 y1
       refine hK _ _ ?_
       clear hK K
       refine Gh.pta ?_
       refine Gh.rda 6 (fun K hK=>?_)
       rw [if_pos (by rfl)]
       obtain ⟨y0,y1,y2,y3,y4,y5⟩:=ROW.out
       go_simp
       clear y0 y1 y2 y3 y4 y5
       refine hK _ _ ?_
       clear hK K
       refine Gh.pta ?_
       refine Gh.rda 7 (fun K hK=>?_)
       rw [if_pos (by rfl)]
       go_simp
       refine hK _ _ ?_
       clear hK K
       refine Gh.pta ?_
       refine Gh.rda 8 (fun K hK=>?_)
       rw [if_pos (by rfl)]
       refine Lib.wp_append_run _ _ _ _ _ rfl _ _ rfl rfl _ _ ap5 (hK _ _ ?_)
       clear hK K
       refine Gh.pta ?_
       refine Gh.tka 9 ?_
       refine Gh.rda 10 (fun K hK=>?_)
       rw [if_pos (by rfl)]
       go_simp
       refine hK _ _ ?_
       clear hK K
       refine Gh.pta ?_
       refine wpAny_done (by kernel_rfl) ?_ _
       go_wp2
       go_roundg (gk-1)
       case measure=>omega
       case rel=>exact ⟨j+1,true,.slice va5 vk5 vc5,by have:=HJ.out;omega,rfl,by go_num,H6.out,by rw [← EQ.out.1];exact R6.out,fun _=>EQ.out.2,by simp⟩
      refine AllReady.cons rfl (fun K hK=>?_) ?_
      ·rw [if_pos (by rfl)]
       obtain ⟨y0,y1,y2,y3,y4,y5⟩:=ROW.out
       go_simp
       clear y0 y1 y2 y3 y4 y5
       refine hK _ _ ?_
       clear hK K
       refine Gh.pta ?_
       refine wpAny_ready (rs:=[1,7]) (by kernel_rfl) (by simp) ?_
       refine AllReady.cons rfl (fun K hK=>?_) ?_
       ·rw [if_pos (by rfl)]
        obtain ⟨y0,y1⟩:=F3o.out
        go_simp
        clear y0 y1
        refine hK _ _ ?_
        clear hK K
        refine Gh.pta ?_
        refine Gh.rda 7 (fun K hK=>?_)
        rw [if_pos (by rfl)]
        go_simp
        refine hK _ _ ?_
        clear hK K
        refine Gh.pta ?_
        refine Gh.rda 8 (fun K hK=>?_)
        rw [if_pos (by rfl)]
        refine Lib.wp_append_run _ _ _ _ _ rfl _ _ rfl rfl _ _ ap5 (hK _ _ ?_)
        clear hK K
        refine Gh.pta ?_
        refine Gh.tka 9 ?_
        refine Gh.rda 10 (fun K hK=>?_)
        rw [if_pos (by rfl)]
        go_simp
        refine hK _ _ ?_
        clear hK K
        refine Gh.pta ?_
        refine wpAny_done (by kernel_rfl) ?_ _
        go_wp2
        go_roundg (gk-1)
        case measure=>omega
        case rel=>exact ⟨j+1,true,.slice va5 vk5 vc5,by have:=HJ.out;omega,rfl,by go_num,H6.out,by rw [← EQ.out.1];exact R6.out,fun _=>EQ.out.2,by simp⟩
       refine AllReady.cons rfl (fun K hK=>?_) ?_
       ·rw [if_pos (by rfl)]
        go_simp
        refine hK _ _ ?_
        clear hK K
        refine Gh.pta ?_
        refine Gh.rda 1 (fun K hK=>?_)
        rw [if_pos (by rfl)]
        obtain ⟨y0,y1⟩:=F4o.out
        go_simp
        clear y0 y1
        refine hK _ _ ?_
        clear hK K
        refine Gh.pta ?_
        refine Gh.rda 8 (fun K hK=>?_)
        rw [if_pos (by rfl)]
        refine Lib.wp_append_run _ _ _ _ _ rfl _ _ rfl rfl _ _ ap5 (hK _ _ ?_)
        clear hK K
        refine Gh.pta ?_
        refine Gh.tka 9 ?_
        refine Gh.rda 10 (fun K hK=>?_)
        rw [if_pos (by rfl)]
        go_simp
        refine hK _ _ ?_
        clear hK K
        refine Gh.pta ?_
        refine wpAny_done (by kernel_rfl) ?_ _
        go_wp2
        go_roundg (gk-1)
        case measure=>omega
        case rel=>exact ⟨j+1,true,.slice va5 vk5 vc5,by have:=HJ.out;omega,rfl,by go_num,H6.out,by rw [← EQ.out.1];exact R6.out,fun _=>EQ.out.2,by simp⟩
       exact AllReady.nil
      exact AllReady.nil
     exact AllReady.nil
   ·have hge:(l.length:Int)≤(j:Int):=by omega
    obtain rfl:j=l.length:=by omega
    clear hlt hj
    rw [List.take_length] at HR HP1 HP2
    cases put
    case false=>
     have IL:=ins_last (fun r hr=>Int.not_lt.2 (HP2.out rfl r hr))
     have hll:(insP (⟨⟨i,c,d,tt,tm⟩,s⟩:Rw) false l).length≤90000:=by have:=insP_len (⟨⟨i,c,d,tt,tm⟩,s⟩:Rw) false l;omega
     obtain ⟨v5,w5,ap5,r5,h5⟩:=app_new (⟨⟨i,c,d,tt,tm⟩,s⟩:Rw) HB.out (NRO.out _) HR.out hll
     simp only at ap5
     have H5:=Lib.hid h5
     have R5:Hid (Row Rw.cs 6 123 w.heap.size w5 v5 (ins (⟨⟨i,c,d,tt,tm⟩,s⟩:Rw) l)):=Lib.hid (by rw [IL];exact r5)
     clear r5 h5 IL hll HP1 HP2
     obtain ⟨va5,vk5,vc5,hv5⟩:∃ va vk vc,v5=.slice va vk vc:=by obtain ⟨ao,cap,e,-⟩:=Row.form cs_len R5.out;exact ⟨_,_,_,e⟩
     subst hv5
     obtain ⟨x0,x1⟩:=cell2 (H5.out.cell 0 rfl)
     have xf:=H5.out.fz 0 rfl
     have H6:=Lib.hid (H5.out.set 0 rfl 0 (.slice va5 vk5 vc5))
     have R6:=Lib.hid (row_set R5.out H5.out 0 rfl (by decide) 0 (.slice va5 vk5 vc5))
     obtain ⟨g0,g1⟩:=cell2 (H6.out.cell 0 rfl)
     obtain ⟨z0,z1⟩:=cell2 (H6.out.cell 1 rfl)
     have zf:=H6.out.fz 1 rfl
     have HF:=Lib.hid ((H6.out.set 1 rfl 0 (.slice va5 vk5 vc5)).set 1 rfl 1 (.int .i64 m))
     have RF:=Lib.hid (row_set (row_set R6.out H6.out 1 rfl (by decide) 0 (.slice va5 vk5 vc5)) (H6.out.set 1 rfl 0 (.slice va5 vk5 vc5)) 1 rfl (by decide) 1 (.int .i64 m))
     obtain ⟨q0,q1⟩:=cell2 (HF.out.cell 1 rfl)
     go_wp2_with (at_builtin;refine Lib.wpList_append_run _ rfl _ _ _ _ rfl _ _ rfl rfl _ _ ap5 ?_)
     refine bodyPost_ret (v:=.tuple #[.agg #[(.slice va5 vk5 vc5),.int .i64 m],.int .i64 0]) (by simp [results,Tryz.results60,go_sem,q0,q1]) rfl ⟨_,by rw [E.out],by rw [E.out];exact row_told RF.out rfl rfl,HF.out.bl⟩
    case true=>
     have R5:Hid (Row Rw.cs 6 123 w.heap.size wr (.slice va vk vc) (ins (⟨⟨i,c,d,tt,tm⟩,s⟩:Rw) l)):=Lib.hid HR.out
     clear HP1 HP2
     obtain ⟨g0,g1⟩:=cell2 (HB.out.cell 0 rfl)
     obtain ⟨z0,z1⟩:=cell2 (HB.out.cell 1 rfl)
     have zf:=HB.out.fz 1 rfl
     have HF:=Lib.hid ((HB.out.set 1 rfl 0 (.slice va vk vc)).set 1 rfl 1 (.int .i64 m))
     have RF:=Lib.hid (row_set (row_set R5.out HB.out 1 rfl (by decide) 0 (.slice va vk vc)) (HB.out.set 1 rfl 0 (.slice va vk vc)) 1 rfl (by decide) 1 (.int .i64 m))
     obtain ⟨q0,q1⟩:=cell2 (HF.out.cell 1 rfl)
     go_wp2
     refine bodyPost_ret (v:=.tuple #[.agg #[.slice va vk vc,.int .i64 m],.int .i64 0]) (by simp [results,Tryz.results60,go_sem,q0,q1]) rfl ⟨_,by rw [E.out],by rw [E.out];exact row_told RF.out rfl rfl,HF.out.bl⟩
end Go.Proofs.YteempfoajgblaaaGreat.Tb
namespace Go.Proofs.YteempfoajgblaaaGreat.Tb
open Pm (Tk chk chk_iff below_drewN)
open Ge (El Seen Row)
open Ox (Od chkR chkR_iff tk0)
theorem rapply_remove (t:Tb) (o:Od) (ao:Option Addr) (cap:Nat) (w:World) (hS:Sl (.slice ao t.rows.length cap) t.rows w ao cap) (hl:t.rows.length≤1000) (hT:chkT t=true) {oi:Int} (hk:o=⟨2,tk0,false,oi,0,0⟩) (hO:chkR o=true) :
 Calls Tryz.prog 60 #[tv ao t.rows.length cap t.mode,o.v] w fun e w'=>∃ v,e=.returned (.tuple #[v,.int .i64 (applyR t o).2])∧Told v (applyR t o).1 w'∧Below w.heap.size w w':=by
 have S:=Lib.hid hS
 have CT:Hid (∀ W,Below w.heap.size w W→Calls Tryz.prog 67 #[tv ao t.rows.length cap t.mode] W fun e w'=>e=.returned (.bool (chkT t))∧Below W.heap.size W w'):=Lib.hid (fun W hb=>rcheck_any t ao cap W (hS.seen.below hb (Nat.le_refl _)) hl)
 have CO:=Lib.hid (Ox.rcheck_any o)
 have AT:Hid (∀ i W,Below w.heap.size w W→Calls Tryz.prog 97 #[tv ao t.rows.length cap t.mode,.int .i64 i] W fun e w'=>e=.returned (.int .i64 (atI t.rows i))∧Below W.heap.size W w'):=Lib.hid (fun i W hb=>rat_any t.rows ao cap t.mode i W (hS.seen.below hb (Nat.le_refl _)) hl)
 have H0:=Lib.hid (to_new w (.slice ao t.rows.length cap) t.mode o.cs)
 have NO:Hid (chkT t=false∨chkR o=false→applyR t o=(tb0,1)):=Lib.hid apply_no
 clear NO
 have hct:=hT
 have hco2:=hO
 rw [hT] at CT
 rw [hO] at CO
 subst hk
 clear hT hO
 obtain ⟨l,m⟩:=t
 unfold tv Od.v Od.cs at *
 try unfold tk0 at *
 simp only at *
 obtain ⟨t0,t1⟩:=cell2 (H0.out.cell 2 rfl)
 obtain ⟨o0,o1,o2,o3,o4,o5,o6,o7,o8,o9⟩:=cell10 (H0.out.cell 1 rfl)
 obtain ⟨z0,z1⟩:=cell2 (H0.out.cell 0 rfl)
 have zf:=H0.out.fz 0 rfl
 go_enter Tryz.func60,Tryz.ntmps60
 go_wp2_with fail
 (with_reducible refine (CT.out _ H0.out.bl).mono ?_)
 rintro e w1 ⟨rfl,b1⟩
 have H1:=Lib.hid (H0.out.call b1)
 clear b1 CT H0 t0 t1 o0 o1 o2 o3 o4 o5 o6 o7 o8 o9 z0 z1 zf
 obtain ⟨t0,t1⟩:=cell2 (H1.out.cell 2 rfl)
 obtain ⟨o0,o1,o2,o3,o4,o5,o6,o7,o8,o9⟩:=cell10 (H1.out.cell 1 rfl)
 obtain ⟨z0,z1⟩:=cell2 (H1.out.cell 0 rfl)
 have zf:=H1.out.fz 0 rfl
 go_wp2_with fail
 (with_reducible refine (CO.out _).mono ?_)
 rintro e w2 ⟨rfl,b2⟩
 have H2:=Lib.hid (H1.out.call b2)
 clear b2 CO H1 t0 t1 o0 o1 o2 o3 o4 o5 o6 o7 o8 o9 z0 z1 zf
 obtain ⟨t0,t1⟩:=cell2 (H2.out.cell 2 rfl)
 obtain ⟨o0,o1,o2,o3,o4,o5,o6,o7,o8,o9⟩:=cell10 (H2.out.cell 1 rfl)
 obtain ⟨z0,z1⟩:=cell2 (H2.out.cell 0 rfl)
 have zf:=H2.out.fz 0 rfl
 have H3:=Lib.hid (H2.out.new #[.slice none 0 0,.int .i64 m] 52)
 have EA:=Lib.hid (apply_remove hct hco2)
 unfold tk0 at EA
 clear hct hco2
 have NR:Hid (∀ v,NoRow [(w2.heap.size,#[v,.int .i64 m],52),(w.heap.size+2,#[.slice none 0 0,.int .i64 0],52),(w.heap.size+1,#[.int .i64 2,.int .i64 0,.int .i64 0,.int .i64 0,.int .i64 0,.int .i64 0,.bool false,.int .i64 oi,.int .i64 0,.int .i64 0],47),(w.heap.size,#[.slice ao l.length cap,.int .i64 m],52)]):=Lib.hid (fun v=>noRow4 _ _ _ _ _ _ _ _)
 obtain ⟨t0,t1⟩:=cell2 (H3.out.cell 3 rfl)
 obtain ⟨o0,o1,o2,o3,o4,o5,o6,o7,o8,o9⟩:=cell10 (H3.out.cell 2 rfl)
 obtain ⟨z0,z1⟩:=cell2 (H3.out.cell 1 rfl)
 have zf:=H3.out.fz 1 rfl
 obtain ⟨p0,p1⟩:=cell2 (H3.out.cell 0 rfl)
 have AC:=Lib.hid (AT.out oi _ H3.out.bl)
 clear AT
 go_wp2_with fail
 (with_reducible refine AC.out.mono ?_)
 rintro e w4 ⟨rfl,b4⟩
 have H4:=Lib.hid (H3.out.call b4)
 clear b4 AC H3 t0 t1 o0 o1 o2 o3 o4 o5 o6 o7 o8 o9 z0 z1 zf p0 p1
 obtain ⟨t0,t1⟩:=cell2 (H4.out.cell 3 rfl)
 obtain ⟨o0,o1,o2,o3,o4,o5,o6,o7,o8,o9⟩:=cell10 (H4.out.cell 2 rfl)
 obtain ⟨z0,z1⟩:=cell2 (H4.out.cell 1 rfl)
 have zf:=H4.out.fz 1 rfl
 obtain ⟨p0,p1⟩:=cell2 (H4.out.cell 0 rfl)
 have pf:=H4.out.fz 0 rfl
 cases hat:at_ l oi with
 | none=>
  have ek:atI l oi=-1:=by unfold atI;rw [hat]
  have E:Hid (applyR ⟨l,m⟩ ⟨2,⟨0,0,0,0,0⟩,false,oi,0,0⟩=(tb0,12)):=Lib.hid (by rw [EA.out];unfold remR;simp only;rw [hat])
  rw [ek]
  clear hat ek S NR EA
  have HF:=Lib.hid ((H4.out.set 1 rfl 0 (.slice none 0 0)).set 1 rfl 1 (.int .i64 0))
  obtain ⟨q0,q1⟩:=cell2 (HF.out.cell 1 rfl)
  go_wp2
  refine bodyPost_ret (v:=.tuple #[.agg #[.slice none 0 0,.int .i64 0],.int .i64 12]) (by simp [results,Tryz.results60,go_sem,q0,q1]) rfl ⟨_,by rw [E.out],by rw [E.out];exact told_zero _,HF.out.bl⟩
 | some k=>
  obtain ⟨y,hyk,-,-⟩:=at_some hat
  have hkl:=(List.getElem?_eq_some_iff.1 hyk).1
  have ek:atI l oi=(k:Int):=by unfold atI;rw [hat]
  have h0:decide ((k:Int)<0)=false:=decide_eq_false (by omega)
  have h00:((k:Int)<0)=False:=eq_false (by omega)
  have hk1:(k:Int)<(l.length:Int):=by omega
  have ek1:IntKind.i64.wrap (k:Int)=(k:Int):=IntWalk.i64_in _ (by omega)
  have ek2:IntKind.i64.wrap ((k:Int)+1)=(k:Int)+1:=IntWalk.i64_in _ (by omega)
  have hcap:=S.out.le
  have sl1:=slice_h ao l.length cap k (by omega)
  have sl2:=slice_l ao l.length cap (k+1) (by omega)
  rw [show ((k+1:Nat):Int)=(k:Int)+1 by omega] at sl2
  obtain ⟨at',et,hts,-⟩:=tail_sl (S.out) (j:=k+1) (by omega)
  have TS:Hid (∀ W,Below w.heap.size w W→Seen Rw.cs 6 at' (l.drop (k+1)) W):=Lib.hid (fun W hb=>hts.below hb (Nat.le_refl _))
  rw [et] at sl2
  have hd1:(l.drop (k+1)).length≤1000:=by rw [List.length_drop];omega
  have EK:Hid (remR ⟨l,m⟩ oi=(⟨l.take k++l.drop (k+1),m⟩,0)):=Lib.hid (by unfold remR;simp only;rw [hat])
  have hkt:(l.take k).length=k:=by rw [List.length_take];omega
  obtain ⟨v5,w5,ap5,r5,h5⟩:=app_any (m:=l.take k) (c:=cap) H4.out.drew (NR.out _) (Ge.row_nil _ _) ((S.out.seen.below H4.out.drew.bl (Nat.le_refl _)).take k) (by simp;omega)
  rw [List.nil_append] at r5
  rw [hkt] at ap5
  have H5:=Lib.hid h5
  have R5:=Lib.hid r5
  rw [ek]
  clear r5 h5 hat ek et hts
  obtain ⟨va5,vk5,vc5,rfl⟩:∃ va vk vc,v5=.slice va vk vc:=by obtain ⟨ao,cap,e,-⟩:=Row.form cs_len R5.out;exact ⟨_,_,_,e⟩
  obtain ⟨x0,x1⟩:=cell2 (H5.out.cell 0 rfl)
  have xf:=H5.out.fz 0 rfl
  have H6:=Lib.hid (H5.out.set 0 rfl 0 (.slice va5 vk5 vc5))
  have R6:=Lib.hid (row_set R5.out H5.out 0 rfl (by decide) 0 (.slice va5 vk5 vc5))
  have y6:=cell2 (H6.out.cell 3 rfl)
  have p6:=cell2 (H6.out.cell 0 rfl)
  have o6c:=cell10 (H6.out.cell 2 rfl)
  go_wp2_with fail
  refine wp_region_any (by kernel_rfl) ?_
  (try (change wpAny _ _ _ _ _ _ _ (World.drew _)))
  refine Gh.tka 0 ?_
  refine Gh.tka 2 ?_
  refine Gh.tka 4 ?_
  refine wpAny_ready (rs:=[1,3]) (by kernel_rfl) (by simp) ?_
  refine AllReady.cons rfl (fun K hK=>?_) ?_
  ·rw [if_pos (by rfl)]
   go_simp
   refine hK _ _ ?_
   clear hK K
   refine Gh.pta ?_
   refine Gh.rda 3 (fun K hK=>?_)
   rw [if_pos (by rfl)]
   go_simp
   refine hK _ _ ?_
   clear hK K
   refine Gh.pta ?_
   refine Gh.tka 5 ?_
   refine Gh.rda 6 (fun K hK=>?_)
   rw [if_pos (by rfl)]
   refine Lib.wp_append_run _ _ _ _ _ rfl _ _ rfl rfl _ _ ap5 (hK _ _ ?_)
   clear hK K
   refine Gh.pta ?_
   refine Gh.tka 7 ?_
   refine Gh.rda 8 (fun K hK=>?_)
   rw [if_pos (by rfl)]
   go_simp
   refine hK _ _ ?_
   clear hK K
   refine Gh.pta ?_
   refine wpAny_done (by kernel_rfl) ?_ _
   generalize hW6:w5.setCell ⟨w2.heap.size,0,none⟩ (.slice va5 vk5 vc5)=W6 at *
   clear hW6 x0 x1 xf t0 t1 o0 o1 o2 o3 o4 o5 o6 o7 o8 o9 z0 z1 zf p0 p1 pf H5 R5 H4 ap5
   have E:Hid (applyR ⟨l,m⟩ ⟨2,⟨0,0,0,0,0⟩,false,oi,0,0⟩=(⟨l.take k++l.drop (k+1),m⟩,0)):=Lib.hid (by rw [EA.out,EK.out])
   obtain ⟨y60,y61⟩:=y6
   obtain ⟨p60,p61⟩:=p6
   obtain ⟨e0,e1,e2,e3,e4,e5,e6,e7,e8,e9⟩:=o6c
   go_wp2_with fail
   refine name_world (fun W=>Bos _ w W∧Row Rw.cs 6 _ w.heap.size W _ _) (And.intro H6.out R6.out) ?_
   clear H6 R6 y60 y61 p60 p61 e0 e1 e2 e3 e4 e5 e6 e7 e8 e9
   rintro W6 ⟨h6,r6⟩
   have H6:=Lib.hid h6
   have R6:=Lib.hid r6
   clear h6 r6
   obtain ⟨v7,w7,ap7,r7,h7⟩:=app_any (m:=l.drop (k+1)) (c:=cap-(k+1)) H6.out.drew (NR.out _) (R6.out.call (Below.refl _ _).drew) (TS.out _ H6.out.drew.bl) (by simp only [List.length_append,List.length_take,List.length_cons,List.length_nil,List.length_drop];omega)
   have H7:=Lib.hid h7
   have R7:=Lib.hid r7
   clear r7 h7
   obtain ⟨va7,vk7,vc7,rfl⟩:∃ va vk vc,v7=.slice va vk vc:=by obtain ⟨ao,cap,e,-⟩:=Row.form cs_len R7.out;exact ⟨_,_,_,e⟩
   generalize hnd:(l.drop (k+1)).length=nd at *
   clear hnd
   obtain ⟨xx0,xx1⟩:=cell2 (H7.out.cell 0 rfl)
   have xxf:=H7.out.fz 0 rfl
   have H9:=Lib.hid (H7.out.set 0 rfl 0 (.slice va7 vk7 vc7))
   have R9:=Lib.hid (row_set R7.out H7.out 0 rfl (by decide) 0 (.slice va7 vk7 vc7))
   obtain ⟨pp0,pp1⟩:=cell2 (H6.out.cell 0 rfl)
   obtain ⟨tt0,tt1⟩:=cell2 (H6.out.cell 3 rfl)
   refine wp_region_any (by kernel_rfl) ?_
   (try (change wpAny _ _ _ _ _ _ _ (World.drew _)))
   refine Gh.tka 0 ?_
   refine Gh.tka 2 ?_
   refine Gh.tka 4 ?_
   refine Gh.tka 5 ?_
   refine wpAny_ready (rs:=[1,3]) (by kernel_rfl) (by simp) ?_
   refine AllReady.cons rfl (fun K hK=>?_) ?_
   ·rw [if_pos (by rfl)]
    go_simp
    refine hK _ _ ?_
    clear hK K
    refine Gh.pta ?_
    refine Gh.rda 3 (fun K hK=>?_)
    rw [if_pos (by rfl)]
    go_simp
    refine hK _ _ ?_
    clear hK K
    refine Gh.pta ?_
    refine Gh.tka 6 ?_
    refine Gh.rda 7 (fun K hK=>?_)
    rw [if_pos (by rfl)]
    refine Lib.wp_append_run _ _ _ _ _ rfl _ _ rfl rfl _ _ ap7 (hK _ _ ?_)
    clear hK K
    refine Gh.pta ?_
    refine Gh.tka 8 ?_
    refine Gh.rda 9 (fun K hK=>?_)
    rw [if_pos (by rfl)]
    go_simp
    refine hK _ _ ?_
    clear hK K
    refine Gh.pta ?_
    refine wpAny_done (by kernel_rfl) ?_ _
    obtain ⟨g0,g1⟩:=cell2 (H9.out.cell 0 rfl)
    obtain ⟨z0,z1⟩:=cell2 (H9.out.cell 1 rfl)
    have zf:=H9.out.fz 1 rfl
    have HF:=Lib.hid ((H9.out.set 1 rfl 0 (.slice va7 vk7 vc7)).set 1 rfl 1 (.int .i64 m))
    have RF:=Lib.hid (row_set (row_set R9.out H9.out 1 rfl (by decide) 0 (.slice va7 vk7 vc7)) (H9.out.set 1 rfl 0 (.slice va7 vk7 vc7)) 1 rfl (by decide) 1 (.int .i64 m))
    obtain ⟨q0,q1⟩:=cell2 (HF.out.cell 1 rfl)
    go_wp2
    refine bodyPost_ret (v:=.tuple #[.agg #[(.slice va7 vk7 vc7),.int .i64 m],.int .i64 0]) (by simp [results,Tryz.results60,go_sem,q0,q1]) rfl ⟨_,by rw [E.out],by rw [E.out];exact row_told RF.out rfl rfl,HF.out.bl⟩
   refine AllReady.cons rfl (fun K hK=>?_) ?_
   ·rw [if_pos (by rfl)]
    go_simp
    refine hK _ _ ?_
    clear hK K
    refine Gh.pta ?_
    refine Gh.tka 6 ?_
    refine Gh.rda 1 (fun K hK=>?_)
    rw [if_pos (by rfl)]
    go_simp
    refine hK _ _ ?_
    clear hK K
    refine Gh.pta ?_
    refine Gh.rda 7 (fun K hK=>?_)
    rw [if_pos (by rfl)]
    refine Lib.wp_append_run _ _ _ _ _ rfl _ _ rfl rfl _ _ ap7 (hK _ _ ?_)
    clear hK K
    refine Gh.pta ?_
    refine Gh.tka 8 ?_
    refine Gh.rda 9 (fun K hK=>?_)
    rw [if_pos (by rfl)]
    go_simp
    refine hK _ _ ?_
    clear hK K
    refine Gh.pta ?_
    refine wpAny_done (by kernel_rfl) ?_ _
    obtain ⟨g0,g1⟩:=cell2 (H9.out.cell 0 rfl)
    obtain ⟨z0,z1⟩:=cell2 (H9.out.cell 1 rfl)
    have zf:=H9.out.fz 1 rfl
    have HF:=Lib.hid ((H9.out.set 1 rfl 0 (.slice va7 vk7 vc7)).set 1 rfl 1 (.int .i64 m))
    have RF:=Lib.hid (row_set (row_set R9.out H9.out 1 rfl (by decide) 0 (.slice va7 vk7 vc7)) (H9.out.set 1 rfl 0 (.slice va7 vk7 vc7)) 1 rfl (by decide) 1 (.int .i64 m))
    obtain ⟨q0,q1⟩:=cell2 (HF.out.cell 1 rfl)
    go_wp2
    refine bodyPost_ret (v:=.tuple #[.agg #[(.slice va7 vk7 vc7),.int .i64 m],.int .i64 0]) (by simp [results,Tryz.results60,go_sem,q0,q1]) rfl ⟨_,by rw [E.out],by rw [E.out];exact row_told RF.out rfl rfl,HF.out.bl⟩
   exact AllReady.nil
  refine AllReady.cons rfl (fun K hK=>?_) ?_
  ·rw [if_pos (by rfl)]
   go_simp
   refine hK _ _ ?_
   clear hK K
   refine Gh.pta ?_
   refine Gh.tka 5 ?_
   refine Gh.rda 1 (fun K hK=>?_)
   rw [if_pos (by rfl)]
   go_simp
   refine hK _ _ ?_
   clear hK K
   refine Gh.pta ?_
   refine Gh.rda 6 (fun K hK=>?_)
   rw [if_pos (by rfl)]
   refine Lib.wp_append_run _ _ _ _ _ rfl _ _ rfl rfl _ _ ap5 (hK _ _ ?_)
   clear hK K
   refine Gh.pta ?_
   refine Gh.tka 7 ?_
   refine Gh.rda 8 (fun K hK=>?_)
   rw [if_pos (by rfl)]
   go_simp
   refine hK _ _ ?_
   clear hK K
   refine Gh.pta ?_
   refine wpAny_done (by kernel_rfl) ?_ _
   generalize hW6:w5.setCell ⟨w2.heap.size,0,none⟩ (.slice va5 vk5 vc5)=W6 at *
   clear hW6 x0 x1 xf t0 t1 o0 o1 o2 o3 o4 o5 o6 o7 o8 o9 z0 z1 zf p0 p1 pf H5 R5 H4 ap5
   have E:Hid (applyR ⟨l,m⟩ ⟨2,⟨0,0,0,0,0⟩,false,oi,0,0⟩=(⟨l.take k++l.drop (k+1),m⟩,0)):=Lib.hid (by rw [EA.out,EK.out])
   obtain ⟨y60,y61⟩:=y6
   obtain ⟨p60,p61⟩:=p6
   obtain ⟨e0,e1,e2,e3,e4,e5,e6,e7,e8,e9⟩:=o6c
   go_wp2_with fail
   refine name_world (fun W=>Bos _ w W∧Row Rw.cs 6 _ w.heap.size W _ _) (And.intro H6.out R6.out) ?_
   clear H6 R6 y60 y61 p60 p61 e0 e1 e2 e3 e4 e5 e6 e7 e8 e9
   rintro W6 ⟨h6,r6⟩
   have H6:=Lib.hid h6
   have R6:=Lib.hid r6
   clear h6 r6
   obtain ⟨v7,w7,ap7,r7,h7⟩:=app_any (m:=l.drop (k+1)) (c:=cap-(k+1)) H6.out.drew (NR.out _) (R6.out.call (Below.refl _ _).drew) (TS.out _ H6.out.drew.bl) (by simp only [List.length_append,List.length_take,List.length_cons,List.length_nil,List.length_drop];omega)
   have H7:=Lib.hid h7
   have R7:=Lib.hid r7
   clear r7 h7
   obtain ⟨va7,vk7,vc7,rfl⟩:∃ va vk vc,v7=.slice va vk vc:=by obtain ⟨ao,cap,e,-⟩:=Row.form cs_len R7.out;exact ⟨_,_,_,e⟩
   generalize hnd:(l.drop (k+1)).length=nd at *
   clear hnd
   obtain ⟨xx0,xx1⟩:=cell2 (H7.out.cell 0 rfl)
   have xxf:=H7.out.fz 0 rfl
   have H9:=Lib.hid (H7.out.set 0 rfl 0 (.slice va7 vk7 vc7))
   have R9:=Lib.hid (row_set R7.out H7.out 0 rfl (by decide) 0 (.slice va7 vk7 vc7))
   obtain ⟨pp0,pp1⟩:=cell2 (H6.out.cell 0 rfl)
   obtain ⟨tt0,tt1⟩:=cell2 (H6.out.cell 3 rfl)
   refine wp_region_any (by kernel_rfl) ?_
   (try (change wpAny _ _ _ _ _ _ _ (World.drew _)))
   refine Gh.tka 0 ?_
   refine Gh.tka 2 ?_
   refine Gh.tka 4 ?_
   refine Gh.tka 5 ?_
   refine wpAny_ready (rs:=[1,3]) (by kernel_rfl) (by simp) ?_
   refine AllReady.cons rfl (fun K hK=>?_) ?_
   ·rw [if_pos (by rfl)]
    go_simp
    refine hK _ _ ?_
    clear hK K
    refine Gh.pta ?_
    refine Gh.rda 3 (fun K hK=>?_)
    rw [if_pos (by rfl)]
    go_simp
    refine hK _ _ ?_
    clear hK K
    refine Gh.pta ?_
    refine Gh.tka 6 ?_
    refine Gh.rda 7 (fun K hK=>?_)
    rw [if_pos (by rfl)]
    refine Lib.wp_append_run _ _ _ _ _ rfl _ _ rfl rfl _ _ ap7 (hK _ _ ?_)
    clear hK K
    refine Gh.pta ?_
    refine Gh.tka 8 ?_
    refine Gh.rda 9 (fun K hK=>?_)
    rw [if_pos (by rfl)]
    go_simp
    refine hK _ _ ?_
    clear hK K
    refine Gh.pta ?_
    refine wpAny_done (by kernel_rfl) ?_ _
    obtain ⟨g0,g1⟩:=cell2 (H9.out.cell 0 rfl)
    obtain ⟨z0,z1⟩:=cell2 (H9.out.cell 1 rfl)
    have zf:=H9.out.fz 1 rfl
    have HF:=Lib.hid ((H9.out.set 1 rfl 0 (.slice va7 vk7 vc7)).set 1 rfl 1 (.int .i64 m))
    have RF:=Lib.hid (row_set (row_set R9.out H9.out 1 rfl (by decide) 0 (.slice va7 vk7 vc7)) (H9.out.set 1 rfl 0 (.slice va7 vk7 vc7)) 1 rfl (by decide) 1 (.int .i64 m))
    obtain ⟨q0,q1⟩:=cell2 (HF.out.cell 1 rfl)
    go_wp2
    refine bodyPost_ret (v:=.tuple #[.agg #[(.slice va7 vk7 vc7),.int .i64 m],.int .i64 0]) (by simp [results,Tryz.results60,go_sem,q0,q1]) rfl ⟨_,by rw [E.out],by rw [E.out];exact row_told RF.out rfl rfl,HF.out.bl⟩
   refine AllReady.cons rfl (fun K hK=>?_) ?_
   ·rw [if_pos (by rfl)]
    go_simp
    refine hK _ _ ?_
    clear hK K
    refine Gh.pta ?_
    refine Gh.tka 6 ?_
    refine Gh.rda 1 (fun K hK=>?_)
    rw [if_pos (by rfl)]
    go_simp
    refine hK _ _ ?_
    clear hK K
    refine Gh.pta ?_
    refine Gh.rda 7 (fun K hK=>?_)
    rw [if_pos (by rfl)]
    refine Lib.wp_append_run _ _ _ _ _ rfl _ _ rfl rfl _ _ ap7 (hK _ _ ?_)
    clear hK K
    refine Gh.pta ?_
    refine Gh.tka 8 ?_
    refine Gh.rda 9 (fun K hK=>?_)
    rw [if_pos (by rfl)]
    go_simp
    refine hK _ _ ?_
    clear hK K
    refine Gh.pta ?_
    refine wpAny_done (by kernel_rfl) ?_ _
    obtain ⟨g0,g1⟩:=cell2 (H9.out.cell 0 rfl)
    obtain ⟨z0,z1⟩:=cell2 (H9.out.cell 1 rfl)
    have zf:=H9.out.fz 1 rfl
    have HF:=Lib.hid ((H9.out.set 1 rfl 0 (.slice va7 vk7 vc7)).set 1 rfl 1 (.int .i64 m))
    have RF:=Lib.hid (row_set (row_set R9.out H9.out 1 rfl (by decide) 0 (.slice va7 vk7 vc7)) (H9.out.set 1 rfl 0 (.slice va7 vk7 vc7)) 1 rfl (by decide) 1 (.int .i64 m))
    obtain ⟨q0,q1⟩:=cell2 (HF.out.cell 1 rfl)
    go_wp2
    refine bodyPost_ret (v:=.tuple #[.agg #[(.slice va7 vk7 vc7),.int .i64 m],.int .i64 0]) (by simp [results,Tryz.results60,go_sem,q0,q1]) rfl ⟨_,by rw [E.out],by rw [E.out];exact row_told RF.out rfl rfl,HF.out.bl⟩
   exact AllReady.nil
  exact AllReady.nil
theorem rapply_resize (t:Tb) (o:Od) (ao:Option Addr) (cap:Nat) (w:World) (hS:Sl (.slice ao t.rows.length cap) t.rows w ao cap) (hl:t.rows.length≤1000) (hT:chkT t=true) {oi oc:Int} (hk:o=⟨3,tk0,false,oi,oc,0⟩) (hO:chkR o=true) :
 Calls Tryz.prog 60 #[tv ao t.rows.length cap t.mode,o.v] w fun e w'=>∃ v,e=.returned (.tuple #[v,.int .i64 (applyR t o).2])∧Told v (applyR t o).1 w'∧Below w.heap.size w w':=by
 have S:=Lib.hid hS
 have CT:Hid (∀ W,Below w.heap.size w W→Calls Tryz.prog 67 #[tv ao t.rows.length cap t.mode] W fun e w'=>e=.returned (.bool (chkT t))∧Below W.heap.size W w'):=Lib.hid (fun W hb=>rcheck_any t ao cap W (hS.seen.below hb (Nat.le_refl _)) hl)
 have CO:=Lib.hid (Ox.rcheck_any o)
 have AT:Hid (∀ i W,Below w.heap.size w W→Calls Tryz.prog 97 #[tv ao t.rows.length cap t.mode,.int .i64 i] W fun e w'=>e=.returned (.int .i64 (atI t.rows i))∧Below W.heap.size W w'):=Lib.hid (fun i W hb=>rat_any t.rows ao cap t.mode i W (hS.seen.below hb (Nat.le_refl _)) hl)
 have H0:=Lib.hid (to_new w (.slice ao t.rows.length cap) t.mode o.cs)
 have NO:Hid (chkT t=false∨chkR o=false→applyR t o=(tb0,1)):=Lib.hid apply_no
 clear NO
 have hct:=hT
 have hco2:=hO
 rw [hT] at CT
 rw [hO] at CO
 subst hk
 clear hT hO
 obtain ⟨l,m⟩:=t
 unfold tv Od.v Od.cs at *
 try unfold tk0 at *
 simp only at *
 obtain ⟨t0,t1⟩:=cell2 (H0.out.cell 2 rfl)
 obtain ⟨o0,o1,o2,o3,o4,o5,o6,o7,o8,o9⟩:=cell10 (H0.out.cell 1 rfl)
 obtain ⟨z0,z1⟩:=cell2 (H0.out.cell 0 rfl)
 have zf:=H0.out.fz 0 rfl
 go_enter Tryz.func60,Tryz.ntmps60
 go_wp2_with fail
 (with_reducible refine (CT.out _ H0.out.bl).mono ?_)
 rintro e w1 ⟨rfl,b1⟩
 have H1:=Lib.hid (H0.out.call b1)
 clear b1 CT H0 t0 t1 o0 o1 o2 o3 o4 o5 o6 o7 o8 o9 z0 z1 zf
 obtain ⟨t0,t1⟩:=cell2 (H1.out.cell 2 rfl)
 obtain ⟨o0,o1,o2,o3,o4,o5,o6,o7,o8,o9⟩:=cell10 (H1.out.cell 1 rfl)
 obtain ⟨z0,z1⟩:=cell2 (H1.out.cell 0 rfl)
 have zf:=H1.out.fz 0 rfl
 go_wp2_with fail
 (with_reducible refine (CO.out _).mono ?_)
 rintro e w2 ⟨rfl,b2⟩
 have H2:=Lib.hid (H1.out.call b2)
 clear b2 CO H1 t0 t1 o0 o1 o2 o3 o4 o5 o6 o7 o8 o9 z0 z1 zf
 obtain ⟨t0,t1⟩:=cell2 (H2.out.cell 2 rfl)
 obtain ⟨o0,o1,o2,o3,o4,o5,o6,o7,o8,o9⟩:=cell10 (H2.out.cell 1 rfl)
 obtain ⟨z0,z1⟩:=cell2 (H2.out.cell 0 rfl)
 have zf:=H2.out.fz 0 rfl
 have H3:=Lib.hid (H2.out.new #[.slice none 0 0,.int .i64 m] 52)
 have EA:=Lib.hid (apply_resize hct hco2)
 unfold tk0 at EA
 clear hct hco2
 have NR:Hid (∀ v,NoRow [(w2.heap.size,#[v,.int .i64 m],52),(w.heap.size+2,#[.slice none 0 0,.int .i64 0],52),(w.heap.size+1,#[.int .i64 3,.int .i64 0,.int .i64 0,.int .i64 0,.int .i64 0,.int .i64 0,.bool false,.int .i64 oi,.int .i64 oc,.int .i64 0],47),(w.heap.size,#[.slice ao l.length cap,.int .i64 m],52)]):=Lib.hid (fun v=>noRow4 _ _ _ _ _ _ _ _)
 obtain ⟨t0,t1⟩:=cell2 (H3.out.cell 3 rfl)
 obtain ⟨o0,o1,o2,o3,o4,o5,o6,o7,o8,o9⟩:=cell10 (H3.out.cell 2 rfl)
 obtain ⟨z0,z1⟩:=cell2 (H3.out.cell 1 rfl)
 have zf:=H3.out.fz 1 rfl
 obtain ⟨p0,p1⟩:=cell2 (H3.out.cell 0 rfl)
 have AC:=Lib.hid (AT.out oi _ H3.out.bl)
 clear AT
 go_wp2_with fail
 (with_reducible refine AC.out.mono ?_)
 rintro e w4 ⟨rfl,b4⟩
 have H4:=Lib.hid (H3.out.call b4)
 clear b4 AC H3 t0 t1 o0 o1 o2 o3 o4 o5 o6 o7 o8 o9 z0 z1 zf p0 p1
 obtain ⟨t0,t1⟩:=cell2 (H4.out.cell 3 rfl)
 obtain ⟨o0,o1,o2,o3,o4,o5,o6,o7,o8,o9⟩:=cell10 (H4.out.cell 2 rfl)
 obtain ⟨z0,z1⟩:=cell2 (H4.out.cell 1 rfl)
 have zf:=H4.out.fz 1 rfl
 obtain ⟨p0,p1⟩:=cell2 (H4.out.cell 0 rfl)
 have pf:=H4.out.fz 0 rfl
 cases hat:at_ l oi with
 | none=>
  have ek:atI l oi=-1:=by unfold atI;rw [hat]
  have E:Hid (applyR ⟨l,m⟩ ⟨3,⟨0,0,0,0,0⟩,false,oi,oc,0⟩=(tb0,12)):=Lib.hid (by rw [EA.out];unfold resR;simp only;rw [hat])
  rw [ek]
  clear hat ek S NR EA
  have HF:=Lib.hid ((H4.out.set 1 rfl 0 (.slice none 0 0)).set 1 rfl 1 (.int .i64 0))
  obtain ⟨q0,q1⟩:=cell2 (HF.out.cell 1 rfl)
  go_wp2
  refine bodyPost_ret (v:=.tuple #[.agg #[.slice none 0 0,.int .i64 0],.int .i64 12]) (by simp [results,Tryz.results60,go_sem,q0,q1]) rfl ⟨_,by rw [E.out],by rw [E.out];exact told_zero _,HF.out.bl⟩
 | some k=>
  obtain ⟨y,hyk,-,-⟩:=at_some hat
  have hkl:=(List.getElem?_eq_some_iff.1 hyk).1
  have ek:atI l oi=(k:Int):=by unfold atI;rw [hat]
  have h0:decide ((k:Int)<0)=false:=decide_eq_false (by omega)
  have h00:((k:Int)<0)=False:=eq_false (by omega)
  have hk1:(k:Int)<(l.length:Int):=by omega
  have ek1:IntKind.i64.wrap (k:Int)=(k:Int):=IntWalk.i64_in _ (by omega)
  have ek2:IntKind.i64.wrap ((k:Int)+1)=(k:Int)+1:=IntWalk.i64_in _ (by omega)
  have hcap:=S.out.le
  have sl1:=slice_h ao l.length cap k (by omega)
  have sl2:=slice_l ao l.length cap (k+1) (by omega)
  rw [show ((k+1:Nat):Int)=(k:Int)+1 by omega] at sl2
  obtain ⟨at',et,hts,-⟩:=tail_sl (S.out) (j:=k+1) (by omega)
  have TS:Hid (∀ W,Below w.heap.size w W→Seen Rw.cs 6 at' (l.drop (k+1)) W):=Lib.hid (fun W hb=>hts.below hb (Nat.le_refl _))
  rw [et] at sl2
  have hd1:(l.drop (k+1)).length≤1000:=by rw [List.length_drop];omega
  have EK:Hid (resR ⟨l,m⟩ oi oc=if y.t.d<oc then (tb0,1) else (⟨l.take k++[⟨⟨y.t.id,oc,y.t.d,y.t.t,y.t.m⟩,y.s⟩]++l.drop (k+1),m⟩,0)):=Lib.hid (by unfold resR;simp only;rw [hat];simp only;rw [hyk];simp only;rw [List.append_assoc];rfl)
  have hkt:(l.take k).length=k:=by rw [List.length_take];omega
  obtain ⟨v5,w5,ap5,r5,h5⟩:=app_any (m:=l.take k) (c:=cap) H4.out.drew (NR.out _) (Ge.row_nil _ _) ((S.out.seen.below H4.out.drew.bl (Nat.le_refl _)).take k) (by simp;omega)
  rw [List.nil_append] at r5
  rw [hkt] at ap5
  have H5:=Lib.hid h5
  have R5:=Lib.hid r5
  rw [ek]
  clear r5 h5 hat ek et hts
  obtain ⟨va5,vk5,vc5,rfl⟩:∃ va vk vc,v5=.slice va vk vc:=by obtain ⟨ao,cap,e,-⟩:=Row.form cs_len R5.out;exact ⟨_,_,_,e⟩
  obtain ⟨x0,x1⟩:=cell2 (H5.out.cell 0 rfl)
  have xf:=H5.out.fz 0 rfl
  have H6:=Lib.hid (H5.out.set 0 rfl 0 (.slice va5 vk5 vc5))
  have R6:=Lib.hid (row_set R5.out H5.out 0 rfl (by decide) 0 (.slice va5 vk5 vc5))
  have y6:=cell2 (H6.out.cell 3 rfl)
  have p6:=cell2 (H6.out.cell 0 rfl)
  have o6c:=cell10 (H6.out.cell 2 rfl)
  go_wp2_with fail
  refine wp_region_any (by kernel_rfl) ?_
  (try (change wpAny _ _ _ _ _ _ _ (World.drew _)))
  refine Gh.tka 0 ?_
  refine Gh.tka 2 ?_
  refine Gh.tka 4 ?_
  refine wpAny_ready (rs:=[1,3]) (by kernel_rfl) (by simp) ?_
  refine AllReady.cons rfl (fun K hK=>?_) ?_
  ·rw [if_pos (by rfl)]
   go_simp
   refine hK _ _ ?_
   clear hK K
   refine Gh.pta ?_
   refine Gh.rda 3 (fun K hK=>?_)
   rw [if_pos (by rfl)]
   go_simp
   refine hK _ _ ?_
   clear hK K
   refine Gh.pta ?_
   refine Gh.tka 5 ?_
   refine Gh.rda 6 (fun K hK=>?_)
   rw [if_pos (by rfl)]
   refine Lib.wp_append_run _ _ _ _ _ rfl _ _ rfl rfl _ _ ap5 (hK _ _ ?_)
   clear hK K
   refine Gh.pta ?_
   refine Gh.tka 7 ?_
   refine Gh.rda 8 (fun K hK=>?_)
   rw [if_pos (by rfl)]
   go_simp
   refine hK _ _ ?_
   clear hK K
   refine Gh.pta ?_
   refine wpAny_done (by kernel_rfl) ?_ _
   generalize hW6:w5.setCell ⟨w2.heap.size,0,none⟩ (.slice va5 vk5 vc5)=W6 at *
   clear hW6 x0 x1 xf t0 t1 o0 o1 o2 o3 o4 o5 o6 o7 o8 o9 z0 z1 zf p0 p1 pf H5 R5 H4 ap5
   obtain ⟨y60,y61⟩:=y6
   obtain ⟨p60,p61⟩:=p6
   obtain ⟨e0,e1,e2,e3,e4,e5,e6,e7,e8,e9⟩:=o6c
   obtain ⟨b,off,rfl,hb,hatt⟩:=(S.out.seen.below H6.out.bl (Nat.le_refl _)) (by omega)
   obtain ⟨f0,f1,f2,f3,f4,f5⟩:=row_cells hatt hyk
   clear hatt hb
   obtain ⟨⟨yi,yc,yd,yt,ym⟩,ys⟩:=y
   simp only at f0 f1 f2 f3 f4 f5 EK
   have HA:=Lib.hid (H6.out.new #[.int .i64 yi,.int .i64 yc,.int .i64 yd,.int .i64 yt,.int .i64 ym,.bool ys] 123)
   have j0:=cell6 (HA.out.cell 0 rfl)
   obtain ⟨j0,j1,j2,j3,j4,j5⟩:=j0
   have jf:=HA.out.fz 0 rfl
   have ja:=cell10 (HA.out.cell 3 rfl)
   obtain ⟨a0,a1,a2,a3,a4,a5,a6,a7,a8,a9⟩:=ja
   by_cases hcd:yd<oc
   ·rw [if_pos hcd] at EK
    have E:Hid (applyR ⟨l,m⟩ ⟨3,⟨0,0,0,0,0⟩,false,oi,oc,0⟩=(tb0,1)):=Lib.hid (by rw [EA.out,EK.out])
    obtain ⟨z0,z1⟩:=cell2 (HA.out.cell 2 rfl)
    have zf:=HA.out.fz 2 rfl
    clear EA EK NR TS sl1 sl2
    have HF:=Lib.hid ((HA.out.set 2 rfl 0 (.slice none 0 0)).set 2 rfl 1 (.int .i64 0))
    obtain ⟨q0,q1⟩:=cell2 (HF.out.cell 2 rfl)
    go_wp2
    refine bodyPost_ret (v:=.tuple #[.agg #[.slice none 0 0,.int .i64 0],.int .i64 1]) (by simp [results,Tryz.results60,go_sem,q0,q1]) rfl ⟨_,by rw [E.out],by rw [E.out];exact told_zero _,HF.out.bl⟩
   ·rw [if_neg hcd] at EK
    have hcd2:oc≤yd:=by omega
    have E:Hid (applyR ⟨l,m⟩ ⟨3,⟨0,0,0,0,0⟩,false,oi,oc,0⟩=(⟨l.take k++[⟨⟨yi,oc,yd,yt,ym⟩,ys⟩]++l.drop (k+1),m⟩,0)):=Lib.hid (by rw [EA.out,EK.out])
    clear EA EK hcd
    have HC:=Lib.hid (H6.out.new #[.int .i64 yi,.int .i64 oc,.int .i64 yd,.int .i64 yt,.int .i64 ym,.bool ys] 123)
    have HS:=Lib.hid (HC.out.sub (m:=_) (List.sublist_cons_self _ _))
    have RC:=Lib.hid (R6.out.call ((Below.refl _ _).alloc (Nat.le_refl _) (.cells #[.int .i64 yi,.int .i64 oc,.int .i64 yd,.int .i64 yt,.int .i64 ym,.bool ys] 123)))
    obtain ⟨v8,w8,ap8,r8,h8⟩:=app_new (⟨⟨yi,oc,yd,yt,ym⟩,ys⟩:Rw) HS.out (NR.out _) RC.out (by rw [hkt];omega)
    simp only at ap8
    rw [World.size_alloc] at ap8
    have H8:=Lib.hid h8
    have R8:=Lib.hid r8
    clear r8 h8
    obtain ⟨va8,vk8,vc8,rfl⟩:∃ va vk vc,v8=.slice va vk vc:=by obtain ⟨ao,cap,e,-⟩:=Row.form cs_len R8.out;exact ⟨_,_,_,e⟩
    obtain ⟨n0,n1⟩:=cell2 (HC.out.cell 1 rfl)
    obtain ⟨m0,m1,m2,m3,m4,m5⟩:=cell6 (HC.out.cell 0 rfl)
    obtain ⟨s0,s1⟩:=cell2 (H8.out.cell 0 rfl)
    have sf:=H8.out.fz 0 rfl
    have HB8:=Lib.hid (H8.out.set 0 rfl 0 (.slice va8 vk8 vc8))
    have RB8:=Lib.hid (row_set R8.out H8.out 0 rfl (by decide) 0 (.slice va8 vk8 vc8))
    go_wp2_with (at_builtin;refine Lib.wpList_append_run _ rfl _ _ _ _ rfl _ _ rfl rfl _ _ ap8 ?_)
    refine name_world (fun W=>Bos _ w W∧Row Rw.cs 6 _ w.heap.size W _ _) (And.intro HB8.out RB8.out) ?_
    clear HB8 RB8 H8 R8 HC HS RC H6 R6 n0 n1 m0 m1 m2 m3 m4 m5 s0 s1 sf
    rintro W6 ⟨h6,r6⟩
    have HB8:=Lib.hid h6
    have RB8:=Lib.hid r6
    clear h6 r6
    obtain ⟨v7,w7,ap7,r7,h7⟩:=app_any (m:=l.drop (k+1)) (c:=cap-(k+1)) HB8.out.drew (NR.out _) (RB8.out.call (Below.refl _ _).drew) (TS.out _ HB8.out.drew.bl) (by simp only [List.length_append,List.length_take,List.length_cons,List.length_nil,List.length_drop];omega)
    have H7:=Lib.hid h7
    have R7:=Lib.hid r7
    clear r7 h7
    obtain ⟨va7,vk7,vc7,rfl⟩:∃ va vk vc,v7=.slice va vk vc:=by obtain ⟨ao,cap,e,-⟩:=Row.form cs_len R7.out;exact ⟨_,_,_,e⟩
    generalize hnd:(l.drop (k+1)).length=nd at *
    clear hnd
    obtain ⟨xx0,xx1⟩:=cell2 (H7.out.cell 0 rfl)
    have xxf:=H7.out.fz 0 rfl
    have H9:=Lib.hid (H7.out.set 0 rfl 0 (.slice va7 vk7 vc7))
    have R9:=Lib.hid (row_set R7.out H7.out 0 rfl (by decide) 0 (.slice va7 vk7 vc7))
    obtain ⟨pp0,pp1⟩:=cell2 (HB8.out.cell 0 rfl)
    obtain ⟨tt0,tt1⟩:=cell2 (HB8.out.cell 3 rfl)
    refine wp_region_any (by kernel_rfl) ?_
    (try (change wpAny _ _ _ _ _ _ _ (World.drew _)))
    refine Gh.tka 0 ?_
    refine Gh.tka 2 ?_
    refine Gh.tka 4 ?_
    refine Gh.tka 5 ?_
    refine wpAny_ready (rs:=[1,3]) (by kernel_rfl) (by simp) ?_
    refine AllReady.cons rfl (fun K hK=>?_) ?_
    ·rw [if_pos (by rfl)]
     go_simp
     refine hK _ _ ?_
     clear hK K
     refine Gh.pta ?_
     refine Gh.rda 3 (fun K hK=>?_)
     rw [if_pos (by rfl)]
     go_simp
     refine hK _ _ ?_
     clear hK K
     refine Gh.pta ?_
     refine Gh.tka 6 ?_
     refine Gh.rda 7 (fun K hK=>?_)
     rw [if_pos (by rfl)]
     refine Lib.wp_append_run _ _ _ _ _ rfl _ _ rfl rfl _ _ ap7 (hK _ _ ?_)
     clear hK K
     refine Gh.pta ?_
     refine Gh.tka 8 ?_
     refine Gh.rda 9 (fun K hK=>?_)
     rw [if_pos (by rfl)]
     go_simp
     refine hK _ _ ?_
     clear hK K
     refine Gh.pta ?_
     refine wpAny_done (by kernel_rfl) ?_ _
     obtain ⟨g0,g1⟩:=cell2 (H9.out.cell 0 rfl)
     obtain ⟨z0,z1⟩:=cell2 (H9.out.cell 1 rfl)
     have zf:=H9.out.fz 1 rfl
     have HF:=Lib.hid ((H9.out.set 1 rfl 0 (.slice va7 vk7 vc7)).set 1 rfl 1 (.int .i64 m))
     have RF:=Lib.hid (row_set (row_set R9.out H9.out 1 rfl (by decide) 0 (.slice va7 vk7 vc7)) (H9.out.set 1 rfl 0 (.slice va7 vk7 vc7)) 1 rfl (by decide) 1 (.int .i64 m))
     obtain ⟨q0,q1⟩:=cell2 (HF.out.cell 1 rfl)
     go_wp2
     refine bodyPost_ret (v:=.tuple #[.agg #[(.slice va7 vk7 vc7),.int .i64 m],.int .i64 0]) (by simp [results,Tryz.results60,go_sem,q0,q1]) rfl ⟨_,by rw [E.out],by rw [E.out];exact row_told RF.out rfl rfl,HF.out.bl⟩
    refine AllReady.cons rfl (fun K hK=>?_) ?_
    ·rw [if_pos (by rfl)]
     go_simp
     refine hK _ _ ?_
     clear hK K
     refine Gh.pta ?_
     refine Gh.tka 6 ?_
     refine Gh.rda 1 (fun K hK=>?_)
     rw [if_pos (by rfl)]
     go_simp
     refine hK _ _ ?_
     clear hK K
     refine Gh.pta ?_
     refine Gh.rda 7 (fun K hK=>?_)
     rw [if_pos (by rfl)]
     refine Lib.wp_append_run _ _ _ _ _ rfl _ _ rfl rfl _ _ ap7 (hK _ _ ?_)
     clear hK K
     refine Gh.pta ?_
     refine Gh.tka 8 ?_
     refine Gh.rda 9 (fun K hK=>?_)
     rw [if_pos (by rfl)]
     go_simp
     refine hK _ _ ?_
     clear hK K
     refine Gh.pta ?_
     refine wpAny_done (by kernel_rfl) ?_ _
     obtain ⟨g0,g1⟩:=cell2 (H9.out.cell 0 rfl)
     obtain ⟨z0,z1⟩:=cell2 (H9.out.cell 1 rfl)
     have zf:=H9.out.fz 1 rfl
     have HF:=Lib.hid ((H9.out.set 1 rfl 0 (.slice va7 vk7 vc7)).set 1 rfl 1 (.int .i64 m))
     have RF:=Lib.hid (row_set (row_set R9.out H9.out 1 rfl (by decide) 0 (.slice va7 vk7 vc7)) (H9.out.set 1 rfl 0 (.slice va7 vk7 vc7)) 1 rfl (by decide) 1 (.int .i64 m))
     obtain ⟨q0,q1⟩:=cell2 (HF.out.cell 1 rfl)
     go_wp2
     refine bodyPost_ret (v:=.tuple #[.agg #[(.slice va7 vk7 vc7),.int .i64 m],.int .i64 0]) (by simp [results,Tryz.results60,go_sem,q0,q1]) rfl ⟨_,by rw [E.out],by rw [E.out];exact row_told RF.out rfl rfl,HF.out.bl⟩
    exact AllReady.nil
  refine AllReady.cons rfl (fun K hK=>?_) ?_
  ·rw [if_pos (by rfl)]
   go_simp
   refine hK _ _ ?_
   clear hK K
   refine Gh.pta ?_
   refine Gh.tka 5 ?_
   refine Gh.rda 1 (fun K hK=>?_)
   rw [if_pos (by rfl)]
   go_simp
   refine hK _ _ ?_
   clear hK K
   refine Gh.pta ?_
   refine Gh.rda 6 (fun K hK=>?_)
   rw [if_pos (by rfl)]
   refine Lib.wp_append_run _ _ _ _ _ rfl _ _ rfl rfl _ _ ap5 (hK _ _ ?_)
   clear hK K
   refine Gh.pta ?_
   refine Gh.tka 7 ?_
   refine Gh.rda 8 (fun K hK=>?_)
   rw [if_pos (by rfl)]
   go_simp
   refine hK _ _ ?_
   clear hK K
   refine Gh.pta ?_
   refine wpAny_done (by kernel_rfl) ?_ _
   generalize hW6:w5.setCell ⟨w2.heap.size,0,none⟩ (.slice va5 vk5 vc5)=W6 at *
   clear hW6 x0 x1 xf t0 t1 o0 o1 o2 o3 o4 o5 o6 o7 o8 o9 z0 z1 zf p0 p1 pf H5 R5 H4 ap5
   obtain ⟨y60,y61⟩:=y6
   obtain ⟨p60,p61⟩:=p6
   obtain ⟨e0,e1,e2,e3,e4,e5,e6,e7,e8,e9⟩:=o6c
   obtain ⟨b,off,rfl,hb,hatt⟩:=(S.out.seen.below H6.out.bl (Nat.le_refl _)) (by omega)
   obtain ⟨f0,f1,f2,f3,f4,f5⟩:=row_cells hatt hyk
   clear hatt hb
   obtain ⟨⟨yi,yc,yd,yt,ym⟩,ys⟩:=y
   simp only at f0 f1 f2 f3 f4 f5 EK
   have HA:=Lib.hid (H6.out.new #[.int .i64 yi,.int .i64 yc,.int .i64 yd,.int .i64 yt,.int .i64 ym,.bool ys] 123)
   have j0:=cell6 (HA.out.cell 0 rfl)
   obtain ⟨j0,j1,j2,j3,j4,j5⟩:=j0
   have jf:=HA.out.fz 0 rfl
   have ja:=cell10 (HA.out.cell 3 rfl)
   obtain ⟨a0,a1,a2,a3,a4,a5,a6,a7,a8,a9⟩:=ja
   by_cases hcd:yd<oc
   ·rw [if_pos hcd] at EK
    have E:Hid (applyR ⟨l,m⟩ ⟨3,⟨0,0,0,0,0⟩,false,oi,oc,0⟩=(tb0,1)):=Lib.hid (by rw [EA.out,EK.out])
    obtain ⟨z0,z1⟩:=cell2 (HA.out.cell 2 rfl)
    have zf:=HA.out.fz 2 rfl
    clear EA EK NR TS sl1 sl2
    have HF:=Lib.hid ((HA.out.set 2 rfl 0 (.slice none 0 0)).set 2 rfl 1 (.int .i64 0))
    obtain ⟨q0,q1⟩:=cell2 (HF.out.cell 2 rfl)
    go_wp2
    refine bodyPost_ret (v:=.tuple #[.agg #[.slice none 0 0,.int .i64 0],.int .i64 1]) (by simp [results,Tryz.results60,go_sem,q0,q1]) rfl ⟨_,by rw [E.out],by rw [E.out];exact told_zero _,HF.out.bl⟩
   ·rw [if_neg hcd] at EK
    have hcd2:oc≤yd:=by omega
    have E:Hid (applyR ⟨l,m⟩ ⟨3,⟨0,0,0,0,0⟩,false,oi,oc,0⟩=(⟨l.take k++[⟨⟨yi,oc,yd,yt,ym⟩,ys⟩]++l.drop (k+1),m⟩,0)):=Lib.hid (by rw [EA.out,EK.out])
    clear EA EK hcd
    have HC:=Lib.hid (H6.out.new #[.int .i64 yi,.int .i64 oc,.int .i64 yd,.int .i64 yt,.int .i64 ym,.bool ys] 123)
    have HS:=Lib.hid (HC.out.sub (m:=_) (List.sublist_cons_self _ _))
    have RC:=Lib.hid (R6.out.call ((Below.refl _ _).alloc (Nat.le_refl _) (.cells #[.int .i64 yi,.int .i64 oc,.int .i64 yd,.int .i64 yt,.int .i64 ym,.bool ys] 123)))
    obtain ⟨v8,w8,ap8,r8,h8⟩:=app_new (⟨⟨yi,oc,yd,yt,ym⟩,ys⟩:Rw) HS.out (NR.out _) RC.out (by rw [hkt];omega)
    simp only at ap8
    rw [World.size_alloc] at ap8
    have H8:=Lib.hid h8
    have R8:=Lib.hid r8
    clear r8 h8
    obtain ⟨va8,vk8,vc8,rfl⟩:∃ va vk vc,v8=.slice va vk vc:=by obtain ⟨ao,cap,e,-⟩:=Row.form cs_len R8.out;exact ⟨_,_,_,e⟩
    obtain ⟨n0,n1⟩:=cell2 (HC.out.cell 1 rfl)
    obtain ⟨m0,m1,m2,m3,m4,m5⟩:=cell6 (HC.out.cell 0 rfl)
    obtain ⟨s0,s1⟩:=cell2 (H8.out.cell 0 rfl)
    have sf:=H8.out.fz 0 rfl
    have HB8:=Lib.hid (H8.out.set 0 rfl 0 (.slice va8 vk8 vc8))
    have RB8:=Lib.hid (row_set R8.out H8.out 0 rfl (by decide) 0 (.slice va8 vk8 vc8))
    go_wp2_with (at_builtin;refine Lib.wpList_append_run _ rfl _ _ _ _ rfl _ _ rfl rfl _ _ ap8 ?_)
    refine name_world (fun W=>Bos _ w W∧Row Rw.cs 6 _ w.heap.size W _ _) (And.intro HB8.out RB8.out) ?_
    clear HB8 RB8 H8 R8 HC HS RC H6 R6 n0 n1 m0 m1 m2 m3 m4 m5 s0 s1 sf
    rintro W6 ⟨h6,r6⟩
    have HB8:=Lib.hid h6
    have RB8:=Lib.hid r6
    clear h6 r6
    obtain ⟨v7,w7,ap7,r7,h7⟩:=app_any (m:=l.drop (k+1)) (c:=cap-(k+1)) HB8.out.drew (NR.out _) (RB8.out.call (Below.refl _ _).drew) (TS.out _ HB8.out.drew.bl) (by simp only [List.length_append,List.length_take,List.length_cons,List.length_nil,List.length_drop];omega)
    have H7:=Lib.hid h7
    have R7:=Lib.hid r7
    clear r7 h7
    obtain ⟨va7,vk7,vc7,rfl⟩:∃ va vk vc,v7=.slice va vk vc:=by obtain ⟨ao,cap,e,-⟩:=Row.form cs_len R7.out;exact ⟨_,_,_,e⟩
    generalize hnd:(l.drop (k+1)).length=nd at *
    clear hnd
    obtain ⟨xx0,xx1⟩:=cell2 (H7.out.cell 0 rfl)
    have xxf:=H7.out.fz 0 rfl
    have H9:=Lib.hid (H7.out.set 0 rfl 0 (.slice va7 vk7 vc7))
    have R9:=Lib.hid (row_set R7.out H7.out 0 rfl (by decide) 0 (.slice va7 vk7 vc7))
    obtain ⟨pp0,pp1⟩:=cell2 (HB8.out.cell 0 rfl)
    obtain ⟨tt0,tt1⟩:=cell2 (HB8.out.cell 3 rfl)
    refine wp_region_any (by kernel_rfl) ?_
    (try (change wpAny _ _ _ _ _ _ _ (World.drew _)))
    refine Gh.tka 0 ?_
    refine Gh.tka 2 ?_
    refine Gh.tka 4 ?_
    refine Gh.tka 5 ?_
    refine wpAny_ready (rs:=[1,3]) (by kernel_rfl) (by simp) ?_
    refine AllReady.cons rfl (fun K hK=>?_) ?_
    ·rw [if_pos (by rfl)]
     go_simp
     refine hK _ _ ?_
     clear hK K
     refine Gh.pta ?_
     refine Gh.rda 3 (fun K hK=>?_)
     rw [if_pos (by rfl)]
     go_simp
     refine hK _ _ ?_
     clear hK K
     refine Gh.pta ?_
     refine Gh.tka 6 ?_
     refine Gh.rda 7 (fun K hK=>?_)
     rw [if_pos (by rfl)]
     refine Lib.wp_append_run _ _ _ _ _ rfl _ _ rfl rfl _ _ ap7 (hK _ _ ?_)
     clear hK K
     refine Gh.pta ?_
     refine Gh.tka 8 ?_
     refine Gh.rda 9 (fun K hK=>?_)
     rw [if_pos (by rfl)]
     go_simp
     refine hK _ _ ?_
     clear hK K
     refine Gh.pta ?_
     refine wpAny_done (by kernel_rfl) ?_ _
     obtain ⟨g0,g1⟩:=cell2 (H9.out.cell 0 rfl)
     obtain ⟨z0,z1⟩:=cell2 (H9.out.cell 1 rfl)
     have zf:=H9.out.fz 1 rfl
     have HF:=Lib.hid ((H9.out.set 1 rfl 0 (.slice va7 vk7 vc7)).set 1 rfl 1 (.int .i64 m))
     have RF:=Lib.hid (row_set (row_set R9.out H9.out 1 rfl (by decide) 0 (.slice va7 vk7 vc7)) (H9.out.set 1 rfl 0 (.slice va7 vk7 vc7)) 1 rfl (by decide) 1 (.int .i64 m))
     obtain ⟨q0,q1⟩:=cell2 (HF.out.cell 1 rfl)
     go_wp2
     refine bodyPost_ret (v:=.tuple #[.agg #[(.slice va7 vk7 vc7),.int .i64 m],.int .i64 0]) (by simp [results,Tryz.results60,go_sem,q0,q1]) rfl ⟨_,by rw [E.out],by rw [E.out];exact row_told RF.out rfl rfl,HF.out.bl⟩
    refine AllReady.cons rfl (fun K hK=>?_) ?_
    ·rw [if_pos (by rfl)]
     go_simp
     refine hK _ _ ?_
     clear hK K
     refine Gh.pta ?_
     refine Gh.tka 6 ?_
     refine Gh.rda 1 (fun K hK=>?_)
     rw [if_pos (by rfl)]
     go_simp
     refine hK _ _ ?_
     clear hK K
     refine Gh.pta ?_
     refine Gh.rda 7 (fun K hK=>?_)
     rw [if_pos (by rfl)]
     refine Lib.wp_append_run _ _ _ _ _ rfl _ _ rfl rfl _ _ ap7 (hK _ _ ?_)
     clear hK K
     refine Gh.pta ?_
     refine Gh.tka 8 ?_
     refine Gh.rda 9 (fun K hK=>?_)
     rw [if_pos (by rfl)]
     go_simp
     refine hK _ _ ?_
     clear hK K
     refine Gh.pta ?_
     refine wpAny_done (by kernel_rfl) ?_ _
     obtain ⟨g0,g1⟩:=cell2 (H9.out.cell 0 rfl)
     obtain ⟨z0,z1⟩:=cell2 (H9.out.cell 1 rfl)
     have zf:=H9.out.fz 1 rfl
     have HF:=Lib.hid ((H9.out.set 1 rfl 0 (.slice va7 vk7 vc7)).set 1 rfl 1 (.int .i64 m))
     have RF:=Lib.hid (row_set (row_set R9.out H9.out 1 rfl (by decide) 0 (.slice va7 vk7 vc7)) (H9.out.set 1 rfl 0 (.slice va7 vk7 vc7)) 1 rfl (by decide) 1 (.int .i64 m))
     obtain ⟨q0,q1⟩:=cell2 (HF.out.cell 1 rfl)
     go_wp2
     refine bodyPost_ret (v:=.tuple #[.agg #[(.slice va7 vk7 vc7),.int .i64 m],.int .i64 0]) (by simp [results,Tryz.results60,go_sem,q0,q1]) rfl ⟨_,by rw [E.out],by rw [E.out];exact row_told RF.out rfl rfl,HF.out.bl⟩
    exact AllReady.nil
  exact AllReady.nil
end Go.Proofs.YteempfoajgblaaaGreat.Tb
namespace Go.Proofs.YteempfoajgblaaaGreat.Tb
open Ge (El Seen Row)
open Ox (Od chkR chkR_iff tk0)
theorem rapply_any (t:Tb) (o:Od) (ao:Option Addr) (cap:Nat) (w:World) (hS:Sl (.slice ao t.rows.length cap) t.rows w ao cap) (hl:t.rows.length≤1000) :
 Calls Tryz.prog 60 #[tv ao t.rows.length cap t.mode,o.v] w fun e w'=>∃ v,e=.returned (.tuple #[v,.int .i64 (applyR t o).2])∧Told v (applyR t o).1 w'∧Below w.heap.size w w':=by
 cases hT:chkT t with
 | false=>exact rapply_no t o ao cap w hS hl (.inl hT)
 | true=>
  cases hO:chkR o with
  | false=>exact rapply_no t o ao cap w hS hl (.inr hO)
  | true=>
   rcases chkR_iff.1 hO with ⟨x,xs,e,-⟩|⟨xi,e,-⟩|⟨xi,xc,e,-⟩|⟨xm,e,-⟩
   · exact rapply_admit t o ao cap w hS hl hT e hO
   · exact rapply_remove t o ao cap w hS hl hT e hO
   · exact rapply_resize t o ao cap w hS hl hT e hO
   · exact rapply_mode t o ao cap w hS hl hT e hO
end Go.Proofs.YteempfoajgblaaaGreat.Tb
