/- horariumlaw20.RegistryRefuses answers true at every two rows of ops by numbers: what is refused changes nothing, on the disk neither. No condition. -/
import Derived.Test.YteempfoajgblaaaGreatKRgK
import Derived.Deep.CutBlock
import Derived.Deep.DeepCutAuto
import Derived.Test.YteempfoajgblaaaGreatKGnH
namespace Go.Proofs.YteempfoajgblaaaGreat.registryRefuses
open Go.ChangeShapes Go.WideShapes Go.ChangeAt Go.RowKit Go.Joins
set_option maxRecDepth 100000
set_option linter.unusedVariables false
set_option linter.unusedSimpArgs false
open Dk (Dk DS Own Moved ptr)
open Jn (JL Jt Jd Kp Since)
open Ox (Od)
open Pm (Tk)
open Ju (mayR fitsR Nm opR op_any seen_nm open_nms)
open Tb (Rw tb0 applyR)
open Ge (Seen)
open Rg
def MoRel (q:List Nm) (w W:World) (m:Nat) (s9 s10:Value) (wr:World):Prop:=
 ∃ (i:Nat) (v:Value),i+m=min q.length 3∧s10=.int .i64 (i:Int)∧v=s9∧Ge.Row Tb.tcs 5 45 W.heap.size wr v ((q.take i).map Ju.taskR)∧Below W.heap.size W wr
def RfRel (n:Nat) (w:World) (b g:Nat) (ex:List Tk) (eo:Option Addr) (ec:Nat) (m:Nat) (s11:Value) (wr:World):Prop:=
 ∃ (i k:Nat) (T:Tb.Tb),i+m=n∧s11=.int .i64 (i:Int)∧Rc w.heap.size b g 4 k T (i+1) 18 w wr∧Ge.Row Tb.tcs 5 45 w.heap.size wr (.slice eo ex.length ec) ex
def NxRel (WB:World) (T2:Tb.Tb) (c2:Int) (s14 s15:Value) (wx:World):Prop:=
 ∃ (pn:Nat) (an:Option Addr) (cn:Nat),s14=ptr pn∧s15=.int .i64 c2∧wx.heap[pn]?=some (.cells #[.slice an T2.rows.length cn,.int .i64 T2.mode] 52 (0,0))∧Tb.Sl (.slice an T2.rows.length cn) T2.rows wx an cn∧Below WB.heap.size WB wx
theorem row_kr {B:Nat} {w w':World} {v:Value} {l:List Tk} (h:Ge.Row Tb.tcs 5 45 B w v l) (k:Kr w w'):Ge.Row Tb.tcs 5 45 B w' v l:=
 h.of_blocks fun i hi=>by
  rcases h.2 with ⟨rfl,_⟩ | ⟨g,cap,cur,rfl,hB,hg,rest⟩
  · cases hi
  ·cases hi
   rw [hg]; exact k.keep _ _ _ _ hg (by decide)
theorem rc_mono {B b g n m:Nat} {T:Tb.Tb} {M M' R:Nat} {w0 w:World} (h:Rc B b g n m T M R w0 w) (hM:M≤M'):Rc B b g n m T M' R w0 w:=by
 obtain ⟨j,l,q,nx,N,E,d,ops,S,r,h1,h2,h3,h4,h5,h6,h7⟩:=h
 exact ⟨j,l,q,nx,N,E,d,ops,S,r,h1,h2,h3,h4,h5,by omega,h7⟩
theorem rc_open {B b g n m:Nat} {T:Tb.Tb} {M R:Nat} {w0 w:World} (h:Rc B b g n m T M R w0 w):Calls Tryz.prog 29 #[ptr b] w fun e w'=>e=.returned (.int .i64 0)∧w'=w:=by
 obtain ⟨j,l,q,nx,N,E,d,ops,S,r,h1,-⟩:=h
 exact Dk.open_any B b ⟨S,[],0,r⟩ w h1.jn.dk
set_option maxRecDepth 100000 in
set_option maxHeartbeats 16000000 in
theorem walk (l q:List Nm) (lo qo:Option Addr) (lc qc:Nat) (w:World) (hl:l.length≤9223372036854775807) (hL:Seen Nm.cs 7 lo l w) (hq:q.length≤9223372036854775807) (hQ:Seen Nm.cs 7 qo q w):Calls Tryz.prog 5 #[.slice lo l.length lc,.slice qo q.length qc] w fun e w'=>e=.returned (.bool true)∧Below w.heap.size w w':=by
 have AW:=Lib.hid (fun w=>awake_any w)
 have ND:=Lib.hid (fun w1 (hb:Below w.heap.size w w1)=>(show Calls Tryz.prog 9 #[.int .i64 22] w1 fun e w'=>e=.returned (ptr (w1.heap.size+1))∧Dk w.heap.size (w1.heap.size+1) ⟨zs (18+4),[],0,0⟩ w'∧Below w.heap.size w w' from disk_t 22 w w1 hb (by omega) (by omega)))
 have FO:=Lib.hid (fun b w1 (h:Dk w.heap.size b ⟨zs (18+4),[],0,0⟩ w1) (hb:Below w.heap.size w w1)=>format_c w.heap.size b 4 0 w w1 h hb (Since.below (Nat.le_refl _) hb) (by omega) (by omega) (by omega))
 have DO:=Lib.hid (fun b g m T M R w1 o ex eo ec h hM hE he=>do_c w.heap.size b g 4 m T M R w w1 o ex eo ec h hM hE he)
 have SN:=Lib.hid (fun b g m T M R w1 h hM=>snap_c w.heap.size b g 4 m T M R w w1 h hM)
 have TA:=Lib.hid (fun b g m T M R w1 h=>table_c w.heap.size b g 4 m T M R w w1 h)
 have LE:=Lib.hid (fun b g m T M R w1 h=>left_c w.heap.size b g 4 m T M R w w1 h)
 have OP:=Lib.hid (fun b g m T M R w1 h hM hR=>open_c w.heap.size b g 4 m T M R w w1 h hM hR)
 have SA:=Lib.hid (fun a b ao bo cl ck w1 ha hb h1 h2=>Tb.rsame_any a b ao bo cl ck w1 ha hb h1 h2)
 have RM:=Lib.hid (fun t o ex ao cap eo ec W hS hl hE he=>Ju.rmay_any t o ex ao cap eo ec W hS hl hE he)
 have NS:=Lib.hid hL
 have NQ:=Lib.hid hQ
 clear hL hQ
 go_enter Tryz.func5,Tryz.ntmps5
 go_wp2_with fail
 (with_reducible refine (AW.out _).mono ?_)
 rintro e w1 ⟨rfl,b1⟩
 have ND1:=Lib.hid (ND.out w1 b1)
 clear AW ND b1
 go_wp2_with fail
 (with_reducible refine ND1.out.mono ?_)
 rintro e w2 ⟨rfl,d2,b2⟩
 generalize w1.heap.size+1=b at *
 have FO2:=Lib.hid (FO.out b w2 d2 b2)
 clear ND1 FO d2 b2
 go_wp2_with fail
 (with_reducible refine FO2.out.mono ?_)
 rintro e w3 ⟨g,rfl,r3,-⟩
 have R3:=Lib.hid r3
 have NQ3:=Lib.hid (NQ.out.below r3.bel (Nat.le_refl _))
 clear FO2 r3 NQ
 go_wp2_with fail
 go_loopg [9,10] (min q.length 3) (MoRel q w w3)
 case atStart=>exact ⟨0,_,by omega,rfl,rfl,Ge.row_nil _ _,Below.refl _ _⟩
 case round=>
  obtain ⟨i,v,hi,rfl,rfl,hr,hb⟩:=hrel
  obtain ⟨qa,qk,qcc,rfl⟩:∃ a k c,v=Value.slice a k c:=by obtain ⟨ao,cap,e,-⟩:=Ge.Row.form Tb.tcs_len hr; exact ⟨_,_,_,e⟩
  by_cases hlt:i<q.length∧i<3
  ·obtain ⟨h1,h2⟩:=hlt
   have hx:=List.getElem?_eq_getElem h1
   have MS:Hid ((q.take (i+1)).map Ju.taskR=(q.take i).map Ju.taskR++[Ju.taskR q[i]]):=Lib.hid (by rw [List.take_succ_eq_append_getElem h1,List.map_append]; rfl)
   have hlen:((q.take i).map Ju.taskR).length≤99999:=by rw [List.length_map,List.length_take]; omega
   obtain ⟨xb,off,rfl,hop⟩:=seen_nm NQ3.out hx
   obtain ⟨n0,n1,n2,n3,n4,n5,n6⟩:=hop _ hb
   have hg0:0<gk:=by omega
   have HI:=Lib.hid hi
   have i1:(i:Int)<(q.length:Int):=by omega
   have i2:(i:Int)<3:=by omega
   have TK:=Lib.hid (fun w=>Ju.task_any q[i] w)
   generalize Ju.taskR q[i]=T at *
   generalize q[i]=x at *
   have HR:=Lib.hid hr
   have HB:=Lib.hid hb
   obtain ⟨nk,ni,nc,nd,nt,nm,ns⟩:=x
   obtain ⟨ti,tc,td,tt,tm⟩:=T
   unfold Ju.Nm.v Ju.tkv at TK
   simp only at TK n0 n1 n2 n3 n4 n5 n6
   clear hx hop hi h1 h2 hr hb NQ3
   go_wp2_with fail
   (with_reducible refine (TK.out _).mono ?_)
   rintro e w4 ⟨rfl,b4⟩
   have B4:=Lib.hid (HB.out.trans (b4.mono HB.out.size))
   obtain ⟨v5,w5,ap5,r5,h5⟩:=Ge.row_new Tb.elT (⟨ti,tc,td,tt,tm⟩:Tk) (c:=1) (ty:=75) (HR.out.call b4) B4.out.size hlen 45
   rw [← MS.out] at r5
   have R5:=Lib.hid r5
   have B5:=Lib.hid (B4.out.trans h5)
   clear b4 r5 h5 TK HR HB B4 MS n0 n1 n2 n3 n4 n5 n6
   go_wp2_with (at_builtin; refine Lib.wpList_append_run _ rfl _ _ _ _ rfl _ _ rfl rfl _ _ ap5 ?_)
   go_roundg (gk - 1)
   case measure=>omega
   case rel=>exact ⟨i+1,_,by have:=HI.out; omega,by go_num,rfl,R5.out,B5.out⟩
  ·have hge:(q.length:Int)≤(i:Int)∨((i:Int)<(q.length:Int)∧(3:Int)≤(i:Int)):=by omega
   obtain ⟨ex,hex⟩:∃ ex,ex=(q.take i).map Ju.taskR:=⟨_,rfl⟩
   have hexl:ex.length≤3:=by rw [hex,List.length_map,List.length_take]; omega
   rw [← hex] at hr
   have R6:Hid (Rc w.heap.size b g 4 0 tb0 1 18 w wr):=Lib.hid (R3.out.call hb)
   obtain ⟨eo,ec,hev,-,-,-⟩:=Ge.Row.form Tb.tcs_len hr
   rw [hev] at hr
   rw [hev]
   have X6:Hid (Ge.Row Tb.tcs 5 45 w.heap.size wr (.slice eo ex.length ec) ex):=Lib.hid (by
    have h0:=R3.out.le
    refine ⟨hr.1,?_⟩
    rcases hr.2 with hn | ⟨gg,cap,cur,e1,hB,rest⟩
    · exact .inl hn
    · exact .inr ⟨gg,cap,cur,e1,by omega,rest⟩)
   have HEX:=Lib.hid hexl
   clear hi hlt hr hb R3 NQ3 hex hev hexl
   obtain ⟨n,hn⟩:∃ n,n=min l.length 20:=⟨_,rfl⟩
   have HN:=Lib.hid hn
   clear hn
   generalize hel:ex.length=el at *
   have HEL:=Lib.hid hel
   clear hel
   rcases hge with hge | ⟨hge1,hge2⟩ <;>
   ·go_wp2_with fail
    go_loopg [11] n (RfRel n w b g ex eo ec)
    case atStart=>exact ⟨0,0,tb0,by omega,rfl,R6.out,by rw [HEL.out]; exact X6.out⟩
    case round=>
     obtain ⟨i,k,T,hi,rfl,hrc,hrx⟩:=hrel
     have RC:=Lib.hid hrc
     have RX:=Lib.hid hrx
     clear R6 X6 hrc hrx
     by_cases hlt:i<n
     ·have hil:i<l.length:=by have:=HN.out; omega
      have hi20:i<20:=by have:=HN.out; omega
      have hx:=List.getElem?_eq_getElem hil
      obtain ⟨lb,off,rfl,hop⟩:=seen_nm NS.out hx
      have hop2:∀ W,Below w.heap.size w W→_:=hop
      generalize l[i]=x at *
      have hil1:(i:Int)<(l.length:Int):=by omega
      have hi61:(i:Int)<20:=by omega
      have hiw:IntKind.i64.wrap (i:Int)=(i:Int):=IntWalk.i64_in _ (by omega)
      have hiw1:IntKind.i64.wrap ((i:Int)+1)=(i:Int)+1:=IntWalk.i64_in _ (by omega)
      have HOP:=Lib.hid hop2
      have OPX:=Lib.hid (fun W=>op_any x W)
      obtain ⟨nk,ni,nc,nd,nt,nm,ns⟩:=x
      generalize opR ⟨nk,ni,nc,nd,nt,nm,ns⟩=y at *
      unfold Ju.Nm.v at *
      dsimp only at HOP OPX
      have hkn:=RC.out.few
      have HI:=Lib.hid hi
      have HLT:=Lib.hid hlt
      have HF:=Lib.hid ((Tb.chkT_iff.1 (Ju.fits_zero.1 RC.out.fits).1).2.2.1)
      have TA5:=Lib.hid (TA.out b g k T (i+1) 18 wr RC.out)
      clear hx hop hop2 hi hlt
      go_wp2_with fail
      (with_reducible refine TA5.out.mono ?_)
      rintro e w6 ⟨v6,rfl,⟨ao,cap,rfl,hs⟩,b6⟩
      have bA:=(Below.refl w6.heap.size w6).alloc (Nat.le_refl _) (.cells #[.slice ao T.rows.length cap,.int .i64 T.mode] 52)
      have R6:=Lib.hid ((RC.out.call b6).call bA)
      have X6:=Lib.hid (Ge.Row.call (Ge.Row.call RX.out b6) bA)
      have S6:=Lib.hid (hs.call bA)
      have O6:Hid ((w6.alloc (.cells #[.slice ao T.rows.length cap,.int .i64 T.mode] 52)).heap[w6.heap.size]?=some (.cells #[.slice ao T.rows.length cap,.int .i64 T.mode] 52 (0,0))):=Lib.hid (heap_alloc_new w6 _)
      clear TA5 RC RX hs b6 bA
      unfold Tb.tv
      generalize hq:T.rows.length=qn at *
      generalize hz:T.mode=z at *
      have HQ:=Lib.hid (And.intro hq hz)
      clear hq hz
      go_upto_region 15 with (fail)
      generalize w6.alloc (.cells #[.slice ao qn cap,.int .i64 z] 52)=W6 at *
      generalize w6.heap.size=pb at *
      have LE6:=Lib.hid (LE.out b g k T (i+1) 18 W6 R6.out)
      go_wp2_with fail
      (with_reducible refine LE6.out.mono ?_)
      rintro e w7 ⟨rfl,b7⟩
      have R7:=Lib.hid (R6.out.call b7)
      have X7:=Lib.hid (Ge.Row.call X6.out b7)
      have S7:=Lib.hid (S6.out.call b7)
      have O7:Hid (w7.heap[pb]?=some (.cells #[.slice ao qn cap,.int .i64 z] 52 (0,0))):=Lib.hid ((b7.block pb (Dk.lt_of_heap O6.out)).trans O6.out)
      clear LE6 b7 R6 X6 S6 O6
      have hk4:(((4:Nat):Int) - (k:Int))=4 - (k:Int):=by omega
      rw [hk4]
      obtain ⟨lf,hlf⟩:∃ lf,4 - (k:Int)=lf:=⟨_,rfl⟩
      rw [hlf]
      have HLF:=Lib.hid hlf
      clear hk4 hlf
      go_upto_region 16 with (fail)
      have KP:Hid (∀ W,Below w7.heap.size w7 W→(W.cell? ⟨pb,0,none⟩=some (.slice ao qn cap)∧W.cell? ⟨pb,1,none⟩=some (.int .i64 z))∧W.cell? ⟨lb,off+i*7,none⟩=some (.int .i64 nk)∧W.cell? ⟨lb,off+i*7+1,none⟩=some (.int .i64 ni)∧W.cell? ⟨lb,off+i*7+2,none⟩=some (.int .i64 nc)∧W.cell? ⟨lb,off+i*7+3,none⟩=some (.int .i64 nd)∧W.cell? ⟨lb,off+i*7+4,none⟩=some (.int .i64 nt)∧W.cell? ⟨lb,off+i*7+5,none⟩=some (.int .i64 nm)∧W.cell? ⟨lb,off+i*7+6,none⟩=some (.bool ns)):=Lib.hid (fun W hW=>by
       have h1:=(hW.block pb (Dk.lt_of_heap O7.out)).trans O7.out
       exact ⟨⟨by rw [Lib.cell_of_heap h1]; rfl,by rw [Lib.cell_of_heap h1]; rfl⟩,HOP.out W (R7.out.bel.trans (hW.mono R7.out.le))⟩)
      have RMB:Hid (∀ W,Below w7.heap.size w7 W→Calls Tryz.prog 30 #[.agg #[.slice ao qn cap,.int .i64 z],y.v,.slice eo el ec] W fun e w'=>∃ v,e=.returned (.tuple #[v,.int .i64 (mayR T y ex).2])∧Tb.Told v (mayR T y ex).1 w'∧Below W.heap.size W w'):=Lib.hid (fun W hW=>by
       obtain ⟨eo',ec',he',-,hse,-⟩:=Ge.Row.form Tb.tcs_len (Ge.Row.call X7.out hW)
       have e1:eo'=eo∧ec'=ec:=by cases he'; exact ⟨rfl,rfl⟩
       obtain ⟨rfl,rfl⟩:=e1
       have h2:=S7.out.call hW
       have:=RM.out T y ex ao cap eo' ec' W (by rw [HQ.out.1]; exact h2) (by have:=HF.out; have:=HQ.out.1; omega) hse (by have:=HEX.out; have:=HEL.out; omega)
       unfold Tb.tv at this
       rw [HQ.out.1,HQ.out.2,HEL.out] at this
       exact this)
      have BD:=Lib.hid ((Below.refl w7.heap.size w7).drew)
      have hy:y=y:=rfl
      obtain ⟨yk,⟨yi,yc,yd,yt,ym⟩,ys,yid,ycc,ymo⟩:=y
      unfold Od.v Od.cs at *
      dsimp only at RMB OPX
      go_cut [14,15] (NxRel w7 (mayR T ⟨yk,⟨yi,yc,yd,yt,ym⟩,ys,yid,ycc,ymo⟩ ex).1 (mayR T ⟨yk,⟨yi,yc,yd,yt,ym⟩,ys,yid,ycc,ymo⟩ ex).2)
      case first=>
       generalize mayR T ⟨yk,⟨yi,yc,yd,yt,ym⟩,ys,yid,ycc,ymo⟩ ex=MR at *
       obtain ⟨M1,M2⟩:=MR
       dsimp only at RMB ⊢
       have B0:=Lib.hid BD.out
       refine wp_region_held_drew (S:=(fun W'=>(W'.cell? ⟨pb,0,none⟩=some (.slice ao qn cap)∧W'.cell? ⟨pb,1,none⟩=some (.int .i64 z))∧W'.cell? ⟨lb,off+i*7,none⟩=some (.int .i64 nk)∧W'.cell? ⟨lb,off+i*7+1,none⟩=some (.int .i64 ni)∧W'.cell? ⟨lb,off+i*7+2,none⟩=some (.int .i64 nc)∧W'.cell? ⟨lb,off+i*7+3,none⟩=some (.int .i64 nd)∧W'.cell? ⟨lb,off+i*7+4,none⟩=some (.int .i64 nt)∧W'.cell? ⟨lb,off+i*7+5,none⟩=some (.int .i64 nm)∧W'.cell? ⟨lb,off+i*7+6,none⟩=some (.bool ns))) (by kernel_rfl) (KP.out _ B0.out) (fun hHeld=>?_)
       refine Gh.tk 0 ?_
       refine Gh.tk 1 ?_
       refine Gh.tk 2 ?_
       refine Gh.tk 3 ?_
       refine Gh.tk 4 ?_
       refine Gh.tk 6 ?_
       refine wpAnyH_ready (rs:=[5,11]) (by kernel_rfl) (by simp) ?_
       refine AllReadyH.cons rfl (fun K hK=>?_) ?_
       ·go_simp
        (with_reducible refine (OPX.out _).mono ?_)
        rintro e wD1 ⟨rfl,bD⟩
        have B1:=Lib.hid (B0.out.trans (bD.mono B0.out.size))
        clear bD
        go_simp
        refine hK.out _ _ ((KP.out _ B1.out)) (fun hHeld=>?_)
        clear hK K
        refine Gh.pt ?_
        refine wpAnyH_ready (rs:=[7,11]) (by kernel_rfl) (by simp) ?_
        refine AllReadyH.cons rfl (fun K hK=>?_) ?_
        ·go_simp
         (with_reducible refine (RMB.out _ B1.out).mono ?_)
         rintro e wD2 ⟨vD,rfl,⟨an,cn,rfl,hsD⟩,bD⟩
         have B2:=Lib.hid (B1.out.trans (bD.mono B1.out.size))
         have SD2:=Lib.hid hsD
         unfold Tb.tv
         clear bD hsD
         go_simp
         refine hK.out _ _ ((KP.out _ B2.out)) (fun hHeld=>?_)
         clear hK K
         refine Gh.pt ?_
         refine Gh.tk 8 ?_
         refine Gh.tk 9 ?_
         refine Gh.tk 10 ?_
         refine Gh.rd 11 (fun K hK=>?_)
         obtain ⟨pn,hpn⟩:∃ p,wD2.heap.size=p:=⟨_,rfl⟩
         have B3:=Lib.hid (B2.out.alloc B2.out.size (.cells #[.slice none 0 0,.int .i64 0] 52))
         have PB3:Hid ((wD2.alloc (.cells #[.slice none 0 0,.int .i64 0] 52)).heap[pn]?=some (.cells #[.slice none 0 0,.int .i64 0] 52 (0,0))):=Lib.hid (by rw [← hpn]; exact heap_alloc_new _ _)
         have GE3:Hid (w7.heap.size≤pn):=Lib.hid (by rw [← hpn]; exact B2.out.size)
         have SD3:=Lib.hid (SD2.out.call ((Below.refl _ _).alloc (Nat.le_refl _) (.cells #[.slice none 0 0,.int .i64 0] 52)))
         go_simp
         (try rw [hpn])
         clear hpn
         refine hK.out _ _ ((KP.out _ B3.out)) (fun hHeld=>?_)
         clear hK K
         refine Gh.pt ?_
         refine Gh.rd 12 (fun K hK=>?_)
         have F0:=Lib.frozen_of_heap PB3.out 0
         have F1:=Lib.frozen_of_heap PB3.out 1
         have y0:(wD2.alloc (.cells #[.slice none 0 0,.int .i64 0] 52)).cell? ⟨pn,0,none⟩=some (.slice none 0 0):=by rw [Lib.cell_of_heap PB3.out]; rfl
         have y1:(wD2.alloc (.cells #[.slice none 0 0,.int .i64 0] 52)).cell? ⟨pn,1,none⟩=some (.int .i64 0):=by rw [Lib.cell_of_heap PB3.out]; rfl
         have PZ:Hid ((((wD2.alloc (.cells #[.slice none 0 0,.int .i64 0] 52)).setCell ⟨pn,0,none⟩ (.slice an M1.rows.length cn)).setCell ⟨pn,1,none⟩ (.int .i64 M1.mode)).heap[pn]?=some (.cells #[.slice an M1.rows.length cn,.int .i64 M1.mode] 52 (0,0))):=Lib.hid (by simp [World.setCell,Array.getElem?_modify,PB3.out])
         have BZ:Hid (Below w7.heap.size w7 (((wD2.alloc (.cells #[.slice none 0 0,.int .i64 0] 52)).setCell ⟨pn,0,none⟩ (.slice an M1.rows.length cn)).setCell ⟨pn,1,none⟩ (.int .i64 M1.mode))):=Lib.hid ((B3.out.setCell GE3.out _).setCell GE3.out _)
         have SZ:Hid (Tb.Sl (.slice an M1.rows.length cn) M1.rows (((wD2.alloc (.cells #[.slice none 0 0,.int .i64 0] 52)).setCell ⟨pn,0,none⟩ (.slice an M1.rows.length cn)).setCell ⟨pn,1,none⟩ (.int .i64 M1.mode)) an cn):=Lib.hid (sl_box SD3.out PB3.out (by decide) _ _)
         go_simp
         refine hK.out _ _ ((KP.out _ BZ.out)) (fun hHeld=>?_)
         clear hK K
         refine Gh.pt ?_
         refine Gh.tk 13 ?_
         refine wpAnyH_done (by kernel_rfl) ?_ _
         clear hHeld
         go_wp2_with fail
         go_meet
         exact ⟨pn,an,cn,rfl,rfl,PZ.out,SZ.out,BZ.out⟩
        refine AllReadyH.cons rfl (fun K hK=>?_) ?_
        ·obtain ⟨pn,hpn⟩:∃ p,wD1.heap.size=p:=⟨_,rfl⟩
         have B2:=Lib.hid (B1.out.alloc B1.out.size (.cells #[.slice none 0 0,.int .i64 0] 52))
         have PB2:Hid ((wD1.alloc (.cells #[.slice none 0 0,.int .i64 0] 52)).heap[pn]?=some (.cells #[.slice none 0 0,.int .i64 0] 52 (0,0))):=Lib.hid (by rw [← hpn]; exact heap_alloc_new _ _)
         have GE2:Hid (w7.heap.size≤pn):=Lib.hid (by rw [← hpn]; exact B1.out.size)
         go_simp
         (try rw [hpn])
         clear hpn
         refine hK.out _ _ ((KP.out _ B2.out)) (fun hHeld=>?_)
         clear hK K
         refine Gh.pt ?_
         refine Gh.rd 7 (fun K hK=>?_)
         go_simp
         (with_reducible refine (RMB.out _ B2.out).mono ?_)
         rintro e wD3 ⟨vD,rfl,⟨an,cn,rfl,hsD⟩,bD⟩
         have B3:=Lib.hid (B2.out.trans (bD.mono B2.out.size))
         have SD3:=Lib.hid hsD
         have PB3:Hid (wD3.heap[pn]?=some (.cells #[.slice none 0 0,.int .i64 0] 52 (0,0))):=Lib.hid ((bD.block pn (Dk.lt_of_heap PB2.out)).trans PB2.out)
         unfold Tb.tv
         clear bD hsD
         go_simp
         refine hK.out _ _ ((KP.out _ B3.out)) (fun hHeld=>?_)
         clear hK K
         refine Gh.pt ?_
         refine Gh.tk 8 ?_
         refine Gh.tk 9 ?_
         refine Gh.tk 10 ?_
         refine Gh.rd 12 (fun K hK=>?_)
         have F0:=Lib.frozen_of_heap PB3.out 0
         have F1:=Lib.frozen_of_heap PB3.out 1
         have y0:wD3.cell? ⟨pn,0,none⟩=some (.slice none 0 0):=by rw [Lib.cell_of_heap PB3.out]; rfl
         have y1:wD3.cell? ⟨pn,1,none⟩=some (.int .i64 0):=by rw [Lib.cell_of_heap PB3.out]; rfl
         have PZ:Hid (((wD3.setCell ⟨pn,0,none⟩ (.slice an M1.rows.length cn)).setCell ⟨pn,1,none⟩ (.int .i64 M1.mode)).heap[pn]?=some (.cells #[.slice an M1.rows.length cn,.int .i64 M1.mode] 52 (0,0))):=Lib.hid (by simp [World.setCell,Array.getElem?_modify,PB3.out])
         have BZ:Hid (Below w7.heap.size w7 ((wD3.setCell ⟨pn,0,none⟩ (.slice an M1.rows.length cn)).setCell ⟨pn,1,none⟩ (.int .i64 M1.mode))):=Lib.hid ((B3.out.setCell GE2.out _).setCell GE2.out _)
         have SZ:Hid (Tb.Sl (.slice an M1.rows.length cn) M1.rows ((wD3.setCell ⟨pn,0,none⟩ (.slice an M1.rows.length cn)).setCell ⟨pn,1,none⟩ (.int .i64 M1.mode)) an cn):=Lib.hid (sl_box SD3.out PB3.out (by decide) _ _)
         go_simp
         refine hK.out _ _ ((KP.out _ BZ.out)) (fun hHeld=>?_)
         clear hK K
         refine Gh.pt ?_
         refine Gh.tk 13 ?_
         refine wpAnyH_done (by kernel_rfl) ?_ _
         clear hHeld
         go_wp2_with fail
         go_meet
         exact ⟨pn,an,cn,rfl,rfl,PZ.out,SZ.out,BZ.out⟩
        exact AllReadyH.nil
       refine AllReadyH.cons rfl (fun K hK=>?_) ?_
       ·obtain ⟨pn,hpn⟩:∃ p,w7.drew.heap.size=p:=⟨_,rfl⟩
        have B1:=Lib.hid (B0.out.alloc B0.out.size (.cells #[.slice none 0 0,.int .i64 0] 52))
        have PB1:Hid ((w7.drew.alloc (.cells #[.slice none 0 0,.int .i64 0] 52)).heap[pn]?=some (.cells #[.slice none 0 0,.int .i64 0] 52 (0,0))):=Lib.hid (by rw [← hpn]; exact heap_alloc_new _ _)
        have GE1:Hid (w7.heap.size≤pn):=Lib.hid (by rw [← hpn]; exact B0.out.size)
        go_simp
        (try rw [hpn])
        clear hpn
        refine hK.out _ _ ((KP.out _ B1.out)) (fun hHeld=>?_)
        clear hK K
        refine Gh.pt ?_
        refine Gh.rd 5 (fun K hK=>?_)
        go_simp
        (with_reducible refine (OPX.out _).mono ?_)
        rintro e wD2 ⟨rfl,bD⟩
        have B2:=Lib.hid (B1.out.trans (bD.mono B1.out.size))
        have PB2:Hid (wD2.heap[pn]?=some (.cells #[.slice none 0 0,.int .i64 0] 52 (0,0))):=Lib.hid ((bD.block pn (Dk.lt_of_heap PB1.out)).trans PB1.out)
        clear bD
        go_simp
        refine hK.out _ _ ((KP.out _ B2.out)) (fun hHeld=>?_)
        clear hK K
        refine Gh.pt ?_
        refine Gh.rd 7 (fun K hK=>?_)
        go_simp
        (with_reducible refine (RMB.out _ B2.out).mono ?_)
        rintro e wD3 ⟨vD,rfl,⟨an,cn,rfl,hsD⟩,bD⟩
        have B3:=Lib.hid (B2.out.trans (bD.mono B2.out.size))
        have SD3:=Lib.hid hsD
        have PB3:Hid (wD3.heap[pn]?=some (.cells #[.slice none 0 0,.int .i64 0] 52 (0,0))):=Lib.hid ((bD.block pn (Dk.lt_of_heap PB2.out)).trans PB2.out)
        unfold Tb.tv
        clear bD hsD
        go_simp
        refine hK.out _ _ ((KP.out _ B3.out)) (fun hHeld=>?_)
        clear hK K
        refine Gh.pt ?_
        refine Gh.tk 8 ?_
        refine Gh.tk 9 ?_
        refine Gh.tk 10 ?_
        refine Gh.rd 12 (fun K hK=>?_)
        have F0:=Lib.frozen_of_heap PB3.out 0
        have F1:=Lib.frozen_of_heap PB3.out 1
        have y0:wD3.cell? ⟨pn,0,none⟩=some (.slice none 0 0):=by rw [Lib.cell_of_heap PB3.out]; rfl
        have y1:wD3.cell? ⟨pn,1,none⟩=some (.int .i64 0):=by rw [Lib.cell_of_heap PB3.out]; rfl
        have PZ:Hid (((wD3.setCell ⟨pn,0,none⟩ (.slice an M1.rows.length cn)).setCell ⟨pn,1,none⟩ (.int .i64 M1.mode)).heap[pn]?=some (.cells #[.slice an M1.rows.length cn,.int .i64 M1.mode] 52 (0,0))):=Lib.hid (by simp [World.setCell,Array.getElem?_modify,PB3.out])
        have BZ:Hid (Below w7.heap.size w7 ((wD3.setCell ⟨pn,0,none⟩ (.slice an M1.rows.length cn)).setCell ⟨pn,1,none⟩ (.int .i64 M1.mode))):=Lib.hid ((B3.out.setCell GE1.out _).setCell GE1.out _)
        have SZ:Hid (Tb.Sl (.slice an M1.rows.length cn) M1.rows ((wD3.setCell ⟨pn,0,none⟩ (.slice an M1.rows.length cn)).setCell ⟨pn,1,none⟩ (.int .i64 M1.mode)) an cn):=Lib.hid (sl_box SD3.out PB3.out (by decide) _ _)
        go_simp
        refine hK.out _ _ ((KP.out _ BZ.out)) (fun hHeld=>?_)
        clear hK K
        refine Gh.pt ?_
        refine Gh.tk 13 ?_
        refine wpAnyH_done (by kernel_rfl) ?_ _
        clear hHeld
        go_wp2_with fail
        go_meet
        exact ⟨pn,an,cn,rfl,rfl,PZ.out,SZ.out,BZ.out⟩
       exact AllReadyH.nil
      case rest=>
       obtain ⟨pn,an,cn,rfl,rfl,hob,hsn,hbn⟩:=hcut
       have hml:=may_rows T ⟨yk,⟨yi,yc,yd,yt,ym⟩,ys,yid,ycc,ymo⟩ ex
       have DO8:=Lib.hid (fun W h hE=>DO.out b g k T (i+1) 18 W ⟨yk,⟨yi,yc,yd,yt,ym⟩,ys,yid,ycc,ymo⟩ ex eo ec h (by omega) hE (by have:=HEX.out; have:=HEL.out; omega))
       unfold Did at DO8
       generalize mayR T ⟨yk,⟨yi,yc,yd,yt,ym⟩,ys,yid,ycc,ymo⟩ ex=MR at *
       obtain ⟨T2,c2⟩:=MR
       (try unfold Od.v Od.cs at DO8)
       dsimp only at DO8 hob hsn hml ⊢
       rw [HEL.out] at DO8
       obtain ⟨q2,hq2⟩:∃ q,T2.rows.length=q:=⟨_,rfl⟩
       obtain ⟨z2,hz2⟩:∃ z,T2.mode=z:=⟨_,rfl⟩
       rw [hq2,hz2] at hob
       rw [hq2] at hsn hml
       have HQ2:=Lib.hid (And.intro hq2 hz2)
       have HML:=Lib.hid hml
       have R8:=Lib.hid (R7.out.call hbn)
       have X8:=Lib.hid (Ge.Row.call X7.out hbn)
       have S8:=Lib.hid (S7.out.call hbn)
       have O8:Hid (wc.heap[pb]?=some (.cells #[.slice ao qn cap,.int .i64 z] 52 (0,0))):=Lib.hid ((hbn.block pb (Dk.lt_of_heap O7.out)).trans O7.out)
       have P8:=Lib.hid hob
       have N8:=Lib.hid hsn
       obtain ⟨x0,x1,x2,x3,x4,x5,x6⟩:=HOP.out wc R8.out.bel
       clear R7 X7 S7 O7 hob hsn hbn hml hq2 hz2 KP RMB BD RM DO
       go_wp2_with fail
       (with_reducible refine (OPX.out _).mono ?_)
       rintro e w9 ⟨rfl,b9⟩
       have R9:=Lib.hid (R8.out.call b9)
       have X9:=Lib.hid (Ge.Row.call X8.out b9)
       have S9:=Lib.hid (S8.out.call b9)
       have O9:Hid (w9.heap[pb]?=some (.cells #[.slice ao qn cap,.int .i64 z] 52 (0,0))):=Lib.hid ((b9.block pb (Dk.lt_of_heap O8.out)).trans O8.out)
       have P9:Hid (w9.heap[pn]?=some (.cells #[.slice an q2 cn,.int .i64 z2] 52 (0,0))):=Lib.hid ((b9.block pn (Dk.lt_of_heap P8.out)).trans P8.out)
       have N9:=Lib.hid (N8.out.call b9)
       have E9:Hid (Seen Tb.tcs 5 eo ex w9):=Lib.hid (by
        obtain ⟨eo',ec',he',-,hse,-⟩:=Ge.Row.form Tb.tcs_len X9.out
        have e1:eo'=eo:=by cases he'; rfl
        rw [e1] at hse; exact hse)
       have DO9:=Lib.hid (DO8.out w9 R9.out E9.out)
       have SX:Hid (∀ (a b:Tb.Tb) (ao bo:Option Addr) (qa qb:Nat) (za zb:Int) (ca cb:Nat) (W:World),a.rows.length=qa→a.mode=za→b.rows.length=qb→b.mode=zb→qa≤1000→qb≤1000→Tb.Sl (.slice ao qa ca) a.rows W ao ca→Tb.Sl (.slice bo qb cb) b.rows W bo cb→Calls Tryz.prog 24 #[.agg #[.slice ao qa ca,.int .i64 za],.agg #[.slice bo qb cb,.int .i64 zb]] W fun e w'=>e=.returned (.bool (Tb.sameT a b))∧Below W.heap.size W w'):=Lib.hid (fun a b ao bo qa qb za zb ca cb W h1 h2 h3 h4 h5 h6 ha hb=>by
        subst h1 h2 h3 h4
        exact SA.out a b ao bo ca cb W ha.seen hb.seen h5 h6)
       have HQN:Hid (qn≤1000):=Lib.hid (by have:=HF.out; have:=HQ.out.1; omega)
       have HQ3:Hid (q2≤1000):=Lib.hid (by have:=HML.out; omega)
       clear b9 R8 X8 S8 O8 P8 N8 DO8 OPX x0 x1 x2 x3 x4 x5 x6 E9 HML SA HF
       go_wp2_with fail
       (with_reducible refine DO9.out.mono ?_)
       rintro e w10 ⟨cc,m2,T3,rfl,hd,hr,hk⟩
       have R10:=Lib.hid hr
       have X10:=Lib.hid (row_kr X9.out hk)
       have S10:=Lib.hid (sl_kr S9.out hk)
       have O10:=Lib.hid (hk.keep _ _ _ _ O9.out (by decide))
       have P10:=Lib.hid (hk.keep _ _ _ _ P9.out (by decide))
       have N10:=Lib.hid (sl_kr N9.out hk)
       clear hr hk DO9 R9 X9 S9 O9 P9 N9
       rcases hd with ⟨hc2,rfl,e2,e3⟩ | ⟨hc2,hk4,rfl,e2,e3⟩ | ⟨hc2,hk4,rfl,rfl,e3⟩
       ·obtain rfl:=e2.symm
        obtain rfl:=e3.symm
        clear e2 e3
        have hcc:(cc == 0)=false:=by simpa using hc2
        have hce:(cc != cc)=false:=by simp
        have hcn:(cc != 0)=true:=by simpa using hc2
        by_cases h22:cc=22
        ·subst h22
         have TA10:=Lib.hid (TA.out b g k T (i+1) 18 w10 R10.out)
         go_wp2_with fail
         (with_reducible refine TA10.out.mono ?_)
         rintro e w11 ⟨v11,rfl,⟨bo,ck,rfl,hs11⟩,b11⟩
         unfold Tb.tv
         rw [HQ.out.1] at hs11
         rw [HQ.out.1,HQ.out.2]
         have bA:=(Below.refl w11.heap.size w11).alloc (Nat.le_refl _) (.cells #[.slice bo qn ck,.int .i64 z] 52)
         have R11:=Lib.hid ((R10.out.call b11).call bA)
         have X11:=Lib.hid (Ge.Row.call (Ge.Row.call X10.out b11) bA)
         have S11:=Lib.hid ((S10.out.call b11).call bA)
         have N11:=Lib.hid ((N10.out.call b11).call bA)
         have W11:=Lib.hid (hs11.call bA)
         have bB:=b11.trans (bA.mono b11.size)
         have O11:Hid ((w11.alloc (.cells #[.slice bo qn ck,.int .i64 z] 52)).heap[pb]?=some (.cells #[.slice ao qn cap,.int .i64 z] 52 (0,0))):=Lib.hid ((bB.block pb (Dk.lt_of_heap O10.out)).trans O10.out)
         have P11:Hid ((w11.alloc (.cells #[.slice bo qn ck,.int .i64 z] 52)).heap[pn]?=some (.cells #[.slice an q2 cn,.int .i64 z2] 52 (0,0))):=Lib.hid ((bB.block pn (Dk.lt_of_heap P10.out)).trans P10.out)
         have Q11:Hid ((w11.alloc (.cells #[.slice bo qn ck,.int .i64 z] 52)).heap[w11.heap.size]?=some (.cells #[.slice bo qn ck,.int .i64 z] 52 (0,0))):=Lib.hid (heap_alloc_new w11 _)
         clear TA10 b11 bA bB hs11 R10 X10 S10 O10 P10 N10
         go_upto_region 19 with (fail)
         generalize w11.alloc (.cells #[.slice bo qn ck,.int .i64 z] 52)=W11w at *
         generalize w11.heap.size=pw at *
         have c0:W11w.cell? ⟨pb,0,none⟩=some (.slice ao qn cap):=by rw [Lib.cell_of_heap O11.out]; rfl
         have c1:W11w.cell? ⟨pb,1,none⟩=some (.int .i64 z):=by rw [Lib.cell_of_heap O11.out]; rfl
         have d0:W11w.cell? ⟨pw,0,none⟩=some (.slice bo qn ck):=by rw [Lib.cell_of_heap Q11.out]; rfl
         have d1:W11w.cell? ⟨pw,1,none⟩=some (.int .i64 z):=by rw [Lib.cell_of_heap Q11.out]; rfl
         have S1:=Lib.hid (SX.out T T bo ao qn qn z z ck cap W11w HQ.out.1 HQ.out.2 HQ.out.1 HQ.out.2 HQN.out HQN.out W11.out S11.out)
         go_wp2_with fail
         (with_reducible refine S1.out.mono ?_)
         rintro e w12 ⟨rfl,b12⟩
         have e0:w12.cell? ⟨pn,0,none⟩=some (.slice an q2 cn):=by rw [Lib.cell_of_heap ((b12.block pn (Dk.lt_of_heap P11.out)).trans P11.out)]; rfl
         have e1:w12.cell? ⟨pn,1,none⟩=some (.int .i64 z2):=by rw [Lib.cell_of_heap ((b12.block pn (Dk.lt_of_heap P11.out)).trans P11.out)]; rfl
         have f0:=carry b12 d0
         have f1:=carry b12 d1
         have R12:=Lib.hid (R11.out.call b12)
         have X12:=Lib.hid (Ge.Row.call X11.out b12)
         have S2:=Lib.hid (SX.out T T2 bo an qn q2 z z2 ck cn w12 HQ.out.1 HQ.out.2 HQ2.out.1 HQ2.out.2 HQN.out HQ3.out (W11.out.call b12) (N11.out.call b12))
         clear S1 b12 c0 c1 d0 d1 R11 X11 S11 N11 W11 O11 P11 Q11
         go_wp2_with fail
         (with_reducible refine S2.out.mono ?_)
         rintro e w13 ⟨rfl,b13⟩
         have R13:=Lib.hid (R12.out.call b13)
         have X13:=Lib.hid (Ge.Row.call X12.out b13)
         have LE13:=Lib.hid (LE.out b g k T (i+1) 18 w13 R13.out)
         clear S2 b13 e0 e1 f0 f1 R12 X12
         rw [show Tb.sameT T T=true by unfold Tb.sameT; simp]
         generalize Tb.sameT T T2=bs at *
         go_wp2_with fail
         (with_reducible refine LE13.out.mono ?_)
         rintro e w14 ⟨rfl,b14⟩
         have R14:=Lib.hid (R13.out.call b14)
         have X14:=Lib.hid (Ge.Row.call X13.out b14)
         have OO:=Lib.hid (rc_open R14.out)
         rw [show ((4:Nat):Int) - (k:Int)=lf by have:=HLF.out; omega]
         have hle:(lf != lf)=false:=by simp
         clear LE13 b14 R13 X13
         go_wp2_with fail
         (with_reducible refine OO.out.mono ?_)
         rintro e w15 ⟨rfl,rfl⟩
         clear OO
         have SN15:=Lib.hid (SN.out b g k T (i+1) 18 _ R14.out (by omega))
         go_wp2_with fail
         (with_reducible refine SN15.out.mono ?_)
         rintro e w16 ⟨rfl,r16,k16⟩
         have R16:=Lib.hid r16
         have X16:=Lib.hid (row_kr X14.out k16)
         clear SN15 r16 k16 R14 X14
         go_wp2
         go_roundg (n - (i+1))
         case measure=>have:=HI.out; have:=HLT.out; omega
         case rel=>exact ⟨i+1,0,T,by have:=HLT.out; omega,by go_num,R16.out,by first | exact X16.out | (rw [HEL.out]; exact X16.out)⟩
        ·have hc22:(cc == 22)=false:=by simpa using h22
         have TA10:=Lib.hid (TA.out b g k T (i+1) 18 w10 R10.out)
         go_wp2_with fail
         (with_reducible refine TA10.out.mono ?_)
         rintro e w11 ⟨v11,rfl,⟨bo,ck,rfl,hs11⟩,b11⟩
         unfold Tb.tv
         rw [HQ.out.1] at hs11
         rw [HQ.out.1,HQ.out.2]
         have bA:=(Below.refl w11.heap.size w11).alloc (Nat.le_refl _) (.cells #[.slice bo qn ck,.int .i64 z] 52)
         have R11:=Lib.hid ((R10.out.call b11).call bA)
         have X11:=Lib.hid (Ge.Row.call (Ge.Row.call X10.out b11) bA)
         have S11:=Lib.hid ((S10.out.call b11).call bA)
         have N11:=Lib.hid ((N10.out.call b11).call bA)
         have W11:=Lib.hid (hs11.call bA)
         have bB:=b11.trans (bA.mono b11.size)
         have O11:Hid ((w11.alloc (.cells #[.slice bo qn ck,.int .i64 z] 52)).heap[pb]?=some (.cells #[.slice ao qn cap,.int .i64 z] 52 (0,0))):=Lib.hid ((bB.block pb (Dk.lt_of_heap O10.out)).trans O10.out)
         have P11:Hid ((w11.alloc (.cells #[.slice bo qn ck,.int .i64 z] 52)).heap[pn]?=some (.cells #[.slice an q2 cn,.int .i64 z2] 52 (0,0))):=Lib.hid ((bB.block pn (Dk.lt_of_heap P10.out)).trans P10.out)
         have Q11:Hid ((w11.alloc (.cells #[.slice bo qn ck,.int .i64 z] 52)).heap[w11.heap.size]?=some (.cells #[.slice bo qn ck,.int .i64 z] 52 (0,0))):=Lib.hid (heap_alloc_new w11 _)
         clear TA10 b11 bA bB hs11 R10 X10 S10 O10 P10 N10
         go_upto_region 19 with (fail)
         generalize w11.alloc (.cells #[.slice bo qn ck,.int .i64 z] 52)=W11w at *
         generalize w11.heap.size=pw at *
         have c0:W11w.cell? ⟨pb,0,none⟩=some (.slice ao qn cap):=by rw [Lib.cell_of_heap O11.out]; rfl
         have c1:W11w.cell? ⟨pb,1,none⟩=some (.int .i64 z):=by rw [Lib.cell_of_heap O11.out]; rfl
         have d0:W11w.cell? ⟨pw,0,none⟩=some (.slice bo qn ck):=by rw [Lib.cell_of_heap Q11.out]; rfl
         have d1:W11w.cell? ⟨pw,1,none⟩=some (.int .i64 z):=by rw [Lib.cell_of_heap Q11.out]; rfl
         have S1:=Lib.hid (SX.out T T bo ao qn qn z z ck cap W11w HQ.out.1 HQ.out.2 HQ.out.1 HQ.out.2 HQN.out HQN.out W11.out S11.out)
         go_wp2_with fail
         (with_reducible refine S1.out.mono ?_)
         rintro e w12 ⟨rfl,b12⟩
         have e0:w12.cell? ⟨pn,0,none⟩=some (.slice an q2 cn):=by rw [Lib.cell_of_heap ((b12.block pn (Dk.lt_of_heap P11.out)).trans P11.out)]; rfl
         have e1:w12.cell? ⟨pn,1,none⟩=some (.int .i64 z2):=by rw [Lib.cell_of_heap ((b12.block pn (Dk.lt_of_heap P11.out)).trans P11.out)]; rfl
         have f0:=carry b12 d0
         have f1:=carry b12 d1
         have R12:=Lib.hid (R11.out.call b12)
         have X12:=Lib.hid (Ge.Row.call X11.out b12)
         have S2:=Lib.hid (SX.out T T2 bo an qn q2 z z2 ck cn w12 HQ.out.1 HQ.out.2 HQ2.out.1 HQ2.out.2 HQN.out HQ3.out (W11.out.call b12) (N11.out.call b12))
         clear S1 b12 c0 c1 d0 d1 R11 X11 S11 N11 W11 O11 P11 Q11
         go_wp2_with fail
         (with_reducible refine S2.out.mono ?_)
         rintro e w13 ⟨rfl,b13⟩
         have R13:=Lib.hid (R12.out.call b13)
         have X13:=Lib.hid (Ge.Row.call X12.out b13)
         have LE13:=Lib.hid (LE.out b g k T (i+1) 18 w13 R13.out)
         clear S2 b13 e0 e1 f0 f1 R12 X12
         rw [show Tb.sameT T T=true by unfold Tb.sameT; simp]
         generalize Tb.sameT T T2=bs at *
         go_wp2_with fail
         (with_reducible refine LE13.out.mono ?_)
         rintro e w14 ⟨rfl,b14⟩
         have R14:=Lib.hid (R13.out.call b14)
         have X14:=Lib.hid (Ge.Row.call X13.out b14)
         have OO:=Lib.hid (rc_open R14.out)
         rw [show ((4:Nat):Int) - (k:Int)=lf by have:=HLF.out; omega]
         have hle:(lf != lf)=false:=by simp
         clear LE13 b14 R13 X13
         go_wp2_with fail
         (with_reducible refine OO.out.mono ?_)
         rintro e w15 ⟨rfl,rfl⟩
         clear OO
         go_wp2
         go_roundg (n - (i+1))
         case measure=>have:=HI.out; have:=HLT.out; omega
         case rel=>exact ⟨i+1,k,T,by have:=HLT.out; omega,by go_num,rc_mono R14.out (by omega),by first | exact X14.out | (rw [HEL.out]; exact X14.out)⟩
       ·obtain rfl:=e2.symm
        obtain rfl:=e3.symm
        clear e2 e3
        obtain rfl:c2=0:=hc2
        obtain rfl:lf=0:=by have:=HLF.out; omega
        have TA10:=Lib.hid (TA.out b g k T (i+1) 18 w10 R10.out)
        go_wp2_with fail
        (with_reducible refine TA10.out.mono ?_)
        rintro e w11 ⟨v11,rfl,⟨bo,ck,rfl,hs11⟩,b11⟩
        unfold Tb.tv
        rw [HQ.out.1] at hs11
        rw [HQ.out.1,HQ.out.2]
        have bA:=(Below.refl w11.heap.size w11).alloc (Nat.le_refl _) (.cells #[.slice bo qn ck,.int .i64 z] 52)
        have R11:=Lib.hid ((R10.out.call b11).call bA)
        have X11:=Lib.hid (Ge.Row.call (Ge.Row.call X10.out b11) bA)
        have S11:=Lib.hid ((S10.out.call b11).call bA)
        have N11:=Lib.hid ((N10.out.call b11).call bA)
        have W11:=Lib.hid (hs11.call bA)
        have bB:=b11.trans (bA.mono b11.size)
        have O11:Hid ((w11.alloc (.cells #[.slice bo qn ck,.int .i64 z] 52)).heap[pb]?=some (.cells #[.slice ao qn cap,.int .i64 z] 52 (0,0))):=Lib.hid ((bB.block pb (Dk.lt_of_heap O10.out)).trans O10.out)
        have P11:Hid ((w11.alloc (.cells #[.slice bo qn ck,.int .i64 z] 52)).heap[pn]?=some (.cells #[.slice an q2 cn,.int .i64 z2] 52 (0,0))):=Lib.hid ((bB.block pn (Dk.lt_of_heap P10.out)).trans P10.out)
        have Q11:Hid ((w11.alloc (.cells #[.slice bo qn ck,.int .i64 z] 52)).heap[w11.heap.size]?=some (.cells #[.slice bo qn ck,.int .i64 z] 52 (0,0))):=Lib.hid (heap_alloc_new w11 _)
        clear TA10 b11 bA bB hs11 R10 X10 S10 O10 P10 N10
        go_upto_region 19 with (fail)
        generalize w11.alloc (.cells #[.slice bo qn ck,.int .i64 z] 52)=W11w at *
        generalize w11.heap.size=pw at *
        have c0:W11w.cell? ⟨pb,0,none⟩=some (.slice ao qn cap):=by rw [Lib.cell_of_heap O11.out]; rfl
        have c1:W11w.cell? ⟨pb,1,none⟩=some (.int .i64 z):=by rw [Lib.cell_of_heap O11.out]; rfl
        have d0:W11w.cell? ⟨pw,0,none⟩=some (.slice bo qn ck):=by rw [Lib.cell_of_heap Q11.out]; rfl
        have d1:W11w.cell? ⟨pw,1,none⟩=some (.int .i64 z):=by rw [Lib.cell_of_heap Q11.out]; rfl
        have S1:=Lib.hid (SX.out T T bo ao qn qn z z ck cap W11w HQ.out.1 HQ.out.2 HQ.out.1 HQ.out.2 HQN.out HQN.out W11.out S11.out)
        go_wp2_with fail
        (with_reducible refine S1.out.mono ?_)
        rintro e w12 ⟨rfl,b12⟩
        have e0:w12.cell? ⟨pn,0,none⟩=some (.slice an q2 cn):=by rw [Lib.cell_of_heap ((b12.block pn (Dk.lt_of_heap P11.out)).trans P11.out)]; rfl
        have e1:w12.cell? ⟨pn,1,none⟩=some (.int .i64 z2):=by rw [Lib.cell_of_heap ((b12.block pn (Dk.lt_of_heap P11.out)).trans P11.out)]; rfl
        have f0:=carry b12 d0
        have f1:=carry b12 d1
        have R12:=Lib.hid (R11.out.call b12)
        have X12:=Lib.hid (Ge.Row.call X11.out b12)
        have S2:=Lib.hid (SX.out T T2 bo an qn q2 z z2 ck cn w12 HQ.out.1 HQ.out.2 HQ2.out.1 HQ2.out.2 HQN.out HQ3.out (W11.out.call b12) (N11.out.call b12))
        clear S1 b12 c0 c1 d0 d1 R11 X11 S11 N11 W11 O11 P11 Q11
        go_wp2_with fail
        (with_reducible refine S2.out.mono ?_)
        rintro e w13 ⟨rfl,b13⟩
        have R13:=Lib.hid (R12.out.call b13)
        have X13:=Lib.hid (Ge.Row.call X12.out b13)
        have LE13:=Lib.hid (LE.out b g k T (i+1) 18 w13 R13.out)
        clear S2 b13 e0 e1 f0 f1 R12 X12
        rw [show Tb.sameT T T=true by unfold Tb.sameT; simp]
        generalize Tb.sameT T T2=bs at *
        go_wp2_with fail
        (with_reducible refine LE13.out.mono ?_)
        rintro e w14 ⟨rfl,b14⟩
        have R14:=Lib.hid (R13.out.call b14)
        have X14:=Lib.hid (Ge.Row.call X13.out b14)
        have OO:=Lib.hid (rc_open R14.out)
        rw [show ((4:Nat):Int) - (k:Int)=0 by have:=HLF.out; omega]
        clear LE13 b14 R13 X13
        go_wp2_with fail
        (with_reducible refine OO.out.mono ?_)
        rintro e w15 ⟨rfl,rfl⟩
        clear OO
        have SN15:=Lib.hid (SN.out b g k T (i+1) 18 _ R14.out (by omega))
        go_wp2_with fail
        (with_reducible refine SN15.out.mono ?_)
        rintro e w16 ⟨rfl,r16,k16⟩
        have R16:=Lib.hid r16
        have X16:=Lib.hid (row_kr X14.out k16)
        clear SN15 r16 k16 R14 X14
        go_wp2
        go_roundg (n - (i+1))
        case measure=>have:=HI.out; have:=HLT.out; omega
        case rel=>exact ⟨i+1,0,T,by have:=HLT.out; omega,by go_num,R16.out,by first | exact X16.out | (rw [HEL.out]; exact X16.out)⟩
       ·obtain rfl:=e3.symm
        clear e3
        obtain rfl:c2=0:=hc2
        have hl0:(lf == 0)=false:=by have:=HLF.out; simp; omega
        have hlw:IntKind.i64.wrap (lf - 1)=lf - 1:=by have:=HLF.out; exact IntWalk.i64_in _ (by omega)
        have hll:(lf - 1 != lf - 1)=false:=by simp
        have TA10:=Lib.hid (TA.out b g (k+1) T2 (i+1) 18 w10 R10.out)
        go_wp2_with fail
        (with_reducible refine TA10.out.mono ?_)
        rintro e w11 ⟨v11,rfl,⟨bo,ck,rfl,hs11⟩,b11⟩
        unfold Tb.tv
        rw [HQ2.out.1] at hs11
        rw [HQ2.out.1,HQ2.out.2]
        have bA:=(Below.refl w11.heap.size w11).alloc (Nat.le_refl _) (.cells #[.slice bo q2 ck,.int .i64 z2] 52)
        have R11:=Lib.hid ((R10.out.call b11).call bA)
        have X11:=Lib.hid (Ge.Row.call (Ge.Row.call X10.out b11) bA)
        have S11:=Lib.hid ((S10.out.call b11).call bA)
        have N11:=Lib.hid ((N10.out.call b11).call bA)
        have W11:=Lib.hid (hs11.call bA)
        have bB:=b11.trans (bA.mono b11.size)
        have O11:Hid ((w11.alloc (.cells #[.slice bo q2 ck,.int .i64 z2] 52)).heap[pb]?=some (.cells #[.slice ao qn cap,.int .i64 z] 52 (0,0))):=Lib.hid ((bB.block pb (Dk.lt_of_heap O10.out)).trans O10.out)
        have P11:Hid ((w11.alloc (.cells #[.slice bo q2 ck,.int .i64 z2] 52)).heap[pn]?=some (.cells #[.slice an q2 cn,.int .i64 z2] 52 (0,0))):=Lib.hid ((bB.block pn (Dk.lt_of_heap P10.out)).trans P10.out)
        have Q11:Hid ((w11.alloc (.cells #[.slice bo q2 ck,.int .i64 z2] 52)).heap[w11.heap.size]?=some (.cells #[.slice bo q2 ck,.int .i64 z2] 52 (0,0))):=Lib.hid (heap_alloc_new w11 _)
        clear TA10 b11 bA bB hs11 R10 X10 S10 O10 P10 N10
        go_upto_region 19 with (fail)
        generalize w11.alloc (.cells #[.slice bo q2 ck,.int .i64 z2] 52)=W11w at *
        generalize w11.heap.size=pw at *
        have c0:W11w.cell? ⟨pb,0,none⟩=some (.slice ao qn cap):=by rw [Lib.cell_of_heap O11.out]; rfl
        have c1:W11w.cell? ⟨pb,1,none⟩=some (.int .i64 z):=by rw [Lib.cell_of_heap O11.out]; rfl
        have d0:W11w.cell? ⟨pw,0,none⟩=some (.slice bo q2 ck):=by rw [Lib.cell_of_heap Q11.out]; rfl
        have d1:W11w.cell? ⟨pw,1,none⟩=some (.int .i64 z2):=by rw [Lib.cell_of_heap Q11.out]; rfl
        have S1:=Lib.hid (SX.out T2 T bo ao q2 qn z2 z ck cap W11w HQ2.out.1 HQ2.out.2 HQ.out.1 HQ.out.2 HQ3.out HQN.out W11.out S11.out)
        go_wp2_with fail
        (with_reducible refine S1.out.mono ?_)
        rintro e w12 ⟨rfl,b12⟩
        have e0:w12.cell? ⟨pn,0,none⟩=some (.slice an q2 cn):=by rw [Lib.cell_of_heap ((b12.block pn (Dk.lt_of_heap P11.out)).trans P11.out)]; rfl
        have e1:w12.cell? ⟨pn,1,none⟩=some (.int .i64 z2):=by rw [Lib.cell_of_heap ((b12.block pn (Dk.lt_of_heap P11.out)).trans P11.out)]; rfl
        have f0:=carry b12 d0
        have f1:=carry b12 d1
        have R12:=Lib.hid (R11.out.call b12)
        have X12:=Lib.hid (Ge.Row.call X11.out b12)
        have S2:=Lib.hid (SX.out T2 T2 bo an q2 q2 z2 z2 ck cn w12 HQ2.out.1 HQ2.out.2 HQ2.out.1 HQ2.out.2 HQ3.out HQ3.out (W11.out.call b12) (N11.out.call b12))
        clear S1 b12 c0 c1 d0 d1 R11 X11 S11 N11 W11 O11 P11 Q11
        go_wp2_with fail
        (with_reducible refine S2.out.mono ?_)
        rintro e w13 ⟨rfl,b13⟩
        have R13:=Lib.hid (R12.out.call b13)
        have X13:=Lib.hid (Ge.Row.call X12.out b13)
        have LE13:=Lib.hid (LE.out b g (k+1) T2 (i+1) 18 w13 R13.out)
        clear S2 b13 e0 e1 f0 f1 R12 X12
        rw [show Tb.sameT T2 T2=true by unfold Tb.sameT; simp]
        generalize Tb.sameT T2 T=bs at *
        go_wp2_with fail
        (with_reducible refine LE13.out.mono ?_)
        rintro e w14 ⟨rfl,b14⟩
        have R14:=Lib.hid (R13.out.call b14)
        have X14:=Lib.hid (Ge.Row.call X13.out b14)
        have OO:=Lib.hid (rc_open R14.out)
        rw [show ((4:Nat):Int) - ((k+1:Nat):Int)=lf - 1 by have:=HLF.out; omega]
        clear LE13 b14 R13 X13
        go_wp2_with fail
        (with_reducible refine OO.out.mono ?_)
        rintro e w15 ⟨rfl,rfl⟩
        clear OO
        go_wp2
        go_roundg (n - (i+1))
        case measure=>have:=HI.out; have:=HLT.out; omega
        case rel=>exact ⟨i+1,(k+1),T2,by have:=HLT.out; omega,by go_num,rc_mono R14.out (by omega),by first | exact X14.out | (rw [HEL.out]; exact X14.out)⟩
     ·have FN:=Lib.hid RC.out
      have OP9:=Lib.hid (OP.out b g k T (i+1) 18 wr RC.out (by have:=HN.out; omega) (by omega))
      have HF:=Lib.hid ((Tb.chkT_iff.1 (Ju.fits_zero.1 RC.out.fits).1).2.2.1)
      have TAX:=Lib.hid (fun g R W h=>TA.out b g k T (i+1) R W h)
      have hno:¬ (i<l.length∧i<20):=by have:=HN.out; omega
      clear RC RX hi hlt HN
      by_cases h1:i<l.length
      ·have h1i:(i:Int)<(l.length:Int):=by omega
       have h2i:(20:Int)≤(i:Int):=by omega
       clear hno
       go_wp2_with fail
       (with_reducible refine OP9.out.mono ?_)
       rintro e w20 ⟨g2,rfl,rx,ry,-⟩
       have TX:=Lib.hid (TAX.out g2 _ _ rx)
       have RX:=Lib.hid rx
       have RY:=Lib.hid ry
       clear OP9 rx ry FN
       go_wp2_with fail
       (with_reducible refine TX.out.mono ?_)
       rintro e w21 ⟨v21,rfl,⟨a1,c1,rfl,s1⟩,b21⟩
       have TY:=Lib.hid (TAX.out g _ _ (RY.out.call b21))
       have RY1:=Lib.hid (RY.out.call b21)
       have S1:=Lib.hid s1
       clear TX RX RY s1 b21
       unfold Tb.tv
       go_wp2_with fail
       (with_reducible refine TY.out.mono ?_)
       rintro e w22 ⟨v22,rfl,⟨a2,c2,rfl,s2⟩,b22⟩
       have SE:=Lib.hid (SA.out T T a1 a2 c1 c2 w22 (S1.out.call b22).seen s2.seen (by have:=HF.out; omega) (by have:=HF.out; omega))
       rw [show Tb.sameT T T=true by unfold Tb.sameT; simp] at SE
       have RY2:=Lib.hid (RY1.out.call b22)
       clear TY S1 s2 b22 RY1
       unfold Tb.tv at *
       go_wp2_with fail
       (with_reducible refine SE.out.mono ?_)
       rintro e w23 ⟨rfl,b23⟩
       have FN:=Lib.hid (RY2.out.call b23).bel
       clear SE b23 RY2
       go_wp2
       go_ret
       exact ⟨rfl,FN.out⟩
      ·have h1d:decide (i<l.length)=false:=decide_eq_false h1
       have h1i:(l.length:Int)≤(i:Int):=by omega
       clear hno h1
       go_wp2_with fail
       (with_reducible refine OP9.out.mono ?_)
       rintro e w20 ⟨g2,rfl,rx,ry,-⟩
       have TX:=Lib.hid (TAX.out g2 _ _ rx)
       have RX:=Lib.hid rx
       have RY:=Lib.hid ry
       clear OP9 rx ry FN
       go_wp2_with fail
       (with_reducible refine TX.out.mono ?_)
       rintro e w21 ⟨v21,rfl,⟨a1,c1,rfl,s1⟩,b21⟩
       have TY:=Lib.hid (TAX.out g _ _ (RY.out.call b21))
       have RY1:=Lib.hid (RY.out.call b21)
       have S1:=Lib.hid s1
       clear TX RX RY s1 b21
       unfold Tb.tv
       go_wp2_with fail
       (with_reducible refine TY.out.mono ?_)
       rintro e w22 ⟨v22,rfl,⟨a2,c2,rfl,s2⟩,b22⟩
       have SE:=Lib.hid (SA.out T T a1 a2 c1 c2 w22 (S1.out.call b22).seen s2.seen (by have:=HF.out; omega) (by have:=HF.out; omega))
       rw [show Tb.sameT T T=true by unfold Tb.sameT; simp] at SE
       have RY2:=Lib.hid (RY1.out.call b22)
       clear TY S1 s2 b22 RY1
       unfold Tb.tv at *
       go_wp2_with fail
       (with_reducible refine SE.out.mono ?_)
       rintro e w23 ⟨rfl,b23⟩
       have FN:=Lib.hid (RY2.out.call b23).bel
       clear SE b23 RY2
       go_wp2
       go_ret
       exact ⟨rfl,FN.out⟩
set_option maxRecDepth 100000 in
set_option maxHeartbeats 1600000 in
theorem lifted (os:Os) (started:os.Started) (H:Type) (enc:TypeId×Value→H) :
 ReturnsInHanded {} Tryz.checked os 5 .any (Rows.registryRefusesSpec.pre6 enc Tryz.prog Tryz.f5 Rows.registryRefusesRow.domain false) (Rows.registryRefusesSpec.post enc Tryz.prog Tryz.f5 false true false false):=by
 refine returnsInHanded_of_change (C:=Tryz.checked) own started (by kernel_rfl) Tryz.func5
  (ChangeSpec.witness6 (enc:=enc) (C:=Tryz.checked) false ⟨#[],#[.slice none 0 0,.slice none 0 0],[]⟩ 8 (by kernel_rfl) (by kernel_rfl) (by kernel_rfl) (by kernel_rfl)) ?_
 intro W base args ds gs before hval0 hW hcnd _
 have hval:∀ (j:Nat) t v,Tryz.f5.params[j]?=some t→args[j]?=some v→Value.okWide Tryz.prog W .any base t v:=hval0
 have hW':=hW
 obtain ⟨p,q,hA0,hV,rfl,hfz,hnd⟩:=hW
 have hA:DataW.TrodAll enc Tryz.prog W 0 (fun _=>true) true Tryz.f5.params.toList args.toList ds p:=hA0
 rw [Tryz.params5] at hA hval
 obtain ⟨v0,vs0,d0,ds0,p0,q0,hargs,rfl,rfl,h0,r0⟩:=trodAll_cons hA
 obtain ⟨v1,vs1,d1,ds1,p1,q1,rfl,rfl,rfl,h1,r1⟩:=trodAll_cons r0
 obtain ⟨rfl,rfl,rfl⟩:=trodAll_nil r1
 obtain rfl:args=#[v0,v1]:=by cases args; simp_all
 obtain ⟨rfl,rfl⟩:=trodVars_none hV
 have lt0:∀ x∈p0,x.block<W.heap.size:=by obtain ⟨m,hm⟩:=h0; exact DataW.trod_lt m _ _ _ hm
 obtain ⟨lo,l,lc,rfl,ll,-,ls⟩:=open_nms (hval 0 74 v0 rfl rfl) h0
 have lt1:∀ x∈p1,x.block<W.heap.size:=by obtain ⟨m,hm⟩:=h1; exact DataW.trod_lt m _ _ _ hm
 obtain ⟨qo,q,qc,rfl,ql,-,qs⟩:=open_nms (hval 1 74 v1 rfl rfl) h1
 clear hA0 hval0
 refine (walk l q lo qo lc qc W ll ls ql qs).mono fun e W' ⟨he,bel⟩=>?_
 subst he
 exact ⟨_,rfl,_,_,_,[],_,[],hW',trodAll_mk1 (shut_bool Tryz.underlying4 _),(trodAll_cons_mk (Below.trod laidOut (by kernel_rfl) (of_decide_eq_true (by kernel_rfl)) h0 bel lt0) (trodAll_cons_mk (Below.trod laidOut (by kernel_rfl) (of_decide_eq_true (by kernel_rfl)) h1 bel lt1) trodAll_mk0)),rfl,bel.frame _,fun h=>by cases h⟩
theorem proved:Rows.RegistryRefusesSaid:=
 OpenClaim.holds_of_wide 5 Tryz.f5 rfl rfl rfl rfl rfl rfl rfl ⟨rfl,rfl,rfl,rfl,rfl⟩ rfl rfl rfl rfl rfl (by kernel_rfl) Tryz.func5 (by kernel_rfl)
  (of_decide_eq_true (by kernel_rfl)) (by unfold Func.isWrapper; first | (rw [if_pos (by decide +kernel)]; kernel_rfl) | (rw [if_neg (by decide +kernel)]; exact ⟨rfl,rfl⟩))
  (fun os started H enc _=>lifted os started H enc)
#print axioms proved
end Go.Proofs.YteempfoajgblaaaGreat.registryRefuses
