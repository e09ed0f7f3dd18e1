/- horariumlaw20.RegistrySafe answers true at every row of tries. -/
import Derived.Test.YteempfoajgblaaaGreatLQI
import Derived.Deep.CutBlock
import Derived.Deep.DeepCutAuto
import Derived.Deep.Light
import Derived.Test.YteempfoajgblaaaGreatLGnH
import Derived.Test.YteempfoajgblaaaGreatLRxP
set_option maxRecDepth 100000
set_option linter.unusedVariables false
set_option linter.unusedSimpArgs false
open Go.ChangeShapes Go.WideShapes Go.ChangeAt Go.RowKit Go.Joins
set_option maxHeartbeats 16000000
namespace Go.Proofs.YteempfoajgblaaaGreat.registrySafe
open Dk (Dk DS Own Moved ptr)
open Jn (JL Jt Jd Kp Since)
open Ox (Od)
open Pm (Tk)
open Ju (mayR fitsR Nm opR op_any)
open Tb (Rw tb0 applyR)
open Ge (Seen)
open Rg
theorem walk (ao:Option Addr) (len cap:Nat) (w:World) (hl:len≤9223372036854775807) (hT:Tries ao len w):Calls Tryz.prog 4 #[.slice ao len cap] w fun e w'=>e=.returned (.bool true)∧Below w.heap.size w w':=by
 have AW:=Lib.hid (fun w=>awake_any w)
 have ND:=Lib.hid (fun w1 (hb:Below w.heap.size w w1)=>(show Calls Tryz.prog 9 #[.int .i64 24] w1 fun e w'=>e=.returned (ptr (w1.heap.size+1))∧Dk w.heap.size (w1.heap.size+1) ⟨zs (18+6),[],0,0⟩ w'∧Below w.heap.size w w' from disk_t 24 w w1 hb (by omega) (by omega)))
 have FO:=Lib.hid (fun b w1 (h:Dk w.heap.size b ⟨zs (18+6),[],0,0⟩ w1) (hb:Below w.heap.size w w1)=>format_c w.heap.size b 6 0 w w1 h hb (Since.below (Nat.le_refl _) hb) (by omega) (by omega) (by omega))
 have HT:=Lib.hid hT
 clear hT
 go_enter Tryz.func4,Tryz.ntmps4
 go_wp2_with fail
 (with_reducible refine (AW.out _).mono ?_)
 rintro e w1 ⟨rfl,b1⟩
 have ND1:=Lib.hid (ND.out w1 b1)
 clear AW ND b1
 go_wp2_with fail
 (with_reducible refine ND1.out.mono ?_)
 rintro e w2 ⟨rfl,d2,b2⟩
 generalize w1.heap.size+1=b at *
 have FO2:=Lib.hid (FO.out b w2 d2 b2)
 clear ND1 FO d2 b2
 go_wp2_with fail
 (with_reducible refine FO2.out.mono ?_)
 rintro e w3 ⟨g,rfl,r3,-⟩
 have HP7:=Lib.hid r3.le
 have R3:=Lib.hid (r3.call ((Below.refl _ _).alloc (Nat.le_refl _) (.cells #[.slice none 0 0,.int .i64 0] 52)))
 have H3:=Lib.hid (HB.zero w3)
 clear FO2 r3
 go_wp2_with fail
 generalize w3.alloc (.cells #[.slice none 0 0,.int .i64 0] 52)=W3 at *
 generalize w3.heap.size=p7 at *
 obtain ⟨n,hn⟩:∃ n,n=min len 12:=⟨_,rfl⟩
 have HN:=Lib.hid hn
 clear hn
 go_loopg [5,8] n (SfRel n w b p7)
 case atStart=>exact ⟨0,g,0,18,tb0,by omega,rfl,rfl,by omega,R3.out,H3.out⟩
 case round=>
  clear R3 H3
  obtain ⟨i,g,k,R,T,hi,rfl,rfl,hR,hrc,hhb⟩:=hrel
  have RC:=Lib.hid hrc
  have HH:=Lib.hid hhb
  clear hrc hhb
  by_cases hlt:i<n
  ·have hil:i<len:=by have:=HN.out;omega
   have hi12:i<12:=by have:=HN.out;omega
   obtain ⟨tb,off,rfl,htb,hcs⟩:=HT.out (by omega)
   obtain ⟨sn,cr,x,fl,ag,fo,fs,fc,go,gs,gc,tr⟩:=hcs i hil
   have hs:=RC.out.bel
   have r0:wr.cell? ⟨tb,off+i*13,none⟩=some (.bool sn):=by rw [hs.cell (p:=⟨tb,off+i*13,none⟩) htb];exact tr.cells 0 _ rfl
   have r1:wr.cell? ⟨tb,off+i*13+1,none⟩=some (.bool cr):=by rw [hs.cell (p:=⟨tb,off+i*13+1,none⟩) htb];exact tr.cells 1 _ rfl
   have r2:wr.cell? ⟨tb,off+i*13+2,none⟩=some (.int .i64 x.kind):=by rw [hs.cell (p:=⟨tb,off+i*13+2,none⟩) htb];exact tr.cells 2 _ rfl
   have r3:wr.cell? ⟨tb,off+i*13+3,none⟩=some (.int .i64 x.id):=by rw [hs.cell (p:=⟨tb,off+i*13+3,none⟩) htb];exact tr.cells 3 _ rfl
   have r4:wr.cell? ⟨tb,off+i*13+4,none⟩=some (.int .i64 x.c):=by rw [hs.cell (p:=⟨tb,off+i*13+4,none⟩) htb];exact tr.cells 4 _ rfl
   have r5:wr.cell? ⟨tb,off+i*13+5,none⟩=some (.int .i64 x.d):=by rw [hs.cell (p:=⟨tb,off+i*13+5,none⟩) htb];exact tr.cells 5 _ rfl
   have r6:wr.cell? ⟨tb,off+i*13+6,none⟩=some (.int .i64 x.t):=by rw [hs.cell (p:=⟨tb,off+i*13+6,none⟩) htb];exact tr.cells 6 _ rfl
   have r7:wr.cell? ⟨tb,off+i*13+7,none⟩=some (.int .i64 x.m):=by rw [hs.cell (p:=⟨tb,off+i*13+7,none⟩) htb];exact tr.cells 7 _ rfl
   have r8:wr.cell? ⟨tb,off+i*13+8,none⟩=some (.bool x.sv):=by rw [hs.cell (p:=⟨tb,off+i*13+8,none⟩) htb];exact tr.cells 8 _ rfl
   have r9:wr.cell? ⟨tb,off+i*13+9,none⟩=some (.int .i64 fl):=by rw [hs.cell (p:=⟨tb,off+i*13+9,none⟩) htb];exact tr.cells 9 _ rfl
   have r10:wr.cell? ⟨tb,off+i*13+10,none⟩=some (.int .i64 ag):=by rw [hs.cell (p:=⟨tb,off+i*13+10,none⟩) htb];exact tr.cells 10 _ rfl
   have r11:wr.cell? ⟨tb,off+i*13+11,none⟩=some (.slice fo fs.length fc):=by rw [hs.cell (p:=⟨tb,off+i*13+11,none⟩) htb];exact tr.cells 11 _ rfl
   have r12:wr.cell? ⟨tb,off+i*13+12,none⟩=some (.slice go gs.length gc):=by rw [hs.cell (p:=⟨tb,off+i*13+12,none⟩) htb];exact tr.cells 12 _ rfl
   have OPX:=Lib.hid (fun W=>op_any x W)
   have FT:=Lib.hid (And.intro (And.intro tr.fats tr.len) (And.intro tr.gats tr.gen))
   generalize opR x=y at *
   obtain ⟨nk,ni,nc,nd,nt,nm,ns⟩:=x
   unfold Ju.Nm.v at *
   dsimp only at OPX r2 r3 r4 r5 r6 r7 r8
   have il1:(i:Int)<(len:Int):=by omega
   have il2:(i:Int)<12:=by omega
   have HI:=Lib.hid hi
   have HR:=Lib.hid hR
   have HLT:=Lib.hid hlt
   have HF:=Lib.hid ((Tb.chkT_iff.1 (Ju.fits_zero.1 RC.out.fits).1).2.2.1)
   have bA:=(Below.refl wr.heap.size wr).alloc (Nat.le_refl _) (.cells #[.bool sn,.bool cr,.int .i64 nk,.int .i64 ni,.int .i64 nc,.int .i64 nd,.int .i64 nt,.int .i64 nm,.bool ns,.int .i64 fl,.int .i64 ag,.slice fo fs.length fc,.slice go gs.length gc] 69)
   have R7:=Lib.hid (RC.out.call bA)
   have H7:=Lib.hid (HH.out.call bA)
   have O7:Hid (TryB (wr.alloc (.cells #[.bool sn,.bool cr,.int .i64 nk,.int .i64 ni,.int .i64 nc,.int .i64 nd,.int .i64 nt,.int .i64 nm,.bool ns,.int .i64 fl,.int .i64 ag,.slice fo fs.length fc,.slice go gs.length gc] 69)) wr.heap.size sn cr ⟨nk,ni,nc,nd,nt,nm,ns⟩ fl ag (.slice fo fs.length fc) (.slice go gs.length gc)):=Lib.hid (heap_alloc_new wr _)
   clear tr hcs hs hi hR hlt bA RC HH
   go_upto_region 11 with (fail)
   generalize wr.alloc (.cells #[.bool sn,.bool cr,.int .i64 nk,.int .i64 ni,.int .i64 nc,.int .i64 nd,.int .i64 nt,.int .i64 nm,.bool ns,.int .i64 fl,.int .i64 ag,.slice fo fs.length fc,.slice go gs.length gc] 69)=w7 at *
   generalize wr.heap.size=ob at *
   clear r0 r1 r2 r3 r4 r5 r6 r7 r8 r9 r10 r11 r12
   obtain ⟨ao7,ca7,h70,h71⟩:=H7.out
   have KP:Hid (∀ W,Below w7.heap.size w7 W→(W.cell? ⟨p7,0,none⟩=some (.slice ao7 T.rows.length ca7)∧W.cell? ⟨p7,1,none⟩=some (.int .i64 T.mode))∧W.cell? ⟨ob,2,none⟩=some (.int .i64 nk)∧W.cell? ⟨ob,3,none⟩=some (.int .i64 ni)∧W.cell? ⟨ob,4,none⟩=some (.int .i64 nc)∧W.cell? ⟨ob,5,none⟩=some (.int .i64 nd)∧W.cell? ⟨ob,6,none⟩=some (.int .i64 nt)∧W.cell? ⟨ob,7,none⟩=some (.int .i64 nm)∧W.cell? ⟨ob,8,none⟩=some (.bool ns)):=Lib.hid (fun W hW=>by
    have h1:=(hW.block p7 (Dk.lt_of_heap h70)).trans h70
    have h2:=O7.out.call hW
    exact ⟨⟨by rw [Lib.cell_of_heap h1];rfl,by rw [Lib.cell_of_heap h1];rfl⟩,h2.cell 2 _ rfl,h2.cell 3 _ rfl,h2.cell 4 _ rfl,h2.cell 5 _ rfl,h2.cell 6 _ rfl,h2.cell 7 _ rfl,h2.cell 8 _ rfl⟩)
   have RMB:Hid (∀ W,Below w7.heap.size w7 W→Calls Tryz.prog 30 #[.agg #[.slice ao7 T.rows.length ca7,.int .i64 T.mode],y.v,.slice none 0 0] W fun e w'=>∃ v,e=.returned (.tuple #[v,.int .i64 (mayR T y []).2])∧Tb.Told v (mayR T y []).1 w'∧Below W.heap.size W w'):=Lib.hid (fun W hW=>Ju.rmay_any T y [] ao7 ca7 none 0 W (h71.call hW) (by have:=HF.out;omega) (Ge.seen_nil _ _) (by simp))
   have BD:=Lib.hid ((Below.refl w7.heap.size w7).drew)
   clear h70 h71
   generalize hq:T.rows.length=qn at *
   generalize hz:T.mode=z at *
   have HQ:=Lib.hid (And.intro hq hz)
   clear hq hz
   obtain ⟨yk,⟨yi,yc,yd,yt,ym⟩,ys,yid,ycc,ymo⟩:=y
   unfold Od.v Od.cs at *
   dsimp only at RMB OPX
   go_cut [10,11] (NxRel w7 (mayR T ⟨yk,⟨yi,yc,yd,yt,ym⟩,ys,yid,ycc,ymo⟩ []).1 (mayR T ⟨yk,⟨yi,yc,yd,yt,ym⟩,ys,yid,ycc,ymo⟩ []).2)
   case first=>
    generalize mayR T ⟨yk,⟨yi,yc,yd,yt,ym⟩,ys,yid,ycc,ymo⟩ []=MR at *
    obtain ⟨M1,M2⟩:=MR
    dsimp only at RMB ⊢
    have B0:=Lib.hid BD.out
    refine wp_region_held_drew (S:=(fun W'=>(W'.cell? ⟨p7,0,none⟩=some (.slice ao7 qn ca7)∧W'.cell? ⟨p7,1,none⟩=some (.int .i64 z))∧W'.cell? ⟨ob,2,none⟩=some (.int .i64 nk)∧W'.cell? ⟨ob,3,none⟩=some (.int .i64 ni)∧W'.cell? ⟨ob,4,none⟩=some (.int .i64 nc)∧W'.cell? ⟨ob,5,none⟩=some (.int .i64 nd)∧W'.cell? ⟨ob,6,none⟩=some (.int .i64 nt)∧W'.cell? ⟨ob,7,none⟩=some (.int .i64 nm)∧W'.cell? ⟨ob,8,none⟩=some (.bool ns))) (by kernel_rfl) (KP.out _ B0.out) (fun hHeld=>?_)
    refine Gh.tk 0 ?_
    refine Gh.tk 1 ?_
    refine Gh.tk 2 ?_
    refine wpAnyH_ready (rs:=[3,8]) (by kernel_rfl) (by simp) ?_
    refine AllReadyH.cons rfl (fun K hK=>?_) ?_
    ·go_simp
     (with_reducible refine (OPX.out _).mono ?_)
     rintro e wD1 ⟨rfl,bD⟩
     have B1:=Lib.hid (B0.out.trans (bD.mono B0.out.size))
     clear bD
     go_simp
     refine hK.out _ _ ((KP.out _ B1.out)) (fun hHeld=>?_)
     clear hK K
     refine Gh.pt ?_
     refine wpAnyH_ready (rs:=[4,8]) (by kernel_rfl) (by simp) ?_
     refine AllReadyH.cons rfl (fun K hK=>?_) ?_
     ·go_simp
      (with_reducible refine (RMB.out _ B1.out).mono ?_)
      rintro e wD2 ⟨vD,rfl,⟨an,cn,rfl,hsD⟩,bD⟩
      have B2:=Lib.hid (B1.out.trans (bD.mono B1.out.size))
      have SD2:=Lib.hid hsD
      unfold Tb.tv
      clear bD hsD
      go_simp
      refine hK.out _ _ ((KP.out _ B2.out)) (fun hHeld=>?_)
      clear hK K
      refine Gh.pt ?_
      refine Gh.tk 5 ?_
      refine Gh.tk 6 ?_
      refine Gh.tk 7 ?_
      refine Gh.rd 8 (fun K hK=>?_)
      obtain ⟨pn,hpn⟩:∃ p,wD2.heap.size=p:=⟨_,rfl⟩
      have B3:=Lib.hid (B2.out.alloc B2.out.size (.cells #[.slice none 0 0,.int .i64 0] 52))
      have PB3:Hid ((wD2.alloc (.cells #[.slice none 0 0,.int .i64 0] 52)).heap[pn]?=some (.cells #[.slice none 0 0,.int .i64 0] 52 (0,0))):=Lib.hid (by rw [← hpn];exact heap_alloc_new _ _)
      have GE3:Hid (w7.heap.size≤pn):=Lib.hid (by rw [← hpn];exact B2.out.size)
      have SD3:=Lib.hid (SD2.out.call ((Below.refl _ _).alloc (Nat.le_refl _) (.cells #[.slice none 0 0,.int .i64 0] 52)))
      go_simp
      (try rw [hpn])
      clear hpn
      refine hK.out _ _ ((KP.out _ B3.out)) (fun hHeld=>?_)
      clear hK K
      refine Gh.pt ?_
      refine Gh.rd 9 (fun K hK=>?_)
      have F0:=Lib.frozen_of_heap PB3.out 0
      have F1:=Lib.frozen_of_heap PB3.out 1
      have y0:(wD2.alloc (.cells #[.slice none 0 0,.int .i64 0] 52)).cell? ⟨pn,0,none⟩=some (.slice none 0 0):=by rw [Lib.cell_of_heap PB3.out];rfl
      have y1:(wD2.alloc (.cells #[.slice none 0 0,.int .i64 0] 52)).cell? ⟨pn,1,none⟩=some (.int .i64 0):=by rw [Lib.cell_of_heap PB3.out];rfl
      have PZ:Hid ((((wD2.alloc (.cells #[.slice none 0 0,.int .i64 0] 52)).setCell ⟨pn,0,none⟩ (.slice an M1.rows.length cn)).setCell ⟨pn,1,none⟩ (.int .i64 M1.mode)).heap[pn]?=some (.cells #[.slice an M1.rows.length cn,.int .i64 M1.mode] 52 (0,0))):=Lib.hid (by simp [World.setCell,Array.getElem?_modify,PB3.out])
      have BZ:Hid (Below w7.heap.size w7 (((wD2.alloc (.cells #[.slice none 0 0,.int .i64 0] 52)).setCell ⟨pn,0,none⟩ (.slice an M1.rows.length cn)).setCell ⟨pn,1,none⟩ (.int .i64 M1.mode))):=Lib.hid ((B3.out.setCell GE3.out _).setCell GE3.out _)
      have SZ:Hid (Tb.Sl (.slice an M1.rows.length cn) M1.rows (((wD2.alloc (.cells #[.slice none 0 0,.int .i64 0] 52)).setCell ⟨pn,0,none⟩ (.slice an M1.rows.length cn)).setCell ⟨pn,1,none⟩ (.int .i64 M1.mode)) an cn):=Lib.hid (sl_box SD3.out PB3.out (by decide) _ _)
      have GZ:=GE3
      go_simp
      refine hK.out _ _ ((KP.out _ BZ.out)) (fun hHeld=>?_)
      clear hK K
      refine Gh.pt ?_
      refine Gh.tk 10 ?_
      refine wpAnyH_done (by kernel_rfl) ?_ _
      clear hHeld
      go_wp2_with fail
      go_meet
      exact ⟨pn,an,cn,rfl,rfl,PZ.out,SZ.out,GZ.out,BZ.out⟩
     refine AllReadyH.cons rfl (fun K hK=>?_) ?_
     ·obtain ⟨pn,hpn⟩:∃ p,wD1.heap.size=p:=⟨_,rfl⟩
      have B2:=Lib.hid (B1.out.alloc B1.out.size (.cells #[.slice none 0 0,.int .i64 0] 52))
      have PB2:Hid ((wD1.alloc (.cells #[.slice none 0 0,.int .i64 0] 52)).heap[pn]?=some (.cells #[.slice none 0 0,.int .i64 0] 52 (0,0))):=Lib.hid (by rw [← hpn];exact heap_alloc_new _ _)
      have GE2:Hid (w7.heap.size≤pn):=Lib.hid (by rw [← hpn];exact B1.out.size)
      go_simp
      (try rw [hpn])
      clear hpn
      refine hK.out _ _ ((KP.out _ B2.out)) (fun hHeld=>?_)
      clear hK K
      refine Gh.pt ?_
      refine Gh.rd 4 (fun K hK=>?_)
      go_simp
      (with_reducible refine (RMB.out _ B2.out).mono ?_)
      rintro e wD3 ⟨vD,rfl,⟨an,cn,rfl,hsD⟩,bD⟩
      have B3:=Lib.hid (B2.out.trans (bD.mono B2.out.size))
      have SD3:=Lib.hid hsD
      have PB3:Hid (wD3.heap[pn]?=some (.cells #[.slice none 0 0,.int .i64 0] 52 (0,0))):=Lib.hid ((bD.block pn (Dk.lt_of_heap PB2.out)).trans PB2.out)
      unfold Tb.tv
      clear bD hsD
      go_simp
      refine hK.out _ _ ((KP.out _ B3.out)) (fun hHeld=>?_)
      clear hK K
      refine Gh.pt ?_
      refine Gh.tk 5 ?_
      refine Gh.tk 6 ?_
      refine Gh.tk 7 ?_
      refine Gh.rd 9 (fun K hK=>?_)
      have F0:=Lib.frozen_of_heap PB3.out 0
      have F1:=Lib.frozen_of_heap PB3.out 1
      have y0:wD3.cell? ⟨pn,0,none⟩=some (.slice none 0 0):=by rw [Lib.cell_of_heap PB3.out];rfl
      have y1:wD3.cell? ⟨pn,1,none⟩=some (.int .i64 0):=by rw [Lib.cell_of_heap PB3.out];rfl
      have PZ:Hid (((wD3.setCell ⟨pn,0,none⟩ (.slice an M1.rows.length cn)).setCell ⟨pn,1,none⟩ (.int .i64 M1.mode)).heap[pn]?=some (.cells #[.slice an M1.rows.length cn,.int .i64 M1.mode] 52 (0,0))):=Lib.hid (by simp [World.setCell,Array.getElem?_modify,PB3.out])
      have BZ:Hid (Below w7.heap.size w7 ((wD3.setCell ⟨pn,0,none⟩ (.slice an M1.rows.length cn)).setCell ⟨pn,1,none⟩ (.int .i64 M1.mode))):=Lib.hid ((B3.out.setCell GE2.out _).setCell GE2.out _)
      have SZ:Hid (Tb.Sl (.slice an M1.rows.length cn) M1.rows ((wD3.setCell ⟨pn,0,none⟩ (.slice an M1.rows.length cn)).setCell ⟨pn,1,none⟩ (.int .i64 M1.mode)) an cn):=Lib.hid (sl_box SD3.out PB3.out (by decide) _ _)
      have GZ:=GE2
      go_simp
      refine hK.out _ _ ((KP.out _ BZ.out)) (fun hHeld=>?_)
      clear hK K
      refine Gh.pt ?_
      refine Gh.tk 10 ?_
      refine wpAnyH_done (by kernel_rfl) ?_ _
      clear hHeld
      go_wp2_with fail
      go_meet
      exact ⟨pn,an,cn,rfl,rfl,PZ.out,SZ.out,GZ.out,BZ.out⟩
     exact AllReadyH.nil
    refine AllReadyH.cons rfl (fun K hK=>?_) ?_
    ·obtain ⟨pn,hpn⟩:∃ p,w7.drew.heap.size=p:=⟨_,rfl⟩
     have B1:=Lib.hid (B0.out.alloc B0.out.size (.cells #[.slice none 0 0,.int .i64 0] 52))
     have PB1:Hid ((w7.drew.alloc (.cells #[.slice none 0 0,.int .i64 0] 52)).heap[pn]?=some (.cells #[.slice none 0 0,.int .i64 0] 52 (0,0))):=Lib.hid (by rw [← hpn];exact heap_alloc_new _ _)
     have GE1:Hid (w7.heap.size≤pn):=Lib.hid (by rw [← hpn];exact B0.out.size)
     go_simp
     (try rw [hpn])
     clear hpn
     refine hK.out _ _ ((KP.out _ B1.out)) (fun hHeld=>?_)
     clear hK K
     refine Gh.pt ?_
     refine Gh.rd 3 (fun K hK=>?_)
     go_simp
     (with_reducible refine (OPX.out _).mono ?_)
     rintro e wD2 ⟨rfl,bD⟩
     have B2:=Lib.hid (B1.out.trans (bD.mono B1.out.size))
     have PB2:Hid (wD2.heap[pn]?=some (.cells #[.slice none 0 0,.int .i64 0] 52 (0,0))):=Lib.hid ((bD.block pn (Dk.lt_of_heap PB1.out)).trans PB1.out)
     clear bD
     go_simp
     refine hK.out _ _ ((KP.out _ B2.out)) (fun hHeld=>?_)
     clear hK K
     refine Gh.pt ?_
     refine Gh.rd 4 (fun K hK=>?_)
     go_simp
     (with_reducible refine (RMB.out _ B2.out).mono ?_)
     rintro e wD3 ⟨vD,rfl,⟨an,cn,rfl,hsD⟩,bD⟩
     have B3:=Lib.hid (B2.out.trans (bD.mono B2.out.size))
     have SD3:=Lib.hid hsD
     have PB3:Hid (wD3.heap[pn]?=some (.cells #[.slice none 0 0,.int .i64 0] 52 (0,0))):=Lib.hid ((bD.block pn (Dk.lt_of_heap PB2.out)).trans PB2.out)
     unfold Tb.tv
     clear bD hsD
     go_simp
     refine hK.out _ _ ((KP.out _ B3.out)) (fun hHeld=>?_)
     clear hK K
     refine Gh.pt ?_
     refine Gh.tk 5 ?_
     refine Gh.tk 6 ?_
     refine Gh.tk 7 ?_
     refine Gh.rd 9 (fun K hK=>?_)
     have F0:=Lib.frozen_of_heap PB3.out 0
     have F1:=Lib.frozen_of_heap PB3.out 1
     have y0:wD3.cell? ⟨pn,0,none⟩=some (.slice none 0 0):=by rw [Lib.cell_of_heap PB3.out];rfl
     have y1:wD3.cell? ⟨pn,1,none⟩=some (.int .i64 0):=by rw [Lib.cell_of_heap PB3.out];rfl
     have PZ:Hid (((wD3.setCell ⟨pn,0,none⟩ (.slice an M1.rows.length cn)).setCell ⟨pn,1,none⟩ (.int .i64 M1.mode)).heap[pn]?=some (.cells #[.slice an M1.rows.length cn,.int .i64 M1.mode] 52 (0,0))):=Lib.hid (by simp [World.setCell,Array.getElem?_modify,PB3.out])
     have BZ:Hid (Below w7.heap.size w7 ((wD3.setCell ⟨pn,0,none⟩ (.slice an M1.rows.length cn)).setCell ⟨pn,1,none⟩ (.int .i64 M1.mode))):=Lib.hid ((B3.out.setCell GE1.out _).setCell GE1.out _)
     have SZ:Hid (Tb.Sl (.slice an M1.rows.length cn) M1.rows ((wD3.setCell ⟨pn,0,none⟩ (.slice an M1.rows.length cn)).setCell ⟨pn,1,none⟩ (.int .i64 M1.mode)) an cn):=Lib.hid (sl_box SD3.out PB3.out (by decide) _ _)
     have GZ:=GE1
     go_simp
     refine hK.out _ _ ((KP.out _ BZ.out)) (fun hHeld=>?_)
     clear hK K
     refine Gh.pt ?_
     refine Gh.tk 10 ?_
     refine wpAnyH_done (by kernel_rfl) ?_ _
     clear hHeld
     go_wp2_with fail
     go_meet
     exact ⟨pn,an,cn,rfl,rfl,PZ.out,SZ.out,GZ.out,BZ.out⟩
    exact AllReadyH.nil
   case rest=>
    obtain ⟨pn,an,cn,rfl,rfl,hob,hsn,hpn,hbn⟩:=hcut
    have hml:=may_rows T ⟨yk,⟨yi,yc,yd,yt,ym⟩,ys,yid,ycc,ymo⟩ []
    rename_i K0 hK0
    refine hK0 _ _ ?_
    refine part2 w wc b g p7 ob pn i R T _ _ sn cr nk ni nc nd nt nm ns fl ag fo fs fc go gs gc hi12 HR.out ?_ hml HP7.out FT.out k ⟨yk,⟨yi,yc,yd,yt,ym⟩,ys,yid,ycc,ymo⟩ ⟨Nat.le_trans R7.out.le hpn,by go_light;have:=H7.out.lt;omega⟩ (R7.out.call hbn) (H7.out.call hbn) (O7.out.call hbn) ⟨an,cn,hob,hsn⟩ rfl rfl OPX.out _ _ _ _ _ _ _ _ _ _ _ _ _ _ _ _ _ _ _ _ _ _ _ _ _ _ _ _ _ _ _ _ _ _ _ _ _ _ _ _ _ _ _ _ _ _ _ _ _ _ _ _ _ _ _ _ _ _ _ _ _ _ _ _ _ _ _ _ _ _ _ _ _ _ _ _ _ _ _ _ _ _ _ _ _ _ _ _ _ _ _ _ _ _ _ _ _ _ _ _ _ _ _ _ _ _ _ _ _ _ _ _ _ _ _ _ _ _ _ _ _ _ _ _ _ _ _ _ _ _ _ _ _ _ _ _ _ _ _ _ _ _ _ _ _ _ _ _ _ _ _ _ _ _ _ _ _ _ _ _ _ _ _ _ _ _ _ _ _ _ _ _ _ _ _ _ _ _ _ _ _ _ _ _ _ _ _ _ _ _ _ _ _ _ (fun c a d v w h=>by cases d <;> exact h) (fun yg m8 TX y2 y9 y10 y11 y12 y13 y14 y15 y16 y17 y18 y19 y20 y21 y22 y37 y38 y39 y40 y41 y42 y43 y44 y45 y46 y47 y48 y49 y50 y51 y52 y53 y54 y55 y56 y57 y58 y59 y60 y61 y62 y63 y64 y65 y66 y67 y68 y69 y70 y71 y72 y73 y74 y75 y76 y77 y78 y79 y80 y81 y82 y83 y84 y85 y86 y87 y88 y89 y90 y91 y92 y93 y94 y95 y96 y97 y98 y99 y100 y101 y102 y103 y104 y105 y106 y107 y108 y109 y110 y111 y112 y113 y114 y115 y116 y117 y118 y119 y120 y121 y122 y123 y124 y125 y126 y127 y128 y129 y130 y131 y132 y133 y134 y135 y136 y137 y138 y139 y140 y141 y142 y143 y144 y145 y146 y147 y148 y149 y150 y151 y152 y153 y154 y155 y156 y157 y158 y159 y160 y161 y162 y163 y164 y165 y166 y167 y168 y169 y170 y171 y172 y173 y174 y175 y176 y177 y178 y179 y180 y181 y182 y183 y184 y185 y186 y187 y188 y189 y190 y191 y192 y193 y194 y195 y196 y197 w9 hr hh=>?_)
    · rw [HQ.out.1];exact HF.out
    have NX:=Lib.hid (And.intro hr hh)
    clear hr hh hob hsn hpn hbn hml R7 H7 O7 KP RMB BD OPX FT hK0
    go_wp2
    go_roundg (n-(i+1))
    case measure=>go_light;have:=HI.out;have:=HLT.out;omega
    case rel=>go_light;exact ⟨i+1,yg,m8,R+75,TX,by have:=HLT.out;omega,rfl,by go_num,by have:=HR.out;omega,NX.out.1,NX.out.2⟩
  ·have R9:=Lib.hid RC.out.bel
   have hno:¬(i<len∧i<12):=by have:=HN.out;omega
   clear RC HH hi hlt HN HT
   by_cases h1:i<len
   ·have h1i:(i:Int)<(len:Int):=by omega
    have h2i:(12:Int)≤(i:Int):=by omega
    clear hno
    go_wp2
    go_ret
    exact ⟨rfl,R9.out⟩
   ·have h1d:decide (i<len)=false:=decide_eq_false h1
    have h1i:(len:Int)≤(i:Int):=by omega
    clear hno h1
    go_wp2
    go_ret
    exact ⟨rfl,R9.out⟩
theorem lifted (os:Os) (started:os.Started) (H:Type) (enc:TypeId×Value→H) :
 ReturnsInHanded {} Tryz.checked os 4 .any (Rows.registrySafeSpec.pre6 enc Tryz.prog Tryz.f4 Rows.registrySafeRow.domain false) (Rows.registrySafeSpec.post enc Tryz.prog Tryz.f4 false true false false):=by
 refine returnsInHanded_of_change (C:=Tryz.checked) own started (by kernel_rfl) Tryz.func4
  (ChangeSpec.witness6 (enc:=enc) (C:=Tryz.checked) false ⟨#[],#[.slice none 0 0],[]⟩ 8 (by kernel_rfl) (by kernel_rfl) (by kernel_rfl) (by kernel_rfl)) ?_
 intro W base args ds gs before hval0 hW hcnd _
 have hval:∀ (j:Nat) t v,Tryz.f4.params[j]?=some t→args[j]?=some v→Value.okWide Tryz.prog W .any base t v:=hval0
 have hW':=hW
 obtain ⟨p,q,hA0,hV,rfl,hfz,hnd⟩:=hW
 have hA:DataW.TrodAll enc Tryz.prog W 0 (fun _=>true) true Tryz.f4.params.toList args.toList ds p:=hA0
 rw [Tryz.params4] at hA hval
 obtain ⟨v0,vs0,d0,ds0,p0,q0,hargs,rfl,rfl,h0,r0⟩:=trodAll_cons hA
 obtain ⟨rfl,rfl,rfl⟩:=trodAll_nil r0
 obtain rfl:args=#[v0]:=by cases args;simp_all
 obtain ⟨rfl,rfl⟩:=trodVars_none hV
 have lt0:∀ x∈p0,x.block<W.heap.size:=by obtain ⟨m,hm⟩:=h0;exact DataW.trod_lt m _ _ _ hm
 obtain ⟨lo,l,lc,rfl,ll,ls⟩:=open_tries (hval 0 67 v0 rfl rfl) h0
 clear hA0 hval0
 refine (walk lo l lc W ll ls).mono fun e W' ⟨he,bel⟩=>?_
 subst he
 exact ⟨_,rfl,_,_,_,[],_,[],hW',trodAll_mk1 (shut_bool Tryz.underlying4 _),(trodAll_cons_mk (Below.trod laidOut (by kernel_rfl) (of_decide_eq_true (by kernel_rfl)) h0 bel lt0) trodAll_mk0),rfl,bel.frame _,fun h=>by cases h⟩
theorem proved:Rows.RegistrySafeSaid:=
 OpenClaim.holds_of_wide 4 Tryz.f4 rfl rfl rfl rfl rfl rfl rfl ⟨rfl,rfl,rfl,rfl,rfl⟩ rfl rfl rfl rfl rfl (by kernel_rfl) Tryz.func4 (by kernel_rfl)
  (of_decide_eq_true (by kernel_rfl)) (by unfold Func.isWrapper;first|(rw [if_pos (by decide +kernel)];kernel_rfl)|(rw [if_neg (by decide +kernel)];exact ⟨rfl,rfl⟩))
  (fun os started H enc _=>lifted os started H enc)
#print axioms proved
end Go.Proofs.YteempfoajgblaaaGreat.registrySafe
