/- Package judge's First and Fits, the document's Of and Fits. Package judge's together and With, the .. -/
import Derived.Test.YteempfoajgblaaaGreatLMJo
import Derived.Test.YteempfoajgblaaaGreatLMTr
set_option maxRecDepth 100000
set_option linter.unusedVariables false
set_option linter.unusedSimpArgs false
open Go.ChangeShapes Go.WideShapes Go.ChangeAt Go.RowKit Go.Joins
set_option maxHeartbeats 8000000
namespace Go.Proofs.YteempfoajgblaaaGreat.Ju
open Pm (Tk)
open Ge (El Seen Row)
open Qp (testR)
open Tb
theorem in_seen (l:List Rw) (ao:Option Addr) (cap:Nat) (m k:Int) (w:World) (hS:Seen Rw.cs 6 ao l w) (hl:l.length≤1000) :
 Calls Tryz.prog 173 #[tv ao l.length cap m,.int .i64 k] w fun e w'=>∃ o c,e=.returned (.slice o (inM k l).length c)∧Seen tcs 5 o (inM k l) w'∧Below w.heap.size w w' :=
 (in_any l ao cap m k w hS hl).mono fun e w' ⟨v,he,hr,hb⟩=>by
  obtain ⟨o,c,rfl,-,hs,-⟩:=Ge.Row.form tcs_len hr
  exact ⟨o,c,he,hs,hb⟩
theorem rin_seen (l:List Rw) (ao:Option Addr) (cap:Nat) (m k:Int) (w:World) (hS:Seen Rw.cs 6 ao l w) (hl:l.length≤1000) :
 Calls Tryz.prog 98 #[tv ao l.length cap m,.int .i64 k] w fun e w'=>∃ o c,e=.returned (.slice o (inM k l).length c)∧Seen tcs 5 o (inM k l) w'∧Below w.heap.size w w' :=
 (rin_any l ao cap m k w hS hl).mono fun e w' ⟨v,he,hr,hb⟩=>by
  obtain ⟨o,c,rfl,-,hs,-⟩:=Ge.Row.form tcs_len hr
  exact ⟨o,c,he,hs,hb⟩
theorem inM_len (k:Int) (l:List Rw):(inM k l).length≤l.length:=by
 unfold inM
 split
 · exact inT_len k l
 · simp
theorem inM_in {k:Int} (l:List Rw) (h:0≤k∧k≤3):inM k l=inT k l:=if_pos h
def FiRel (l:List Rw) (R:Int×Int) (L:List (Nat×Array Value×Nat)) (w:World) (g:Nat) (s:Value) (wx:World):Prop:=
 ∃ i:Nat,i+g=4∧s=.int .i64 (i:Int)∧firstF l g i=R∧Bos L w wx
theorem first_any (t:Tb.Tb) (ao:Option Addr) (cap:Nat) (w:World) (hS:Seen Rw.cs 6 ao t.rows w) (hl:t.rows.length≤1000) :
 Calls Tryz.prog 133 #[tv ao t.rows.length cap t.mode] w fun e w'=>e=.returned (.tuple #[.int .i64 (firstR t).1,.int .i64 (firstR t).2])∧Below w.heap.size w w':=by
 have CT:Hid (∀ W,Below w.heap.size w W→Calls Tryz.prog 109 #[tv ao t.rows.length cap t.mode] W fun e w'=>e=.returned (.bool (chkT t))∧Below W.heap.size W w'):=Lib.hid (fun W hb=>check_any t ao cap W (hS.below hb (Nat.le_refl _)) hl)
 have IN:Hid (∀ (k:Int) W,0≤k∧k≤3→Below w.heap.size w W→Calls Tryz.prog 173 #[tv ao t.rows.length cap t.mode,.int .i64 k] W fun e w'=>∃ o c,e=.returned (.slice o (inT k t.rows).length c)∧Seen tcs 5 o (inT k t.rows) w'∧Below W.heap.size W w'):=Lib.hid (fun k W hk hb=>by
  have:=in_seen t.rows ao cap t.mode k W (hS.below hb (Nat.le_refl _)) hl
  rw [inM_in _ hk] at this
  exact this)
 have TS:Hid (∀ (k:Int) W o c,Seen tcs 5 o (inT k t.rows) W→Calls Tryz.prog 172 #[.slice o (inT k t.rows).length c] W fun e w'=>e=.returned (.int .i64 (testR (inT k t.rows)))∧Below W.heap.size W w'):=Lib.hid (fun k W o c h=>test_seen _ o c W h (by have:=inT_len k t.rows;omega))
 have H0:=Lib.hid ((bos_nil w).new #[.slice ao t.rows.length cap,.int .i64 t.mode] 52)
 have FR:Hid (firstR t=if chkT t=true then firstF t.rows 4 0 else (-1,1)):=Lib.hid rfl
 generalize firstR t=R at *
 generalize chkT t=q at *
 obtain ⟨l,m⟩:=t
 unfold tv at *
 simp only at *
 obtain ⟨t0,t1⟩:=cell2 (H0.out.cell 0 rfl)
 clear hS
 go_enter Tryz.func133,Tryz.ntmps133
 go_wp2_with fail
 (with_reducible refine (CT.out _ H0.out.bl).mono ?_)
 rintro e w1 ⟨rfl,b1⟩
 have H1:=Lib.hid (H0.out.call b1)
 clear b1 CT H0 t0 t1
 cases q
 ·have E:R=(-1,1):=FR.out.trans (if_neg (by decide))
  subst E
  go_wp2
  exact bodyPost_ret (v:=.tuple #[.int .i64 (-1),.int .i64 1]) (by simp [results,Tryz.results133,go_sem]) rfl ⟨rfl,H1.out.bl⟩
 have FF:Hid (∀ (g:Nat) (i:Int),firstF l (g+1) i=if testR (inT i l)≠0 then (i,testR (inT i l)) else firstF l g (i+1)):=Lib.hid (fun _ _=>rfl)
 have FZ:Hid (∀ i:Int,firstF l 0 i=(-1,0)):=Lib.hid (fun _=>rfl)
 have G:Hid (FiRel l R [(w.heap.size,#[.slice ao l.length cap,.int .i64 m],52)] w 4 (.int .i64 0) w1):=Lib.hid ⟨0,rfl,rfl,(FR.out.trans (if_pos rfl)).symm,H1.out⟩
 clear H1 FR
 go_wp2_with fail
 go_loopg [9] 4 (FiRel l R [(w.heap.size,#[.slice ao l.length cap,.int .i64 m],52)] w)
 case atStart=>exact G.out
 case round=>
  obtain ⟨i,hi,rfl,hF,hB⟩:=hrel
  have HB:=Lib.hid hB
  have HI:=Lib.hid hi
  clear G hB
  obtain ⟨t0,t1⟩:=cell2 (HB.out.cell 0 rfl)
  by_cases hlt:i<4
  ·have hlt':(i:Int)<4:=by omega
   have hg0:0<gk:=by omega
   have TI:=Lib.hid (IN.out (i:Int) _ (by omega) HB.out.bl)
   have ST:Hid ((if testR (inT (i:Int) l)≠0 then ((i:Int),testR (inT (i:Int) l)) else firstF l (gk-1) ((i:Int)+1))=R):=Lib.hid (by rw [← FF.out,show gk-1+1=gk by omega];exact hF)
   clear hi IN hF FF FZ
   go_wp2_with fail
   (with_reducible refine TI.out.mono ?_)
   rintro e w2 ⟨o,c,rfl,hs,b2⟩
   have H2:=Lib.hid (HB.out.call b2)
   have TT:=Lib.hid (TS.out (i:Int) _ o c hs)
   clear b2 hs TI TS HB t0 t1
   go_wp2_with fail
   (with_reducible refine TT.out.mono ?_)
   rintro e w3 ⟨rfl,b3⟩
   have H3:=Lib.hid (H2.out.call b3)
   clear b3 TT H2
   generalize testR (inT (i:Int) l)=x at *
   by_cases hx:x=0
   ·have FN:Hid (firstF l (gk-1) ((i+1:Nat):Int)=R):=Lib.hid (by
     have:=ST.out
     rw [if_neg (by simpa using hx)] at this
     exact this)
    have hx':(x != 0)=false:=by simp [hx]
    clear ST
    go_wp2
    go_roundg (gk-1)
    case measure=>omega
    case rel=>exact ⟨i+1,by have:=HI.out;omega,by go_num,FN.out,H3.out⟩
   ·have hx':(x != 0)=true:=by simp [hx]
    have E:((i:Int),x)=R:=by
     have:=ST.out
     rw [if_pos hx] at this
     exact this
    subst E
    clear ST hx
    go_wp2
    exact bodyPost_ret (v:=.tuple #[.int .i64 (i:Int),.int .i64 x]) (by simp [results,Tryz.results133,go_sem]) rfl ⟨rfl,H3.out.bl⟩
  ·obtain rfl:i=4:=by omega
   obtain rfl:gk=0:=by omega
   have E:(-1,0)=R:=by rw [← FZ.out ((4:Nat):Int)];exact hF
   subst E
   clear hF FF FZ IN TS
   go_wp2
   exact bodyPost_ret (v:=.tuple #[.int .i64 (-1),.int .i64 0]) (by simp [results,Tryz.results133,go_sem]) rfl ⟨rfl,HB.out.bl⟩
theorem fits_any (t:Tb.Tb) (ao:Option Addr) (cap:Nat) (w:World) (hS:Seen Rw.cs 6 ao t.rows w) (hl:t.rows.length≤1000) :
 Calls Tryz.prog 83 #[tv ao t.rows.length cap t.mode] w fun e w'=>e=.returned (.int .i64 (fitsR t))∧Below w.heap.size w w':=by
 have FI:Hid (∀ W,Below w.heap.size w W→Calls Tryz.prog 133 #[tv ao t.rows.length cap t.mode] W fun e w'=>e=.returned (.tuple #[.int .i64 (firstR t).1,.int .i64 (firstR t).2])∧Below W.heap.size W w'):=Lib.hid (fun W hb=>first_any t ao cap W (hS.below hb (Nat.le_refl _)) hl)
 have H0:=Lib.hid ((bos_nil w).new #[.slice ao t.rows.length cap,.int .i64 t.mode] 52)
 have FR:Hid (fitsR t=(firstR t).2):=Lib.hid rfl
 generalize fitsR t=q at *
 generalize firstR t=R at *
 obtain ⟨R1,R2⟩:=R
 obtain ⟨l,m⟩:=t
 unfold tv at *
 simp only at *
 obtain ⟨t0,t1⟩:=cell2 (H0.out.cell 0 rfl)
 clear hS
 go_enter Tryz.func83,Tryz.ntmps83
 go_wp2_with fail
 (with_reducible refine (FI.out _ H0.out.bl).mono ?_)
 rintro e w1 ⟨rfl,b1⟩
 have H1:=Lib.hid (H0.out.call b1)
 clear b1 FI H0 t0 t1
 go_wp2
 go_ret
 exact ⟨by rw [FR.out];rfl,H1.out.bl⟩
theorem rof_any (t:Tb.Tb) (ao:Option Addr) (cap:Nat) (w:World) (hS:Seen Rw.cs 6 ao t.rows w) (hl:t.rows.length≤1000) :
 Calls Tryz.prog 62 #[tv ao t.rows.length cap t.mode] w fun e w'=>e=.returned (.agg #[.int .i64 (firstR t).1,.int .i64 (firstR t).2])∧Below w.heap.size w w':=by
 have CT:Hid (∀ W,Below w.heap.size w W→Calls Tryz.prog 67 #[tv ao t.rows.length cap t.mode] W fun e w'=>e=.returned (.bool (chkT t))∧Below W.heap.size W w'):=Lib.hid (fun W hb=>rcheck_any t ao cap W (hS.below hb (Nat.le_refl _)) hl)
 have IN:Hid (∀ (k:Int) W,0≤k∧k≤3→Below w.heap.size w W→Calls Tryz.prog 98 #[tv ao t.rows.length cap t.mode,.int .i64 k] W fun e w'=>∃ o c,e=.returned (.slice o (inT k t.rows).length c)∧Seen tcs 5 o (inT k t.rows) w'∧Below W.heap.size W w'):=Lib.hid (fun k W hk hb=>by
  have:=rin_seen t.rows ao cap t.mode k W (hS.below hb (Nat.le_refl _)) hl
  rw [inM_in _ hk] at this
  exact this)
 have TS:Hid (∀ (k:Int) W o c,Seen tcs 5 o (inT k t.rows) W→Calls Tryz.prog 99 #[.slice o (inT k t.rows).length c] W fun e w'=>e=.returned (.int .i64 (testR (inT k t.rows)))∧Below W.heap.size W w'):=Lib.hid (fun k W o c h=>rtest_seen _ o c W h (by have:=inT_len k t.rows;omega))
 have H0:=Lib.hid (((bos_nil w).new #[.slice ao t.rows.length cap,.int .i64 t.mode] 52).new #[.int .i64 0,.int .i64 0] 128)
 rw [World.size_alloc] at H0
 have FR:Hid (firstR t=if chkT t=true then firstF t.rows 4 0 else (-1,1)):=Lib.hid rfl
 generalize firstR t=R at *
 generalize chkT t=q at *
 obtain ⟨l,m⟩:=t
 unfold tv at *
 simp only at *
 obtain ⟨t0,t1⟩:=cell2 (H0.out.cell 1 rfl)
 clear hS
 go_enter Tryz.func62,Tryz.ntmps62
 go_wp2_with fail
 (with_reducible refine (CT.out _ H0.out.bl).mono ?_)
 rintro e w1 ⟨rfl,b1⟩
 have H1:=Lib.hid (H0.out.call b1)
 clear b1 CT H0 t0 t1
 cases q
 ·have E:R=(-1,1):=FR.out.trans (if_neg (by decide))
  subst E
  have zf:=H1.out.fz 0 rfl
  obtain ⟨z0,z1⟩:=cell2 (H1.out.cell 0 rfl)
  have HF:=Lib.hid ((H1.out.set 0 rfl 0 (.int .i64 (-1))).set 0 rfl 1 (.int .i64 1))
  obtain ⟨q0,q1⟩:=cell2 (HF.out.cell 0 rfl)
  go_wp2
  refine bodyPost_ret (v:=.agg #[.int .i64 (-1),.int .i64 1]) (by simp [results,Tryz.results62,go_sem,q0,q1]) rfl ⟨rfl,HF.out.bl⟩
 have FF:Hid (∀ (g:Nat) (i:Int),firstF l (g+1) i=if testR (inT i l)≠0 then (i,testR (inT i l)) else firstF l g (i+1)):=Lib.hid (fun _ _=>rfl)
 have FZ:Hid (∀ i:Int,firstF l 0 i=(-1,0)):=Lib.hid (fun _=>rfl)
 have G:Hid (FiRel l R [(w.heap.size+1,#[.int .i64 0,.int .i64 0],128),(w.heap.size,#[.slice ao l.length cap,.int .i64 m],52)] w 4 (.int .i64 0) w1):=Lib.hid ⟨0,rfl,rfl,(FR.out.trans (if_pos rfl)).symm,H1.out⟩
 clear H1 FR
 go_wp2_with fail
 go_loopg [4] 4 (FiRel l R [(w.heap.size+1,#[.int .i64 0,.int .i64 0],128),(w.heap.size,#[.slice ao l.length cap,.int .i64 m],52)] w)
 case atStart=>exact G.out
 case round=>
  obtain ⟨i,hi,rfl,hF,hB⟩:=hrel
  have HB:=Lib.hid hB
  have HI:=Lib.hid hi
  clear G hB
  obtain ⟨t0,t1⟩:=cell2 (HB.out.cell 1 rfl)
  by_cases hlt:i<4
  ·have hlt':(i:Int)<4:=by omega
   have hg0:0<gk:=by omega
   have TI:=Lib.hid (IN.out (i:Int) _ (by omega) HB.out.bl)
   have ST:Hid ((if testR (inT (i:Int) l)≠0 then ((i:Int),testR (inT (i:Int) l)) else firstF l (gk-1) ((i:Int)+1))=R):=Lib.hid (by rw [← FF.out,show gk-1+1=gk by omega];exact hF)
   clear hi IN hF FF FZ
   go_wp2_with fail
   (with_reducible refine TI.out.mono ?_)
   rintro e w2 ⟨o,c,rfl,hs,b2⟩
   have H2:=Lib.hid (HB.out.call b2)
   have TT:=Lib.hid (TS.out (i:Int) _ o c hs)
   clear b2 hs TI TS HB t0 t1
   go_wp2_with fail
   (with_reducible refine TT.out.mono ?_)
   rintro e w3 ⟨rfl,b3⟩
   have H3:=Lib.hid (H2.out.call b3)
   clear b3 TT H2
   generalize testR (inT (i:Int) l)=x at *
   by_cases hx:x=0
   ·have FN:Hid (firstF l (gk-1) ((i+1:Nat):Int)=R):=Lib.hid (by
     have:=ST.out
     rw [if_neg (by simpa using hx)] at this
     exact this)
    have hx':(x != 0)=false:=by simp [hx]
    clear ST
    go_wp2
    go_roundg (gk-1)
    case measure=>omega
    case rel=>exact ⟨i+1,by have:=HI.out;omega,by go_num,FN.out,H3.out⟩
   ·have hx':(x != 0)=true:=by simp [hx]
    have E:((i:Int),x)=R:=by
     have:=ST.out
     rw [if_pos hx] at this
     exact this
    subst E
    have zf:=H3.out.fz 0 rfl
    obtain ⟨z0,z1⟩:=cell2 (H3.out.cell 0 rfl)
    have HF:=Lib.hid ((H3.out.set 0 rfl 0 (.int .i64 (i:Int))).set 0 rfl 1 (.int .i64 x))
    obtain ⟨q0,q1⟩:=cell2 (HF.out.cell 0 rfl)
    clear ST hx
    go_wp2
    refine bodyPost_ret (v:=.agg #[.int .i64 (i:Int),.int .i64 x]) (by simp [results,Tryz.results62,go_sem,q0,q1]) rfl ⟨rfl,HF.out.bl⟩
  ·obtain rfl:i=4:=by omega
   obtain rfl:gk=0:=by omega
   have E:(-1,0)=R:=by rw [← FZ.out ((4:Nat):Int)];exact hF
   subst E
   have zf:=HB.out.fz 0 rfl
   obtain ⟨z0,z1⟩:=cell2 (HB.out.cell 0 rfl)
   have HF:=Lib.hid ((HB.out.set 0 rfl 0 (.int .i64 (-1))).set 0 rfl 1 (.int .i64 0))
   obtain ⟨q0,q1⟩:=cell2 (HF.out.cell 0 rfl)
   clear hF FF FZ IN TS
   go_wp2
   refine bodyPost_ret (v:=.agg #[.int .i64 (-1),.int .i64 0]) (by simp [results,Tryz.results62,go_sem,q0,q1]) rfl ⟨rfl,HF.out.bl⟩
theorem rfits_any (t:Tb.Tb) (ao:Option Addr) (cap:Nat) (w:World) (hS:Seen Rw.cs 6 ao t.rows w) (hl:t.rows.length≤1000) :
 Calls Tryz.prog 31 #[tv ao t.rows.length cap t.mode] w fun e w'=>e=.returned (.int .i64 (fitsR t))∧Below w.heap.size w w':=by
 have FI:Hid (∀ W,Below w.heap.size w W→Calls Tryz.prog 62 #[tv ao t.rows.length cap t.mode] W fun e w'=>e=.returned (.agg #[.int .i64 (firstR t).1,.int .i64 (firstR t).2])∧Below W.heap.size W w'):=Lib.hid (fun W hb=>rof_any t ao cap W (hS.below hb (Nat.le_refl _)) hl)
 have H0:=Lib.hid ((bos_nil w).new #[.slice ao t.rows.length cap,.int .i64 t.mode] 52)
 have FR:Hid (fitsR t=(firstR t).2):=Lib.hid rfl
 generalize fitsR t=q at *
 generalize firstR t=R at *
 obtain ⟨R1,R2⟩:=R
 obtain ⟨l,m⟩:=t
 unfold tv at *
 simp only at *
 obtain ⟨t0,t1⟩:=cell2 (H0.out.cell 0 rfl)
 clear hS
 go_enter Tryz.func31,Tryz.ntmps31
 go_wp2_with fail
 (with_reducible refine (FI.out _ H0.out.bl).mono ?_)
 rintro e w1 ⟨rfl,b1⟩
 have H1:=Lib.hid ((H0.out.call b1).new #[.int .i64 R1,.int .i64 R2] 128)
 obtain ⟨q0,q1⟩:=cell2 (H1.out.cell 0 rfl)
 clear b1 FI H0 t0 t1
 go_wp2
 go_ret
 exact ⟨by rw [FR.out];rfl,H1.out.bl⟩
end Go.Proofs.YteempfoajgblaaaGreat.Ju
namespace Go.Proofs.YteempfoajgblaaaGreat.Ju
open Pm (Tk)
open Ge (El Seen Row)
open Qp (testR)
open Ox (Od chkR chkR_iff tk0)
open Tb
theorem app_ts {w W:World} {v:Value} {l m:List Tk} {ao:Option Addr} {c:Nat} (hb:Below w.heap.size w W) (hr:Row tcs 5 45 w.heap.size W v l) (hs:Seen tcs 5 ao m W) (hl:l.length+m.length≤100000) :
 ∃ v' W',(Builtin.append_ #[75,75] 75 #[v,.slice ao m.length c]).run Tryz.prog W=.ok v' W'∧Row tcs 5 45 w.heap.size W' v' (l++m)∧Below w.heap.size w W':=by
 cases ao with
 | none=>
  have h0:m=[]:=by
   rcases Nat.eq_zero_or_pos m.length with e|e
   · exact List.eq_nil_of_length_eq_zero e
   · obtain ⟨b,off,e,-⟩:=hs e;cases e
  subst h0
  obtain ⟨ao,cap,rfl,hle,-,-⟩:=Row.form tcs_len hr
  exact ⟨_,W,Ge.all_none elT W _ ao none l.length cap c hle,by rw [List.append_nil];exact hr,hb⟩
 | some ad=>
  obtain ⟨v',W',h1,h2,h3,-⟩:=Ge.row_all elT (c:=c) (ty:=75) hr hs hb.size hl
  exact ⟨v',W',h1,h2,hb.trans h3⟩
def ToRel (l m:List Tk) (w:World) (g:Nat) (s8 s3:Value) (wx:World):Prop:=
 ∃ (i:Nat) (v:Value),i+g=2∧s8=.int .i64 (i:Int)∧v=s3∧Row tcs 5 45 w.heap.size wx v (if i=0 then [] else if i=1 then l else l++m)∧Below w.heap.size w wx
theorem together_any (l m:List Tk) (b:Nat) (lo mo:Option Addr) (lc mc:Nat) (w:World) (hb0:w.cell? ⟨b,0,none⟩=some (.slice lo l.length lc)) (hb1:w.cell? ⟨b,1,none⟩=some (.slice mo m.length mc)) (hl:Seen tcs 5 lo l w) (hm:Seen tcs 5 mo m w) (h1:l.length≤1000) (h2:m.length≤1000) :
 Calls Tryz.prog 174 #[.slice (some ⟨b,0,none⟩) 2 2] w fun e w'=>∃ v,e=.returned v∧Row tcs 5 45 w.heap.size w' v (l++m)∧Below w.heap.size w w':=by
 have C:=Lib.hid (And.intro hb0 hb1)
 have S:=Lib.hid (And.intro hl hm)
 clear hb0 hb1 hl hm
 go_enter Tryz.func174,Tryz.ntmps174
 go_wp2_with fail
 go_loopg [8,3] 2 (ToRel l m w)
 case atStart=>exact ⟨0,_,rfl,rfl,rfl,Ge.row_nil _ _,Below.refl _ _⟩
 case round=>
  obtain ⟨i,v,hi,rfl,rfl,hr,hb⟩:=hrel
  have c0:=carry hb C.out.1
  have c1:=carry hb C.out.2
  have s0:=S.out.1.below hb (Nat.le_refl _)
  have s1:=S.out.2.below hb (Nat.le_refl _)
  obtain rfl|rfl|rfl:i=0∨i=1∨i=2:=by omega
  ·obtain rfl:gk=2:=by omega
   rw [if_pos rfl] at hr
   obtain ⟨v5,w5,ap5,r5,h5⟩:=app_ts (c:=lc) hb hr s0 (by simp;omega)
   rw [List.nil_append] at r5
   obtain ⟨va,vc,rfl,-,-,-⟩:=Row.form tcs_len hr
   have R5:=Lib.hid r5
   have H5:=Lib.hid h5
   clear r5 h5 hr hb s0 s1 S C hi
   go_wp2_with (at_builtin;refine Lib.wpList_append_run _ rfl _ _ _ _ rfl _ _ rfl rfl _ _ ap5 ?_)
   go_roundg 1
   case measure=>omega
   case rel=>exact ⟨1,_,rfl,by go_num,rfl,R5.out,H5.out⟩
  ·obtain rfl:gk=1:=by omega
   rw [if_neg (by decide),if_pos rfl] at hr
   obtain ⟨v5,w5,ap5,r5,h5⟩:=app_ts (c:=mc) hb hr s1 (by omega)
   obtain ⟨va,vc,rfl,-,-,-⟩:=Row.form tcs_len hr
   have R5:=Lib.hid r5
   have H5:=Lib.hid h5
   clear r5 h5 hr hb s0 s1 S C hi
   go_wp2_with (at_builtin;refine Lib.wpList_append_run _ rfl _ _ _ _ rfl _ _ rfl rfl _ _ ap5 ?_)
   go_roundg 0
   case measure=>omega
   case rel=>exact ⟨2,_,rfl,by go_num,rfl,R5.out,H5.out⟩
  ·rw [if_neg (by decide),if_neg (by decide)] at hr
   have RW:=Lib.hid hr
   have KB:=Lib.hid hb
   clear hr hb s0 s1 S c0 c1 C
   go_wp2
   go_ret
   exact ⟨_,rfl,RW.out,KB.out⟩
theorem with_any (t:Tb.Tb) (ex:List Tk) (ao:Option Addr) (cap:Nat) (eo:Option Addr) (ec:Nat) (w:World) (hS:Seen Rw.cs 6 ao t.rows w) (hl:t.rows.length≤1000) (hE:Seen tcs 5 eo ex w) (he:ex.length≤1000) :
 Calls Tryz.prog 137 #[tv ao t.rows.length cap t.mode,.slice eo ex.length ec] w fun e w'=>e=.returned (.int .i64 (withR t ex))∧Below w.heap.size w w':=by
 have FI:Hid (∀ W,Below w.heap.size w W→Calls Tryz.prog 83 #[tv ao t.rows.length cap t.mode] W fun e w'=>e=.returned (.int .i64 (fitsR t))∧Below W.heap.size W w'):=Lib.hid (fun W hb=>fits_any t ao cap W (hS.below hb (Nat.le_refl _)) hl)
 have IN:Hid (∀ W,Below w.heap.size w W→Calls Tryz.prog 173 #[tv ao t.rows.length cap t.mode,.int .i64 t.mode] W fun e w'=>∃ o c,e=.returned (.slice o (inM t.mode t.rows).length c)∧Seen tcs 5 o (inM t.mode t.rows) w'∧Below W.heap.size W w'):=Lib.hid (fun W hb=>in_seen t.rows ao cap t.mode t.mode W (hS.below hb (Nat.le_refl _)) hl)
 have WR:Hid (withR t ex=if fitsR t≠0 then fitsR t else if 16<(inM t.mode t.rows++ex).length then 15 else testR (inM t.mode t.rows++ex)):=Lib.hid rfl
 have IL:=Nat.le_trans (inM_len t.mode t.rows) hl
 have TE:Hid (∀ W o c,Seen tcs 5 o (inM t.mode t.rows++ex) W→Calls Tryz.prog 172 #[.slice o (inM t.mode t.rows++ex).length c] W fun e w'=>e=.returned (.int .i64 (testR (inM t.mode t.rows++ex)))∧Below W.heap.size W w'):=Lib.hid (fun W o c h=>test_seen _ o c W h (by rw [List.length_append];omega))
 have SE:Hid (∀ W,Below w.heap.size w W→Seen tcs 5 eo ex W):=Lib.hid (fun W hb=>hE.below hb (Nat.le_refl _))
 have TO:Hid (∀ W b o c,W.cell? ⟨b,0,none⟩=some (.slice o (inM t.mode t.rows).length c)→W.cell? ⟨b,1,none⟩=some (.slice eo ex.length ec)→Seen tcs 5 o (inM t.mode t.rows) W→Seen tcs 5 eo ex W→Calls Tryz.prog 174 #[.slice (some ⟨b,0,none⟩) 2 2] W fun e w'=>∃ o' c',e=.returned (.slice o' (inM t.mode t.rows++ex).length c')∧Seen tcs 5 o' (inM t.mode t.rows++ex) w'∧Below W.heap.size W w'):=Lib.hid (fun W b o c h0 h1 h2 h3=>(together_any _ _ b o eo c ec W h0 h1 h2 h3 IL he).mono fun e w' ⟨v,he,hr,hb⟩=>by
  obtain ⟨o',c',rfl,-,hs,-⟩:=Row.form tcs_len hr
  exact ⟨o',c',he,hs,hb⟩)
 have H0:=Lib.hid ((bos_nil w).new #[.slice ao t.rows.length cap,.int .i64 t.mode] 52)
 have JL:Hid ((inM t.mode t.rows++ex).length=(inM t.mode t.rows).length+ex.length):=Lib.hid List.length_append
 generalize withR t ex=R at *
 generalize fitsR t=q at *
 generalize inM t.mode t.rows++ex=J at *
 generalize inM t.mode t.rows=I at *
 generalize testR J=x at *
 obtain ⟨l,m⟩:=t
 unfold tv at *
 simp only at *
 generalize l.length=n at *
 obtain ⟨t0,t1⟩:=cell2 (H0.out.cell 0 rfl)
 clear hS hE
 go_enter Tryz.func137,Tryz.ntmps137
 go_wp2_with fail
 (with_reducible refine (FI.out _ H0.out.bl).mono ?_)
 rintro e w1 ⟨rfl,b1⟩
 have H1:=Lib.hid (H0.out.call b1)
 clear b1 FI H0 t0 t1
 obtain ⟨t0,t1⟩:=cell2 (H1.out.cell 0 rfl)
 by_cases hq:q=0
 case neg=>
  have hq':(q != 0)=true:=by simp [hq]
  have E:Hid (R=q):=Lib.hid (WR.out.trans (if_pos hq))
  clear WR hq
  go_wp2
  go_ret
  exact ⟨by rw [E.out];rfl,H1.out.bl⟩
 subst hq
 have E:Hid (R=if 16<J.length then 15 else x):=Lib.hid (WR.out.trans (if_neg (by simp)))
 clear WR
 have CI:=Lib.hid (IN.out _ H1.out.bl)
 clear IN
 go_wp2_with fail
 (with_reducible refine CI.out.mono ?_)
 rintro e w2 ⟨o,c,rfl,hs,b2⟩
 have H2:=Lib.hid (H1.out.call b2)
 have IS:=Lib.hid hs
 clear b2 hs CI H1 t0 t1
 have hsum:IntKind.i64.wrap ((I.length:Int)+(ex.length:Int))=((I.length+ex.length:Nat):Int):=by rw [IntWalk.i64_in _ (by omega)];omega
 have hsum2:(I.length:Int)+(ex.length:Int)=((I.length+ex.length:Nat):Int):=by omega
 have JK:=JL.out
 rw [← JK] at hsum hsum2
 clear JK
 by_cases h16:16<J.length
 ·have EE:=Lib.hid (E.out.trans (if_pos h16))
  have h16':(16:Int)<(J.length:Int):=by omega
  clear E h16 JL
  generalize J.length=k at *
  go_wp2
  go_ret
  exact ⟨by rw [EE.out];rfl,H2.out.bl⟩
 have EE:=Lib.hid (E.out.trans (if_neg h16))
 have h16':(J.length:Int)≤16:=by omega
 have ba:Below w2.heap.size w2 (w2.alloc (.cells #[.slice o I.length c,.slice eo ex.length ec] 75)):=(Below.refl _ _).alloc (Nat.le_refl _) _
 have H3:=Lib.hid (H2.out.new #[.slice o I.length c,.slice eo ex.length ec] 75)
 have u:=cell2 (H3.out.cell 0 rfl)
 have CO:=Lib.hid (TO.out _ _ o c u.1 u.2 (IS.out.call ba) (SE.out _ H3.out.bl))
 clear ba u E h16 JL TO IS SE H2
 generalize J.length=k at *
 go_wp2_with fail
 (with_reducible refine CO.out.mono ?_)
 rintro e w4 ⟨o',c',rfl,hs,b4⟩
 have H4:=Lib.hid (H3.out.call b4)
 have CE:=Lib.hid (TE.out _ o' c' hs)
 clear hs b4 H3 CO TE
 go_wp2_with fail
 (with_reducible refine CE.out.mono ?_)
 rintro e w5 ⟨rfl,b5⟩
 have Z:=Lib.hid (H4.out.call b5).bl
 clear b5 CE H4
 go_wp2
 go_ret
 exact ⟨by rw [EE.out];rfl,Z.out⟩
theorem rwith_any (t:Tb.Tb) (ex:List Tk) (ao:Option Addr) (cap:Nat) (eo:Option Addr) (ec:Nat) (w:World) (hS:Seen Rw.cs 6 ao t.rows w) (hl:t.rows.length≤1000) (hE:Seen tcs 5 eo ex w) (he:ex.length≤1000) :
 Calls Tryz.prog 61 #[tv ao t.rows.length cap t.mode,.slice eo ex.length ec] w fun e w'=>e=.returned (.int .i64 (withR t ex))∧Below w.heap.size w w':=by
 have FI:Hid (∀ W,Below w.heap.size w W→Calls Tryz.prog 31 #[tv ao t.rows.length cap t.mode] W fun e w'=>e=.returned (.int .i64 (fitsR t))∧Below W.heap.size W w'):=Lib.hid (fun W hb=>rfits_any t ao cap W (hS.below hb (Nat.le_refl _)) hl)
 have IN:Hid (∀ W,Below w.heap.size w W→Calls Tryz.prog 98 #[tv ao t.rows.length cap t.mode,.int .i64 t.mode] W fun e w'=>∃ o c,e=.returned (.slice o (inM t.mode t.rows).length c)∧Seen tcs 5 o (inM t.mode t.rows) w'∧Below W.heap.size W w'):=Lib.hid (fun W hb=>rin_seen t.rows ao cap t.mode t.mode W (hS.below hb (Nat.le_refl _)) hl)
 have WR:Hid (withR t ex=if fitsR t≠0 then fitsR t else if 16<(inM t.mode t.rows++ex).length then 15 else testR (inM t.mode t.rows++ex)):=Lib.hid rfl
 have IL:=Nat.le_trans (inM_len t.mode t.rows) hl
 have TE:Hid (∀ W o c,Seen tcs 5 o (inM t.mode t.rows++ex) W→Calls Tryz.prog 99 #[.slice o (inM t.mode t.rows++ex).length c] W fun e w'=>e=.returned (.int .i64 (testR (inM t.mode t.rows++ex)))∧Below W.heap.size W w'):=Lib.hid (fun W o c h=>rtest_seen _ o c W h (by rw [List.length_append];omega))
 have SE:Hid (∀ W,Below w.heap.size w W→Seen tcs 5 eo ex W):=Lib.hid (fun W hb=>hE.below hb (Nat.le_refl _))
 have AP:Hid (∀ W b v ls o (m:List Tk) c,Below w.heap.size w W→Row tcs 5 45 w.heap.size W v ls→Seen tcs 5 o m W→ls.length+m.length≤100000→b=c→∃ v' W',(Builtin.append_ #[75,75] 75 #[v,.slice o m.length c]).run Tryz.prog W=.ok v' W'∧Row tcs 5 45 w.heap.size W' v' (ls++m)∧Below w.heap.size w W'):=Lib.hid (fun W b v ls o m c h1 h2 h3 h4 _=>app_ts h1 h2 h3 h4)
 have H0:=Lib.hid ((bos_nil w).new #[.slice ao t.rows.length cap,.int .i64 t.mode] 52)
 have JL:Hid ((inM t.mode t.rows++ex).length=(inM t.mode t.rows).length+ex.length):=Lib.hid List.length_append
 have IX:Hid (∃ I,I=inM t.mode t.rows):=Lib.hid ⟨_,rfl⟩
 generalize withR t ex=R at *
 generalize fitsR t=q at *
 generalize hJ:inM t.mode t.rows++ex=J at *
 generalize inM t.mode t.rows=I at *
 have HJ:=Lib.hid hJ
 generalize testR J=x at *
 obtain ⟨l,m⟩:=t
 unfold tv at *
 simp only at *
 generalize l.length=n at *
 obtain ⟨t0,t1⟩:=cell2 (H0.out.cell 0 rfl)
 clear hS hE IX hJ
 go_enter Tryz.func61,Tryz.ntmps61
 go_wp2_with fail
 (with_reducible refine (FI.out _ H0.out.bl).mono ?_)
 rintro e w1 ⟨rfl,b1⟩
 have H1:=Lib.hid (H0.out.call b1)
 clear b1 FI H0 t0 t1
 obtain ⟨t0,t1⟩:=cell2 (H1.out.cell 0 rfl)
 by_cases hq:q=0
 case neg=>
  have hq':(q != 0)=true:=by simp [hq]
  have E:Hid (R=q):=Lib.hid (WR.out.trans (if_pos hq))
  clear WR hq
  go_wp2
  go_ret
  exact ⟨by rw [E.out];rfl,H1.out.bl⟩
 subst hq
 have E:Hid (R=if 16<J.length then 15 else x):=Lib.hid (WR.out.trans (if_neg (by simp)))
 have B2:=Lib.hid (H1.out.new #[] 45)
 have R2:Hid (Row tcs 5 45 w.heap.size (w1.alloc (.cells #[] 45)) (.slice (some ⟨w1.heap.size,0,none⟩) 0 0) []):=Lib.hid ⟨rfl,.inr ⟨w1.heap.size,0,#[],rfl,H1.out.bl.size,heap_alloc_new _ _,Nat.le_refl _,by simp [maxLen],rfl,rfl⟩⟩
 obtain ⟨t0,t1⟩:=cell2 (B2.out.cell 1 rfl)
 have CI:=Lib.hid (IN.out _ B2.out.bl)
 clear IN WR H1
 go_wp2_with fail
 (with_reducible refine CI.out.mono ?_)
 rintro e w2 ⟨o,c,rfl,hs,b2⟩
 have H2:=Lib.hid (B2.out.call b2)
 obtain ⟨v3,w3,ap3,r3,h3⟩:=AP.out _ _ _ _ o I c H2.out.bl (R2.out.call b2) hs (by simp;omega) rfl
 rw [List.nil_append] at r3
 obtain ⟨o3,c3,rfl,-,-,-⟩:=Row.form tcs_len r3
 obtain ⟨v4,w4,ap4,r4,h4⟩:=AP.out _ _ _ _ eo ex ec h3 r3 (SE.out _ h3) (by omega) rfl
 rw [HJ.out] at r4
 obtain ⟨o4,c4,rfl,-,s4,-⟩:=Row.form tcs_len r4
 have S4:=Lib.hid s4
 have Z4:=Lib.hid h4
 have JK:=JL.out
 clear b2 hs CI H2 t0 t1 r3 h3 r4 h4 s4 AP B2 R2 HJ JL SE
 have hj1:J.length≤2000:=by omega
 clear JK
 have CE:=Lib.hid (TE.out _ o4 c4 S4.out)
 clear TE
 by_cases h16:16<J.length
 ·have EE:=Lib.hid (E.out.trans (if_pos h16))
  have h16':(16:Int)<(J.length:Int):=by omega
  clear E h16
  generalize J.length=k at *
  go_wp2_with (first|(at_builtin;refine Lib.wpList_append_run _ rfl _ _ _ _ rfl _ _ rfl rfl _ _ ap3 ?_)|(at_builtin;refine Lib.wpList_append_run _ rfl _ _ _ _ rfl _ _ rfl rfl _ _ ap4 ?_))
  go_ret
  exact ⟨by rw [EE.out];rfl,Z4.out⟩
 have EE:=Lib.hid (E.out.trans (if_neg h16))
 have h16':(J.length:Int)≤16:=by omega
 clear E h16
 generalize J.length=k at *
 go_wp2_with (first|(at_builtin;refine Lib.wpList_append_run _ rfl _ _ _ _ rfl _ _ rfl rfl _ _ ap3 ?_)|(at_builtin;refine Lib.wpList_append_run _ rfl _ _ _ _ rfl _ _ rfl rfl _ _ ap4 ?_)|fail)
 (with_reducible refine CE.out.mono ?_)
 rintro e w5 ⟨rfl,b5⟩
 have Z:=Lib.hid (Z4.out.trans (b5.mono Z4.out.size))
 clear b5 CE
 go_wp2
 go_ret
 exact ⟨by rw [EE.out];rfl,Z.out⟩
end Go.Proofs.YteempfoajgblaaaGreat.Ju
namespace Go.Proofs.YteempfoajgblaaaGreat.Ju
open Pm (Tk)
open Ge (El Seen Row)
open Qp (testR)
open Ox (Od chkR chkR_iff tk0)
open Tb
theorem apply_len (t:Tb.Tb) (o:Od):(applyR t o).1.rows.length≤16:=by
 by_cases h:(applyR t o).2=0
 · exact (chkT_iff.1 (apply_chk h).1).2.2.1
 ·have key:(applyR t o).1=tb0∨(applyR t o).2=0:=by
   unfold applyR
   repeat' split
   all_goals first|exact .inl rfl|exact .inr rfl
  rcases key with e|e
  · rw [e];decide
  · exact absurd e h
theorem may_any (t:Tb.Tb) (o:Od) (ex:List Tk) (ao:Option Addr) (cap:Nat) (eo:Option Addr) (ec:Nat) (w:World) (hS:Sl (.slice ao t.rows.length cap) t.rows w ao cap) (hl:t.rows.length≤1000) (hE:Seen tcs 5 eo ex w) (he:ex.length≤1000) :
 Calls Tryz.prog 91 #[tv ao t.rows.length cap t.mode,o.v,.slice eo ex.length ec] w fun e w'=>∃ v,e=.returned (.tuple #[v,.int .i64 (mayR t o ex).2])∧Tb.Told v (mayR t o ex).1 w'∧Below w.heap.size w w':=by
 have AP:Hid (∀ W,Below w.heap.size w W→Calls Tryz.prog 132 #[tv ao t.rows.length cap t.mode,o.v] W fun e w'=>∃ v,e=.returned (.tuple #[v,.int .i64 (applyR t o).2])∧Tb.Told v (applyR t o).1 w'∧Below W.heap.size W w'):=Lib.hid (fun W hb=>apply_any t o ao cap W (hS.seen.below hb (Nat.le_refl _)) hl)
 have WI:Hid (∀ W a c,Below w.heap.size w W→Seen Rw.cs 6 a (applyR t o).1.rows W→Calls Tryz.prog 137 #[tv a (applyR t o).1.rows.length c (applyR t o).1.mode,.slice eo ex.length ec] W fun e w'=>e=.returned (.int .i64 (withR (applyR t o).1 ex))∧Below W.heap.size W w'):=Lib.hid (fun W a c hb h=>with_any _ ex a c eo ec W h (by have:=apply_len t o;omega) (hE.below hb (Nat.le_refl _)) he)
 have MR:Hid (mayR t o ex=if (applyR t o).2≠0 then (tb0,(applyR t o).2) else if withR (applyR t o).1 ex≠0 then (tb0,withR (applyR t o).1 ex) else ((applyR t o).1,0)):=Lib.hid rfl
 have H0:=Lib.hid (to_new w (.slice ao t.rows.length cap) t.mode o.cs)
 generalize mayR t o ex=M at *
 generalize applyR t o=R at *
 obtain ⟨R1,R2⟩:=R
 generalize withR R1 ex=x at *
 obtain ⟨l,m⟩:=t
 obtain ⟨k,⟨i,c,d,tt,tm⟩,s,oi,oc,om⟩:=o
 unfold tv Od.v Od.cs at *
 simp only at *
 generalize l.length=n at *
 generalize ex.length=en at *
 clear hS hE
 obtain ⟨t0,t1⟩:=cell2 (H0.out.cell 2 rfl)
 obtain ⟨o0,o1,o2,o3,o4,o5,o6,o7,o8,o9⟩:=cell10 (H0.out.cell 1 rfl)
 go_enter Tryz.func91,Tryz.ntmps91
 go_wp2_with fail
 (with_reducible refine (AP.out _ H0.out.bl).mono ?_)
 rintro e w1 ⟨v,rfl,⟨a1,c1,rfl,s1⟩,b1⟩
 have H1:=Lib.hid (H0.out.call b1)
 have G1:=Lib.hid (H1.out.new #[.slice a1 R1.rows.length c1,.int .i64 R1.mode] 52)
 have S1:=Lib.hid (s1.call ((Below.refl _ _).alloc (Nat.le_refl _) (.cells #[.slice a1 R1.rows.length c1,.int .i64 R1.mode] 52)))
 clear b1 s1 AP H0 H1 t0 t1 o0 o1 o2 o3 o4 o5 o6 o7 o8 o9
 obtain ⟨z0,z1⟩:=cell2 (G1.out.cell 1 rfl)
 have zf:=G1.out.fz 1 rfl
 obtain ⟨y0,y1⟩:=cell2 (G1.out.cell 0 rfl)
 unfold tv at *
 by_cases hR:R2=0
 case neg=>
  have hR':(R2 != 0)=true:=by simp [hR]
  have E:M=(tb0,R2):=MR.out.trans (if_pos hR)
  subst E
  have HF:=Lib.hid ((G1.out.set 1 rfl 0 (.slice none 0 0)).set 1 rfl 1 (.int .i64 0))
  obtain ⟨q0,q1⟩:=cell2 (HF.out.cell 1 rfl)
  clear hR MR WI
  go_wp2
  exact bodyPost_ret (v:=.tuple #[.agg #[.slice none 0 0,.int .i64 0],.int .i64 R2]) (by simp [results,Tryz.results91,go_sem,q0,q1]) rfl ⟨_,rfl,told_zero _,HF.out.bl⟩
 subst hR
 have WC:=Lib.hid (WI.out _ a1 c1 G1.out.bl S1.out.seen)
 have MM:Hid (M=if x≠0 then (tb0,x) else (R1,0)):=Lib.hid (MR.out.trans (if_neg (by simp)))
 clear WI MR
 go_wp2_with fail
 (with_reducible refine WC.out.mono ?_)
 rintro e w2 ⟨rfl,b2⟩
 have G2:=Lib.hid (G1.out.call b2)
 have S2:=Lib.hid (S1.out.call b2)
 clear b2 WC G1 S1 z0 z1 zf y0 y1
 obtain ⟨z0,z1⟩:=cell2 (G2.out.cell 1 rfl)
 have zf:=G2.out.fz 1 rfl
 obtain ⟨y0,y1⟩:=cell2 (G2.out.cell 0 rfl)
 by_cases hx:x=0
 case neg=>
  have hx':(x != 0)=true:=by simp [hx]
  have E:M=(tb0,x):=MM.out.trans (if_pos hx)
  subst E
  have HF:=Lib.hid ((G2.out.set 1 rfl 0 (.slice none 0 0)).set 1 rfl 1 (.int .i64 0))
  obtain ⟨q0,q1⟩:=cell2 (HF.out.cell 1 rfl)
  clear hx MM
  go_wp2
  exact bodyPost_ret (v:=.tuple #[.agg #[.slice none 0 0,.int .i64 0],.int .i64 x]) (by simp [results,Tryz.results91,go_sem,q0,q1]) rfl ⟨_,rfl,told_zero _,HF.out.bl⟩
 subst hx
 have E:M=(R1,0):=MM.out.trans (if_neg (by simp))
 subst E
 have HF:=Lib.hid ((G2.out.set 1 rfl 0 (.slice a1 R1.rows.length c1)).set 1 rfl 1 (.int .i64 R1.mode))
 have SF:=Lib.hid ((S2.out.set G2.out 1 rfl (by decide) 0 (.slice a1 R1.rows.length c1)).set (G2.out.set 1 rfl 0 (.slice a1 R1.rows.length c1)) 1 rfl (by simp) 1 (.int .i64 R1.mode))
 obtain ⟨q0,q1⟩:=cell2 (HF.out.cell 1 rfl)
 clear MM
 go_wp2
 exact bodyPost_ret (v:=.tuple #[.agg #[.slice a1 R1.rows.length c1,.int .i64 R1.mode],.int .i64 0]) (by simp [results,Tryz.results91,go_sem,q0,q1]) rfl ⟨_,rfl,⟨a1,c1,rfl,SF.out⟩,HF.out.bl⟩
theorem rmay_any (t:Tb.Tb) (o:Od) (ex:List Tk) (ao:Option Addr) (cap:Nat) (eo:Option Addr) (ec:Nat) (w:World) (hS:Sl (.slice ao t.rows.length cap) t.rows w ao cap) (hl:t.rows.length≤1000) (hE:Seen tcs 5 eo ex w) (he:ex.length≤1000) :
 Calls Tryz.prog 30 #[tv ao t.rows.length cap t.mode,o.v,.slice eo ex.length ec] w fun e w'=>∃ v,e=.returned (.tuple #[v,.int .i64 (mayR t o ex).2])∧Tb.Told v (mayR t o ex).1 w'∧Below w.heap.size w w':=by
 have AP:Hid (∀ W,Below w.heap.size w W→Calls Tryz.prog 60 #[tv ao t.rows.length cap t.mode,o.v] W fun e w'=>∃ v,e=.returned (.tuple #[v,.int .i64 (applyR t o).2])∧Tb.Told v (applyR t o).1 w'∧Below W.heap.size W w'):=Lib.hid (fun W hb=>rapply_any t o ao cap W (hS.call hb) hl)
 have WI:Hid (∀ W a c,Below w.heap.size w W→Seen Rw.cs 6 a (applyR t o).1.rows W→Calls Tryz.prog 61 #[tv a (applyR t o).1.rows.length c (applyR t o).1.mode,.slice eo ex.length ec] W fun e w'=>e=.returned (.int .i64 (withR (applyR t o).1 ex))∧Below W.heap.size W w'):=Lib.hid (fun W a c hb h=>rwith_any _ ex a c eo ec W h (by have:=apply_len t o;omega) (hE.below hb (Nat.le_refl _)) he)
 have MR:Hid (mayR t o ex=if (applyR t o).2≠0 then (tb0,(applyR t o).2) else if withR (applyR t o).1 ex≠0 then (tb0,withR (applyR t o).1 ex) else ((applyR t o).1,0)):=Lib.hid rfl
 have H0:=Lib.hid (to_new w (.slice ao t.rows.length cap) t.mode o.cs)
 generalize mayR t o ex=M at *
 generalize applyR t o=R at *
 obtain ⟨R1,R2⟩:=R
 generalize withR R1 ex=x at *
 obtain ⟨l,m⟩:=t
 obtain ⟨k,⟨i,c,d,tt,tm⟩,s,oi,oc,om⟩:=o
 unfold tv Od.v Od.cs at *
 simp only at *
 generalize l.length=n at *
 generalize ex.length=en at *
 clear hS hE
 obtain ⟨t0,t1⟩:=cell2 (H0.out.cell 2 rfl)
 obtain ⟨o0,o1,o2,o3,o4,o5,o6,o7,o8,o9⟩:=cell10 (H0.out.cell 1 rfl)
 go_enter Tryz.func30,Tryz.ntmps30
 go_wp2_with fail
 (with_reducible refine (AP.out _ H0.out.bl).mono ?_)
 rintro e w1 ⟨v,rfl,⟨a1,c1,rfl,s1⟩,b1⟩
 have H1:=Lib.hid (H0.out.call b1)
 have G1:=Lib.hid (H1.out.new #[.slice a1 R1.rows.length c1,.int .i64 R1.mode] 52)
 have S1:=Lib.hid (s1.call ((Below.refl _ _).alloc (Nat.le_refl _) (.cells #[.slice a1 R1.rows.length c1,.int .i64 R1.mode] 52)))
 clear b1 s1 AP H0 H1 t0 t1 o0 o1 o2 o3 o4 o5 o6 o7 o8 o9
 obtain ⟨z0,z1⟩:=cell2 (G1.out.cell 1 rfl)
 have zf:=G1.out.fz 1 rfl
 obtain ⟨y0,y1⟩:=cell2 (G1.out.cell 0 rfl)
 unfold tv at *
 by_cases hR:R2=0
 case neg=>
  have hR':(R2 != 0)=true:=by simp [hR]
  have E:M=(tb0,R2):=MR.out.trans (if_pos hR)
  subst E
  have HF:=Lib.hid ((G1.out.set 1 rfl 0 (.slice none 0 0)).set 1 rfl 1 (.int .i64 0))
  obtain ⟨q0,q1⟩:=cell2 (HF.out.cell 1 rfl)
  clear hR MR WI
  go_wp2
  exact bodyPost_ret (v:=.tuple #[.agg #[.slice none 0 0,.int .i64 0],.int .i64 R2]) (by simp [results,Tryz.results30,go_sem,q0,q1]) rfl ⟨_,rfl,told_zero _,HF.out.bl⟩
 subst hR
 have WC:=Lib.hid (WI.out _ a1 c1 G1.out.bl S1.out.seen)
 have MM:Hid (M=if x≠0 then (tb0,x) else (R1,0)):=Lib.hid (MR.out.trans (if_neg (by simp)))
 clear WI MR
 go_wp2_with fail
 (with_reducible refine WC.out.mono ?_)
 rintro e w2 ⟨rfl,b2⟩
 have G2:=Lib.hid (G1.out.call b2)
 have S2:=Lib.hid (S1.out.call b2)
 clear b2 WC G1 S1 z0 z1 zf y0 y1
 obtain ⟨z0,z1⟩:=cell2 (G2.out.cell 1 rfl)
 have zf:=G2.out.fz 1 rfl
 obtain ⟨y0,y1⟩:=cell2 (G2.out.cell 0 rfl)
 by_cases hx:x=0
 case neg=>
  have hx':(x != 0)=true:=by simp [hx]
  have E:M=(tb0,x):=MM.out.trans (if_pos hx)
  subst E
  have HF:=Lib.hid ((G2.out.set 1 rfl 0 (.slice none 0 0)).set 1 rfl 1 (.int .i64 0))
  obtain ⟨q0,q1⟩:=cell2 (HF.out.cell 1 rfl)
  clear hx MM
  go_wp2
  exact bodyPost_ret (v:=.tuple #[.agg #[.slice none 0 0,.int .i64 0],.int .i64 x]) (by simp [results,Tryz.results30,go_sem,q0,q1]) rfl ⟨_,rfl,told_zero _,HF.out.bl⟩
 subst hx
 have E:M=(R1,0):=MM.out.trans (if_neg (by simp))
 subst E
 have HF:=Lib.hid ((G2.out.set 1 rfl 0 (.slice a1 R1.rows.length c1)).set 1 rfl 1 (.int .i64 R1.mode))
 have SF:=Lib.hid ((S2.out.set G2.out 1 rfl (by decide) 0 (.slice a1 R1.rows.length c1)).set (G2.out.set 1 rfl 0 (.slice a1 R1.rows.length c1)) 1 rfl (by simp) 1 (.int .i64 R1.mode))
 obtain ⟨q0,q1⟩:=cell2 (HF.out.cell 1 rfl)
 clear MM
 go_wp2
 exact bodyPost_ret (v:=.tuple #[.agg #[.slice a1 R1.rows.length c1,.int .i64 R1.mode],.int .i64 0]) (by simp [results,Tryz.results30,go_sem,q0,q1]) rfl ⟨_,rfl,⟨a1,c1,rfl,SF.out⟩,HF.out.bl⟩
end Go.Proofs.YteempfoajgblaaaGreat.Ju
