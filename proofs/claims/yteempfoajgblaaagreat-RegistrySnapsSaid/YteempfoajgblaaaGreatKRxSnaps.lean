/- horariumlaw20.RegistrySnaps answers true at every row of ops by numbers: a snapshot leaves the set, and gives all room back; what is opened behind it is the same. No condition. -/
import Derived.Test.YteempfoajgblaaaGreatKRgK
import Derived.Deep.CutBlock
import Derived.Deep.DeepCutAuto
import Derived.Test.YteempfoajgblaaaGreatKGnH
namespace Go.Proofs.YteempfoajgblaaaGreat.registrySnaps
open Go.ChangeShapes Go.WideShapes Go.ChangeAt Go.RowKit Go.Joins
set_option maxRecDepth 100000
set_option linter.unusedVariables false
set_option linter.unusedSimpArgs false
open Dk (Dk DS Own Moved ptr)
open Jn (JL Jt Jd Kp Since)
open Ox (Od)
open Pm (Tk)
open Ju (mayR fitsR Nm opR op_any seen_nm open_nms)
open Tb (Rw tb0 applyR)
open Ge (Seen)
open Rg
def SnRel (n:Nat) (w:World) (b g:Nat) (m:Nat) (s7:Value) (wr:World):Prop:=
 ∃ (i:Nat) (T:Tb.Tb),i+m=n∧s7=.int .i64 (i:Int)∧Rc w.heap.size b g 5 0 T (i+1) (18+24*i) w wr
set_option maxRecDepth 100000 in
set_option maxHeartbeats 16000000 in
theorem walk (l:List Nm) (lo:Option Addr) (lc:Nat) (w:World) (hl:l.length≤9223372036854775807) (hL:Seen Nm.cs 7 lo l w):Calls Tryz.prog 7 #[.slice lo l.length lc] w fun e w'=>e=.returned (.bool true)∧Below w.heap.size w w':=by
 have AW:=Lib.hid (fun w=>awake_any w)
 have ND:=Lib.hid (fun w1 (hb:Below w.heap.size w w1)=>(show Calls Tryz.prog 9 #[.int .i64 23] w1 fun e w'=>e=.returned (ptr (w1.heap.size+1))∧Dk w.heap.size (w1.heap.size+1) ⟨zs (18+5),[],0,0⟩ w'∧Below w.heap.size w w' from disk_t 23 w w1 hb (by omega) (by omega)))
 have FO:=Lib.hid (fun b w1 (h:Dk w.heap.size b ⟨zs (18+5),[],0,0⟩ w1) (hb:Below w.heap.size w w1)=>format_c w.heap.size b 5 0 w w1 h hb (Since.below (Nat.le_refl _) hb) (by omega) (by omega) (by omega))
 have DO:Hid (∀ (b g m:Nat) (T:Tb.Tb) (M R:Nat) (w1:World) (o:Od),Rc w.heap.size b g 5 m T M R w w1→M<256→Calls Tryz.prog 21 #[ptr g,o.v,.slice none 0 0] w1 fun x w'=>∃ c m' T',x=.returned (.int .i64 c)∧Did T o [] 5 m c m' T'∧Rc w.heap.size b g 5 m' T' M R w w'∧Kr w1 w'):=Lib.hid (fun b g m T M R w1 o h hM=>do_c w.heap.size b g 5 m T M R w w1 o [] none 0 h hM (Ge.seen_nil _ _) (by simp))
 have SN:=Lib.hid (fun b g m T M R w1 h hM=>snap_c w.heap.size b g 5 m T M R w w1 h hM)
 have TA:=Lib.hid (fun b g m T M R w1 h=>table_c w.heap.size b g 5 m T M R w w1 h)
 have GO:=Lib.hid (fun b g m T M R w1 h=>good_c w.heap.size b g 5 m T M R w w1 h)
 have LE:=Lib.hid (fun b g m T M R w1 h=>left_c w.heap.size b g 5 m T M R w w1 h)
 have OP:=Lib.hid (fun b g m T M R w1 h hM hR=>open_c w.heap.size b g 5 m T M R w w1 h hM hR)
 have SA:=Lib.hid (fun a b ao bo cl ck w1 ha hb h1 h2=>Tb.rsame_any a b ao bo cl ck w1 ha hb h1 h2)
 have NS:=Lib.hid hL
 clear hL
 go_enter Tryz.func7,Tryz.ntmps7
 go_wp2_with fail
 (with_reducible refine (AW.out _).mono ?_)
 rintro e w1 ⟨rfl,b1⟩
 have ND1:=Lib.hid (ND.out w1 b1)
 clear AW ND b1
 go_wp2_with fail
 (with_reducible refine ND1.out.mono ?_)
 rintro e w2 ⟨rfl,d2,b2⟩
 generalize w1.heap.size+1=b at *
 have FO2:=Lib.hid (FO.out b w2 d2 b2)
 clear ND1 FO d2 b2
 go_wp2_with fail
 (with_reducible refine FO2.out.mono ?_)
 rintro e w3 ⟨g,rfl,r3,-⟩
 have R3:=Lib.hid r3
 clear FO2 r3
 go_wp2_with fail
 obtain ⟨n,hn⟩:∃ n,n=min l.length 12:=⟨_,rfl⟩
 have HN:=Lib.hid hn
 clear hn
 go_loopg [7] n (SnRel n w b g)
 case atStart=>exact ⟨0,tb0,by omega,rfl,R3.out⟩
 case round=>
  obtain ⟨i,T,hi,rfl,hrc⟩:=hrel
  have RC:=Lib.hid hrc
  clear R3 hrc
  by_cases hlt:i<n
  ·have hil:i<l.length:=by have:=HN.out; omega
   have hi12:i<12:=by have:=HN.out; omega
   have hx:=List.getElem?_eq_getElem hil
   obtain ⟨lb,off,rfl,hop⟩:=seen_nm (NS.out.below RC.out.bel (Nat.le_refl _)) hx
   obtain ⟨x0,x1,x2,x3,x4,x5,x6⟩:=hop wr (Below.refl _ _)
   generalize l[i]=x at *
   have hil1:(i:Int)<(l.length:Int):=by omega
   have hi61:(i:Int)<12:=by omega
   have hiw:IntKind.i64.wrap (i:Int)=(i:Int):=IntWalk.i64_in _ (by omega)
   have hiw1:IntKind.i64.wrap ((i:Int)+1)=(i:Int)+1:=IntWalk.i64_in _ (by omega)
   have OPX:=Lib.hid (op_any x wr)
   have DO1:=Lib.hid (fun w1 h=>DO.out b g 0 T (i+1) (18+24*i) w1 (opR x) h (by omega))
   generalize opR x=y at *
   have HI:=Lib.hid hi
   have HLT:=Lib.hid hlt
   clear hx hop hi hlt DO
   obtain ⟨nk,ni,nc,nd,nt,nm,ns⟩:=x
   unfold Ju.Nm.v at *
   simp only at x0 x1 x2 x3 x4 x5 x6
   go_wp2_with fail
   (with_reducible refine OPX.out.mono ?_)
   rintro e w4 ⟨rfl,b4⟩
   have DO2:=Lib.hid (DO1.out w4 (RC.out.call b4))
   clear OPX DO1 RC b4 x0 x1 x2 x3 x4 x5 x6
   go_wp2_with fail
   (with_reducible refine DO2.out.mono ?_)
   rintro e w5 ⟨c5,m5,T5,rfl,hd,r5,-⟩
   have TA5:=Lib.hid (TA.out b g m5 T5 (i+1) (18+24*i) w5 r5)
   have R5:=Lib.hid r5
   clear DO2 r5 hd
   go_wp2_with fail
   (with_reducible refine TA5.out.mono ?_)
   rintro e w6 ⟨v6,rfl,⟨ao,cap,rfl,hs⟩,b6⟩
   have bA:=(Below.refl w6.heap.size w6).alloc (Nat.le_refl _) (.cells #[.slice ao T5.rows.length cap,.int .i64 T5.mode] 52)
   have R6:=Lib.hid ((R5.out.call b6).call bA)
   have S6:=Lib.hid (hs.call bA)
   have O6:Hid ((w6.alloc (.cells #[.slice ao T5.rows.length cap,.int .i64 T5.mode] 52)).heap[w6.heap.size]?=some (.cells #[.slice ao T5.rows.length cap,.int .i64 T5.mode] 52 (0,0))):=Lib.hid (heap_alloc_new w6 _)
   have SN6:=Lib.hid (fun W h=>SN.out b g m5 T5 (i+1) (18+24*i) W h (by omega))
   have HF:=Lib.hid ((Tb.chkT_iff.1 (Ju.fits_zero.1 R5.out.fits).1).2.2.1)
   clear TA5 R5 hs b6 bA SN
   unfold Tb.tv
   generalize hq:T5.rows.length=q at *
   generalize hz:T5.mode=z at *
   have HQ:=Lib.hid (And.intro hq hz)
   clear hq hz
   go_upto_region 11 with (fail)
   generalize w6.alloc (.cells #[.slice ao q cap,.int .i64 z] 52)=W6 at *
   generalize w6.heap.size=ob at *
   go_wp2_with fail
   (with_reducible refine (SN6.out _ R6.out).mono ?_)
   rintro e w7 ⟨rfl,r7,k7⟩
   have R7:=Lib.hid r7
   have S7:=Lib.hid (sl_kr S6.out k7)
   have O7:=Lib.hid (k7.keep _ _ _ _ O6.out (by decide))
   have LE7:=Lib.hid (LE.out b g 0 T5 (i+1+1) (18+24*i) w7 r7)
   clear SN6 r7 k7 R6 S6 O6
   go_wp2_with fail
   (with_reducible refine LE7.out.mono ?_)
   rintro e w8 ⟨rfl,b8⟩
   have OP8:=Lib.hid (OP.out b g 0 T5 (i+1+1) (18+24*i) w8 (R7.out.call b8) (by omega) (by omega))
   have S8:=Lib.hid (S7.out.call b8)
   have O8:=Lib.hid ((b8.block ob (Dk.lt_of_heap O7.out)).trans O7.out)
   clear LE7 b8 R7 S7 O7
   go_wp2_with fail
   (with_reducible refine OP8.out.mono ?_)
   rintro e w9 ⟨g9,rfl,rx,ry,k9⟩
   have X9:=Lib.hid rx
   have R9:=Lib.hid ry
   have S9:=Lib.hid (sl_kr S8.out k9)
   have O9:=Lib.hid (k9.keep _ _ _ _ O8.out (by decide))
   clear OP8 rx ry k9 S8 O8
   go_wp2_with fail
   have XD:=Lib.hid (X9.out.call (Below.refl w9.heap.size w9).drew)
   have YD:=Lib.hid (R9.out.call (Below.refl w9.heap.size w9).drew)
   have SD:=Lib.hid (S9.out.call (Below.refl w9.heap.size w9).drew)
   have OD:Hid (w9.drew.heap[ob]?=some (.cells #[.slice ao q cap,.int .i64 z] 52 (0,0))):=Lib.hid O9.out
   have cS:w9.drew.cell? ⟨ob,0,none⟩=some (.slice ao q cap)∧w9.drew.cell? ⟨ob,1,none⟩=some (.int .i64 z):=⟨by rw [Lib.cell_of_heap OD.out]; rfl,by rw [Lib.cell_of_heap OD.out]; rfl⟩
   have TX:=Lib.hid (TA.out b g9 0 T5 (i+1+1) (18+24*i+19+5) _ XD.out)
   have SX:=Lib.hid (fun bo ck W (hb:Tb.Sl (.slice bo T5.rows.length ck) T5.rows W bo ck) (ha:Tb.Sl (.slice ao q cap) T5.rows W ao cap)=>(show Calls Tryz.prog 24 #[.agg #[.slice bo q ck,.int .i64 z],.agg #[.slice ao q cap,.int .i64 z]] W fun e w'=>e=.returned (.bool true)∧Below W.heap.size W w' from by
    have:=SA.out T5 T5 bo ao ck cap W hb.seen ha.seen (by have:=HF.out; have:=HQ.out.1; omega) (by have:=HF.out; have:=HQ.out.1; omega)
    rw [show Tb.sameT T5 T5=true by unfold Tb.sameT; simp] at this
    unfold Tb.tv at this
    rw [HQ.out.1,HQ.out.2] at this
    exact this))
   clear X9 R9 S9 O9
   refine wp_region_held_drew (S:=(fun W'=>W'.cell? ⟨ob,0,none⟩=some (.slice ao q cap)∧W'.cell? ⟨ob,1,none⟩=some (.int .i64 z))) (by kernel_rfl) (cS) (fun hHeld=>?_)
   refine Gh.tk 0 ?_
   refine Gh.tk 2 ?_
   refine Gh.rd 1 (fun K hK=>?_)
   go_simp
   (with_reducible refine TX.out.mono ?_)
   rintro e wA ⟨vA,rfl,⟨bo,ck,rfl,hsA⟩,bA⟩
   have XE:=Lib.hid (XD.out.call bA)
   have YE:=Lib.hid (YD.out.call bA)
   have SE:=Lib.hid (SD.out.call bA)
   have SF:=Lib.hid hsA
   have OE:Hid (wA.heap[ob]?=some (.cells #[.slice ao q cap,.int .i64 z] 52 (0,0))):=Lib.hid ((bA.block ob (Dk.lt_of_heap OD.out)).trans OD.out)
   have cE:wA.cell? ⟨ob,0,none⟩=some (.slice ao q cap)∧wA.cell? ⟨ob,1,none⟩=some (.int .i64 z):=⟨by rw [Lib.cell_of_heap OE.out]; rfl,by rw [Lib.cell_of_heap OE.out]; rfl⟩
   unfold Tb.tv
   rw [HQ.out.1,HQ.out.2]
   clear TX bA hsA XD YD SD OD cS
   go_simp
   refine hK.out _ _ (cE) (fun hHeld=>?_)
   clear hK K
   refine Gh.pt ?_
   refine Gh.rd 3 (fun K hK=>?_)
   go_simp
   (with_reducible refine (SX.out bo ck _ SF.out SE.out).mono ?_)
   rintro e wB ⟨rfl,bB⟩
   have Xa:=Lib.hid (XE.out.call bB)
   have Ra:=Lib.hid (YE.out.call bB)
   have Sa:=Lib.hid (SE.out.call bB)
   have Oa:Hid (wB.heap[ob]?=some (.cells #[.slice ao q cap,.int .i64 z] 52 (0,0))):=Lib.hid ((bB.block ob (Dk.lt_of_heap OE.out)).trans OE.out)
   have cF:wB.cell? ⟨ob,0,none⟩=some (.slice ao q cap)∧wB.cell? ⟨ob,1,none⟩=some (.int .i64 z):=⟨by rw [Lib.cell_of_heap Oa.out]; rfl,by rw [Lib.cell_of_heap Oa.out]; rfl⟩
   clear SX bB XE YE SE SF OE cE
   go_simp
   refine hK.out _ _ (cF) (fun hHeld=>?_)
   clear hK K
   refine Gh.pt ?_
   refine Gh.tk 4 ?_
   refine wpAnyH_done (by kernel_rfl) ?_ _
   clear hHeld
   clear hHeld
   clear hHeld
   go_wp2_with fail
   have XD:=Lib.hid (Xa.out.call (Below.refl wB.heap.size wB).drew)
   have YD:=Lib.hid (Ra.out.call (Below.refl wB.heap.size wB).drew)
   have SD:=Lib.hid (Sa.out.call (Below.refl wB.heap.size wB).drew)
   have OD:Hid (wB.drew.heap[ob]?=some (.cells #[.slice ao q cap,.int .i64 z] 52 (0,0))):=Lib.hid Oa.out
   have cS:wB.drew.cell? ⟨ob,0,none⟩=some (.slice ao q cap)∧wB.drew.cell? ⟨ob,1,none⟩=some (.int .i64 z):=⟨by rw [Lib.cell_of_heap OD.out]; rfl,by rw [Lib.cell_of_heap OD.out]; rfl⟩
   have TX:=Lib.hid (TA.out b g 0 T5 (i+1+1) (18+24*i+19+5) _ YD.out)
   have SX:=Lib.hid (fun bo ck W (hb:Tb.Sl (.slice bo T5.rows.length ck) T5.rows W bo ck) (ha:Tb.Sl (.slice ao q cap) T5.rows W ao cap)=>(show Calls Tryz.prog 24 #[.agg #[.slice bo q ck,.int .i64 z],.agg #[.slice ao q cap,.int .i64 z]] W fun e w'=>e=.returned (.bool true)∧Below W.heap.size W w' from by
    have:=SA.out T5 T5 bo ao ck cap W hb.seen ha.seen (by have:=HF.out; have:=HQ.out.1; omega) (by have:=HF.out; have:=HQ.out.1; omega)
    rw [show Tb.sameT T5 T5=true by unfold Tb.sameT; simp] at this
    unfold Tb.tv at this
    rw [HQ.out.1,HQ.out.2] at this
    exact this))
   clear Xa Ra Sa Oa
   refine wp_region_held_drew (S:=(fun W'=>W'.cell? ⟨ob,0,none⟩=some (.slice ao q cap)∧W'.cell? ⟨ob,1,none⟩=some (.int .i64 z))) (by kernel_rfl) (cS) (fun hHeld=>?_)
   refine Gh.tk 0 ?_
   refine Gh.tk 2 ?_
   refine Gh.rd 1 (fun K hK=>?_)
   go_simp
   (with_reducible refine TX.out.mono ?_)
   rintro e wA ⟨vA,rfl,⟨bo,ck,rfl,hsA⟩,bA⟩
   have XE:=Lib.hid (XD.out.call bA)
   have YE:=Lib.hid (YD.out.call bA)
   have SE:=Lib.hid (SD.out.call bA)
   have SF:=Lib.hid hsA
   have OE:Hid (wA.heap[ob]?=some (.cells #[.slice ao q cap,.int .i64 z] 52 (0,0))):=Lib.hid ((bA.block ob (Dk.lt_of_heap OD.out)).trans OD.out)
   have cE:wA.cell? ⟨ob,0,none⟩=some (.slice ao q cap)∧wA.cell? ⟨ob,1,none⟩=some (.int .i64 z):=⟨by rw [Lib.cell_of_heap OE.out]; rfl,by rw [Lib.cell_of_heap OE.out]; rfl⟩
   unfold Tb.tv
   rw [HQ.out.1,HQ.out.2]
   clear TX bA hsA XD YD SD OD cS
   go_simp
   refine hK.out _ _ (cE) (fun hHeld=>?_)
   clear hK K
   refine Gh.pt ?_
   refine Gh.rd 3 (fun K hK=>?_)
   go_simp
   (with_reducible refine (SX.out bo ck _ SF.out SE.out).mono ?_)
   rintro e wB ⟨rfl,bB⟩
   have Xf:=Lib.hid (XE.out.call bB)
   have Rf:=Lib.hid (YE.out.call bB)
   have Sf:=Lib.hid (SE.out.call bB)
   have Of:Hid (wB.heap[ob]?=some (.cells #[.slice ao q cap,.int .i64 z] 52 (0,0))):=Lib.hid ((bB.block ob (Dk.lt_of_heap OE.out)).trans OE.out)
   have cF:wB.cell? ⟨ob,0,none⟩=some (.slice ao q cap)∧wB.cell? ⟨ob,1,none⟩=some (.int .i64 z):=⟨by rw [Lib.cell_of_heap Of.out]; rfl,by rw [Lib.cell_of_heap Of.out]; rfl⟩
   clear SX bB XE YE SE SF OE cE
   go_simp
   refine hK.out _ _ (cF) (fun hHeld=>?_)
   clear hK K
   refine Gh.pt ?_
   refine Gh.tk 4 ?_
   refine wpAnyH_done (by kernel_rfl) ?_ _
   clear hHeld
   clear hHeld
   clear hHeld
   go_wp2_with fail
   go_roundg (n - (i+1))
   case measure=>have:=HI.out; have:=HLT.out; omega
   case rel=>exact ⟨i+1,T5,by have:=HLT.out; omega,by go_num,by have:=Rf.out; rw [show 18+24*i+19+5=18+24*(i+1) by omega] at this; exact this⟩
  ·have R9:=Lib.hid RC.out
   have GO9:=Lib.hid (GO.out b g 0 T (i+1) (18+24*i) wr RC.out)
   have hno:¬ (i<l.length∧i<12):=by have:=HN.out; omega
   clear RC hi hlt HN
   by_cases h1:i<l.length
   ·have h1i:(i:Int)<(l.length:Int):=by omega
    have h2i:(12:Int)≤(i:Int):=by omega
    clear hno
    go_wp2_with fail
    (with_reducible refine GO9.out.mono ?_)
    rintro e w8 ⟨rfl,b8⟩
    have FN:=Lib.hid (R9.out.call b8).bel
    clear GO9 b8 R9
    go_wp2
    go_ret
    exact ⟨rfl,FN.out⟩
   ·have h1d:decide (i<l.length)=false:=decide_eq_false h1
    have h1i:(l.length:Int)≤(i:Int):=by omega
    clear hno h1
    go_wp2_with fail
    (with_reducible refine GO9.out.mono ?_)
    rintro e w8 ⟨rfl,b8⟩
    have FN:=Lib.hid (R9.out.call b8).bel
    clear GO9 b8 R9
    go_wp2
    go_ret
    exact ⟨rfl,FN.out⟩
set_option maxRecDepth 100000 in
set_option maxHeartbeats 1600000 in
theorem lifted (os:Os) (started:os.Started) (H:Type) (enc:TypeId×Value→H) :
 ReturnsInHanded {} Tryz.checked os 7 .any (Rows.registrySnapsSpec.pre6 enc Tryz.prog Tryz.f7 Rows.registrySnapsRow.domain false) (Rows.registrySnapsSpec.post enc Tryz.prog Tryz.f7 false true false false):=by
 refine returnsInHanded_of_change (C:=Tryz.checked) own started (by kernel_rfl) Tryz.func7
  (ChangeSpec.witness6 (enc:=enc) (C:=Tryz.checked) false ⟨#[],#[.slice none 0 0],[]⟩ 8 (by kernel_rfl) (by kernel_rfl) (by kernel_rfl) (by kernel_rfl)) ?_
 intro W base args ds gs before hval0 hW hcnd _
 have hval:∀ (j:Nat) t v,Tryz.f7.params[j]?=some t→args[j]?=some v→Value.okWide Tryz.prog W .any base t v:=hval0
 have hW':=hW
 obtain ⟨p,q,hA0,hV,rfl,hfz,hnd⟩:=hW
 have hA:DataW.TrodAll enc Tryz.prog W 0 (fun _=>true) true Tryz.f7.params.toList args.toList ds p:=hA0
 rw [Tryz.params7] at hA hval
 obtain ⟨v0,vs0,d0,ds0,p0,q0,hargs,rfl,rfl,h0,r0⟩:=trodAll_cons hA
 obtain ⟨rfl,rfl,rfl⟩:=trodAll_nil r0
 obtain rfl:args=#[v0]:=by cases args; simp_all
 obtain ⟨rfl,rfl⟩:=trodVars_none hV
 have lt0:∀ x∈p0,x.block<W.heap.size:=by obtain ⟨m,hm⟩:=h0; exact DataW.trod_lt m _ _ _ hm
 obtain ⟨lo,l,lc,rfl,ll,-,ls⟩:=open_nms (hval 0 74 v0 rfl rfl) h0
 clear hA0 hval0
 refine (walk l lo lc W ll ls).mono fun e W' ⟨he,bel⟩=>?_
 subst he
 exact ⟨_,rfl,_,_,_,[],_,[],hW',trodAll_mk1 (shut_bool Tryz.underlying4 _),(trodAll_cons_mk (Below.trod laidOut (by kernel_rfl) (of_decide_eq_true (by kernel_rfl)) h0 bel lt0) trodAll_mk0),rfl,bel.frame _,fun h=>by cases h⟩
theorem proved:Rows.RegistrySnapsSaid:=
 OpenClaim.holds_of_wide 7 Tryz.f7 rfl rfl rfl rfl rfl rfl rfl ⟨rfl,rfl,rfl,rfl,rfl⟩ rfl rfl rfl rfl rfl (by kernel_rfl) Tryz.func7 (by kernel_rfl)
  (of_decide_eq_true (by kernel_rfl)) (by unfold Func.isWrapper; first | (rw [if_pos (by decide +kernel)]; kernel_rfl) | (rw [if_neg (by decide +kernel)]; exact ⟨rfl,rfl⟩))
  (fun os started H enc _=>lifted os started H enc)
#print axioms proved
end Go.Proofs.YteempfoajgblaaaGreat.registrySnaps
