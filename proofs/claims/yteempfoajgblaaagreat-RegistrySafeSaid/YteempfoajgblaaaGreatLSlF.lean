/- Contract of package slots' sectors. -/
import Derived.Test.YteempfoajgblaaaGreatLGnH
import Derived.Test.YteempfoajgblaaaGreatLMSp
import Derived.Test.YteempfoajgblaaaGreatLSlE
set_option maxRecDepth 100000
set_option linter.unusedVariables false
set_option linter.unusedSimpArgs false
set_option maxHeartbeats 4000000
namespace Go.Proofs.YteempfoajgblaaaGreat.Sl
open Go.ChangeShapes Go.WideShapes Go.ChangeAt Go.RowKit Go.Joins Go.Shelf
open Dk (Dk DS Moved ptr)
attribute [local go_sem] Oper.semAt_some
theorem places_stops (n:Nat) (hn:1≤n) (X q k:Nat) (hk:1≤k) (hk2:k≤64) (w:World) (hXw:X<w.heap.size) (hqw:q<w.heap.size)
 (cX:w.cell? ⟨X,0,none⟩=some (ptr q)) (cq:w.cell? ⟨q,2,none⟩=some (.int .i64 (k:Int))) :
 SeqStopsK Fence.wide n Tryz.prog 181 #[ptr X] (encP (k:=k)) (Kp X q) (fun ys=>ys=upto (plAt hk) (2*k)) (fun pre=>∃ m,m≤2*k∧pre=upto (plAt hk) m) (2*k) w:=fun l J Jx W hW hJ hJx hY h0=>
 places1_in n hn l X q k W.heap.size hk hk2 J Jx hJ hY W ((hW.cell (p:=⟨X,0,none⟩) hXw).trans cX) ((hW.cell (p:=⟨q,2,none⟩) hqw).trans cq) h0
theorem strs_form {B:Nat} {w:World} {v:Value} {ds:List (List UInt8)} (h:Strs B w v ds):∃ p n cap,v=.slice p n cap:=by
 rcases h.2 with ⟨rfl,_⟩|⟨g',cap,cur,rfl,_⟩
 · exact ⟨_,_,_,rfl⟩
 · exact ⟨_,_,_,rfl⟩
theorem row_of {B:Nat} {w:World} {v:Value} {ds:List (List UInt8)} (h:Strs B w v ds) (h0:0<ds.length):Row v ds w:=by
 obtain ⟨g,cap,e,-,hg,hc⟩:=h.cell (fun e=>by rw [e] at h0;simp at h0)
 exact ⟨g,cap,e,hg,hc⟩
theorem se_res {B b q:Nat} {t:SS} {w:World} {okv:Bool} {L0 L1:List (List UInt8)} {p0 p1:Option Addr} {n0 n1 cap0 cap1:Nat} {d:DS} {W:World} (h:Se B b q t w okv L0 L1 (.slice p0 n0 cap0) (.slice p1 n1 cap1) d W) (tmps:Array Value) (h2:tmps[2]?.getD undef=ptr (w.heap.size+1)) (h3:tmps[3]?.getD undef=ptr (w.heap.size+1+1)) :
 (results Tryz.f103 tmps).run Tryz.prog W=.ok (.tuple #[.agg #[.slice p0 n0 cap0,.slice p1 n1 cap1],.bool okv]) W:=by
 have b0:W.cell? ⟨w.heap.size+1,0,none⟩=some (.slice p0 n0 cap0):=by rw [Lib.cell_of_heap h.told];rfl
 have b1:W.cell? ⟨w.heap.size+1,1,none⟩=some (.slice p1 n1 cap1):=by rw [Lib.cell_of_heap h.told];rfl
 have b2:W.cell? ⟨w.heap.size+1+1,0,none⟩=some (.bool okv):=by rw [Lib.cell_of_heap h.ok];rfl
 simp [results,Tryz.results103,go_sem,h2,h3,b0,b1,b2]
def SeR (B b q:Nat) (t:SS) (s:DS) (e:Ending) (w':World):Prop:=
 ∃ p0 n0 cap0 p1 n1 cap1 okb d,e=.returned (.tuple #[.agg #[.slice p0 n0 cap0,.slice p1 n1 cap1],.bool okb])∧Dk B b d w' ∧
  ((okb=true∧(s.fail=0∨2*t.k<s.fail)∧d=gotR s t.k∧Row (.slice p0 n0 cap0) (rowOf s t.at_ t.k) w'∧Row (.slice p1 n1 cap1) (rowOf s (t.at_+t.k) t.k) w') ∨
    (okb=false∧1≤s.fail∧s.fail≤2*t.k∧d=⟨s.sec,s.opn,0,s.reads+s.fail⟩))
def SeI (B b q:Nat) (t:SS) (s:DS) (w:World) (pre:List (Pl t.k)) (W:World):Prop:=
 (s.fail=0∨pre.length<s.fail)∧∃ v0 v1,Se B b q t w true (texts s t.at_ t.k 0 pre) (texts s t.at_ t.k 1 pre) v0 v1 ⟨s.sec,s.opn,s.fail-pre.length,s.reads+pre.length⟩ W
def SeX (id:Nat) (B b q:Nat) (t:SS) (s:DS) (w:World) (c:Code) (pre:List (Pl t.k)) (W:World):Prop:=
 c=.exit id∧s.fail=pre.length∧1≤pre.length∧∃ v0 v1 L0 L1,Se B b q t w false L0 L1 v0 v1 ⟨s.sec,s.opn,0,s.reads+s.fail⟩ W
theorem seI_own {B b q:Nat} {t:SS} {s:DS} {w:World} {N:Nat} (hN:w.heap.size≤N):OwnFrom N (SeI B b q t s w):=fun pre X Y row hs hg hr=>by
 obtain ⟨h1,v0,v1,h⟩:=hs
 exact ⟨h1,v0,v1,h.grown hg (fun r e=>⟨Nat.le_trans hN (hr r e).1,(hr r e).2⟩)⟩
theorem seX_own {id B b q:Nat} {t:SS} {s:DS} {w:World} {N:Nat} (hN:w.heap.size≤N) (c:Code):OwnFrom N (SeX id B b q t s w c):=fun pre X Y row hs hg hr=>by
 obtain ⟨h1,h2,h3,v0,v1,L0,L1,h⟩:=hs
 exact ⟨h1,h2,h3,v0,v1,L0,L1,h.grown hg (fun r e=>⟨Nat.le_trans hN (hr r e).1,(hr r e).2⟩)⟩
theorem se_start {B b q:Nat} {t:SS} {s:DS} {w:World} (dk:Dk B b s w) (sl:Sl q b t w) :
 Se B b q t w true [] [] (.slice none 0 0) (.slice none 0 0) s ((((w.alloc (.cells #[ptr q] 137)).alloc (.cells #[.slice none 0 0,.slice none 0 0] 179)).alloc (.cells #[.bool true] 4)).alloc (.cells #[ptr q] 137)):=by
 have b1:=(Below.refl w.heap.size w).alloc (Nat.le_refl _) (.cells #[ptr q] 137)
 have b2:=b1.alloc (by simp) (.cells #[.slice none 0 0,.slice none 0 0] 179)
 have b3:=b2.alloc (by simp;omega) (.cells #[.bool true] 4)
 have b4:=b3.alloc (by simp;omega) (.cells #[ptr q] 137)
 refine ⟨dk.call b4,sl.call b4,?_,?_,?_,?_,strs_nil _ _,strs_nil _ _,fun g e=>by simp [Value.ownBlock] at e,.of_below b4 dk.lt,dk.lt⟩
 all_goals simp only [World.alloc,Array.getElem?_push,Array.size_push]
 · rw [if_neg (by omega),if_neg (by omega),if_neg (by omega),if_pos trivial]
 · rw [if_neg (by omega),if_neg (by omega),if_pos trivial]
 · rw [if_neg (by omega),if_pos trivial]
 · rw [if_pos trivial]
def SeC (B b q:Nat) (t:SS) (w:World) (L0 L1:List (List UInt8)) (v0 v1:Value) (d:DS) (a:Nat) (N:Nat) (W:World) (s6 s7:Value) (wx:World):Prop:=
 s6=.string (mkB (Dk.readR d (a:Int)).2.1)∧s7=.int .i64 ((Dk.readR d (a:Int)).2.2:Int)∧Se B b q t w true L0 L1 v0 v1 (Dk.readR d (a:Int)).1 wx∧KeepsFrom N W wx
theorem sectors_any (B b q:Nat) (t:SS) (s:DS) (w:World) (dk:Dk B b s w) (sl:Sl q b t w) (hk:1≤t.k) (hk2:t.k≤64) (ha:t.at_+2*t.k≤s.sec.length) (hr:s.reads≤900000000) (hn:s.opn.length≤900000) (hf:s.fail<9223372036854775808) :
 Calls Tryz.prog 103 #[ptr q] w fun e w'=>SeR B b q t s e w'∧Moved b w w':=by
 refine (callsIn_wide (n:=3)).1 ?_
 refine callsIn_of_wp_marks Tryz.func103 rfl trivial ?_ rfl
 simp only [Tryz.ntmps103,List.size_toArray,List.length_cons,List.length_nil,Nat.reduceAdd,Nat.reduceSub,Array.replicate_succ,Array.replicate_zero,List.push_toArray,List.append_toArray,List.nil_append,List.cons_append]
 have S0:=se_start dk sl
 have hl:=dk.ok.len
 have K2:=Lib.hid (World.cell?_of_block (w:=w) (a:=⟨q,2,none⟩) rfl)
 refine wpIn_wide.2 ?_
 have PL:=Lib.hid (fun w=>places_any q w)
 go_wp2_with fail
 go_step3
 go_wp2_with fail
 go_step3
 go_wp2_with fail
 (with_reducible refine (PL.out _).mono ?_)
 rintro e w1 ⟨rfl,rfl⟩
 clear PL
 go_wp2_with fail
 have hsz:((((w.alloc (.cells #[ptr q] 137)).alloc (.cells #[.slice none 0 0,.slice none 0 0] 179)).alloc (.cells #[.bool true] 4)).alloc (.cells #[ptr q] 137)).heap.size=w.heap.size+4:=by simp
 generalize ((((w.alloc (.cells #[ptr q] 137)).alloc (.cells #[.slice none 0 0,.slice none 0 0] 179)).alloc (.cells #[.bool true] 4)).alloc (.cells #[ptr q] 137))=W0 at *
 have ql:=sl.lt
 refine (wpIn_wide (n:=3)).1 ?_
 refine wpIn_rangeFunc_ownG rfl (by omega) (gf:=181) (lb:=#[ptr (w.heap.size+1+1+1)]) rfl trivial (enters_of Tryz.func181 (by kernel_rfl) rfl)
  (places_stops _ (by omega) (w.heap.size+3) q t.k hk hk2 W0 (by omega) (by omega) (by rw [Lib.cell_of_heap S0.box2];rfl) S0.sl.c2) Kp.trans (Kp.put (by omega) (by omega)) (Below.refl _ _) (fun _=>rfl)
  (SeI B b q t s w) (SeX 0 B b q t s w) (seI_own (by omega)) (fun c=>seX_own (by omega) c)
  ⟨by rw [List.length_nil];omega,_,_,S0⟩
  (fun x=>{ tmps:=#[ptr q,ptr w.heap.size,ptr (w.heap.size+1),ptr (w.heap.size+1+1),.int .i64 (x.1.1:Int),.int .i64 (x.1.2:Int),undef,undef,ptr q,.func (.func 181) #[] #[ptr (w.heap.size+1+1+1)],.int .i64 (x.1.1:Int),.int .i64 (x.1.2:Int),undef,undef,undef,undef,undef,undef,undef,undef,undef,undef,undef,undef,undef,undef,undef,undef,undef,undef,undef,undef,undef,undef,undef,undef,undef],defers:=[] }) ?assign ?body ?done ?stop
 case assign=>
  intro l x W K hK
  simp only [encP]
  gi_wp2
  exact hK
 case body=>
  rintro l pre x W ⟨hfl,v0,v1,se⟩ hpl
  have hmx:Tryz.prog.follows .mixedOrders=true:=by kernel_rfl
  have SE:=Lib.hid se
  have cb:W.cell? ⟨w.heap.size,0,none⟩=some (ptr q):=by rw [Lib.cell_of_heap se.box];rfl
  have c0:=se.sl.c0
  have PL:=Lib.hid (place_any x.1.1 x.1.2 W.drew (se.sl.call (Below.refl _ _).drew) hk2 (by omega) (by have:=x.2.1;omega) (by have:=x.2.2;omega))
  have FB:=Lib.hid (fun w2 (hb:Below W.drew.heap.size W.drew w2)=>show w2.cell? ⟨w.heap.size,0,none⟩=some (ptr q)∧w2.cell? ⟨q,0,none⟩=some (ptr b) from
   ⟨(hb.cell (p:=⟨w.heap.size,0,none⟩) (Dk.lt_of_heap se.box)).trans cb,(hb.cell (p:=⟨q,0,none⟩) se.sl.lt).trans c0⟩)
  have RD:=Lib.hid (fun w2 (hb:Below W.drew.heap.size W.drew w2)=>Dk.read_any B b _ ((t.at_+x.1.1*t.k+x.1.2:Nat):Int) w2 ((se.call ((Below.refl _ _).drew)).dk.call hb) (by show s.reads+pre.length≤_;omega) (by show s.opn.length≤_;omega) (by show s.fail-pre.length<_;omega))
  have SEc:=Lib.hid (fun w2 (hb:Below W.drew.heap.size W.drew w2)=>(show Se B b q t w true (texts s t.at_ t.k 0 pre) (texts s t.at_ t.k 1 pre) v0 v1 ⟨s.sec,s.opn,s.fail-pre.length,s.reads+pre.length⟩ w2∧KeepsFrom W0.heap.size W w2 from
   ⟨(se.call ((Below.refl _ _).drew)).call hb,(keeps_below _ ((Below.refl _ _).drew)).trans (keeps_below _ hb)⟩))
  clear se
  gi_wp2
  gi_cut [6,7] from 12 (SeC B b q t w (texts s t.at_ t.k 0 pre) (texts s t.at_ t.k 1 pre) v0 v1 ⟨s.sec,s.opn,s.fail-pre.length,s.reads+pre.length⟩ (t.at_+x.1.1*t.k+x.1.2) W0.heap.size W)
  case first=>
   have hw:w.heap.size<W.heap.size:=Dk.lt_of_heap SE.out.box
   clear SE hfl hpl S0 dk sl
   generalize hAA:t.at_+x.1.1*t.k+x.1.2=AA at *
   clear hAA
   generalize texts s t.at_ t.k 0 pre=L0 at *
   generalize texts s t.at_ t.k 1 pre=L1 at *
   generalize (DS.mk s.sec s.opn (s.fail-pre.length) (s.reads+pre.length))=D at *
   -- (the region,by slf.py)
   refine wpIn_region_any hmx (any_in_round (by kernel_rfl) (fun ⟨_,_,h⟩=>h) _ _ _ _ ?_)
   (try (change wpAny _ _ _ _ _ _ _ (World.drew _)))
   refine Gh.tka 5 ?_
   refine Gh.tka 6 ?_
   refine wpAny_ready (rs:=[0,4]) (by kernel_rfl) (by simp) ?_
   refine AllReady.cons rfl (fun K hK=>?_) ?_
   ·rw [if_pos (by rfl)]
    go_simp
    refine hK _ _ ?_
    clear hK K
    refine Gh.pta ?_
    refine Gh.tka 1 ?_
    refine Gh.tka 2 ?_
    refine wpAny_ready (rs:=[3,4]) (by kernel_rfl) (by simp) ?_
    refine AllReady.cons rfl (fun K hK=>?_) ?_
    ·rw [if_pos (by rfl)]
     go_simp
     refine hK _ _ ?_
     clear hK K
     refine Gh.pta ?_
     refine Gh.rda 4 (fun K hK=>?_)
     rw [if_pos (by rfl)]
     go_simp
     refine hK _ _ ?_
     clear hK K
     refine Gh.pta ?_
     refine Gh.rda 7 (fun K hK=>?_)
     rw [if_pos (by rfl)]
     go_simp
     refine PL.out.mono ?_
     rintro e w2 ⟨rfl,b2⟩
     obtain ⟨y1,y2⟩:=FB.out w2 b2
     refine hK _ _ ?_
     clear hK K
     refine Gh.pta ?_
     refine Gh.rda 8 (fun K hK=>?_)
     rw [if_pos (by rfl)]
     go_simp
     refine (RD.out _ b2).mono ?_
     rintro e w3 ⟨rfl,k3,m3⟩
     refine hK _ _ ?_
     clear hK K
     refine Gh.pta ?_
     refine Gh.tka 9 ?_
     refine Gh.tka 10 ?_
     refine Gh.tka 11 ?_
     refine Gh.tka 12 ?_
     refine Gh.tka 13 ?_
     refine wpAny_done (by kernel_rfl) ?_ _
     gi_wp2
     gi_meet
     exact ⟨rfl,rfl,(SEc.out _ b2).1.disk k3 m3,(SEc.out _ b2).2.trans (keeps_moved _ (SEc.out _ b2).1.dk m3)⟩
    refine AllReady.cons rfl (fun K hK=>?_) ?_
    ·rw [if_pos (by rfl)]
     go_simp
     refine hK _ _ ?_
     clear hK K
     refine Gh.pta ?_
     refine wpAny_ready (rs:=[3,7]) (by kernel_rfl) (by simp) ?_
     refine AllReady.cons rfl (fun K hK=>?_) ?_
     ·rw [if_pos (by rfl)]
      go_simp
      refine hK _ _ ?_
      clear hK K
      refine Gh.pta ?_
      refine Gh.rda 7 (fun K hK=>?_)
      rw [if_pos (by rfl)]
      go_simp
      refine PL.out.mono ?_
      rintro e w2 ⟨rfl,b2⟩
      obtain ⟨y1,y2⟩:=FB.out w2 b2
      refine hK _ _ ?_
      clear hK K
      refine Gh.pta ?_
      refine Gh.rda 8 (fun K hK=>?_)
      rw [if_pos (by rfl)]
      go_simp
      refine (RD.out _ b2).mono ?_
      rintro e w3 ⟨rfl,k3,m3⟩
      refine hK _ _ ?_
      clear hK K
      refine Gh.pta ?_
      refine Gh.tka 9 ?_
      refine Gh.tka 10 ?_
      refine Gh.tka 11 ?_
      refine Gh.tka 12 ?_
      refine Gh.tka 13 ?_
      refine wpAny_done (by kernel_rfl) ?_ _
      gi_wp2
      gi_meet
      exact ⟨rfl,rfl,(SEc.out _ b2).1.disk k3 m3,(SEc.out _ b2).2.trans (keeps_moved _ (SEc.out _ b2).1.dk m3)⟩
     refine AllReady.cons rfl (fun K hK=>?_) ?_
     ·rw [if_pos (by rfl)]
      go_simp
      refine PL.out.mono ?_
      rintro e w2 ⟨rfl,b2⟩
      obtain ⟨y1,y2⟩:=FB.out w2 b2
      refine hK _ _ ?_
      clear hK K
      refine Gh.pta ?_
      refine Gh.rda 3 (fun K hK=>?_)
      rw [if_pos (by rfl)]
      go_simp
      refine hK _ _ ?_
      clear hK K
      refine Gh.pta ?_
      refine Gh.rda 8 (fun K hK=>?_)
      rw [if_pos (by rfl)]
      go_simp
      refine (RD.out _ b2).mono ?_
      rintro e w3 ⟨rfl,k3,m3⟩
      refine hK _ _ ?_
      clear hK K
      refine Gh.pta ?_
      refine Gh.tka 9 ?_
      refine Gh.tka 10 ?_
      refine Gh.tka 11 ?_
      refine Gh.tka 12 ?_
      refine Gh.tka 13 ?_
      refine wpAny_done (by kernel_rfl) ?_ _
      gi_wp2
      gi_meet
      exact ⟨rfl,rfl,(SEc.out _ b2).1.disk k3 m3,(SEc.out _ b2).2.trans (keeps_moved _ (SEc.out _ b2).1.dk m3)⟩
     exact AllReady.nil
    exact AllReady.nil
   refine AllReady.cons rfl (fun K hK=>?_) ?_
   ·rw [if_pos (by rfl)]
    go_simp
    refine hK _ _ ?_
    clear hK K
    refine Gh.pta ?_
    refine wpAny_ready (rs:=[0,7]) (by kernel_rfl) (by simp) ?_
    refine AllReady.cons rfl (fun K hK=>?_) ?_
    ·rw [if_pos (by rfl)]
     go_simp
     refine hK _ _ ?_
     clear hK K
     refine Gh.pta ?_
     refine Gh.tka 1 ?_
     refine Gh.tka 2 ?_
     refine wpAny_ready (rs:=[3,7]) (by kernel_rfl) (by simp) ?_
     refine AllReady.cons rfl (fun K hK=>?_) ?_
     ·rw [if_pos (by rfl)]
      go_simp
      refine hK _ _ ?_
      clear hK K
      refine Gh.pta ?_
      refine Gh.rda 7 (fun K hK=>?_)
      rw [if_pos (by rfl)]
      go_simp
      refine PL.out.mono ?_
      rintro e w2 ⟨rfl,b2⟩
      obtain ⟨y1,y2⟩:=FB.out w2 b2
      refine hK _ _ ?_
      clear hK K
      refine Gh.pta ?_
      refine Gh.rda 8 (fun K hK=>?_)
      rw [if_pos (by rfl)]
      go_simp
      refine (RD.out _ b2).mono ?_
      rintro e w3 ⟨rfl,k3,m3⟩
      refine hK _ _ ?_
      clear hK K
      refine Gh.pta ?_
      refine Gh.tka 9 ?_
      refine Gh.tka 10 ?_
      refine Gh.tka 11 ?_
      refine Gh.tka 12 ?_
      refine Gh.tka 13 ?_
      refine wpAny_done (by kernel_rfl) ?_ _
      gi_wp2
      gi_meet
      exact ⟨rfl,rfl,(SEc.out _ b2).1.disk k3 m3,(SEc.out _ b2).2.trans (keeps_moved _ (SEc.out _ b2).1.dk m3)⟩
     refine AllReady.cons rfl (fun K hK=>?_) ?_
     ·rw [if_pos (by rfl)]
      go_simp
      refine PL.out.mono ?_
      rintro e w2 ⟨rfl,b2⟩
      obtain ⟨y1,y2⟩:=FB.out w2 b2
      refine hK _ _ ?_
      clear hK K
      refine Gh.pta ?_
      refine Gh.rda 3 (fun K hK=>?_)
      rw [if_pos (by rfl)]
      go_simp
      refine hK _ _ ?_
      clear hK K
      refine Gh.pta ?_
      refine Gh.rda 8 (fun K hK=>?_)
      rw [if_pos (by rfl)]
      go_simp
      refine (RD.out _ b2).mono ?_
      rintro e w3 ⟨rfl,k3,m3⟩
      refine hK _ _ ?_
      clear hK K
      refine Gh.pta ?_
      refine Gh.tka 9 ?_
      refine Gh.tka 10 ?_
      refine Gh.tka 11 ?_
      refine Gh.tka 12 ?_
      refine Gh.tka 13 ?_
      refine wpAny_done (by kernel_rfl) ?_ _
      gi_wp2
      gi_meet
      exact ⟨rfl,rfl,(SEc.out _ b2).1.disk k3 m3,(SEc.out _ b2).2.trans (keeps_moved _ (SEc.out _ b2).1.dk m3)⟩
     exact AllReady.nil
    refine AllReady.cons rfl (fun K hK=>?_) ?_
    ·rw [if_pos (by rfl)]
     go_simp
     refine PL.out.mono ?_
     rintro e w2 ⟨rfl,b2⟩
     obtain ⟨y1,y2⟩:=FB.out w2 b2
     refine hK _ _ ?_
     clear hK K
     refine Gh.pta ?_
     refine Gh.rda 0 (fun K hK=>?_)
     rw [if_pos (by rfl)]
     go_simp
     refine hK _ _ ?_
     clear hK K
     refine Gh.pta ?_
     refine Gh.tka 1 ?_
     refine Gh.tka 2 ?_
     refine Gh.rda 3 (fun K hK=>?_)
     rw [if_pos (by rfl)]
     go_simp
     refine hK _ _ ?_
     clear hK K
     refine Gh.pta ?_
     refine Gh.rda 8 (fun K hK=>?_)
     rw [if_pos (by rfl)]
     go_simp
     refine (RD.out _ b2).mono ?_
     rintro e w3 ⟨rfl,k3,m3⟩
     refine hK _ _ ?_
     clear hK K
     refine Gh.pta ?_
     refine Gh.tka 9 ?_
     refine Gh.tka 10 ?_
     refine Gh.tka 11 ?_
     refine Gh.tka 12 ?_
     refine Gh.tka 13 ?_
     refine wpAny_done (by kernel_rfl) ?_ _
     gi_wp2
     gi_meet
     exact ⟨rfl,rfl,(SEc.out _ b2).1.disk k3 m3,(SEc.out _ b2).2.trans (keeps_moved _ (SEc.out _ b2).1.dk m3)⟩
    exact AllReady.nil
   exact AllReady.nil
   -- (its end)
  case rest=>
   obtain ⟨rfl,rfl,se2,kf⟩:=hcut
   have h1:=x.2.1
   have h2:=x.2.2
   have h3:x.1.1*t.k≤t.k:=by
    have:x.1.1≤1:=by omega
    calc x.1.1*t.k≤1*t.k:=Nat.mul_le_mul_right _ this
     _=t.k:=Nat.one_mul _
   have hin:((t.at_+x.1.1*t.k+x.1.2:Nat):Int)<((DS.mk s.sec s.opn (s.fail-pre.length) (s.reads+pre.length)).sec.length:Int):=by show _<(s.sec.length:Int);omega
   clear PL FB RD SEc cb c0
   by_cases hio:s.fail-pre.length=1
   ·have RR:=Dk.io_read (DS.mk s.sec s.opn (s.fail-pre.length) (s.reads+pre.length)) (a:=((t.at_+x.1.1*t.k+x.1.2:Nat):Int)) (by omega) hin hio
    rw [RR] at se2 ⊢
    have o0:wc.cell? ⟨w.heap.size+1+1,0,none⟩=some (.bool true):=by rw [Lib.cell_of_heap se2.ok];rfl
    have o1:wc.frozen? ⟨w.heap.size+1+1,0,none⟩=false:=Lib.frozen_of_heap se2.ok 0
    have FIN:=Lib.hid (show KeepsFrom W0.heap.size W (wc.setCell ⟨w.heap.size+1+1,0,none⟩ (.bool false))∧SeX 0 B b q t s w (.exit 0) (pre++[x]) (wc.setCell ⟨w.heap.size+1+1,0,none⟩ (.bool false)) from by
     refine ⟨kf.trans ((KeepsOthers.setCell _ _ _).from _),rfl,by simp;omega,by simp,v0,v1,texts s t.at_ t.k 0 pre,texts s t.at_ t.k 1 pre,?_⟩
     have:=se2.setOk false
     have e:s.reads+s.fail=s.reads+pre.length+1:=by omega
     rw [e];exact this)
    clear se2 kf RR SE hin hfl
    gi_wp2
    exact FIN.out
   ·have RR:=Dk.newest_read (DS.mk s.sec s.opn (s.fail-pre.length) (s.reads+pre.length)) (a:=((t.at_+x.1.1*t.k+x.1.2:Nat):Int)) (by omega) hin hio
    rw [RR] at se2 ⊢
    rw [show Dk.newestOf (DS.mk s.sec s.opn (s.fail-pre.length) (s.reads+pre.length)) ((t.at_+x.1.1*t.k+x.1.2:Nat):Int).toNat=Dk.newestOf s (t.at_+x.1.1*t.k+x.1.2) from rfl] at *
    have EQ:(DS.mk s.sec s.opn (s.fail-pre.length-1) (s.reads+pre.length+1))=⟨s.sec,s.opn,s.fail-(pre++[x]).length,s.reads+(pre++[x]).length⟩:=by
     rw [List.length_append,List.length_singleton,Nat.sub_sub,Nat.add_assoc]
    have FL:s.fail=0∨(pre++[x]).length<s.fail:=by rw [List.length_append,List.length_singleton];omega
    have tl:=texts_len s t.at_ t.k 0 pre
    have tl1:=texts_len s t.at_ t.k 1 pre
    rcases (show x.1.1=0∨x.1.1=1 by omega) with hx|hx
    ·obtain ⟨g,cap,w',hap,c0',f0',se3,kf3⟩:=se2.app0 (Dk.newestOf s (t.at_+x.1.1*t.k+x.1.2)) (by omega) W0.heap.size
     have t0:wc.cell? ⟨w.heap.size+1,0,none⟩=some v0:=by rw [Lib.cell_of_heap se2.told];rfl
     have FIN:=Lib.hid (show KeepsFrom W0.heap.size W (w'.setCell ⟨w.heap.size+1,0,none⟩ (.slice (some ⟨g,0,none⟩) ((texts s t.at_ t.k 0 pre).length+1) cap))∧Kp (w.heap.size+3) q W (w'.setCell ⟨w.heap.size+1,0,none⟩ (.slice (some ⟨g,0,none⟩) ((texts s t.at_ t.k 0 pre).length+1) cap))∧SeI B b q t s w (pre++[x]) (w'.setCell ⟨w.heap.size+1,0,none⟩ (.slice (some ⟨g,0,none⟩) ((texts s t.at_ t.k 0 pre).length+1) cap)) from by
      refine ⟨kf.trans kf3,⟨se3.box2.trans SE.out.box2.symm,Eq.trans se3.sl (Eq.symm SE.out.sl)⟩,FL,.slice (some ⟨g,0,none⟩) ((texts s t.at_ t.k 0 pre).length+1) cap,v1,?_⟩
      have:=se3
      rw [texts_same hx,texts_other (by omega),← EQ]
      rw [hx] at this
      exact this)
     rw [hx] at hap ⊢
     generalize texts s t.at_ t.k 0 pre=TL0 at *
     generalize mkB (Dk.newestOf s (t.at_+0*t.k+x.1.2))=TX at *
     clear se2 se3 kf kf3 RR SE hin hfl EQ FL h1 h2 h3
     gi_wp2_with (gi_at_builtin;refine wpListIn_append_run _ rfl _ _ _ _ rfl _ _ rfl rfl _ _ hap ?_)
     exact FIN.out
    ·obtain ⟨g,cap,w',hap,c0',f0',se3,kf3⟩:=se2.app1 (Dk.newestOf s (t.at_+x.1.1*t.k+x.1.2)) (by omega) W0.heap.size
     have t0:wc.cell? ⟨w.heap.size+1,1,none⟩=some v1:=by rw [Lib.cell_of_heap se2.told];rfl
     have FIN:=Lib.hid (show KeepsFrom W0.heap.size W (w'.setCell ⟨w.heap.size+1,1,none⟩ (.slice (some ⟨g,0,none⟩) ((texts s t.at_ t.k 1 pre).length+1) cap))∧Kp (w.heap.size+3) q W (w'.setCell ⟨w.heap.size+1,1,none⟩ (.slice (some ⟨g,0,none⟩) ((texts s t.at_ t.k 1 pre).length+1) cap))∧SeI B b q t s w (pre++[x]) (w'.setCell ⟨w.heap.size+1,1,none⟩ (.slice (some ⟨g,0,none⟩) ((texts s t.at_ t.k 1 pre).length+1) cap)) from by
      refine ⟨kf.trans kf3,⟨se3.box2.trans SE.out.box2.symm,Eq.trans se3.sl (Eq.symm SE.out.sl)⟩,FL,v0,.slice (some ⟨g,0,none⟩) ((texts s t.at_ t.k 1 pre).length+1) cap,?_⟩
      have:=se3
      rw [texts_same hx,texts_other (by omega),← EQ]
      rw [hx] at this
      exact this)
     rw [hx] at hap ⊢
     generalize texts s t.at_ t.k 1 pre=TL0 at *
     generalize mkB (Dk.newestOf s (t.at_+1*t.k+x.1.2))=TX at *
     clear se2 se3 kf kf3 RR SE hin hfl EQ FL h1 h2 h3
     gi_wp2_with (gi_at_builtin;refine wpListIn_append_run _ rfl _ _ _ _ rfl _ _ rfl rfl _ _ hap ?_)
     exact FIN.out
 case done=>
  rintro D xs W hD rfl ⟨hfl,v0,v1,se⟩ hK
  rw [texts_zero,texts_one,upto_length] at se
  rw [upto_length] at hfl
  have t0:W.cell? ⟨w.heap.size+1,0,none⟩=some v0:=by rw [Lib.cell_of_heap se.told];rfl
  have t1:W.cell? ⟨w.heap.size+1,1,none⟩=some v1:=by rw [Lib.cell_of_heap se.told];rfl
  have f0:W.frozen? ⟨w.heap.size+1,0,none⟩=false:=Lib.frozen_of_heap se.told 0
  have f1:W.frozen? ⟨w.heap.size+1,1,none⟩=false:=Lib.frozen_of_heap se.told 1
  have o0:W.cell? ⟨w.heap.size+1+1,0,none⟩=some (.bool true):=by rw [Lib.cell_of_heap se.ok];rfl
  have o1:W.frozen? ⟨w.heap.size+1+1,0,none⟩=false:=Lib.frozen_of_heap se.ok 0
  obtain ⟨p0,n0,cap0,rfl⟩:=strs_form se.r0
  obtain ⟨p1,n1,cap1,rfl⟩:=strs_form se.r1
  have SE:=Lib.hid se
  clear S0 se
  go_wp2_with fail
  go_region
  obtain ⟨HK,SW⟩:=SE.out.endW (D:=D) (by omega) hK
  have r0:=SW.r0
  have r1:=SW.r1
  go_wp2
  simp only [Exit.noGoto]
  refine ⟨by simp,.inl ⟨_,_,rfl,run_takeDeferred HK,?_⟩⟩
  refine ⟨.tuple #[.agg #[.slice p0 n0 cap0,.slice p1 n1 cap1],.bool true],?_,⟨_,_,_,_,_,_,true,_,rfl,SW.dk,.inl ⟨rfl,hfl,rfl,?_,?_⟩⟩,SW.mv⟩
  · exact se_res SW _ rfl rfl
  · exact row_of SW.r0 (by rw [rowOf_length];omega)
  · exact row_of SW.r1 (by rw [rowOf_length];omega)
 case stop=>
  rintro D c pre W hD ⟨m,hm,rfl⟩ ⟨rfl,hfl,hlen,v0,v1,L0,L1,se⟩ hK
  rw [upto_length] at hfl hlen
  refine wpIn_wide.2 ?_
  have t0:W.cell? ⟨w.heap.size+1,0,none⟩=some v0:=by rw [Lib.cell_of_heap se.told];rfl
  have t1:W.cell? ⟨w.heap.size+1,1,none⟩=some v1:=by rw [Lib.cell_of_heap se.told];rfl
  have f0:W.frozen? ⟨w.heap.size+1,0,none⟩=false:=Lib.frozen_of_heap se.told 0
  have f1:W.frozen? ⟨w.heap.size+1,1,none⟩=false:=Lib.frozen_of_heap se.told 1
  have o0:W.cell? ⟨w.heap.size+1+1,0,none⟩=some (.bool false):=by rw [Lib.cell_of_heap se.ok];rfl
  have o1:W.frozen? ⟨w.heap.size+1+1,0,none⟩=false:=Lib.frozen_of_heap se.ok 0
  obtain ⟨p0,n0,cap0,rfl⟩:=strs_form se.r0
  obtain ⟨p1,n1,cap1,rfl⟩:=strs_form se.r1
  have SE:=Lib.hid se
  clear S0 se
  go_wp2_with fail
  go_region
  obtain ⟨HK,SW⟩:=SE.out.endW (D:=D) (by omega) hK
  go_wp2
  simp only [Exit.noGoto]
  refine ⟨by simp,.inl ⟨_,_,rfl,run_takeDeferred HK,?_⟩⟩
  refine ⟨.tuple #[.agg #[.slice p0 n0 cap0,.slice p1 n1 cap1],.bool false],?_,⟨_,_,_,_,_,_,false,_,rfl,SW.dk,.inr ⟨rfl,by omega,by omega,rfl⟩⟩,SW.mv⟩
  exact se_res SW _ rfl rfl
end Go.Proofs.YteempfoajgblaaaGreat.Sl
