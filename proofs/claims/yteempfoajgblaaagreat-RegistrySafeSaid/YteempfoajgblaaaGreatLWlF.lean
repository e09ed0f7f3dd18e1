/- Contracts of package wal's put and Append. -/
import Derived.Test.YteempfoajgblaaaGreatLMWa
import Derived.StillTailTactics
set_option maxRecDepth 100000
set_option linter.unusedVariables false
set_option linter.unusedSimpArgs false
open Go.ChangeShapes Go.WideShapes Go.ChangeAt Go.RowKit Go.Joins
set_option maxHeartbeats 2000000
namespace Go.Proofs.YteempfoajgblaaaGreat.Wl
open Dk (Dk DS Own Moved ptr)
open Sl (Mv below_drewN)
theorem putW_yes {s:DS} {a:Nat} {x:List UInt8} (h:(Dk.writeR s (a:Int) x).2=0):putW s a x=((Dk.flushR (Dk.writeR s (a:Int) x).1).1,(Dk.flushR (Dk.writeR s (a:Int) x).1).2==0):=by unfold putW;rw [if_pos h]
theorem putW_no {s:DS} {a:Nat} {x:List UInt8} (h:(Dk.writeR s (a:Int) x).2≠0):putW s a x=((Dk.writeR s (a:Int) x).1,false):=by unfold putW;rw [if_neg h]
theorem writeR_bounds {s:DS} {a:Int} {x:List UInt8}:(Dk.writeR s a x).1.opn.length≤s.opn.length+1∧(Dk.writeR s a x).1.fail≤s.fail:=by
 unfold Dk.writeR
 split
 ·split
  · exact ⟨by show s.opn.length≤_;omega,by show 0≤_;omega⟩
  · exact ⟨by show (s.opn++_).length≤_;simp,by show s.fail-1≤_;omega⟩
 · exact ⟨by show s.opn.length≤_;omega,by show s.fail≤_;omega⟩
theorem put_any {B b q:Nat} {t:WS} {s:DS} (e c:Nat) (p:List UInt8) (w:World) (h:Wl q b t w) (dk:Dk B b s w) (hp:p.length≤43) (he:e<18446744073709551616) (hc:c<t.n) (hl:t.at_+t.n≤s.sec.length) (ho:s.opn.length≤800000) (hf:s.fail<9223372036854775808) :
 Calls Tryz.prog 178 #[ptr q,rdV e c,.string (mkB p)] w fun r w'=>r=.returned (.bool (putW s (t.at_+c) (sec p e c)).2)∧Dk B b (putW s (t.at_+c) (sec p e c)).1 w'∧Moved b w w':=by
 have hl2:=dk.ok.len
 have MK:=Lib.hid (fun w=>make_yes (mkB p) e c w (by rw [mkB_size];exact hp) he (by omega))
 rw [mkB_data] at MK
 have P1:=Lib.hid (show Wl q b t (w.alloc (.cells #[.int .u64 (e:Int),.int .i64 (c:Int)] 243))∧Dk B b s (w.alloc (.cells #[.int .u64 (e:Int),.int .i64 (c:Int)] 243))∧OpAt (w.alloc (.cells #[.int .u64 (e:Int),.int .i64 (c:Int)] 243)) w.heap.size (e:Int) (c:Int)∧Moved b w (w.alloc (.cells #[.int .u64 (e:Int),.int .i64 (c:Int)] 243)) from
  ⟨h.call ((Below.refl _ _).alloc (Nat.le_refl _) _),dk.call ((Below.refl _ _).alloc (Nat.le_refl _) _),opAt_new _ _ _,.of_below ((Below.refl _ _).alloc (Nat.le_refl _) _) dk.lt⟩)
 clear h dk
 have RV:rdV e c=.agg #[.int .u64 (e:Int),.int .i64 (c:Int)]:=rfl
 rw [RV]
 clear RV
 generalize hX:sec p e c=X at *
 clear hX
 have u1:IntKind.u64.wrap (c:Int)=(c:Int):=IntWalk.u64_in _ (by omega)
 have u2:(c:Int)%18446744073709551616=(c:Int):=by omega
 have w1:IntKind.i64.wrap ((t.at_:Int)+(c:Int))=(t.at_:Int)+(c:Int):=IntWalk.i64_in _ (by omega)
 go_enter Tryz.func178,Tryz.ntmps178
 go_wp2_with fail
 generalize (w.alloc (.cells #[.int .u64 (e:Int),.int .i64 (c:Int)] 243))=W at *
 (with_reducible refine (MK.out _).mono ?_)
 rintro r1 w2 ⟨rfl,b2⟩
 have P2:=Lib.hid (show Wl q b t w2∧Dk B b s w2∧OpAt w2 w.heap.size (e:Int) (c:Int)∧Moved b w w2 from ⟨P1.out.1.call b2,P1.out.2.1.call b2,P1.out.2.2.1.call b2,P1.out.2.2.2.trans (.of_below b2 P1.out.2.1.lt)⟩)
 clear MK P1 b2
 have c0:=P2.out.1.c0
 have c1:=P2.out.1.c1
 have o1:=P2.out.2.2.1.c1
 generalize w.heap.size=p4 at *
 go_wp2_with fail
 go_still_tail 12,(by kernel_rfl)
 change wpList _ _ _ _ _ w2.drew
 have HS:(t.at_:Int)+(c:Int)=((t.at_+c:Nat):Int):=by push_cast;rfl
 rw [HS]
 have P3:=Lib.hid (show Wl q b t w2.drew∧Dk B b s w2.drew∧Moved b w w2.drew from ⟨P2.out.1.call (Below.refl _ _).drew,P2.out.2.1.call (Below.refl _ _).drew,P2.out.2.2.2.trans (.of_below (Below.refl _ _).drew P2.out.2.1.lt)⟩)
 have WR:=Lib.hid (Dk.write_any B b s ((t.at_+c:Nat):Int) (mkB X) w2.drew P3.out.2.1 (by omega) hf)
 rw [mkB_data] at WR
 have EY:=Lib.hid (fun (hz:(Dk.writeR s ((t.at_+c:Nat):Int) X).2=0)=>putW_yes hz)
 have EN:=Lib.hid (fun (hz:(Dk.writeR s ((t.at_+c:Nat):Int) X).2≠0)=>putW_no hz)
 have WB:=writeR_bounds (s:=s) (a:=((t.at_+c:Nat):Int)) (x:=X)
 clear P2 c0 c1 o1 w1 HS
 generalize w2.drew=w3 at *
 generalize ((t.at_+c:Nat):Int)=A at *
 by_cases hz:(Dk.writeR s A X).2=0
 ·have EQ:=Lib.hid (EY.out hz)
  rw [hz] at WR
  generalize (Dk.writeR s A X).1=S1 at *
  clear EY EN hz
  have z0:(((0:Nat):Int)==0)=true:=by decide
  go_wp2_with fail
  (with_reducible refine WR.out.mono ?_)
  rintro r2 w4 ⟨rfl,k4,m4⟩
  have P4:=Lib.hid (show Wl q b t w4∧Dk B b S1 w4∧Moved b w w4 from ⟨P3.out.1.disk P3.out.2.1 m4,k4,P3.out.2.2.trans m4⟩)
  have FL:=Lib.hid (Dk.flush_any B b S1 w4 k4 (by omega) (by omega))
  have c0:=P4.out.1.c0
  clear WR P3 k4 m4
  go_wp2_with fail
  (with_reducible refine FL.out.mono ?_)
  rintro r3 w5 ⟨rfl,k5,m5⟩
  have FIN:=Lib.hid (And.intro k5 (P4.out.2.2.trans m5))
  have EB:Hid ((((Dk.flushR S1).2:Int)==0)=((Dk.flushR S1).2==0)):=Lib.hid (by
   by_cases hh:(Dk.flushR S1).2=0
   · rw [hh];rfl
   ·have h1:(((Dk.flushR S1).2:Int)==0)=false:=by simp;omega
    have h2:((Dk.flushR S1).2==0)=false:=by simp;omega
    rw [h1,h2])
  clear FL P4 c0 k5 m5
  generalize ((Dk.flushR S1).2:Int)=FR at *
  go_wp2
  go_ret
  rw [EQ.out]
  exact ⟨by rw [← EB.out];rfl,FIN.out⟩
 ·have EQ:=Lib.hid (EN.out hz)
  have z0:(((Dk.writeR s A X).2:Int)==0)=false:=by simp;omega
  clear EY EN hz
  generalize ((Dk.writeR s A X).2:Int)=R1 at *
  go_wp2_with fail
  (with_reducible refine WR.out.mono ?_)
  rintro r2 w4 ⟨rfl,k4,m4⟩
  have FIN:=Lib.hid (And.intro k4 (P3.out.2.2.trans m4))
  clear WR P3 k4 m4
  go_wp2
  go_ret
  rw [EQ.out]
  exact ⟨rfl,FIN.out⟩
theorem append_any {B b q:Nat} {t:WS} {s:DS} (p:List UInt8) (w:World) (h:Wl q b t w) (dk:Dk B b s w) (ft:t.Fit s.sec.length) (hp:p.length≤100000) (ho:s.opn.length≤800000) (hf:s.fail<9223372036854775808) :
 Calls Tryz.prog 142 #[ptr q,.string (mkB p)] w fun r w'=>r=.returned (.int .i64 ((appR s t p).2.2:Int))∧Dk B b (appR s t p).1 w'∧Wl q b ⟨t.at_,t.n,(appR s t p).2.1⟩ w'∧Mv b q w w':=by
 have NO:=Lib.hid (none_any w h ft.n1)
 have hl2:=dk.ok.len
 have nl:t.n≤1024:=by have:=ft.room;omega
 have hz:=mkB_size p
 have P0:=Lib.hid (And.intro h dk)
 rcases Nat.lt_or_ge 43 p.length with hlt|hge
 ·rw [appR_long hlt]
  have zi:(43:Int)<((mkB p).size:Int):=by omega
  have EW:(⟨t.at_,t.n,t.st⟩:WS)=t:=rfl
  dsimp only
  rw [EW]
  clear h dk EW
  generalize mkB p=PP at *
  go_enter Tryz.func142,Tryz.ntmps142
  go_wp2_with fail
  (with_reducible refine NO.out.mono ?_)
  rintro e w1 ⟨rfl,rfl⟩
  clear NO
  go_wp2
  go_ret
  exact ⟨rfl,P0.out.2,P0.out.1,Mv.refl _ _ _⟩
 have zi:((mkB p).size:Int)≤43:=by omega
 cases hs:t.st with
 | none=>
  rw [appR_shut hge hs]
  have RD:=Lib.hid (ready_shut w h hs)
  have EW:(⟨t.at_,t.n,none⟩:WS)=t:=by rw [← hs]
  dsimp only
  rw [EW]
  clear h dk EW hs hz
  generalize mkB p=PP at *
  have RV:rdV 0 0=.agg #[.int .u64 0,.int .i64 0]:=rfl
  rw [RV] at RD
  go_enter Tryz.func142,Tryz.ntmps142
  go_wp2_with fail
  (with_reducible refine NO.out.mono ?_)
  rintro e w1 ⟨rfl,rfl⟩
  clear NO
  go_wp2_with fail
  (with_reducible refine RD.out.mono ?_)
  rintro e w2 ⟨rfl,b2⟩
  have FIN:=Lib.hid (show Dk B b s (w2.alloc (.cells #[.int .u64 0,.int .i64 0] 243))∧Wl q b t (w2.alloc (.cells #[.int .u64 0,.int .i64 0] 243))∧Mv b q w1 (w2.alloc (.cells #[.int .u64 0,.int .i64 0] 243)) from by
   have bb:=b2.trans (((Below.refl w2.heap.size w2).alloc (Nat.le_refl _) (.cells #[.int .u64 0,.int .i64 0] 243)).mono b2.size)
   exact ⟨P0.out.2.call bb,P0.out.1.call bb,.of_moved (.of_below bb P0.out.2.lt)⟩)
  clear RD P0 b2
  go_wp2
  go_ret
  exact ⟨rfl,FIN.out⟩
 | some ec=>
  obtain ⟨e,c⟩:=ec
  obtain ⟨he1,he2,hc⟩:=ft.st e c hs
  have RD:=Lib.hid (ready_open w h hs hc nl)
  by_cases hcn:c=t.n
  ·rw [appR_full hge hs hcn]
   rw [if_pos hcn] at RD
   have EW:(⟨t.at_,t.n,t.st⟩:WS)=t:=rfl
   dsimp only
   rw [EW]
   clear h dk EW hs hz
   generalize mkB p=PP at *
   have RV:rdV 0 0=.agg #[.int .u64 0,.int .i64 0]:=rfl
   rw [RV] at RD
   go_enter Tryz.func142,Tryz.ntmps142
   go_wp2_with fail
   (with_reducible refine NO.out.mono ?_)
   rintro e w1 ⟨rfl,rfl⟩
   clear NO
   go_wp2_with fail
   (with_reducible refine RD.out.mono ?_)
   rintro e w2 ⟨rfl,b2⟩
   have FIN:=Lib.hid (show Dk B b s (w2.alloc (.cells #[.int .u64 0,.int .i64 0] 243))∧Wl q b t (w2.alloc (.cells #[.int .u64 0,.int .i64 0] 243))∧Mv b q w1 (w2.alloc (.cells #[.int .u64 0,.int .i64 0] 243)) from by
    have bb:=b2.trans (((Below.refl w2.heap.size w2).alloc (Nat.le_refl _) (.cells #[.int .u64 0,.int .i64 0] 243)).mono b2.size)
    exact ⟨P0.out.2.call bb,P0.out.1.call bb,.of_moved (.of_below bb P0.out.2.lt)⟩)
   clear RD P0 b2
   go_wp2
   go_ret
   exact ⟨rfl,FIN.out⟩
  ·rw [appR_put hge hs hcn]
   rw [if_neg hcn] at RD
   have RV:rdV e c=.agg #[.int .u64 (e:Int),.int .i64 (c:Int)]:=rfl
   have PU:=Lib.hid (fun W (hb:Below w.heap.size w W)=>put_any e c p W (h.call hb) (dk.call hb) hge he2 (by omega) ft.room ho hf)
   rw [RV] at RD PU
   have cl:(c:Int)≤1024:=by omega
   have c0':0≤(c:Int):=by omega
   clear h dk RV hz hc
   generalize hPW:putW s (t.at_+c) (sec p e c)=PW at *
   obtain ⟨s',ok⟩:=PW
   dsimp only at PU
   clear hPW
   cases ok with
   | true=>
    rw [if_pos rfl]
    dsimp only
    have VE:Hid (Value.iface 243 (.agg #[.int .u64 (e:Int),.int .i64 ((c:Int)+1)])=stV (some (e,c+1))):=Lib.hid (by show _=Value.iface 243 (.agg #[.int .u64 (e:Int),.int .i64 ((c+1:Nat):Int)]);rw [show ((c+1:Nat):Int)=(c:Int)+1 by omega])
    generalize mkB p=PP at *
    go_enter Tryz.func142,Tryz.ntmps142
    go_wp2_with fail
    (with_reducible refine NO.out.mono ?_)
    rintro r1 w1 ⟨rfl,rfl⟩
    clear NO
    go_wp2_with fail
    (with_reducible refine RD.out.mono ?_)
    rintro r2 w2 ⟨rfl,b2⟩
    have bb:=b2.trans (((Below.refl w2.heap.size w2).alloc (Nat.le_refl _) (.cells #[.int .u64 (e:Int),.int .i64 (c:Int)] 243)).mono b2.size)
    have P2:=Lib.hid (show Wl q b t (w2.alloc (.cells #[.int .u64 (e:Int),.int .i64 (c:Int)] 243))∧Dk B b s (w2.alloc (.cells #[.int .u64 (e:Int),.int .i64 (c:Int)] 243))∧OpAt (w2.alloc (.cells #[.int .u64 (e:Int),.int .i64 (c:Int)] 243)) w2.heap.size (e:Int) (c:Int)∧Mv b q w1 (w2.alloc (.cells #[.int .u64 (e:Int),.int .i64 (c:Int)] 243)) from ⟨P0.out.1.call bb,P0.out.2.call bb,opAt_new _ _ _,.of_moved (.of_below bb P0.out.2.lt)⟩)
    have PT:=Lib.hid (PU.out _ bb)
    clear RD PU P0 b2 bb
    go_wp2_with fail
    (with_reducible refine PT.out.mono ?_)
    rintro r3 w3 ⟨rfl,k3,m3⟩
    have L3:=P2.out.1.disk P2.out.2.1 m3
    have O3:OpAt w3 w2.heap.size (e:Int) (c:Int):=P2.out.2.1.keep m3 P2.out.2.2.1 (by decide) (by decide) (by decide)
    have M3:=P2.out.2.2.2.moved m3
    have FIN:=Lib.hid (show Dk B b s' (w3.setCell ⟨q,3,none⟩ (.iface 243 (.agg #[.int .u64 (e:Int),.int .i64 ((c:Int)+1)])))∧Wl q b ⟨t.at_,t.n,some (e,c+1)⟩ (w3.setCell ⟨q,3,none⟩ (.iface 243 (.agg #[.int .u64 (e:Int),.int .i64 ((c:Int)+1)])))∧Mv b q w1 (w3.setCell ⟨q,3,none⟩ (.iface 243 (.agg #[.int .u64 (e:Int),.int .i64 ((c:Int)+1)]))) from ⟨Sl.Dk_setOther k3 (L3.notOwn k3),L3.setSt VE.out,M3.set (L3.ne k3) 3 _⟩)
    have y0:=O3.c0
    have y1:=O3.c1
    have c3:=L3.c3
    have f3:=L3.fz 3
    clear PT P2 L3 O3 M3 k3 m3 VE
    go_wp2
    go_ret
    exact ⟨rfl,FIN.out⟩
   | false=>
    rw [if_neg (by simp)]
    dsimp only
    generalize mkB p=PP at *
    go_enter Tryz.func142,Tryz.ntmps142
    go_wp2_with fail
    (with_reducible refine NO.out.mono ?_)
    rintro r1 w1 ⟨rfl,rfl⟩
    clear NO
    go_wp2_with fail
    (with_reducible refine RD.out.mono ?_)
    rintro r2 w2 ⟨rfl,b2⟩
    have bb:=b2.trans (((Below.refl w2.heap.size w2).alloc (Nat.le_refl _) (.cells #[.int .u64 (e:Int),.int .i64 (c:Int)] 243)).mono b2.size)
    have P2:=Lib.hid (show Wl q b t (w2.alloc (.cells #[.int .u64 (e:Int),.int .i64 (c:Int)] 243))∧Dk B b s (w2.alloc (.cells #[.int .u64 (e:Int),.int .i64 (c:Int)] 243))∧OpAt (w2.alloc (.cells #[.int .u64 (e:Int),.int .i64 (c:Int)] 243)) w2.heap.size (e:Int) (c:Int)∧Mv b q w1 (w2.alloc (.cells #[.int .u64 (e:Int),.int .i64 (c:Int)] 243)) from ⟨P0.out.1.call bb,P0.out.2.call bb,opAt_new _ _ _,.of_moved (.of_below bb P0.out.2.lt)⟩)
    have PT:=Lib.hid (PU.out _ bb)
    clear RD PU P0 b2 bb
    go_wp2_with fail
    (with_reducible refine PT.out.mono ?_)
    rintro r3 w3 ⟨rfl,k3,m3⟩
    have L3:=P2.out.1.disk P2.out.2.1 m3
    have O3:OpAt w3 w2.heap.size (e:Int) (c:Int):=P2.out.2.1.keep m3 P2.out.2.2.1 (by decide) (by decide) (by decide)
    have M3:=P2.out.2.2.2.moved m3
    have FIN:=Lib.hid (show Dk B b s' (w3.setCell ⟨q,3,none⟩ (.iface 234 (.agg #[])))∧Wl q b ⟨t.at_,t.n,none⟩ (w3.setCell ⟨q,3,none⟩ (.iface 234 (.agg #[])))∧Mv b q w1 (w3.setCell ⟨q,3,none⟩ (.iface 234 (.agg #[]))) from ⟨Sl.Dk_setOther k3 (L3.notOwn k3),L3.setSt rfl,M3.set (L3.ne k3) 3 _⟩)
    have y0:=O3.c0
    have y1:=O3.c1
    have c3:=L3.c3
    have f3:=L3.fz 3
    clear PT P2 L3 O3 M3 k3 m3
    go_wp2
    go_ret
    exact ⟨rfl,FIN.out⟩
end Go.Proofs.YteempfoajgblaaaGreat.Wl
