/- The document's Miss, Test. -/
import Derived.Test.YteempfoajgblaaaGreatLMQa
import Derived.Test.YteempfoajgblaaaGreatLMBa
import Derived.Test.YteempfoajgblaaaGreatLMDm
set_option maxRecDepth 100000
set_option linter.unusedVariables false
set_option linter.unusedSimpArgs false
open Go.ChangeShapes Go.WideShapes Go.ChangeAt Go.RowKit Go.Joins
set_option maxHeartbeats 4000000
namespace Go.Proofs.YteempfoajgblaaaGreat.Qp
open Pm (Tk chk chk_iff rowB rowB_all rowB_len TkAt Ts wrap_in row_any rrow_any below_drewN Ld loadR Ld.v rload_any)
open Dm (isTime isTime_iff ofR rof_any)
open Bs (cells3)
theorem missR_bad {l:List Tk} (h:(loadR l).e≠0):missR l=⟨0,(loadR l).e⟩:=by unfold missR;rw [if_pos (.inl h)]
theorem missR_over {l:List Tk} (h:(loadR l).e=0) (h2:(loadR l).p<(loadR l).n):missR l=⟨0,0⟩:=by unfold missR;rw [if_pos (.inr h2),h]
theorem missR_may {l:List Tk} (h:(loadR l).e=0) (h2:(loadR l).n≤(loadR l).p):missR l=⟨missN l,0⟩:=by unfold missR;rw [if_neg (by omega)]
def MsRel (l:List Tk) (p M:Int) (W:World) (g:Nat) (s:Value) (wx:World):Prop:=(g:Int)≤p∧s=.int .i64 (p-g+1)∧seekM l g (p-g+1)=M∧Below W.heap.size W wx
theorem rmiss_any (l:List Tk) (ao:Option Addr) (cap:Nat) (w:World) (hT:Ts ao l w) (hl:l.length≤1000000) :
 Calls Tryz.prog 146 #[.slice ao l.length cap] w fun e w'=>e=.returned (.tuple #[.int .i64 (missR l).n,.int .i64 (missR l).e])∧Below w.heap.size w w':=by
 have RL:=Lib.hid (fun w h=>rload_any l ao cap w h hl)
 have RO:=Lib.hid (fun x w h=>rof_any l ao cap x w h hl)
 have T:=Lib.hid hT
 have C3:=Lib.hid (fun w a b c=>cells3 w a b c 229)
 have EB:=Lib.hid (fun h=>missR_bad (l:=l) h)
 have EO:=Lib.hid (fun h h1=>missR_over (l:=l) h h1)
 have EM:=Lib.hid (fun h h1=>missR_may (l:=l) h h1)
 have LP:=Lib.hid (fun h=>load_row (l:=l) h)
 have SK:Hid (seekM l (loadR l).p.toNat 1=missN l):=Lib.hid rfl
 unfold Pm.Ld.v at RL
 generalize missN l=M at *
 generalize missR l=r at *
 generalize loadR l=ld at *
 obtain ⟨n,p,e0⟩:=ld
 simp only at *
 clear hT
 go_enter Tryz.func146,Tryz.ntmps146
 go_wp2_with fail
 (with_reducible refine (RL.out _ T.out).mono ?_)
 rintro e w1 ⟨rfl,b1⟩
 have T2:Hid (∀ o,Ts ao l (w1.alloc o)):=Lib.hid (fun o=>(T.out.call b1).call ((Below.refl _ _).alloc (Nat.le_refl _) o))
 have K2:=Lib.hid (fun o=>b1.alloc b1.size o)
 have C4:=Lib.hid (C3.out w1 (.int .i64 n) (.int .i64 p) (.int .i64 e0))
 clear b1 RL T C3
 obtain ⟨x0,x1,x2⟩:=C4.out
 by_cases he:e0=0
 ·subst he
  by_cases ho:p<n
  ·have E:=Lib.hid (EO.out rfl ho)
   have ho':n > p:=ho
   clear EB EO EM C4
   go_wp2_with fail
   go_quiet (fail)
   have K3:=Lib.hid ((K2.out (.cells #[.int .i64 n,.int .i64 p,.int .i64 0] 229)).trans ((below_drewN _ nq).mono (K2.out (.cells #[.int .i64 n,.int .i64 p,.int .i64 0] 229)).size))
   go_wp2
   exact bodyPost_ret (v:=.tuple #[.int .i64 0,.int .i64 0]) (by simp [results,Tryz.results146,go_sem]) rfl ⟨by rw [E.out],K3.out⟩
  ·have ho':n≤p:=by omega
   have E:=Lib.hid (EM.out rfl ho')
   obtain ⟨-,hp0,hp1⟩:=LP.out rfl
   have S0:Hid (MsRel l p M (w1.alloc (.cells #[.int .i64 n,.int .i64 p,.int .i64 0] 229)) p.toNat (.int .i64 1) (w1.alloc (.cells #[.int .i64 n,.int .i64 p,.int .i64 0] 229))):=Lib.hid ⟨by omega,by congr 1;omega,by rw [show p-(p.toNat:Int)+1=1 by omega];exact SK.out,Below.refl _ _⟩
   clear EB EO EM ho LP SK
   go_wp2_with fail
   go_loopg [5] p.toNat (MsRel l p M (w1.alloc (.cells #[.int .i64 n,.int .i64 p,.int .i64 0] 229)))
   case atStart=>exact S0.out
   case round=>
    obtain ⟨hk,rfl,hs,hB⟩:=hrel
    have y1:=carry hB x1
    have TW:=Lib.hid ((T2.out _).call hB)
    have S1:=Lib.hid (K2.out (.cells #[.int .i64 n,.int .i64 p,.int .i64 0] 229))
    have KB:=Lib.hid (S1.out.trans (hB.mono S1.out.size))
    have HB:=Lib.hid hB
    clear hB x0 x1 x2 C4 S0
    cases gk with
    | zero=>
     have e1:p-((0:Nat):Int)+1=p+1:=by omega
     rw [e1] at *
     have em:M=0:=hs.symm
     have hgt:p<p+1:=by omega
     have E0:Hid (r=⟨0,0⟩):=Lib.hid (by rw [E.out,em])
     clear hs em E hk
     generalize p+1=q at *
     go_wp2
     exact bodyPost_ret (v:=.tuple #[.int .i64 0,.int .i64 0]) (by simp [results,Tryz.results146,go_sem]) rfl ⟨by rw [E0.out],KB.out⟩
    | succ g=>
     obtain ⟨q,hq⟩:∃ q,p-((g+1:Nat):Int)+1=q:=⟨_,rfl⟩
     rw [hq] at hs ⊢
     have hqp:q≤p:=by omega
     have RQ:=Lib.hid (RO.out q wr TW.out)
     rw [seekM] at hs
     have HQ:=Lib.hid hq
     have HK:=Lib.hid hk
     have NX:Hid (p-(g:Int)+1=q+1):=Lib.hid (by omega)
     have hq1:q+1≤9223372036854775807:=by omega
     have hq0:0≤q:=by omega
     by_cases hx:q<ofR l q
     ·rw [if_pos hx] at hs
      have E0:Hid (r=⟨q,0⟩):=Lib.hid (by rw [E.out,hs])
      generalize ofR l q=m at *
      clear hs E hk hq T2 K2 HB RO
      go_wp2_with fail
      (with_reducible refine RQ.out.mono ?_)
      rintro e w2 ⟨rfl,b2⟩
      have KK:=Lib.hid (KB.out.trans (b2.mono KB.out.size))
      clear b2
      go_wp2
      exact bodyPost_ret (v:=.tuple #[.int .i64 q,.int .i64 0]) (by simp [results,Tryz.results146,go_sem]) rfl ⟨by rw [E0.out],KK.out⟩
     ·rw [if_neg hx] at hs
      have hx':ofR l q≤q:=by omega
      have HS:=Lib.hid hs
      generalize ofR l q=m at *
      clear hs hk hq hx
      go_wp2_with fail
      (with_reducible refine RQ.out.mono ?_)
      rintro e w2 ⟨rfl,b2⟩
      have KK:=Lib.hid (HB.out.trans (b2.mono HB.out.size))
      clear b2
      go_wp2
      go_roundg g
      case measure=>omega
      case rel=>exact ⟨by have:=HK.out;omega,by rw [NX.out],by rw [NX.out];exact HS.out,KK.out⟩
 ·have E:=Lib.hid (EB.out he)
  have q1:(e0==0)=false:=by simpa using he
  have q2:(e0 != 0)=true:=by simpa using he
  clear EB EO EM he LP SK
  go_wp2_with fail
  go_quiet (fail)
  have K3:=Lib.hid ((K2.out (.cells #[.int .i64 n,.int .i64 p,.int .i64 e0] 229)).trans ((below_drewN _ nq).mono (K2.out (.cells #[.int .i64 n,.int .i64 p,.int .i64 e0] 229)).size))
  go_wp2
  exact bodyPost_ret (v:=.tuple #[.int .i64 0,.int .i64 e0]) (by simp [results,Tryz.results146,go_sem]) rfl ⟨by rw [E.out],K3.out⟩
theorem rtest_any (l:List Tk) (ao:Option Addr) (cap:Nat) (w:World) (hT:Ts ao l w) (hl:l.length≤1000000) :
 Calls Tryz.prog 99 #[.slice ao l.length cap] w fun e w'=>e=.returned (.int .i64 (testR l))∧Below w.heap.size w w':=by
 have RL:=Lib.hid (fun w h=>rload_any l ao cap w h hl)
 have RM:=Lib.hid (fun w h=>rmiss_any l ao cap w h hl)
 have T:=Lib.hid hT
 have C3:=Lib.hid (fun w a b c=>cells3 w a b c 229)
 have E0:Hid ((loadR l).e≠0→testR l=(loadR l).e):=Lib.hid (fun h=>by unfold testR;rw [if_pos h])
 have E1:Hid ((loadR l).e=0→(loadR l).p<(loadR l).n→testR l=17):=Lib.hid (fun h h2=>by unfold testR;rw [if_neg (by omega),if_pos (.inl h2)])
 have E2:Hid ((loadR l).e=0→(loadR l).n≤(loadR l).p→0<missN l→testR l=17):=Lib.hid (fun h h2 h3=>by unfold testR;rw [if_neg (by omega),if_pos (.inr h3)])
 have E3:Hid ((loadR l).e=0→(loadR l).n≤(loadR l).p→¬0<missN l→testR l=0):=Lib.hid (fun h h2 h3=>by unfold testR;rw [if_neg (by omega),if_neg (by omega)])
 have EO:=Lib.hid (fun h h1=>missR_over (l:=l) h h1)
 have EM:=Lib.hid (fun h h1=>missR_may (l:=l) h h1)
 unfold Pm.Ld.v at RL
 generalize missN l=M at *
 generalize missR l=r at *
 generalize testR l=R at *
 generalize loadR l=ld at *
 obtain ⟨n,p,e0⟩:=ld
 simp only at *
 clear hT
 go_enter Tryz.func99,Tryz.ntmps99
 go_wp2_with fail
 (with_reducible refine (RL.out _ T.out).mono ?_)
 rintro e w1 ⟨rfl,b1⟩
 have T2:Hid (∀ o,Ts ao l (w1.alloc o)):=Lib.hid (fun o=>(T.out.call b1).call ((Below.refl _ _).alloc (Nat.le_refl _) o))
 have K2:=Lib.hid (fun o=>b1.alloc b1.size o)
 have C4:=Lib.hid (C3.out w1 (.int .i64 n) (.int .i64 p) (.int .i64 e0))
 clear b1 RL T C3
 obtain ⟨x0,x1,x2⟩:=C4.out
 by_cases he:e0=0
 ·subst he
  have TQ:=Lib.hid (T2.out (.cells #[.int .i64 n,.int .i64 p,.int .i64 0] 229))
  have KQ:=Lib.hid (K2.out (.cells #[.int .i64 n,.int .i64 p,.int .i64 0] 229))
  clear T2 K2 C4 E0
  by_cases ho:p<n
  ·have e:=EO.out rfl ho
   subst e
   have E:=Lib.hid (E1.out rfl ho)
   have ho':n > p:=ho
   clear E1 E2 E3 EO EM
   go_wp2_with fail
   generalize (w1.alloc (.cells #[.int .i64 n,.int .i64 p,.int .i64 0] 229))=W at *
   (with_reducible refine (RM.out _ TQ.out).mono ?_)
   rintro e w2 ⟨rfl,b2⟩
   have y0:=carry b2 x0
   have y1:=carry b2 x1
   have K3:=Lib.hid (KQ.out.trans (b2.mono KQ.out.size))
   clear b2 RM x0 x1 x2
   go_wp2
   go_ret
   exact ⟨by rw [E.out];rfl,K3.out⟩
  ·have ho':n≤p:=by omega
   have e:=EM.out rfl ho'
   subst e
   have EA:=Lib.hid (E2.out rfl ho')
   have EZ:=Lib.hid (E3.out rfl ho')
   clear E1 E2 E3 EO EM ho
   go_wp2_with fail
   generalize (w1.alloc (.cells #[.int .i64 n,.int .i64 p,.int .i64 0] 229))=W at *
   (with_reducible refine (RM.out _ TQ.out).mono ?_)
   rintro e w2 ⟨rfl,b2⟩
   have y0:=carry b2 x0
   have y1:=carry b2 x1
   have K3:=Lib.hid (KQ.out.trans (b2.mono KQ.out.size))
   clear b2 RM x0 x1 x2
   by_cases hM:0<M
   ·have E:=Lib.hid (EA.out hM)
    have hM':M > 0:=hM
    go_wp2
    go_ret
    exact ⟨by rw [E.out];rfl,K3.out⟩
   ·have hM':M≤0:=by omega
    have E:=Lib.hid (EZ.out hM')
    clear hM
    go_wp2
    go_ret
    exact ⟨by rw [E.out];rfl,K3.out⟩
 ·have E:=Lib.hid (E0.out he)
  have q1:(e0==0)=false:=by simpa using he
  have q2:(e0 != 0)=true:=by simpa using he
  clear EO EM he E0 E1 E2 E3 RM
  go_wp2
  go_ret
  exact ⟨by rw [E.out];rfl,K2.out _⟩
end Go.Proofs.YteempfoajgblaaaGreat.Qp
