/- Contracts of package journal's attempt, with its deferred closure, and of the closures that Append .. -/
import Derived.Test.YteempfoajgblaaaGreatLMJa
import Derived.Test.YteempfoajgblaaaGreatLWlF
import Derived.Tactics2
import Derived.Defers
import Derived.StillTailTactics
import Derived.BigQuiet
import Derived.Test.YteempfoajgblaaaGreatLQD
import Derived.BigRegion
import Derived.Test.YteempfoajgblaaaGreatLJnMath
set_option maxRecDepth 100000
set_option linter.unusedVariables false
set_option linter.unusedSimpArgs false
open Go.ChangeShapes Go.WideShapes Go.ChangeAt Go.RowKit Go.Joins
set_option maxHeartbeats 2000000
namespace Go.Proofs.YteempfoajgblaaaGreat.Jn
open Dk (Dk DS Own Moved ptr)
open Sl (Mv SS)
open Wl (WS)
def BxAt (w:World) (p:Nat) (v:Value) (T:TypeId):Prop:=w.heap[p]?=some (.cells #[v] T (0,0))
section
variable {w w':World} {p:Nat} {v:Value} {T:TypeId}
theorem BxAt.c0 (h:BxAt w p v T):w.cell? ⟨p,0,none⟩=some v:=by rw [Lib.cell_of_heap h];rfl
theorem BxAt.fz (h:BxAt w p v T) (o:Nat):w.frozen? ⟨p,o,none⟩=false:=Lib.frozen_of_heap h o
theorem BxAt.kp (h:BxAt w p v T) (k:Kp w w') (hT:Jt T):BxAt w' p v T:=k p _ _ _ h hT
theorem BxAt.set (h:BxAt w p v T) (x:Value):BxAt (w.setCell ⟨p,0,none⟩ x) p x T:=by
 unfold BxAt at *;simp [World.setCell,Array.getElem?_modify,h]
theorem BxAt.other (h:BxAt w p v T) {c o:Nat} (hc:p≠c) (x:Value):BxAt (w.setCell ⟨c,o,none⟩ x) p v T:=by
 unfold BxAt at *;rw [Below.heap_setCell w ⟨c,o,none⟩ x p hc];exact h
end
theorem attempt_end (ce cp j:Nat) (x:Int) (v:Value) (w:World) (h0:w.cell? ⟨cp,0,none⟩=some (ptr j)) (h1:w.cell? ⟨ce,0,none⟩=some (.int .i64 x)) (h2:w.cell? ⟨j,3,none⟩=some v) (h3:w.frozen? ⟨j,3,none⟩=false) (u:FrameMode) :
 CallsD Tryz.prog 122 #[ptr ce,ptr cp] u w fun e u' w'=>u'=u∧e=.returned (.tuple #[])∧w'=w.setCell ⟨j,3,none⟩ (.bool (x != 18)):=by
 go_enter_d Tryz.func122,Tryz.ntmps122
 go_wp2
 go_end0
 first|exact ⟨rfl,rfl,rfl⟩|exact ⟨rfl,rfl⟩|exact rfl
theorem attempt_app (B b j l q:Nat) (tl tl':WS) (ts ts':SS) (e e':Nat) (s s':DS) (x:Int) (cap:Array Value) (w0 w:World) (h:Jn B b j l q tl ts e true s w0 w)
 (H:∀ w1,Jn B b j l q tl ts e true s w0 w1→Kp w w1→Calls Tryz.prog 141 cap w1 fun r w'=>r=.returned (.int .i64 x)∧Jn B b j l q tl' ts' e' true s' w0 w'∧Kp w1 w') :
 Calls Tryz.prog 78 #[ptr j,.func (.func 141) #[] cap] w fun r w'=>r=.returned (.int .i64 x)∧Jn B b j l q tl' ts' e' (x != 18) s' w0 w'∧Kp w w':=by
 have b1:=(Below.refl w.heap.size w).alloc (Nat.le_refl _) (.cells #[ptr j] 185)
 have b2:=b1.alloc (by simp) (.cells #[.int .i64 0] 29)
 have sz:(w.alloc (.cells #[ptr j] 185)).heap.size=w.heap.size+1:=by simp
 have bx0:=heap_alloc_new w (.cells #[ptr j] 185)
 have bx1:=heap_alloc_new (w.alloc (.cells #[ptr j] 185)) (.cells #[.int .i64 0] 29)
 have b21:=(Below.refl (w.alloc (.cells #[ptr j] 185)).heap.size (w.alloc (.cells #[ptr j] 185))).alloc (Nat.le_refl _) (.cells #[.int .i64 0] 29)
 rw [sz] at bx1
 have P1:=Lib.hid (And.intro (h.call b2) (And.intro (Kp.below b2) (And.intro (show BxAt ((w.alloc (.cells #[ptr j] 185)).alloc (.cells #[.int .i64 0] 29)) w.heap.size (ptr j) 185 from (b21.block w.heap.size (by rw [sz];omega)).trans bx0) (show BxAt ((w.alloc (.cells #[ptr j] 185)).alloc (.cells #[.int .i64 0] 29)) (w.heap.size+1) (.int .i64 0) 29 from bx1))))
 have CL:=Lib.hid (H _ P1.out.1 P1.out.2.1)
 have HB:B≤w.heap.size:=h.dk.le
 have HW0:w0.heap.size≤w.heap.size:=h.bel.size
 clear h H b1 b2 b21 bx0 bx1 sz
 generalize hW:(w.alloc (.cells #[ptr j] 185)).alloc (.cells #[.int .i64 0] 29)=W1 at *
 have c3:=P1.out.1.jn.c3
 have p0:=P1.out.2.2.1.c0
 have p1:=P1.out.2.2.2.c0
 have HC:=Lib.hid (show w.heap.size+1≠w.heap.size by omega)
 go_enter_defers Tryz.func78,Tryz.ntmps78
 go_wp2_with fail
 (try rw [hW])
 (with_reducible refine CL.out.mono ?_)
 rintro r w2 ⟨rfl,j2,k2⟩
 have P2:=Lib.hid (And.intro j2 (And.intro (P1.out.2.1.trans k2) (And.intro (P1.out.2.2.1.kp k2 (by decide)) (P1.out.2.2.2.kp k2 (by decide)))))
 have P3:Hid (Jn B b j l q tl' ts' e' true s' w0 (w2.setCell ⟨w.heap.size+1,0,none⟩ (.int .i64 x))∧Kp w (w2.setCell ⟨w.heap.size+1,0,none⟩ (.int .i64 x))∧BxAt (w2.setCell ⟨w.heap.size+1,0,none⟩ (.int .i64 x)) w.heap.size (ptr j) 185∧BxAt (w2.setCell ⟨w.heap.size+1,0,none⟩ (.int .i64 x)) (w.heap.size+1) (.int .i64 x) 29):=Lib.hid
  ⟨P2.out.1.setNew P2.out.2.2.2 (by decide) (by omega) (by omega) 0 _,P2.out.2.1.setNew (by omega) 0 _,P2.out.2.2.1.other (Ne.symm HC.out) _,P2.out.2.2.2.set _⟩
 have x0:=P2.out.2.2.2.c0
 have z0:=P2.out.2.2.2.fz 0
 have AE:=Lib.hid (fun u=>attempt_end (w.heap.size+1) w.heap.size j x (.bool true) _ P3.out.2.2.1.c0 P3.out.2.2.2.c0 P3.out.1.jn.c3 (P3.out.1.jn.fz 3) u)
 have HR:Hid (((w2.setCell ⟨w.heap.size+1,0,none⟩ (.int .i64 x)).setCell ⟨j,3,none⟩ (.bool (x != 18))).cell? ⟨w.heap.size+1,0,none⟩=some (.int .i64 x)):=Lib.hid ((P3.out.2.2.2.other (c:=j) (o:=3) (fun e=>by have h1:=P3.out.1.jn;have h2:=P3.out.2.2.2;unfold JAt at h1;unfold BxAt at h2;rw [e] at h1 h2;rw [h1] at h2;simp at h2) (.bool (x != 18))).c0)
 have FIN:Hid (Jn B b j l q tl' ts' e' (x != 18) s' w0 ((w2.setCell ⟨w.heap.size+1,0,none⟩ (.int .i64 x)).setCell ⟨j,3,none⟩ (.bool (x != 18)))∧Kp w ((w2.setCell ⟨w.heap.size+1,0,none⟩ (.int .i64 x)).setCell ⟨j,3,none⟩ (.bool (x != 18)))):=Lib.hid ⟨P3.out.1.setG (x != 18),P3.out.2.1.trans (.setJ P3.out.1.jn 3 _)⟩
 clear CL P1 P2 P3 c3 p0 p1 hW HB HW0 HC j2 k2
 go_wp2
 refine leaves_cons (f:=122) (args:=#[ptr (w.heap.size+1),ptr w.heap.size]) (by simp) (by simp [go_sem]) ?_
 refine (AE.out _).mono ?_
 rintro r u' w'' ⟨rfl,rfl,rfl⟩
 have hr:=HR.out
 have fin:=FIN.out
 simp [Leaves,settle,results,Tryz.results78,go_sem,hr]
 exact fin
theorem attempt_snap (B b j l q:Nat) (tl tl':WS) (ts ts':SS) (e e':Nat) (s s':DS) (x:Int) (cap:Array Value) (w0 w:World) (h:Jn B b j l q tl ts e true s w0 w)
 (H:∀ w1,Jn B b j l q tl ts e true s w0 w1→Kp w w1→Calls Tryz.prog 79 cap w1 fun r w'=>r=.returned (.int .i64 x)∧Jn B b j l q tl' ts' e' true s' w0 w'∧Kp w1 w') :
 Calls Tryz.prog 78 #[ptr j,.func (.func 79) #[] cap] w fun r w'=>r=.returned (.int .i64 x)∧Jn B b j l q tl' ts' e' (x != 18) s' w0 w'∧Kp w w':=by
 have b1:=(Below.refl w.heap.size w).alloc (Nat.le_refl _) (.cells #[ptr j] 185)
 have b2:=b1.alloc (by simp) (.cells #[.int .i64 0] 29)
 have sz:(w.alloc (.cells #[ptr j] 185)).heap.size=w.heap.size+1:=by simp
 have bx0:=heap_alloc_new w (.cells #[ptr j] 185)
 have bx1:=heap_alloc_new (w.alloc (.cells #[ptr j] 185)) (.cells #[.int .i64 0] 29)
 have b21:=(Below.refl (w.alloc (.cells #[ptr j] 185)).heap.size (w.alloc (.cells #[ptr j] 185))).alloc (Nat.le_refl _) (.cells #[.int .i64 0] 29)
 rw [sz] at bx1
 have P1:=Lib.hid (And.intro (h.call b2) (And.intro (Kp.below b2) (And.intro (show BxAt ((w.alloc (.cells #[ptr j] 185)).alloc (.cells #[.int .i64 0] 29)) w.heap.size (ptr j) 185 from (b21.block w.heap.size (by rw [sz];omega)).trans bx0) (show BxAt ((w.alloc (.cells #[ptr j] 185)).alloc (.cells #[.int .i64 0] 29)) (w.heap.size+1) (.int .i64 0) 29 from bx1))))
 have CL:=Lib.hid (H _ P1.out.1 P1.out.2.1)
 have HB:B≤w.heap.size:=h.dk.le
 have HW0:w0.heap.size≤w.heap.size:=h.bel.size
 clear h H b1 b2 b21 bx0 bx1 sz
 generalize hW:(w.alloc (.cells #[ptr j] 185)).alloc (.cells #[.int .i64 0] 29)=W1 at *
 have c3:=P1.out.1.jn.c3
 have p0:=P1.out.2.2.1.c0
 have p1:=P1.out.2.2.2.c0
 have HC:=Lib.hid (show w.heap.size+1≠w.heap.size by omega)
 go_enter_defers Tryz.func78,Tryz.ntmps78
 go_wp2_with fail
 (try rw [hW])
 (with_reducible refine CL.out.mono ?_)
 rintro r w2 ⟨rfl,j2,k2⟩
 have P2:=Lib.hid (And.intro j2 (And.intro (P1.out.2.1.trans k2) (And.intro (P1.out.2.2.1.kp k2 (by decide)) (P1.out.2.2.2.kp k2 (by decide)))))
 have P3:Hid (Jn B b j l q tl' ts' e' true s' w0 (w2.setCell ⟨w.heap.size+1,0,none⟩ (.int .i64 x))∧Kp w (w2.setCell ⟨w.heap.size+1,0,none⟩ (.int .i64 x))∧BxAt (w2.setCell ⟨w.heap.size+1,0,none⟩ (.int .i64 x)) w.heap.size (ptr j) 185∧BxAt (w2.setCell ⟨w.heap.size+1,0,none⟩ (.int .i64 x)) (w.heap.size+1) (.int .i64 x) 29):=Lib.hid
  ⟨P2.out.1.setNew P2.out.2.2.2 (by decide) (by omega) (by omega) 0 _,P2.out.2.1.setNew (by omega) 0 _,P2.out.2.2.1.other (Ne.symm HC.out) _,P2.out.2.2.2.set _⟩
 have x0:=P2.out.2.2.2.c0
 have z0:=P2.out.2.2.2.fz 0
 have AE:=Lib.hid (fun u=>attempt_end (w.heap.size+1) w.heap.size j x (.bool true) _ P3.out.2.2.1.c0 P3.out.2.2.2.c0 P3.out.1.jn.c3 (P3.out.1.jn.fz 3) u)
 have HR:Hid (((w2.setCell ⟨w.heap.size+1,0,none⟩ (.int .i64 x)).setCell ⟨j,3,none⟩ (.bool (x != 18))).cell? ⟨w.heap.size+1,0,none⟩=some (.int .i64 x)):=Lib.hid ((P3.out.2.2.2.other (c:=j) (o:=3) (fun e=>by have h1:=P3.out.1.jn;have h2:=P3.out.2.2.2;unfold JAt at h1;unfold BxAt at h2;rw [e] at h1 h2;rw [h1] at h2;simp at h2) (.bool (x != 18))).c0)
 have FIN:Hid (Jn B b j l q tl' ts' e' (x != 18) s' w0 ((w2.setCell ⟨w.heap.size+1,0,none⟩ (.int .i64 x)).setCell ⟨j,3,none⟩ (.bool (x != 18)))∧Kp w ((w2.setCell ⟨w.heap.size+1,0,none⟩ (.int .i64 x)).setCell ⟨j,3,none⟩ (.bool (x != 18)))):=Lib.hid ⟨P3.out.1.setG (x != 18),P3.out.2.1.trans (.setJ P3.out.1.jn 3 _)⟩
 clear CL P1 P2 P3 c3 p0 p1 hW HB HW0 HC j2 k2
 go_wp2
 refine leaves_cons (f:=122) (args:=#[ptr (w.heap.size+1),ptr w.heap.size]) (by simp) (by simp [go_sem]) ?_
 refine (AE.out _).mono ?_
 rintro r u' w'' ⟨rfl,rfl,rfl⟩
 have hr:=HR.out
 have fin:=FIN.out
 simp [Leaves,settle,results,Tryz.results78,go_sem,hr]
 exact fin
end Go.Proofs.YteempfoajgblaaaGreat.Jn
namespace Go.Proofs.YteempfoajgblaaaGreat.Jn
open Dk (Dk DS Own Moved ptr)
open Sl (Mv SS below_drewN)
open Wl (WS)
section
variable {w w':World} {p:Nat} {v:Value} {T:TypeId}
theorem bxAt_new (w:World) (v:Value) (T:TypeId):BxAt (w.alloc (.cells #[v] T)) w.heap.size v T:=heap_alloc_new _ _
end
theorem app_cl (B b j l q:Nat) (tl:WS) (ts:SS) (e:Nat) (g:Bool) (s:DS) (p:List UInt8) (cj cp:Nat) (w0 w:World) (h:Jn B b j l q tl ts e g s w0 w) (xj:BxAt w cj (ptr j) 85) (xp:BxAt w cp (.string (mkB p)) 9) (ft:tl.Fit s.sec.length) (hp:p.length≤100000) (ho:s.opn.length≤800000) (hf:s.fail<9223372036854775808) :
 Calls Tryz.prog 141 #[ptr cj,ptr cp] w fun r w'=>r=.returned (.int .i64 ((Wl.appR s tl p).2.2:Int))∧Jn B b j l q ⟨tl.at_,tl.n,(Wl.appR s tl p).2.1⟩ ts e g (Wl.appR s tl p).1 w0 w'∧Kp w w':=by
 have P1:=Lib.hid (And.intro (h.call (Below.refl _ _).drew) (Kp.drew (w:=w)))
 have AP:=Lib.hid (Wl.append_any p w.drew P1.out.1.wl P1.out.1.dk ft hp ho hf)
 have c0:=h.jn.c0
 have x0:=xj.c0
 have x1:=xp.c0
 clear h xj xp
 generalize mkB p=PB at *
 go_enter Tryz.func141,Tryz.ntmps141
 go_wp2_with fail
 go_still_tail 6,(by kernel_rfl)
 change wpList _ _ _ _ _ w.drew
 clear c0 x0 x1
 generalize w.drew=W at *
 go_wp2_with fail
 (with_reducible refine AP.out.mono ?_)
 rintro r w1 ⟨rfl,d1,l1,m1⟩
 have FIN:=Lib.hid (And.intro (P1.out.1.goL d1 l1 m1) (P1.out.2.trans (.mvL P1.out.1.dk P1.out.1.wl m1)))
 clear AP P1 d1 l1 m1
 go_wp2
 go_ret
 exact ⟨rfl,FIN.out⟩
theorem append_any (B b j l q:Nat) (tl:WS) (ts:SS) (e:Nat) (s:DS) (p:List UInt8) (w0 w:World) (h:Jn B b j l q tl ts e true s w0 w) (ft:tl.Fit s.sec.length) (hp:p.length≤43) (ho:s.opn.length≤800000) (hf:s.fail<9223372036854775808) :
 Calls Tryz.prog 93 #[ptr j,.string (mkB p)] w fun r w'=>r=.returned (.int .i64 ((Wl.appR s tl p).2.2:Int))∧Jn B b j l q ⟨tl.at_,tl.n,(Wl.appR s tl p).2.1⟩ ts e (((Wl.appR s tl p).2.2:Int) != 18) (Wl.appR s tl p).1 w0 w'∧Kp w w':=by
 have b1:=(Below.refl w.heap.size w).alloc (Nat.le_refl _) (.cells #[ptr j] 85)
 have b2:=b1.alloc (by simp) (.cells #[.string (mkB p)] 9)
 have sz:(w.alloc (.cells #[ptr j] 85)).heap.size=w.heap.size+1:=by simp
 have b21:=(Below.refl (w.alloc (.cells #[ptr j] 85)).heap.size (w.alloc (.cells #[ptr j] 85))).alloc (Nat.le_refl _) (.cells #[.string (mkB p)] 9)
 have bx1:=bxAt_new (w.alloc (.cells #[ptr j] 85)) (.string (mkB p)) 9
 rw [sz] at bx1
 have P1:=Lib.hid (And.intro (h.call b2) (And.intro (Kp.below b2) (And.intro (show BxAt ((w.alloc (.cells #[ptr j] 85)).alloc (.cells #[.string (mkB p)] 9)) w.heap.size (ptr j) 85 from (b21.block w.heap.size (by rw [sz];omega)).trans (bxAt_new w (ptr j) 85)) bx1)))
 have hz:((mkB p).size:Int)≤43:=by rw [mkB_size];omega
 have hp2:p.length≤100000:=by omega
 have NO:=Lib.hid (none_any _ P1.out.1.jn)
 have AT:=Lib.hid (attempt_app B b j l q tl ⟨tl.at_,tl.n,(Wl.appR s tl p).2.1⟩ ts ts e e s (Wl.appR s tl p).1 ((Wl.appR s tl p).2.2:Int) #[ptr w.heap.size,ptr (w.heap.size+1)] w0 _ P1.out.1 (fun w1 j1 k1=>app_cl B b j l q tl ts e true s p w.heap.size (w.heap.size+1) w0 w1 j1 (P1.out.2.2.1.kp k1 (by decide)) (P1.out.2.2.2.kp k1 (by decide)) ft hp2 ho hf))
 have x0:=P1.out.2.2.1.c0
 have x1:=P1.out.2.2.2.c0
 clear h b1 b2 b21 bx1 sz ft ho hf hp hp2
 generalize mkB p=PB at *
 generalize hW:(w.alloc (.cells #[ptr j] 85)).alloc (.cells #[.string PB] 9)=W at *
 go_enter Tryz.func93,Tryz.ntmps93
 go_wp2_with fail
 (try rw [hW])
 (with_reducible refine NO.out.mono ?_)
 rintro r w1 ⟨rfl,rfl⟩
 clear NO
 go_wp2_with fail
 (with_reducible refine AT.out.mono ?_)
 rintro r w2 ⟨rfl,j2,k2⟩
 have FIN:=Lib.hid (And.intro j2 (P1.out.2.1.trans k2))
 clear AT P1 j2 k2 x0 x1 hW
 go_wp2
 go_ret
 exact ⟨rfl,FIN.out⟩
theorem snap_cl_ok (B b j l q:Nat) (tl:WS) (ts:SS) (e:Nat) (g:Bool) (s s':DS) (data:List UInt8) (cj cp:Nat) (w0 w:World) (h:Jn B b j l q tl ts e g s w0 w) (xj:BxAt w cj (ptr j) 85) (xp:BxAt w cp (.string (mkB data)) 9) (k1:1≤ts.k) (k2:ts.k≤64) (hx:ts.nx≤1) (ha:ts.at_+ts.nx*ts.k+ts.k≤s.sec.length) (hr:ts.rd=true) (hnw:ts.nw<18446744073709551615) (hd:data.length≤1000) (hd2:data.length≤43*ts.k) (hn:s.opn.length≤800000) (hf:s.fail<9223372036854775808) (n1:1≤tl.n)
 (hP:Sl.putR s (ts.at_+ts.nx*ts.k) ts.k data (ts.nw+1)=(s',true)) :
 Calls Tryz.prog 79 #[ptr cj,ptr cp] w fun r w'=>r=.returned (.int .i64 0)∧Jn B b j l q ⟨tl.at_,tl.n,some (ts.nw+1,0)⟩ ⟨ts.at_,ts.k,true,ts.nw+1,1-ts.nx⟩ (ts.nw+1) g s' w0 w'∧Kp w w':=by
 have P1:=Lib.hid (And.intro (h.call (Below.refl _ _).drew) (Kp.drew (w:=w)))
 have RN:=Lib.hid (renew_ok B b j l q tl ts e g s s' data w0 w.drew P1.out.1 k1 k2 hx ha hr hnw hd hd2 hn hf n1 hP)
 have x0:=xj.c0
 have x1:=xp.c0
 clear h xj xp hP
 generalize mkB data=PB at *
 go_enter Tryz.func79,Tryz.ntmps79
 go_wp2_with fail
 go_still_tail 4,(by kernel_rfl)
 change wpList _ _ _ _ _ w.drew
 clear x0 x1
 generalize w.drew=W at *
 go_wp2_with fail
 (with_reducible refine RN.out.mono ?_)
 rintro r w1 ⟨rfl,j1,k1⟩
 have FIN:=Lib.hid (And.intro j1 (P1.out.2.trans k1))
 clear RN P1 j1 k1
 go_wp2
 go_ret
 exact ⟨rfl,FIN.out⟩
theorem snap_cl_io (B b j l q:Nat) (tl:WS) (ts:SS) (e:Nat) (g:Bool) (s s':DS) (data:List UInt8) (cj cp:Nat) (w0 w:World) (h:Jn B b j l q tl ts e g s w0 w) (xj:BxAt w cj (ptr j) 85) (xp:BxAt w cp (.string (mkB data)) 9) (k1:1≤ts.k) (k2:ts.k≤64) (hx:ts.nx≤1) (ha:ts.at_+ts.nx*ts.k+ts.k≤s.sec.length) (hr:ts.rd=true) (hnw:ts.nw<18446744073709551615) (hd:data.length≤1000) (hd2:data.length≤43*ts.k) (hn:s.opn.length≤800000) (hf:s.fail<9223372036854775808)
 (hP:Sl.putR s (ts.at_+ts.nx*ts.k) ts.k data (ts.nw+1)=(s',false)) :
 Calls Tryz.prog 79 #[ptr cj,ptr cp] w fun r w'=>r=.returned (.int .i64 18)∧Jn B b j l q tl ⟨ts.at_,ts.k,false,ts.nw+1,ts.nx⟩ e g s' w0 w'∧Kp w w':=by
 have P1:=Lib.hid (And.intro (h.call (Below.refl _ _).drew) (Kp.drew (w:=w)))
 have RN:=Lib.hid (renew_io B b j l q tl ts e g s s' data w0 w.drew P1.out.1 k1 k2 hx ha hr hnw hd hd2 hn hf hP)
 have x0:=xj.c0
 have x1:=xp.c0
 clear h xj xp hP
 generalize mkB data=PB at *
 go_enter Tryz.func79,Tryz.ntmps79
 go_wp2_with fail
 go_still_tail 4,(by kernel_rfl)
 change wpList _ _ _ _ _ w.drew
 clear x0 x1
 generalize w.drew=W at *
 go_wp2_with fail
 (with_reducible refine RN.out.mono ?_)
 rintro r w1 ⟨rfl,j1,k1⟩
 have FIN:=Lib.hid (And.intro j1 (P1.out.2.trans k1))
 clear RN P1 j1 k1
 go_wp2
 go_ret
 exact ⟨rfl,FIN.out⟩
/-- a Snapshot, by what its closure does -/
theorem snapshot_by (B b j l q:Nat) (tl tl':WS) (ts ts':SS) (e e':Nat) (s s':DS) (x:Int) (data:List UInt8) (w0 w:World) (h:Jn B b j l q tl ts e true s w0 w) (hk:ts.k≤64) (hd:data.length≤43*ts.k)
 (H:∀ (w1:World) (cj cp:Nat),Jn B b j l q tl ts e true s w0 w1→BxAt w1 cj (ptr j) 85→BxAt w1 cp (.string (mkB data)) 9→Calls Tryz.prog 79 #[ptr cj,ptr cp] w1 fun r w'=>r=.returned (.int .i64 x)∧Jn B b j l q tl' ts' e' true s' w0 w'∧Kp w1 w') :
 Calls Tryz.prog 38 #[ptr j,.string (mkB data)] w fun r w'=>r=.returned (.int .i64 x)∧Jn B b j l q tl' ts' e' (x != 18) s' w0 w'∧Kp w w':=by
 have b1:=(Below.refl w.heap.size w).alloc (Nat.le_refl _) (.cells #[ptr j] 85)
 have b2:=b1.alloc (by simp) (.cells #[.string (mkB data)] 9)
 have sz:(w.alloc (.cells #[ptr j] 85)).heap.size=w.heap.size+1:=by simp
 have b21:=(Below.refl (w.alloc (.cells #[ptr j] 85)).heap.size (w.alloc (.cells #[ptr j] 85))).alloc (Nat.le_refl _) (.cells #[.string (mkB data)] 9)
 have bx1:=bxAt_new (w.alloc (.cells #[ptr j] 85)) (.string (mkB data)) 9
 rw [sz] at bx1
 have P1:=Lib.hid (And.intro (h.call b2) (And.intro (Kp.below b2) (And.intro (show BxAt ((w.alloc (.cells #[ptr j] 85)).alloc (.cells #[.string (mkB data)] 9)) w.heap.size (ptr j) 85 from (b21.block w.heap.size (by rw [sz];omega)).trans (bxAt_new w (ptr j) 85)) bx1)))
 have hz:((mkB data).size:Int)≤43*(ts.k:Int):=by rw [mkB_size];omega
 have hz2:43*(ts.k:Int)≤2752:=by omega
 generalize hW:(w.alloc (.cells #[ptr j] 85)).alloc (.cells #[.string (mkB data)] 9)=W at *
 have PN:=Lib.hid (fun n=>show Jn B b j l q tl ts e true s w0 (W.drewN n)∧Kp w (W.drewN n)∧BxAt (W.drewN n) w.heap.size (ptr j) 85∧BxAt (W.drewN n) (w.heap.size+1) (.string (mkB data)) 9 from by
  have k:=Kp.below (below_drewN W n)
  exact ⟨P1.out.1.call (below_drewN W n),P1.out.2.1.trans k,P1.out.2.2.1.kp k (by decide),P1.out.2.2.2.kp k (by decide)⟩)
 have NO:=Lib.hid (fun n=>none_any (W.drewN n) (PN.out n).1.jn)
 have RM:=Lib.hid (fun n=>Sl.room_any (W.drewN n) (PN.out n).1.sl hk)
 have AT:=Lib.hid (fun n=>attempt_snap B b j l q tl tl' ts ts' e e' s s' x #[ptr w.heap.size,ptr (w.heap.size+1)] w0 (W.drewN n) (PN.out n).1 (fun w1 j1 k1=>H w1 w.heap.size (w.heap.size+1) j1 ((PN.out n).2.2.1.kp k1 (by decide)) ((PN.out n).2.2.2.kp k1 (by decide))))
 have x0:=P1.out.2.2.1.c0
 have x1:=P1.out.2.2.2.c0
 have c1:=P1.out.1.jn.c1
 clear h b1 b2 b21 bx1 sz H hd hk
 generalize mkB data=PB at *
 generalize 43*(ts.k:Int)=RMK at *
 go_enter Tryz.func38,Tryz.ntmps38
 go_wp2_with fail
 (try rw [hW])
 clear hW P1
 generalize w.heap.size+1=cp at *
 go_quiet ((first|(go_at_call 76;exact Calls.quiet_of_same (NO.out _))|(go_at_call 77;exact Calls.quiet_of_same (RM.out _))|fail))
 have P2:=Lib.hid (PN.out nq)
 have AT2:=Lib.hid (AT.out nq)
 clear NO RM AT PN x0 x1 c1
 have x0:=P2.out.2.2.1.c0
 generalize W.drewN nq=W2 at *
 go_wp2_with fail
 (with_reducible refine AT2.out.mono ?_)
 rintro r w2 ⟨rfl,j2,k2⟩
 have FIN:=Lib.hid (And.intro j2 (P2.out.2.1.trans k2))
 clear AT2 P2 j2 k2 x0
 go_wp2
 go_ret
 exact ⟨rfl,FIN.out⟩
theorem snapshot_ok (B b j l q:Nat) (tl:WS) (ts:SS) (e:Nat) (s s':DS) (data:List UInt8) (w0 w:World) (h:Jn B b j l q tl ts e true s w0 w) (k1:1≤ts.k) (k2:ts.k≤64) (hx:ts.nx≤1) (ha:ts.at_+ts.nx*ts.k+ts.k≤s.sec.length) (hr:ts.rd=true) (hnw:ts.nw<18446744073709551615) (hd:data.length≤1000) (hd2:data.length≤43*ts.k) (hn:s.opn.length≤800000) (hf:s.fail<9223372036854775808) (n1:1≤tl.n)
 (hP:Sl.putR s (ts.at_+ts.nx*ts.k) ts.k data (ts.nw+1)=(s',true)) :
 Calls Tryz.prog 38 #[ptr j,.string (mkB data)] w fun r w'=>r=.returned (.int .i64 0)∧Jn B b j l q ⟨tl.at_,tl.n,some (ts.nw+1,0)⟩ ⟨ts.at_,ts.k,true,ts.nw+1,1-ts.nx⟩ (ts.nw+1) true s' w0 w'∧Kp w w' :=
 snapshot_by B b j l q tl _ ts _ e _ s s' 0 data w0 w h k2 hd2 (fun w1 cj cp j1 xj xp=>snap_cl_ok B b j l q tl ts e true s s' data cj cp w0 w1 j1 xj xp k1 k2 hx ha hr hnw hd hd2 hn hf n1 hP)
theorem snapshot_io (B b j l q:Nat) (tl:WS) (ts:SS) (e:Nat) (s s':DS) (data:List UInt8) (w0 w:World) (h:Jn B b j l q tl ts e true s w0 w) (k1:1≤ts.k) (k2:ts.k≤64) (hx:ts.nx≤1) (ha:ts.at_+ts.nx*ts.k+ts.k≤s.sec.length) (hr:ts.rd=true) (hnw:ts.nw<18446744073709551615) (hd:data.length≤1000) (hd2:data.length≤43*ts.k) (hn:s.opn.length≤800000) (hf:s.fail<9223372036854775808)
 (hP:Sl.putR s (ts.at_+ts.nx*ts.k) ts.k data (ts.nw+1)=(s',false)) :
 Calls Tryz.prog 38 #[ptr j,.string (mkB data)] w fun r w'=>r=.returned (.int .i64 18)∧Jn B b j l q tl ⟨ts.at_,ts.k,false,ts.nw+1,ts.nx⟩ e false s' w0 w'∧Kp w w' :=
 snapshot_by B b j l q tl _ ts _ e _ s s' 18 data w0 w h k2 hd2 (fun w1 cj cp j1 xj xp=>snap_cl_io B b j l q tl ts e true s s' data cj cp w0 w1 j1 xj xp k1 k2 hx ha hr hnw hd hd2 hn hf hP)
end Go.Proofs.YteempfoajgblaaaGreat.Jn
namespace Go.Proofs.YteempfoajgblaaaGreat.Jn
open Dk (Dk DS Own Moved ptr)
open Sl (Mv SS below_drewN SnAt)
open Wl (WS)
theorem format_ok (B b k n x:Nat) (t:Nat×List UInt8) (s s':DS) (data:List UInt8) (w0 w:World) (h:Dk B b s w) (hb:Below B w0 w) (ho:Since w0 w) (k1:1≤k) (k2:k≤64) (n1:1≤n) (hl:s.sec.length=2*k+n) (hr:s.reads≤800000000) (hn:s.opn.length≤800000) (hf:s.fail<9223372036854775808) (hf2:s.fail=0∨2*k<s.fail) (ht:Sl.toldR ⟨0,k,false,0,0⟩ s=(t,x)) (hx:x≤1) (hd:data.length≤1000) (hd2:data.length≤43*k) (hnw:Sl.newR ⟨0,k,false,0,0⟩ s<18446744073709551615)
 (hP:Sl.putR (Sl.gotR s k) (x*k) k data (Sl.newR ⟨0,k,false,0,0⟩ s+1)=(s',true)) :
 Calls Tryz.prog 33 #[ptr b,.int .i64 (k:Int),.string (mkB data)] w fun r w'=>∃ j l q,r=.returned (.tuple #[ptr j,.int .i64 0])∧Jn B b j l q ⟨2*k,n,some (Sl.newR ⟨0,k,false,0,0⟩ s+1,0)⟩ ⟨0,k,true,Sl.newR ⟨0,k,false,0,0⟩ s+1,1-x⟩ (Sl.newR ⟨0,k,false,0,0⟩ s+1) true s' w0 w'∧Kp w w':=by
 have ON:=Lib.hid (on_yes B b s k n w0 w h hb ho k1 k2 n1 hl)
 have RD:=Lib.hid (fun (j l q:Nat) (w1:World) (h1:Jn B b j l q ⟨2*k,n,none⟩ ⟨0,k,false,0,0⟩ 0 false s w0 w1)=>Sl.read_ok B b q ⟨0,k,false,0,0⟩ s w1 h1.dk h1.sl k1 k2 (by show 0+2*k≤_;omega) (by omega) (by omega) hf hf2)
 have KR:=Lib.hid (fun (x':Nat) (hh:(Sl.toldR ⟨0,k,false,0,0⟩ s).2=x')=>show x'=x by rw [ht] at hh;exact hh.symm)
 have xx:x*k+k≤s.sec.length:=by rcases (show x=0∨x=1 by omega) with rfl|rfl <;> omega
 have RN:=Lib.hid (fun (j l q:Nat) (w1:World) (h1:Jn B b j l q ⟨2*k,n,none⟩ ⟨0,k,true,Sl.newR ⟨0,k,false,0,0⟩ s,x⟩ 0 false (Sl.gotR s k) w0 w1)=>renew_ok B b j l q ⟨2*k,n,none⟩ ⟨0,k,true,Sl.newR ⟨0,k,false,0,0⟩ s,x⟩ 0 false (Sl.gotR s k) s' data w0 w1 h1 k1 k2 hx (by show 0+x*k+k≤s.sec.length;omega) rfl hnw hd hd2 hn (by show s.fail-2*k<_;omega) n1 (by show Sl.putR (Sl.gotR s k) (0+x*k) k data _=_;rw [Nat.zero_add];exact hP))
 dsimp only at RD RN
 clear h hb ho hl hr hn hf hf2 hnw hd hd2 hP hx xx KR
 rw [ht] at RD
 dsimp only at RD
 generalize Sl.newR ⟨0,k,false,0,0⟩ s=M at *
 clear ht
 obtain ⟨te,td⟩:=t
 dsimp only at RD
 generalize hte:(te:Int)=TE at *
 generalize mkB td=TD at *
 generalize decide (0<te)=TB at *
 generalize mkB data=DT at *
 clear hte k1 k2 n1
 generalize (k:Int)=KI at *
 go_enter Tryz.func33,Tryz.ntmps33
 go_wp2_with fail
 (with_reducible refine ON.out.mono ?_)
 rintro r w1 ⟨j,l,q,rfl,j1,b1⟩
 have P1:=Lib.hid (And.intro j1 (Kp.below b1))
 have RD1:=Lib.hid (RD.out j l q w1 j1)
 have c1:=j1.jn.c1
 clear ON RD j1 b1
 go_wp2_with fail
 (with_reducible refine RD1.out.mono ?_)
 rintro r w2 ⟨rfl,d2,s2,m2⟩
 have b3:=(Below.refl w2.heap.size w2).alloc (Nat.le_refl _) (.cells #[.int .u64 TE,.string TD] 134)
 have P2:=Lib.hid (And.intro ((P1.out.1.goS d2 s2 m2).call b3) ((P1.out.2.trans (.mvS P1.out.1.dk P1.out.1.sl m2)).call b3))
 have RN2:=Lib.hid (RN.out j l q _ P2.out.1)
 clear RD1 RN P1 c1 d2 s2 m2 b3
 generalize hW:w2.alloc (.cells #[.int .u64 TE,.string TD] 134)=W2 at *
 go_wp2_with fail
 (try rw [hW])
 (with_reducible refine RN2.out.mono ?_)
 rintro r w3 ⟨rfl,j3,k3⟩
 have FIN:=Lib.hid (And.intro (j3.setG true) ((P2.out.2.trans k3).trans (.setJ j3.jn 3 (.bool true))))
 have c3:=j3.jn.c3
 have f3:=j3.jn.fz 3
 clear RN2 P2 j3 k3 hW
 go_wp2
 go_ret2
 exact ⟨_,_,_,rfl,FIN.out⟩
/-- the flush fails -/
theorem open_fl (B b k n:Nat) (s:DS) (w0 w:World) (h:Dk B b s w) (hb:Below B w0 w) (ho:Since w0 w) (k1:1≤k) (k2:k≤64) (n1:1≤n) (hl:s.sec.length=2*k+n) (hf:s.fail=1) :
 Calls Tryz.prog 80 #[ptr b,.int .i64 (k:Int)] w fun r w'=>r=.returned (.tuple #[.pointer none,noFound,.int .i64 18])∧Dk B b ⟨s.sec,s.opn,0,s.reads⟩ w'∧Below B w0 w'∧Kp w w'∧Since w0 w':=by
 have b0:=(Below.refl w.heap.size w).alloc (Nat.le_refl _) (.cells #[.string ⟨#[]⟩,.slice none 0 0] 109)
 have ON:=Lib.hid (on_yes B b s k n w0 _ (h.call b0) (hb.trans (b0.mono h.le)) (ho.call b0) k1 k2 n1 hl)
 have FL:=Lib.hid (fun (w1:World) (h1:Dk B b s w1)=>Dk.flush_io B b s w1 h1 hf)
 have F0:=Lib.hid (And.intro (fdAt_new w ⟨#[]⟩ (.slice none 0 0)) (Kp.below b0))
 have HB:B≤w.heap.size:=h.le
 have HW0:w0.heap.size≤w.heap.size:=hb.size
 clear h hb ho b0 hf k1 k2 n1 hl
 generalize hW:w.alloc (.cells #[.string ⟨#[]⟩,.slice none 0 0] 109)=W0 at *
 generalize (k:Int)=KI at *
 go_enter Tryz.func80,Tryz.ntmps80
 go_wp2_with fail
 (try rw [hW])
 (with_reducible refine ON.out.mono ?_)
 rintro r w1 ⟨j,l,q,rfl,j1,b1⟩
 have P1:=Lib.hid (And.intro j1 (And.intro (F0.out.1.kp (.below b1)) (F0.out.2.call b1)))
 have FL1:=Lib.hid (FL.out w1 j1.dk)
 clear ON FL F0 j1 b1 hW
 go_wp2_with fail
 (with_reducible refine FL1.out.mono ?_)
 rintro r w2 ⟨rfl,d2,m2⟩
 have kp:=Kp.moved P1.out.1.dk m2
 have P2:=Lib.hid (And.intro (P1.out.1.goD d2 m2) (And.intro (P1.out.2.1.kp kp) (P1.out.2.2.trans kp)))
 have FIN:=Lib.hid (ret_two P2.out.1 P2.out.2.1 P2.out.2.2 (Nat.le_refl _) HB HW0 ⟨#[]⟩ (.slice none 0 0))
 have x0:=P2.out.2.1.c0
 have x1:=P2.out.2.1.c1
 have z0:=P2.out.2.1.fz 0
 have z1:=P2.out.2.1.fz 1
 have y0:=FIN.out.2.1.c0
 have y1:=FIN.out.2.1.c1
 clear FL1 P1 P2 d2 m2 kp
 go_wp2
 refine bodyPost_ret (v:=.tuple #[.pointer none,noFound,.int .i64 18]) (by simp [results,Tryz.results80,go_sem,x0,x1,y0,y1,noFound]) rfl ⟨rfl,FIN.out.1.dk,FIN.out.1.bel,FIN.out.2.2,FIN.out.1.old⟩
/-- nothing is found -/
theorem open_err (B b k n:Nat) (s s1 s':DS) (x:Int) (tl':WS) (ts':SS) (e':Nat) (g':Bool) (w0 w:World) (h:Dk B b s w) (hb:Below B w0 w) (ho:Since w0 w) (k1:1≤k) (k2:k≤64) (n1:1≤n) (hl:s.sec.length=2*k+n) (hn:s.opn.length≤1000000) (hf:s.fail<9223372036854775808) (hs:Dk.flushR s=(s1,0)) (hx:(x != 0)=true)
 (H:∀ (j l q:Nat) (w1:World),Jn B b j l q ⟨2*k,n,none⟩ ⟨0,k,false,0,0⟩ 0 false s1 w0 w1→Calls Tryz.prog 124 #[ptr j] w1 fun r w'=>r=.returned (.tuple #[noFound,.int .i64 x])∧Jn B b j l q tl' ts' e' g' s' w0 w'∧Kp w1 w') :
 Calls Tryz.prog 80 #[ptr b,.int .i64 (k:Int)] w fun r w'=>r=.returned (.tuple #[.pointer none,noFound,.int .i64 x])∧Dk B b s' w'∧Below B w0 w'∧Kp w w'∧Since w0 w':=by
 have b0:=(Below.refl w.heap.size w).alloc (Nat.le_refl _) (.cells #[.string ⟨#[]⟩,.slice none 0 0] 109)
 have ON:=Lib.hid (on_yes B b s k n w0 _ (h.call b0) (hb.trans (b0.mono h.le)) (ho.call b0) k1 k2 n1 hl)
 have FL0:=fun (w1:World) (h1:Dk B b s w1)=>Dk.flush_any B b s w1 h1 hn hf
 rw [hs] at FL0
 have FL:Hid (∀ (w1:World) (h1:Dk B b s w1),Calls Tryz.prog 123 #[ptr b] w1 fun e w'=>e=.returned (.int .i64 0)∧Dk B b s1 w'∧Moved b w1 w'):=Lib.hid FL0
 have F0:=Lib.hid (And.intro (fdAt_new w ⟨#[]⟩ (.slice none 0 0)) (Kp.below b0))
 have HB:B≤w.heap.size:=h.le
 have HW0:w0.heap.size≤w.heap.size:=hb.size
 have HH:=Lib.hid H
 clear h hb ho b0 hf k1 k2 n1 hl hn hs FL0 H
 generalize hW:w.alloc (.cells #[.string ⟨#[]⟩,.slice none 0 0] 109)=W0 at *
 generalize (k:Int)=KI at *
 go_enter Tryz.func80,Tryz.ntmps80
 go_wp2_with fail
 (try rw [hW])
 (with_reducible refine ON.out.mono ?_)
 rintro r w1 ⟨j,l,q,rfl,j1,b1⟩
 have P1:=Lib.hid (And.intro j1 (And.intro (F0.out.1.kp (.below b1)) (F0.out.2.call b1)))
 have FL1:=Lib.hid (FL.out w1 j1.dk)
 clear ON FL F0 j1 b1 hW
 go_wp2_with fail
 (with_reducible refine FL1.out.mono ?_)
 rintro r w2 ⟨rfl,d2,m2⟩
 have kp:=Kp.moved P1.out.1.dk m2
 have P2:=Lib.hid (And.intro (P1.out.1.goD d2 m2) (And.intro (P1.out.2.1.kp kp) (P1.out.2.2.trans kp)))
 have H2:=Lib.hid (HH.out j l q w2 P2.out.1)
 clear FL1 P1 d2 m2 kp HH
 go_wp2_with fail
 (with_reducible refine H2.out.mono ?_)
 rintro r w3 ⟨rfl,j3,k3⟩
 have b4:=(Below.refl w3.heap.size w3).alloc (Nat.le_refl _) (.cells #[.string ⟨#[]⟩,.slice none 0 0] 109)
 have P3:=Lib.hid (And.intro (j3.call b4) (And.intro ((P2.out.2.1.kp k3).kp (.below b4)) ((P2.out.2.2.trans k3).call b4)))
 have FIN:=Lib.hid (ret_two P3.out.1 P3.out.2.1 P3.out.2.2 (Nat.le_refl _) HB HW0 ⟨#[]⟩ (.slice none 0 0))
 have x0:=P3.out.2.1.c0
 have x1:=P3.out.2.1.c1
 have z0:=P3.out.2.1.fz 0
 have z1:=P3.out.2.1.fz 1
 have y0:=FIN.out.2.1.c0
 have y1:=FIN.out.2.1.c1
 have EF:noFound=.agg #[.string ⟨#[]⟩,.slice none 0 0]:=rfl
 rw [EF]
 clear H2 P2 P3 j3 k3 b4
 go_wp2
 refine bodyPost_ret (v:=.tuple #[.pointer none,noFound,.int .i64 x]) (by simp [results,Tryz.results80,go_sem,x0,x1,y0,y1,noFound]) rfl ⟨rfl,FIN.out.1.dk,FIN.out.1.bel,FIN.out.2.2,FIN.out.1.old⟩
/-- a journal is found -/
theorem open_by (B b k n:Nat) (s s1 s':DS) (d:List UInt8) (ops:List (List UInt8)) (tl':WS) (ts':SS) (e':Nat) (g':Bool) (w0 w:World) (h:Dk B b s w) (hb:Below B w0 w) (ho:Since w0 w) (k1:1≤k) (k2:k≤64) (n1:1≤n) (hl:s.sec.length=2*k+n) (hn:s.opn.length≤1000000) (hf:s.fail<9223372036854775808) (hs:Dk.flushR s=(s1,0))
 (H:∀ (j l q:Nat) (w1:World),Jn B b j l q ⟨2*k,n,none⟩ ⟨0,k,false,0,0⟩ 0 false s1 w0 w1→Calls Tryz.prog 124 #[ptr j] w1 fun r w'=>∃ v,r=.returned (.tuple #[.agg #[.string (mkB d),v],.int .i64 0])∧Strs w1.heap.size w' v ops∧Jn B b j l q tl' ts' e' g' s' w0 w'∧Kp w1 w') :
 Calls Tryz.prog 80 #[ptr b,.int .i64 (k:Int)] w fun r w'=>∃ j l q v,r=.returned (.tuple #[ptr j,.agg #[.string (mkB d),v],.int .i64 0])∧Strs w.heap.size w' v ops∧Jn B b j l q tl' ts' e' true s' w0 w'∧Kp w w':=by
 have b0:=(Below.refl w.heap.size w).alloc (Nat.le_refl _) (.cells #[.string ⟨#[]⟩,.slice none 0 0] 109)
 have ON:=Lib.hid (on_yes B b s k n w0 _ (h.call b0) (hb.trans (b0.mono h.le)) (ho.call b0) k1 k2 n1 hl)
 have FL0:=fun (w1:World) (h1:Dk B b s w1)=>Dk.flush_any B b s w1 h1 hn hf
 rw [hs] at FL0
 have FL:Hid (∀ (w1:World) (h1:Dk B b s w1),Calls Tryz.prog 123 #[ptr b] w1 fun e w'=>e=.returned (.int .i64 0)∧Dk B b s1 w'∧Moved b w1 w'):=Lib.hid FL0
 have F0:=Lib.hid (And.intro (fdAt_new w ⟨#[]⟩ (.slice none 0 0)) (And.intro (Kp.below b0) b0.size))
 have HB:B≤w.heap.size:=h.le
 have HW0:w0.heap.size≤w.heap.size:=hb.size
 have HH:=Lib.hid H
 clear h hb ho b0 hf k1 k2 n1 hl hn hs FL0 H
 generalize hW:w.alloc (.cells #[.string ⟨#[]⟩,.slice none 0 0] 109)=W0 at *
 generalize (k:Int)=KI at *
 go_enter Tryz.func80,Tryz.ntmps80
 go_wp2_with fail
 (try rw [hW])
 (with_reducible refine ON.out.mono ?_)
 rintro r w1 ⟨j,l,q,rfl,j1,b1⟩
 have P1:=Lib.hid (And.intro j1 (And.intro (F0.out.1.kp (.below b1)) (And.intro (F0.out.2.1.call b1) (Nat.le_trans F0.out.2.2 b1.size))))
 have FL1:=Lib.hid (FL.out w1 j1.dk)
 clear ON FL F0 j1 b1 hW
 go_wp2_with fail
 (with_reducible refine FL1.out.mono ?_)
 rintro r w2 ⟨rfl,d2,m2⟩
 have kp:=Kp.moved P1.out.1.dk m2
 have P2:=Lib.hid (And.intro (P1.out.1.goD d2 m2) (And.intro (P1.out.2.1.kp kp) (And.intro (P1.out.2.2.1.trans kp) (Nat.le_trans P1.out.2.2.2 m2.size))))
 have H2:=Lib.hid (HH.out j l q w2 P2.out.1)
 clear FL1 P1 d2 m2 kp HH
 go_wp2_with fail
 (with_reducible refine H2.out.mono ?_)
 rintro r w3 ⟨v,rfl,st3,j3,k3⟩
 obtain ⟨va,vc,hv⟩:=Wl.strs_form st3
 subst hv
 have b4:=(Below.refl w3.heap.size w3).alloc (Nat.le_refl _) (.cells #[.string (mkB d),.slice va ops.length vc] 109)
 have P3:=Lib.hid (And.intro (j3.call b4) (And.intro ((P2.out.2.1.kp k3).kp (.below b4)) (And.intro ((P2.out.2.2.1.trans k3).call b4) (And.intro (fdAt_new w3 (mkB d) (.slice va ops.length vc)) (Sl.strs_mono (st3.call b4) P2.out.2.2.2)))))
 have kj:=Kp.setJ P3.out.1.jn 3 (.bool true)
 have c3:=P3.out.1.jn.c3
 have f3:=P3.out.1.jn.fz 3
 have P4:=Lib.hid (And.intro (P3.out.1.setG true) (And.intro (P3.out.2.1.kp kj) (And.intro (P3.out.2.2.1.trans kj) (And.intro (P3.out.2.2.2.1.kp kj) (kj.strs P3.out.2.2.2.2)))))
 have FIN:=Lib.hid (ret_two P4.out.1 P4.out.2.1 P4.out.2.2.1 (Nat.le_refl _) HB HW0 (mkB d) (.slice va ops.length vc))
 have ST5:=Lib.hid (strs_two P4.out.2.2.2.2 P4.out.2.1 (mkB d) (.slice va ops.length vc))
 have x0:=P4.out.2.1.c0
 have x1:=P4.out.2.1.c1
 have z0:=P4.out.2.1.fz 0
 have z1:=P4.out.2.1.fz 1
 have u0:=P4.out.2.2.2.1.c0
 have u1:=P4.out.2.2.2.1.c1
 have y0:=FIN.out.2.1.c0
 have y1:=FIN.out.2.1.c1
 have ne:¬w.heap.size=w3.heap.size:=by
  have h1:=(P2.out.2.1.kp k3).lt;omega
 clear H2 P2 P3 P4 j3 k3 b4 kj st3
 go_wp2_with fail
 go_region
 have FIN2:=Lib.hid (And.intro (ST5.out.call (Below.refl _ _).drew) (And.intro (FIN.out.1.call (Below.refl _ _).drew) (FIN.out.2.2.trans .drew)))
 clear FIN ST5 x0 x1 z0 z1 u0 u1 ne c3 f3
 go_wp2
 refine bodyPost_ret (v:=.tuple #[ptr j,.agg #[.string (mkB d),.slice va ops.length vc],.int .i64 0]) (by simp [results,Tryz.results80,go_sem,y0,y1]) rfl ⟨_,_,_,_,rfl,FIN2.out⟩
end Go.Proofs.YteempfoajgblaaaGreat.Jn
namespace Go.Proofs.YteempfoajgblaaaGreat.Jn
open Dk (Dk DS Own Moved ptr)
open Sl (Mv SS)
open Wl (WS)
structure JL (B b j l q k n nx N E:Nat) (d:List UInt8) (ops:List (List UInt8)) (S:List (List UInt8)) (f r:Nat) (w0 w:World):Prop where
 jn:Jn B b j l q ⟨2*k,n,some (E,ops.length)⟩ ⟨0,k,true,N,nx⟩ E true ⟨S,[],f,r⟩ w0 w
 ji:JI S k n nx N E d ops
section
variable {B b j l q k n nx N E f r:Nat} {d:List UInt8} {ops:List (List UInt8)} {S:List (List UInt8)} {w0 w w':World}
theorem JL.call (h:JL B b j l q k n nx N E d ops S f r w0 w) (hb:Below w.heap.size w w'):JL B b j l q k n nx N E d ops S f r w0 w':=⟨h.jn.call hb,h.ji⟩
theorem JL.room (h:JL B b j l q k n nx N E d ops S f r w0 w):2*k+n≤1024:=by
 have h1:=h.jn.dk.ok.len
 have h2:=h.ji.jb.len
 have h1':S.length≤1024:=h1
 omega
theorem JL.fit (h:JL B b j l q k n nx N E d ops S f r w0 w) (hN:N<256):WS.Fit ⟨2*k,n,some (E,ops.length)⟩ S.length:=by
 have h2:=h.ji.jb.len
 have h3:=h.ji.e_le
 exact ⟨h.ji.jb.n1,by show 2*k+n≤_;omega,fun e c hh=>by cases hh;exact ⟨h3.1,by omega,h.ji.few⟩⟩
theorem JL.sz (h:JL B b j l q k n nx N E d ops S f r w0 w):nx*k+k≤S.length:=by
 have:=nxk (k:=k) h.ji.jb.sl.x1
 have h2:=h.ji.jb.len
 omega
end
theorem put_calm {S:List (List UInt8)} {r a k:Nat} {data:List UInt8} {e:Nat}:Sl.putR ⟨S,[],0,r⟩ a k data e=(⟨Dk.flushedS ⟨S,Sl.wrs a data e k,0,r⟩,[],0,r⟩,true):=by
 unfold Sl.putR
 rw [if_neg (by show ¬(1≤0∧0≤k+1);omega)]
 show (DS.mk _ [] (0-(k+1)) r,true)=_
 rw [Nat.zero_sub];rfl
theorem append_t (B b j l q k n nx N E r:Nat) (d p:List UInt8) (ops S:List (List UInt8)) (w0 w:World) (h:JL B b j l q k n nx N E d ops S 0 r w0 w) (hN:N<256) (hp:p.length≤43) (hl:ops.length<n) :
 Calls Tryz.prog 93 #[ptr j,.string (mkB p)] w fun x w'=>x=.returned (.int .i64 0)∧∃ S',JL B b j l q k n nx N E d (ops++[p]) S' 0 r w0 w'∧Kp w w':=by
 obtain ⟨S',h1,h2⟩:=h.ji.app_ok hN hp hl r
 have AP:=append_any B b j l q _ _ E _ p w0 w h.jn (h.fit hN) hp (by show 0≤800000;omega) (by show 0<9223372036854775808;omega)
 rw [h1] at AP
 refine AP.mono ?_
 rintro x w' ⟨hx,k1,k2⟩
 refine ⟨hx,S',⟨?_,h2⟩,k2⟩
 rw [List.length_append,List.length_singleton]
 exact k1
theorem append_full (B b j l q k n nx N E r:Nat) (d p:List UInt8) (ops S:List (List UInt8)) (w0 w:World) (h:JL B b j l q k n nx N E d ops S 0 r w0 w) (hN:N<256) (hp:p.length≤43) (hl:ops.length=n) :
 Calls Tryz.prog 93 #[ptr j,.string (mkB p)] w fun x w'=>x=.returned (.int .i64 22)∧JL B b j l q k n nx N E d ops S 0 r w0 w'∧Kp w w':=by
 have AP:=append_any B b j l q _ _ E _ p w0 w h.jn (h.fit hN) hp (by show 0≤800000;omega) (by show 0<9223372036854775808;omega)
 rw [Wl.appR_full hp rfl hl] at AP
 refine AP.mono ?_
 rintro x w' ⟨hx,k1,k2⟩
 exact ⟨hx,⟨k1,h.ji⟩,k2⟩
theorem format_t (B b k n r:Nat) (data:List UInt8) (w0 w:World) (h:Dk B b ⟨List.replicate (2*k+n) (List.replicate 64 0),[],0,r⟩ w) (hb:Below B w0 w) (ho:Since w0 w) (k1:1≤k) (k2:k≤64) (n1:1≤n) (n2:n<256) (hr:r≤1000000) (hd:data.length≤1000) (hd2:data.length≤43*k) :
 Calls Tryz.prog 33 #[ptr b,.int .i64 (k:Int),.string (mkB data)] w fun x w'=>∃ j l q S,x=.returned (.tuple #[ptr j,.int .i64 0])∧JL B b j l q k n 1 1 1 data [] S 0 (r+2*k) w0 w'∧Kp w w':=by
 have J0:=jb_new k n k1 k2 n1 n2
 generalize hS:List.replicate (2*k+n) (List.replicate 64 (0:UInt8))=S0 at *
 have hnw:Sl.newR ⟨0,k,false,0,0⟩ ⟨S0,[],0,r⟩=0:=by have:=(J0.reads false 0 0 0 r).2;omega
 have FO:=format_ok B b k n 0 (0,[]) ⟨S0,[],0,r⟩ ⟨Dk.flushedS ⟨S0,Sl.wrs (0*k) data (0+1) k,0,r+2*k⟩,[],0,r+2*k⟩ data w0 w h hb ho k1 k2 n1 (by show S0.length=_;exact J0.len) (by show r≤_;omega) (by show 0≤800000;omega) (by show 0<9223372036854775808;omega) (.inl rfl) (J0.tells false 0 0 0 r) (by omega) hd hd2 (by rw [hnw];omega) (by
  rw [hnw]
  have e:Sl.gotR ⟨S0,[],0,r⟩ k=⟨S0,[],0,r+2*k⟩:=by unfold Sl.gotR;simp
  rw [e]
  exact put_calm)
 rw [hnw] at FO
 refine FO.mono ?_
 rintro x w' ⟨j,l,q,hx,k1',k2'⟩
 exact ⟨j,l,q,_,hx,⟨k1',J0.done (by omega) hd2 (r+2*k)⟩,k2'⟩
theorem open_t (B b k n nx N E F r:Nat) (d:List UInt8) (ops S:List (List UInt8)) (s:DS) (w0 w:World) (h:Dk B b s w) (hb:Below B w0 w) (ho:Since w0 w) (hi:JI S k n nx N E d ops) (hN:N<256) (hn:s.opn.length≤1000000) (hf:s.fail<9223372036854775808) (hs:Dk.flushR s=(⟨S,[],F,r⟩,0)) (hl:s.sec.length=2*k+n) (hr:r≤1000000) (hF:F<9223372036854775808) (hF2:F=0∨2*k+Wl.readsN ops.length n<F) :
 Calls Tryz.prog 80 #[ptr b,.int .i64 (k:Int)] w fun x w'=>∃ j l q v N',x=.returned (.tuple #[ptr j,.agg #[.string (mkB d),v],.int .i64 0])∧Strs w.heap.size w' v ops∧N'≤N∧JL B b j l q k n nx N' E d ops S (F-2*k-Wl.readsN ops.length n) (r+2*k+Wl.readsN ops.length n) w0 w'∧Kp w w':=by
 have hlS:=hi.jb.len
 obtain ⟨hi2,hN2⟩:=hi.reads false 0 0 F r
 have OP:=open_by B b k n s ⟨S,[],F,r⟩ ⟨S,[],F-2*k-Wl.readsN ops.length n,r+2*k+Wl.readsN ops.length n⟩ d ops ⟨2*k,n,some (E,ops.length)⟩ ⟨0,k,true,Sl.newR ⟨0,k,false,0,0⟩ ⟨S,[],F,r⟩,nx⟩ E false w0 w h hb ho hi.jb.k1 hi.jb.k2 hi.jb.n1 hl hn hf hs (fun j l q w1 h1=>
  (find_scan B b j l q ⟨2*k,n,none⟩ ⟨0,k,false,0,0⟩ 0 false ⟨S,[],F,r⟩ E d nx w0 w1 h1 hi.jb.k1 hi.jb.k2 (by show 0+2*k≤S.length;omega) (by show r≤_;omega) (by show 0≤900000;omega) hF (by show F=0∨2*k<F;omega) (hi.jb.tells false 0 0 F r) hi.e_le.1 hi.jb.n1 (by show 2*k+n≤S.length;omega) 0 ops _ (by
   show Wl.scanR ⟨S,[],F-2*k,r+2*k⟩ (2*k) n E=_
   rw [hi.scans hN,if_neg (by omega)])).2 rfl)
 refine OP.mono ?_
 rintro x w' ⟨j,l,q,v,hx,st,k1,k2⟩
 exact ⟨j,l,q,v,_,hx,st,hN2,⟨k1,hi2⟩,k2⟩
end Go.Proofs.YteempfoajgblaaaGreat.Jn
