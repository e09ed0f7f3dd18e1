/- Package judge's isIn, alike and Gone. Package judge's Gone. The document's Gone. The statements' .. -/
import Derived.Test.YteempfoajgblaaaGreatLMJm
import Derived.Test.YteempfoajgblaaaGreatLMTt
import Derived.Test.YteempfoajgblaaaGreatLMJo
import Derived.Test.YteempfoajgblaaaGreatLGnH
set_option maxRecDepth 100000
set_option linter.unusedVariables false
set_option linter.unusedSimpArgs false
open Go.ChangeShapes Go.WideShapes Go.ChangeAt Go.RowKit Go.Joins
set_option maxHeartbeats 8000000
namespace Go.Proofs.YteempfoajgblaaaGreat.Ju
open Pm (Tk chk chk_iff)
open Ge (El Seen Row)
open Ox (Od chkR chkR_iff tk0)
open Tb
end Go.Proofs.YteempfoajgblaaaGreat.Ju
namespace Go.Proofs.YteempfoajgblaaaGreat.Ju
open Pm (Tk chk chk_iff)
open Ge (El Seen Row)
open Ox (Od chkR chkR_iff tk0)
open Tb
end Go.Proofs.YteempfoajgblaaaGreat.Ju
namespace Go.Proofs.YteempfoajgblaaaGreat.Ju
open Pm (Tk chk chk_iff)
open Ge (El Seen Row)
open Ox (Od chkR chkR_iff tk0)
open Tb
theorem cell5 {W:World} {p:Nat} {a b c d e:Value} (h:∀ o,W.cell? ⟨p,o,none⟩=(#[a,b,c,d,e]:Array Value)[o]?):W.cell? ⟨p,0,none⟩=some a∧W.cell? ⟨p,1,none⟩=some b∧W.cell? ⟨p,2,none⟩=some c∧W.cell? ⟨p,3,none⟩=some d∧W.cell? ⟨p,4,none⟩=some e:=⟨h 0,h 1,h 2,h 3,h 4⟩
end Go.Proofs.YteempfoajgblaaaGreat.Ju
namespace Go.Proofs.YteempfoajgblaaaGreat.Ju
open Pm (Tk chk chk_iff I64)
open Ge (El Seen Row)
open Ox (Od chkR chkR_iff tk0)
open Tb
theorem cell7 {W:World} {p:Nat} {a b c d e f g:Value} (h:∀ o,W.cell? ⟨p,o,none⟩=(#[a,b,c,d,e,f,g]:Array Value)[o]?):W.cell? ⟨p,0,none⟩=some a∧W.cell? ⟨p,1,none⟩=some b∧W.cell? ⟨p,2,none⟩=some c∧W.cell? ⟨p,3,none⟩=some d∧W.cell? ⟨p,4,none⟩=some e∧W.cell? ⟨p,5,none⟩=some f∧W.cell? ⟨p,6,none⟩=some g:=⟨h 0,h 1,h 2,h 3,h 4,h 5,h 6⟩
def tkv (t:Tk):Value:=.agg #[.int .i64 t.id,.int .i64 t.c,.int .i64 t.d,.int .i64 t.t,.int .i64 t.m]
theorem ret_task (tmps:Array Value) (p:Nat) (W:World) (a0 a1 a2 a3 a4:Value) (h2:tmps.getD 2 undef=.pointer (some ⟨p,0,none⟩)) (q0:W.cell? ⟨p,0,none⟩=some a0) (q1:W.cell? ⟨p,1,none⟩=some a1) (q2:W.cell? ⟨p,2,none⟩=some a2) (q3:W.cell? ⟨p,3,none⟩=some a3) (q4:W.cell? ⟨p,4,none⟩=some a4) :
 (results Tryz.f32 tmps).run Tryz.prog W=.ok (.agg #[a0,a1,a2,a3,a4]) W:=by
 rw [Array.getD_eq_getD_getElem?] at h2
 simp [results,Tryz.results32,go_sem,h2,q0,q1,q2,q3,q4]
theorem perA_cell (k:Nat):(#[.int .i64 2,.int .i64 3,.int .i64 4,.int .i64 5,.int .i64 6,.int .i64 8,.int .i64 10,.int .i64 12]:Array Value)[k]?=(perA[k]?).map (fun z=>.int .i64 z):=by
 by_cases h:k<8
 · rcases (by omega:k=0∨k=1∨k=2∨k=3∨k=4∨k=5∨k=6∨k=7) with rfl|rfl|rfl|rfl|rfl|rfl|rfl|rfl <;> rfl
 · rw [Array.getElem?_eq_none (by simp;omega),List.getElem?_eq_none (by simp [perA];omega)];rfl
theorem task_any (n:Nm) (w:World) :
 Calls Tryz.prog 32 #[n.v] w fun e w'=>e=.returned (tkv (taskR n))∧Below w.heap.size w w':=by
 have hper:=per_in n.t
 have hd:=rm_in n.d (show 0<per n.t by omega)
 have hdd:=dR_in n
 have hc:=rm_in n.c (show 0<dR n by omega)
 have hm:=rm_in n.m (show (0:Int)<15 by omega)
 have hdef:dR n=if n.sv=true then per n.t else 1+rm n.d (per n.t):=rfl
 have hd5:(n.d.tmod (per n.t)+per n.t).tmod (per n.t)=rm n.d (per n.t):=rfl
 have hd6:(n.d.tmod (per n.t)+per n.t)%(per n.t)=rm n.d (per n.t):=(Int.tmod_eq_emod_of_nonneg (show 0≤n.d.tmod (per n.t)+per n.t by omega)).symm.trans hd5
 have hc5:(n.c.tmod (dR n)+dR n).tmod (dR n)=rm n.c (dR n):=rfl
 have hc6:(n.c.tmod (dR n)+dR n)%(dR n)=rm n.c (dR n):=(Int.tmod_eq_emod_of_nonneg (show 0≤n.c.tmod (dR n)+dR n by omega)).symm.trans hc5
 have hm5:(n.m.tmod 15+15).tmod 15=rm n.m 15:=rfl
 have hm6:(n.m.tmod 15+15)%15=rm n.m 15:=(Int.tmod_eq_emod_of_nonneg (show 0≤n.m.tmod 15+15 by omega)).symm.trans hm5
 have hT:Hid (tkv (taskR n)=.agg #[.int .i64 (n.id%8),.int .i64 (1+rm n.c (dR n)),.int .i64 (dR n),.int .i64 (per n.t),.int .i64 (1+rm n.m 15)]):=Lib.hid rfl
 rw [hT.out]
 clear hT
 obtain ⟨hp1,hp2,-,hp4⟩:=hper
 have hz:bits .and .i64 n.t 7=(((n.t%8).toNat:Nat):Int):=by rw [and7];omega
 have hk:(n.t%8).toNat<8:=by omega
 have H0:=Lib.hid (((bos_nil w).new n.cs.toArray 36).new #[.int .i64 0,.int .i64 0,.int .i64 0,.int .i64 0,.int .i64 0] 45)
 rw [World.size_alloc] at H0
 have H1:=Lib.hid (H0.out.new #[.int .i64 2,.int .i64 3,.int .i64 4,.int .i64 5,.int .i64 6,.int .i64 8,.int .i64 10,.int .i64 12] 130)
 rw [World.size_alloc,World.size_alloc] at H1
 have cp:=(H1.out.cell 0 rfl (n.t%8).toNat).trans (perA_cell _)
 rw [hp4] at cp
 simp only [Option.map_some] at cp
 have hi7:bits .and .i64 n.id 7=n.id%8:=and7 _
 generalize (n.t%8).toNat=k at *
 generalize rm n.d (per n.t)=Q at *
 generalize rm n.c (dR n)=RC at *
 generalize rm n.m 15=RM at *
 generalize dR n=D at *
 generalize per n.t=R at *
 obtain ⟨nk,ni,nc,nd,nt,nm,ns⟩:=n
 unfold Nm.v Nm.cs at *
 simp only at *
 clear hp4 H0
 obtain ⟨hd1,hd2,hd3,hd4⟩:=hd
 obtain ⟨hD1,hD2⟩:=hdd
 obtain ⟨hc1,hc2,hc3,hc4⟩:=hc
 obtain ⟨hm1,hm2,hm3,hm4⟩:=hm
 have wd1:IntKind.i64.wrap (nd.tmod R+R)=nd.tmod R+R:=IntWalk.i64_in _ (by omega)
 have wc1:IntKind.i64.wrap (nc.tmod D+D)=nc.tmod D+D:=IntWalk.i64_in _ (by omega)
 have wc2:IntKind.i64.wrap (1+RC)=1+RC:=IntWalk.i64_in _ (by omega)
 have wc3:IntKind.i64.wrap (nc.tmod D)=nc.tmod D:=IntWalk.i64_in _ (by omega)
 have wc4:IntKind.i64.wrap RC=RC:=IntWalk.i64_in _ (by omega)
 have wm1:IntKind.i64.wrap (nm.tmod 15+15)=nm.tmod 15+15:=IntWalk.i64_in _ (by omega)
 have wm2:IntKind.i64.wrap (1+RM)=1+RM:=IntWalk.i64_in _ (by omega)
 have wm3:IntKind.i64.wrap (nm.tmod 15)=nm.tmod 15:=IntWalk.i64_in _ (by omega)
 have wm4:IntKind.i64.wrap RM=RM:=IntWalk.i64_in _ (by omega)
 have rz:¬R=0:=by omega
 have rz2:(R==0)=false:=by simp [rz]
 have dz:¬D=0:=by omega
 have dz2:(D==0)=false:=by simp [dz]
 obtain ⟨n0,n1,n2,n3,n4,n5,n6⟩:=cell7 (H1.out.cell 2 rfl)
 go_enter Tryz.func32,Tryz.ntmps32
 cases ns
 ·have hDQ:1+Q=D:=by rw [hdef];simp
  clear hdef
  have HQ:=Lib.hid hDQ
  go_wp2_with fail
  have hDR:=HQ.out
  refine wp_region_held_drew (S:=(fun W'=>W'.cell? ⟨w.heap.size,0,none⟩=some (.int .i64 nk)∧W'.cell? ⟨w.heap.size,1,none⟩=some (.int .i64 ni)∧W'.cell? ⟨w.heap.size,2,none⟩=some (.int .i64 nc)∧W'.cell? ⟨w.heap.size,3,none⟩=some (.int .i64 nd)∧W'.cell? ⟨w.heap.size,4,none⟩=some (.int .i64 nt)∧W'.cell? ⟨w.heap.size,5,none⟩=some (.int .i64 nm)∧W'.cell? ⟨w.heap.size,6,none⟩=some (.bool false))) (by kernel_rfl) (cell7 (H1.out.cell 2 rfl)) (fun hHeld=>?_)
  refine Gh.tk 0 ?_
  refine Gh.tk 1 ?_
  refine Gh.tk 2 ?_
  refine Gh.tk 3 ?_
  refine Gh.tk 4 ?_
  refine Gh.tk 5 ?_
  refine Gh.tk 6 ?_
  refine Gh.tk 7 ?_
  refine Gh.tk 8 ?_
  refine Gh.tk 9 ?_
  refine Gh.tk 10 ?_
  refine Gh.tk 11 ?_
  refine Gh.tk 12 ?_
  refine Gh.tk 13 ?_
  refine Gh.tk 14 ?_
  refine Gh.tk 15 ?_
  refine Gh.tk 16 ?_
  refine Gh.tk 17 ?_
  refine Gh.tk 18 ?_
  refine Gh.tk 19 ?_
  refine Gh.tk 20 ?_
  refine Gh.rd 21 (fun K hK=>?_)
  have zf:=H1.out.fz 1 rfl
  obtain ⟨z0,z1,z2,z3,z4⟩:=cell5 (H1.out.cell 1 rfl)
  have H2:=Lib.hid ((((bos_nil w).new #[.int .i64 nk,.int .i64 ni,.int .i64 nc,.int .i64 nd,.int .i64 nt,.int .i64 nm,.bool false] 36).new #[.int .i64 (ni%8),.int .i64 (1+RC),.int .i64 D,.int .i64 R,.int .i64 (1+RM)] 45).new #[.int .i64 2,.int .i64 3,.int .i64 4,.int .i64 5,.int .i64 6,.int .i64 8,.int .i64 10,.int .i64 12] 130).drew
  (repeat rw [World.size_alloc] at H2)
  go_simp
  refine hK.out _ _ (cell7 (H2.out.cell 2 rfl)) (fun hHeld=>?_)
  clear hK K
  refine Gh.pt ?_
  refine wpAnyH_done (by kernel_rfl) ?_ _
  obtain ⟨q0,q1,q2,q3,q4⟩:=cell5 (H2.out.cell 1 rfl)
  go_wp2
  exact bodyPost_ret (ret_task _ (w.heap.size+1) _ (.int .i64 (ni%8)) (.int .i64 (1+RC)) (.int .i64 D) (.int .i64 R) (.int .i64 (1+RM)) rfl q0 q1 q2 q3 q4) rfl ⟨rfl,H2.out.bl⟩
 ·have hDR:R=D:=by rw [hdef];simp
  subst hDR
  clear hdef
  go_wp2_with fail
  refine wp_region_held_drew (S:=(fun W'=>W'.cell? ⟨w.heap.size,0,none⟩=some (.int .i64 nk)∧W'.cell? ⟨w.heap.size,1,none⟩=some (.int .i64 ni)∧W'.cell? ⟨w.heap.size,2,none⟩=some (.int .i64 nc)∧W'.cell? ⟨w.heap.size,3,none⟩=some (.int .i64 nd)∧W'.cell? ⟨w.heap.size,4,none⟩=some (.int .i64 nt)∧W'.cell? ⟨w.heap.size,5,none⟩=some (.int .i64 nm)∧W'.cell? ⟨w.heap.size,6,none⟩=some (.bool true))) (by kernel_rfl) (cell7 (H1.out.cell 2 rfl)) (fun hHeld=>?_)
  refine Gh.tk 0 ?_
  refine Gh.tk 1 ?_
  refine Gh.tk 2 ?_
  refine Gh.tk 3 ?_
  refine Gh.tk 4 ?_
  refine Gh.tk 5 ?_
  refine Gh.tk 6 ?_
  refine Gh.tk 7 ?_
  refine Gh.tk 8 ?_
  refine Gh.tk 9 ?_
  refine Gh.tk 10 ?_
  refine Gh.tk 11 ?_
  refine Gh.tk 12 ?_
  refine Gh.tk 13 ?_
  refine Gh.tk 14 ?_
  refine Gh.tk 15 ?_
  refine Gh.tk 16 ?_
  refine Gh.tk 17 ?_
  refine Gh.tk 18 ?_
  refine Gh.tk 19 ?_
  refine Gh.tk 20 ?_
  refine Gh.rd 21 (fun K hK=>?_)
  have zf:=H1.out.fz 1 rfl
  obtain ⟨z0,z1,z2,z3,z4⟩:=cell5 (H1.out.cell 1 rfl)
  have H2:=Lib.hid ((((bos_nil w).new #[.int .i64 nk,.int .i64 ni,.int .i64 nc,.int .i64 nd,.int .i64 nt,.int .i64 nm,.bool true] 36).new #[.int .i64 (ni%8),.int .i64 (1+RC),.int .i64 R,.int .i64 R,.int .i64 (1+RM)] 45).new #[.int .i64 2,.int .i64 3,.int .i64 4,.int .i64 5,.int .i64 6,.int .i64 8,.int .i64 10,.int .i64 12] 130).drew
  (repeat rw [World.size_alloc] at H2)
  go_simp
  refine hK.out _ _ (cell7 (H2.out.cell 2 rfl)) (fun hHeld=>?_)
  clear hK K
  refine Gh.pt ?_
  refine wpAnyH_done (by kernel_rfl) ?_ _
  obtain ⟨q0,q1,q2,q3,q4⟩:=cell5 (H2.out.cell 1 rfl)
  go_wp2
  exact bodyPost_ret (ret_task _ (w.heap.size+1) _ (.int .i64 (ni%8)) (.int .i64 (1+RC)) (.int .i64 R) (.int .i64 R) (.int .i64 (1+RM)) rfl q0 q1 q2 q3 q4) rfl ⟨rfl,H2.out.bl⟩
theorem set10 {L:List (Nat×Array Value×Nat)} {w W:World} {p:Nat} {T:Nat} {a0 a1 a2 a3 a4 a5 a6 a7 a8 a9:Value} (h:Bos ((p,#[a0,a1,a2,a3,a4,a5,a6,a7,a8,a9],T) :: L) w W) (b0 b1 b2 b3 b4 b5 b6 b7 b8 b9:Value):Bos ((p,#[b0,b1,b2,b3,b4,b5,b6,b7,b8,b9],T) :: L) w ((((((((((W.setCell ⟨p,0,none⟩ b0).setCell ⟨p,1,none⟩ b1).setCell ⟨p,2,none⟩ b2).setCell ⟨p,3,none⟩ b3).setCell ⟨p,4,none⟩ b4).setCell ⟨p,5,none⟩ b5).setCell ⟨p,6,none⟩ b6).setCell ⟨p,7,none⟩ b7).setCell ⟨p,8,none⟩ b8).setCell ⟨p,9,none⟩ b9):=by
 have h0:Bos ((p,#[b0,a1,a2,a3,a4,a5,a6,a7,a8,a9],T) :: L) w _:=h.set 0 rfl 0 b0
 have h1:Bos ((p,#[b0,b1,a2,a3,a4,a5,a6,a7,a8,a9],T) :: L) w _:=h0.set 0 rfl 1 b1
 have h2:Bos ((p,#[b0,b1,b2,a3,a4,a5,a6,a7,a8,a9],T) :: L) w _:=h1.set 0 rfl 2 b2
 have h3:Bos ((p,#[b0,b1,b2,b3,a4,a5,a6,a7,a8,a9],T) :: L) w _:=h2.set 0 rfl 3 b3
 have h4:Bos ((p,#[b0,b1,b2,b3,b4,a5,a6,a7,a8,a9],T) :: L) w _:=h3.set 0 rfl 4 b4
 have h5:Bos ((p,#[b0,b1,b2,b3,b4,b5,a6,a7,a8,a9],T) :: L) w _:=h4.set 0 rfl 5 b5
 have h6:Bos ((p,#[b0,b1,b2,b3,b4,b5,b6,a7,a8,a9],T) :: L) w _:=h5.set 0 rfl 6 b6
 have h7:Bos ((p,#[b0,b1,b2,b3,b4,b5,b6,b7,a8,a9],T) :: L) w _:=h6.set 0 rfl 7 b7
 have h8:Bos ((p,#[b0,b1,b2,b3,b4,b5,b6,b7,b8,a9],T) :: L) w _:=h7.set 0 rfl 8 b8
 have h9:Bos ((p,#[b0,b1,b2,b3,b4,b5,b6,b7,b8,b9],T) :: L) w _:=h8.set 0 rfl 9 b9
 exact h9
theorem ret_op (tmps:Array Value) (p:Nat) (W:World) (a0 a1 a2 a3 a4 a5 a6 a7 a8 a9:Value) (h2:tmps.getD 2 undef=.pointer (some ⟨p,0,none⟩)) (q0:W.cell? ⟨p,0,none⟩=some a0) (q1:W.cell? ⟨p,1,none⟩=some a1) (q2:W.cell? ⟨p,2,none⟩=some a2) (q3:W.cell? ⟨p,3,none⟩=some a3) (q4:W.cell? ⟨p,4,none⟩=some a4) (q5:W.cell? ⟨p,5,none⟩=some a5) (q6:W.cell? ⟨p,6,none⟩=some a6) (q7:W.cell? ⟨p,7,none⟩=some a7) (q8:W.cell? ⟨p,8,none⟩=some a8) (q9:W.cell? ⟨p,9,none⟩=some a9) :
 (results Tryz.f22 tmps).run Tryz.prog W=.ok (.agg #[a0,a1,a2,a3,a4,a5,a6,a7,a8,a9]) W:=by
 rw [Array.getD_eq_getD_getElem?] at h2
 simp [results,Tryz.results22,go_sem,h2,q0,q1,q2,q3,q4,q5,q6,q7,q8,q9]
theorem op_any (n:Nm) (w:World) :
 Calls Tryz.prog 22 #[n.v] w fun e w'=>e=.returned (opR n).v∧Below w.heap.size w w':=by
 have TA:=Lib.hid (fun w=>task_any n w)
 have OR:Hid (opR n=if n.kind%8=5 then ⟨2,tk0,false,n.id%8,0,0⟩ else if n.kind%8=6 then ⟨3,tk0,false,n.id%8,(taskR n).c,0⟩ else if n.kind%8=7 then ⟨4,tk0,false,0,0,n.m%4⟩ else ⟨1,taskR n,n.sv,0,0,0⟩):=Lib.hid rfl
 have TI:(taskR n).id=n.id%8:=rfl
 have hk:bits .and .i64 n.kind 7=n.kind%8:=and7 _
 have hm:bits .and .i64 n.m 3=n.m%4:=and3 _
 have H0:=Lib.hid (((bos_nil w).new n.cs.toArray 36).new #[.int .i64 0,.int .i64 0,.int .i64 0,.int .i64 0,.int .i64 0,.int .i64 0,.bool false,.int .i64 0,.int .i64 0,.int .i64 0] 47)
 rw [World.size_alloc] at H0
 generalize opR n=OO at *
 generalize taskR n=T at *
 obtain ⟨nk,ni,nc,nd,nt,nm,ns⟩:=n
 obtain ⟨ti,tc,td,tt,tm⟩:=T
 unfold Nm.v Nm.cs tkv Od.v at *
 simp only at *
 generalize nk%8=z at *
 subst TI
 obtain ⟨n0,n1,n2,n3,n4,n5,n6⟩:=cell7 (H0.out.cell 1 rfl)
 go_enter Tryz.func22,Tryz.ntmps22
 go_wp2_with fail
 (with_reducible refine (TA.out _).mono ?_)
 rintro e w1 ⟨rfl,b1⟩
 have H1:=Lib.hid (H0.out.call b1)
 have H2:=Lib.hid (H1.out.new #[.int .i64 (ni%8),.int .i64 tc,.int .i64 td,.int .i64 tt,.int .i64 tm] 45)
 clear b1 TA H0 n0 n1 n2 n3 n4 n5 n6
 obtain ⟨n0,n1,n2,n3,n4,n5,n6⟩:=cell7 (H2.out.cell 2 rfl)
 obtain ⟨x0,x1,x2,x3,x4⟩:=cell5 (H2.out.cell 0 rfl)
 obtain ⟨z0,z1,z2,z3,z4,z5,z6,z7,z8,z9⟩:=cell10 (H2.out.cell 1 rfl)
 have zf:=H2.out.fz 1 rfl
 by_cases h5:z=5
 ·subst h5
  have HF:=Lib.hid (set10 (H2.out.sub (List.sublist_cons_self _ _)) (.int .i64 2) (.int .i64 0) (.int .i64 0) (.int .i64 0) (.int .i64 0) (.int .i64 0) (.bool false) (.int .i64 (ni%8)) (.int .i64 0) (.int .i64 0))
  obtain ⟨q0,q1,q2,q3,q4,q5,q6,q7,q8,q9⟩:=cell10 (HF.out.cell 0 rfl)
  have EE:=Lib.hid (OR.out.trans (if_pos rfl))
  clear OR H1 H2
  go_wp2
  exact bodyPost_ret (ret_op _ (w.heap.size+1) _ (.int .i64 2) (.int .i64 0) (.int .i64 0) (.int .i64 0) (.int .i64 0) (.int .i64 0) (.bool false) (.int .i64 (ni%8)) (.int .i64 0) (.int .i64 0) rfl q0 q1 q2 q3 q4 q5 q6 q7 q8 q9) rfl ⟨by rw [EE.out];rfl,HF.out.bl⟩
 have g5:(z==5)=false:=by simp [h5]
 by_cases h6:z=6
 ·subst h6
  have HF:=Lib.hid (set10 (H2.out.sub (List.sublist_cons_self _ _)) (.int .i64 3) (.int .i64 0) (.int .i64 0) (.int .i64 0) (.int .i64 0) (.int .i64 0) (.bool false) (.int .i64 (ni%8)) (.int .i64 tc) (.int .i64 0))
  obtain ⟨q0,q1,q2,q3,q4,q5,q6,q7,q8,q9⟩:=cell10 (HF.out.cell 0 rfl)
  have EE:=Lib.hid ((OR.out.trans (if_neg (by decide))).trans (if_pos rfl))
  clear OR H1 H2
  go_wp2
  exact bodyPost_ret (ret_op _ (w.heap.size+1) _ (.int .i64 3) (.int .i64 0) (.int .i64 0) (.int .i64 0) (.int .i64 0) (.int .i64 0) (.bool false) (.int .i64 (ni%8)) (.int .i64 tc) (.int .i64 0) rfl q0 q1 q2 q3 q4 q5 q6 q7 q8 q9) rfl ⟨by rw [EE.out];rfl,HF.out.bl⟩
 have g6:(z==6)=false:=by simp [h6]
 by_cases h7:z=7
 ·subst h7
  have HF:=Lib.hid (set10 (H2.out.sub (List.sublist_cons_self _ _)) (.int .i64 4) (.int .i64 0) (.int .i64 0) (.int .i64 0) (.int .i64 0) (.int .i64 0) (.bool false) (.int .i64 0) (.int .i64 0) (.int .i64 (nm%4)))
  obtain ⟨q0,q1,q2,q3,q4,q5,q6,q7,q8,q9⟩:=cell10 (HF.out.cell 0 rfl)
  have EE:=Lib.hid (((OR.out.trans (if_neg (by decide))).trans (if_neg (by decide))).trans (if_pos rfl))
  clear OR H1 H2
  go_wp2
  exact bodyPost_ret (ret_op _ (w.heap.size+1) _ (.int .i64 4) (.int .i64 0) (.int .i64 0) (.int .i64 0) (.int .i64 0) (.int .i64 0) (.bool false) (.int .i64 0) (.int .i64 0) (.int .i64 (nm%4)) rfl q0 q1 q2 q3 q4 q5 q6 q7 q8 q9) rfl ⟨by rw [EE.out];rfl,HF.out.bl⟩
 have g7:(z==7)=false:=by simp [h7]
 have HF:=Lib.hid (set10 (H2.out.sub (List.sublist_cons_self _ _)) (.int .i64 1) (.int .i64 (ni%8)) (.int .i64 tc) (.int .i64 td) (.int .i64 tt) (.int .i64 tm) (.bool ns) (.int .i64 0) (.int .i64 0) (.int .i64 0))
 obtain ⟨q0,q1,q2,q3,q4,q5,q6,q7,q8,q9⟩:=cell10 (HF.out.cell 0 rfl)
 have EE:=Lib.hid (((OR.out.trans (if_neg h5)).trans (if_neg h6)).trans (if_neg h7))
 clear OR H1 H2
 go_wp2
 exact bodyPost_ret (ret_op _ (w.heap.size+1) _ (.int .i64 1) (.int .i64 (ni%8)) (.int .i64 tc) (.int .i64 td) (.int .i64 tt) (.int .i64 tm) (.bool ns) (.int .i64 0) (.int .i64 0) (.int .i64 0) rfl q0 q1 q2 q3 q4 q5 q6 q7 q8 q9) rfl ⟨by rw [EE.out];rfl,HF.out.bl⟩
end Go.Proofs.YteempfoajgblaaaGreat.Ju
