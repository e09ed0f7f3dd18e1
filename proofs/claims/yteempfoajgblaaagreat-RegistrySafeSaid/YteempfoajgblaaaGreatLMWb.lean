/- Package wal's reader: what is called again and again for the next record. Package wal's reader: a .. -/
import Derived.Test.YteempfoajgblaaaGreatLMWa
import Derived.StillTailTactics
import Derived.Deep.DeepCutAuto
import Derived.Deep.RegionHeld3
import Derived.Test.YteempfoajgblaaaGreatLGnT
set_option maxRecDepth 100000
set_option linter.unusedVariables false
set_option linter.unusedSimpArgs false
open Go.ChangeShapes Go.WideShapes Go.ChangeAt Go.RowKit Go.Joins
set_option maxHeartbeats 2000000
namespace Go.Proofs.YteempfoajgblaaaGreat.Wl
open Dk (Dk DS Own Moved ptr)
open Sl (Mv below_drewN rowOf)
structure Nx (B b q p:Nat) (t:WS) (e i:Nat) (d:DS) (w0 W:World):Prop where
 dk:Dk B b d W
 wl:Wl q b t W
 bq:W.heap[p]?=some (.cells #[ptr q] 136 (0,0))
 be:W.heap[p+1]?=some (.cells #[.int .u64 (e:Int)] 132 (0,0))
 bi:W.heap[p+2]?=some (.cells #[.int .i64 (i:Int)] 3 (0,0))
 mv:Moved b w0 W
 pl:w0.heap.size≤p
 bl:b<w0.heap.size
section
variable {B b q p e i:Nat} {t:WS} {d d':DS} {w0 W W':World}
theorem Nx.call (h:Nx B b q p t e i d w0 W) (hb:Below W.heap.size W W'):Nx B b q p t e i d w0 W' :=
 ⟨h.dk.call hb,h.wl.call hb,(hb.block _ (Dk.lt_of_heap h.bq)).trans h.bq,(hb.block _ (Dk.lt_of_heap h.be)).trans h.be,(hb.block _ (Dk.lt_of_heap h.bi)).trans h.bi,h.mv.trans (.of_below hb h.dk.lt),h.pl,h.bl⟩
theorem Nx.drew (h:Nx B b q p t e i d w0 W):Nx B b q p t e i d w0 W.drew:=h.call (Below.refl _ _).drew
theorem Nx.disk (h:Nx B b q p t e i d w0 W) (k:Dk B b d' W') (m:Moved b W W'):Nx B b q p t e i d' w0 W' :=
 ⟨k,h.wl.disk h.dk m,h.dk.keep m h.bq (by decide) (by decide) (by decide),h.dk.keep m h.be (by decide) (by decide) (by decide),h.dk.keep m h.bi (by decide) (by decide) (by decide),h.mv.trans m,h.pl,h.bl⟩
theorem Nx.cq (h:Nx B b q p t e i d w0 W):W.cell? ⟨p,0,none⟩=some (ptr q):=by rw [Lib.cell_of_heap h.bq];rfl
theorem Nx.ce (h:Nx B b q p t e i d w0 W):W.cell? ⟨p+1,0,none⟩=some (.int .u64 (e:Int)):=by rw [Lib.cell_of_heap h.be];rfl
theorem Nx.ci (h:Nx B b q p t e i d w0 W):W.cell? ⟨p+2,0,none⟩=some (.int .i64 (i:Int)):=by rw [Lib.cell_of_heap h.bi];rfl
theorem Nx.fi (h:Nx B b q p t e i d w0 W):W.frozen? ⟨p+2,0,none⟩=false:=Lib.frozen_of_heap h.bi 0
theorem Nx.next (h:Nx B b q p t e i d w0 W) {x:Int} (hx:x=((i+1:Nat):Int)):Nx B b q p t e (i+1) d w0 (W.setCell ⟨p+2,0,none⟩ (.int .i64 x)):=by
 subst hx
 have k2:∀ k,k≠p+2→(W.setCell ⟨p+2,0,none⟩ (.int .i64 ((i+1:Nat):Int))).heap[k]?=W.heap[k]?:=fun k hk=>Below.heap_setCell W ⟨p+2,0,none⟩ _ k hk
 have nD:¬Dk.Own W b (p+2):=by
  obtain ⟨g,v,dk⟩:=h.dk
  exact dk.keepT h.bi (by decide) (by decide) (by decide)
 have qn:q≠p+2:=fun hh=>by have h1:=h.wl;unfold Wl at h1;rw [hh,h.bi] at h1;cases h1
 have pl:=h.pl
 have bl:=h.bl
 refine ⟨Sl.Dk_setOther h.dk nD,h.wl.of_block (k2 q qn),(k2 p (by omega)).trans h.bq,(k2 (p+1) (by omega)).trans h.be,?_,?_,h.pl,h.bl⟩
 · simp [World.setCell,Array.getElem?_modify,h.bi]
 ·refine ⟨h.mv.os,h.mv.tape,h.mv.output,by simpa [World.setCell] using h.mv.size,fun k hk hn=>?_,fun k hk=>h.mv.own k (hk.of_block (k2 b (by omega)))⟩
  rw [k2 k (by omega)]
  exact h.mv.block k hk hn
end
def Tx (w w':World):Prop:=∀ (k:Nat) (cs:Array Value) (fz:Nat×Nat),w.heap[k]?=some (Obj.cells cs 9 fz)→w'.heap[k]?=w.heap[k]?
theorem Tx.trans {u v w:World} (h:Tx u v) (k:Tx v w):Tx u w:=fun i cs fz hi=>(k i cs fz ((h i cs fz hi).trans hi)).trans (h i cs fz hi)
theorem Tx.of_below {w w':World} (hb:Below w.heap.size w w'):Tx w w':=fun k cs fz hk=>hb.block k (Dk.lt_of_heap hk)
theorem Tx.of_moved {B b:Nat} {d:DS} {w w':World} (dk:Dk B b d w) (m:Moved b w w'):Tx w w':=fun k cs fz hk=>(dk.keep m hk (by decide) (by decide) (by decide)).trans hk.symm
theorem Tx.set {w:World} {q o:Nat} {x:Value} {cs:Array Value} {T:TypeId} {fz:Nat×Nat} (h:w.heap[q]?=some (Obj.cells cs T fz)) (hT:T≠9):Tx w (w.setCell ⟨q,o,none⟩ x):=fun k cs' fz' hk=>Below.heap_setCell w ⟨q,o,none⟩ x k (fun e=>by
 have e':k=q:=e
 rw [e',h] at hk;cases hk;exact hT rfl)
theorem reader_any {B b q:Nat} {t:WS} {s:DS} (e:Nat) (w:World) (h:Wl q b t w) (d:Dk B b s w) :
 Calls Tryz.prog 195 #[ptr q,.int .u64 (e:Int)] w fun r w'=>r=.returned (.func (.func 218) #[] #[ptr (w.heap.size+2),ptr w.heap.size,ptr (w.heap.size+1)])∧Nx B b q w.heap.size t e 0 s w w':=by
 have hmf:∀ (fn:Fn) (first cap:Array Value) (w:World),(Instr.makeFunc fn first cap).run Tryz.prog w=.ok (.func fn first cap) w:=fun _ _ _ _=>rfl
 obtain ⟨W,hW⟩:∃ W,W=((w.alloc (.cells #[ptr q] 136)).alloc (.cells #[.int .u64 (e:Int)] 132)).alloc (.cells #[.int .i64 0] 3):=⟨_,rfl⟩
 have FIN:Hid (Nx B b q w.heap.size t e 0 s w W):=Lib.hid (by
  have b1:Below w.heap.size w (w.alloc (.cells #[ptr q] 136)):=(Below.refl _ _).alloc (Nat.le_refl _) _
  have b2:Below (w.alloc (.cells #[ptr q] 136)).heap.size (w.alloc (.cells #[ptr q] 136)) W:=by rw [hW];exact ((Below.refl _ _).alloc (Nat.le_refl _) _).alloc (by simp) _
  have b3:Below ((w.alloc (.cells #[ptr q] 136)).alloc (.cells #[.int .u64 (e:Int)] 132)).heap.size ((w.alloc (.cells #[ptr q] 136)).alloc (.cells #[.int .u64 (e:Int)] 132)) W:=by rw [hW];exact (Below.refl _ _).alloc (Nat.le_refl _) _
  have bb:Below w.heap.size w W:=b1.trans (b2.mono (by simp))
  refine ⟨d.call bb,h.call bb,?_,?_,?_,.of_below bb d.lt,Nat.le_refl _,d.lt⟩
  · rw [b2.block _ (by simp)];exact heap_alloc_new _ _
  ·rw [b3.block _ (by simp)]
   have:=heap_alloc_new (w.alloc (.cells #[ptr q] 136)) (.cells #[.int .u64 (e:Int)] 132)
   rw [World.size_alloc] at this;exact this
  ·have:=heap_alloc_new ((w.alloc (.cells #[ptr q] 136)).alloc (.cells #[.int .u64 (e:Int)] 132)) (.cells #[.int .i64 0] 3)
   rw [World.size_alloc,World.size_alloc] at this
   rw [hW];exact this)
 clear h d
 go_enter Tryz.func195,Tryz.ntmps195
 go_wp2
 go_ret
 rw [hW] at FIN
 exact ⟨rfl,FIN.out⟩
theorem next_end {B b q p e:Nat} {t:WS} {d:DS} {w0:World} (w:World) (h:Nx B b q p t e t.n d w0 w) :
 Calls Tryz.prog 218 #[ptr (p+2),ptr p,ptr (p+1)] w fun r w'=>r=.returned (.tuple #[.string ⟨#[]⟩,.bool false,.int .i64 0])∧Nx B b q p t e t.n d w0 w'∧Tx w w':=by
 have cq:=h.cq
 have ci:=h.ci
 have c2:=h.wl.c2
 have FIN:=Lib.hid (fun k=>And.intro (h.call (below_drewN w k)) (Tx.of_below (below_drewN w k)))
 clear h
 obtain ⟨p2,hp2⟩:∃ p2,p2=p+2:=⟨_,rfl⟩
 rw [← hp2] at ci ⊢
 clear hp2
 generalize (t.n:Int)=K at *
 go_enter Tryz.func218,Tryz.ntmps218
 go_wp2_with fail
 go_quiet (fail)
 go_wp2
 go_ret3
 exact ⟨rfl,FIN.out _⟩
theorem next_io {B b q p e i:Nat} {t:WS} {d:DS} {w0:World} (w:World) (h:Nx B b q p t e i d w0 w) (hi:i<t.n) (ht:t.at_+t.n≤1024) (hl:t.at_+t.n≤d.sec.length) (hr:d.reads≤1000000000) (ho:d.opn.length≤1000000) (hf:d.fail=1) :
 Calls Tryz.prog 218 #[ptr (p+2),ptr p,ptr (p+1)] w fun r w'=>r=.returned (.tuple #[.string ⟨#[]⟩,.bool false,.int .i64 18])∧Nx B b q p t e i (Dk.readR d ((t.at_+i:Nat):Int)).1 w0 w'∧Tx w w':=by
 have cq:=h.cq
 have ci:=h.ci
 have c0:=h.wl.c0
 have c1:=h.wl.c1
 have c2:=h.wl.c2
 have NX:=Lib.hid h
 have HS:((t.at_+i:Nat):Int)=(t.at_:Int)+(i:Int):=by push_cast;rfl
 have k1:((i:Int)==(t.n:Int))=false:=by simp;omega
 have w1:IntKind.i64.wrap ((t.at_:Int)+(i:Int))=(t.at_:Int)+(i:Int):=IntWalk.i64_in _ (by omega)
 have s1:(t.at_:Int)+(i:Int)≤1024:=by omega
 have s0:0≤(t.at_:Int)+(i:Int):=by omega
 have u1:IntKind.u64.wrap (i:Int)=(i:Int):=IntWalk.u64_in _ (by omega)
 have u2:(i:Int)%18446744073709551616=(i:Int):=by omega
 have EI:Hid (((i:Int)+1)=((i+1:Nat):Int)):=Lib.hid (by omega)
 have i1:(i:Int)≤1024:=by omega
 have i0:0≤(i:Int):=by omega
 have RDE:=Lib.hid (fun j=>Dk.read_any B b d ((t.at_+i:Nat):Int) (w.drewN j).drew ((h.call (below_drewN w j)).drew.dk) hr ho (by omega))
 have E:=Dk.io_read d (a:=((t.at_+i:Nat):Int)) (by omega) (by omega) hf
 rw [E] at RDE ⊢
 rw [HS] at RDE
 generalize hD1:DS.mk d.sec d.opn 0 (d.reads+1)=D1 at *
 have NXJ:=Lib.hid (fun j=>NX.out.call (below_drewN w j))
 clear h HS E hD1 cq ci c0 c1 c2
 have cq:=NX.out.cq
 have ci:=NX.out.ci
 have c2:=NX.out.wl.c2
 obtain ⟨p2,hp2⟩:∃ p2,p2=p+2:=⟨_,rfl⟩
 have HP2:=Lib.hid hp2
 rw [← hp2] at ci ⊢
 clear hp2
 go_enter Tryz.func218,Tryz.ntmps218
 go_wp2_with fail
 go_quiet (fail)
 have NX2:=Lib.hid (NXJ.out nq)
 have RD:=Lib.hid (RDE.out nq)
 go_wp2_with fail
 clear RDE NXJ NX cq ci c2
 have T0:=Lib.hid (Tx.of_below (below_drewN w nq))
 generalize w.drewN nq=w at *
 have cq:=NX2.out.cq
 have ci:=NX2.out.ci
 have c0:=NX2.out.wl.c0
 have c1:=NX2.out.wl.c1
 have KD:Hid (∀ w3,Dk B b D1 w3→Moved b w.drew w3→w3.cell? ⟨p+2,0,none⟩=some (.int .i64 (i:Int))∧w3.cell? ⟨p,0,none⟩=some (ptr q)∧w3.cell? ⟨q,0,none⟩=some (ptr b)∧w3.cell? ⟨q,1,none⟩=some (.int .i64 (t.at_:Int))):=Lib.hid (fun w3 k3 m3=>by
  have n3:=NX2.out.drew.disk k3 m3
  exact ⟨n3.ci,n3.cq,n3.wl.c0,n3.wl.c1⟩)
 have KS:Hid (w.drew.cell? ⟨p+2,0,none⟩=some (.int .i64 (i:Int))∧w.drew.cell? ⟨p,0,none⟩=some (ptr q)∧w.drew.cell? ⟨q,0,none⟩=some (ptr b)∧w.drew.cell? ⟨q,1,none⟩=some (.int .i64 (t.at_:Int))):=Lib.hid ⟨ci,cq,c0,c1⟩
 rw [← HP2.out] at KD KS ci
 generalize (t.n:Int)=K at *
 generalize (t.at_:Int)=A at *
 generalize (i:Int)=I at *
 have ne:(((18:Nat):Int) != 0)=true:=by decide
 go_region_held3 (fun w'=>w'.cell? ⟨p2,0,none⟩=some (.int .i64 I)∧w'.cell? ⟨p,0,none⟩=some (ptr q)∧w'.cell? ⟨q,0,none⟩=some (ptr b)∧w'.cell? ⟨q,1,none⟩=some (.int .i64 A)) (first|exact KS.out|assumption|fail) (first|(go_at_call 148;(with_reducible refine RD.out.mono ?_);rintro e1 w3 ⟨rfl,k3,m3⟩;(have kn:=KD.out w3 k3 m3))|fail)
 have FIN:=Lib.hid (And.intro (NX2.out.drew.disk k3 m3) (T0.out.trans ((Tx.of_below (Below.refl w.heap.size w).drew).trans (Tx.of_moved NX2.out.drew.dk m3))))
 clear KD KS RD NX2 kn
 go_wp2
 go_ret3
 exact ⟨rfl,FIN.out⟩
end Go.Proofs.YteempfoajgblaaaGreat.Wl
namespace Go.Proofs.YteempfoajgblaaaGreat.Wl
open Dk (Dk DS Own Moved ptr)
open Sl (Mv below_drewN rowOf)
def wholeC (c:Option Cl) (e i:Nat):Bool:=match c with|some c=>c.2.1==e&&c.2.2==i|none=>false
theorem whole_c (x:List UInt8) (e i:Nat):whole x e i=wholeC (rdc x) e i:=rfl
theorem next_no {B b q p e i:Nat} {t:WS} {d:DS} {w0:World} (w:World) (h:Nx B b q p t e i d w0 w) (hi:i<t.n) (ht:t.at_+t.n≤1024) (hl:t.at_+t.n≤d.sec.length) (hr:d.reads≤1000000000) (ho:d.opn.length≤1000000) (hf:d.fail≠1) (hf2:d.fail<9223372036854775808) (hw:whole (Dk.newestOf d (t.at_+i)) e i=false) :
 Calls Tryz.prog 218 #[ptr (p+2),ptr p,ptr (p+1)] w fun r w'=>r=.returned (.tuple #[.string ⟨#[]⟩,.bool false,.int .i64 0])∧Nx B b q p t e i (Dk.readR d ((t.at_+i:Nat):Int)).1 w0 w'∧Tx w w':=by
 have cq:=h.cq
 have ci:=h.ci
 have c0:=h.wl.c0
 have c1:=h.wl.c1
 have c2:=h.wl.c2
 have NX:=Lib.hid h
 have HS:((t.at_+i:Nat):Int)=(t.at_:Int)+(i:Int):=by push_cast;rfl
 have k1:((i:Int)==(t.n:Int))=false:=by simp;omega
 have w1:IntKind.i64.wrap ((t.at_:Int)+(i:Int))=(t.at_:Int)+(i:Int):=IntWalk.i64_in _ (by omega)
 have s1:(t.at_:Int)+(i:Int)≤1024:=by omega
 have s0:0≤(t.at_:Int)+(i:Int):=by omega
 have u1:IntKind.u64.wrap (i:Int)=(i:Int):=IntWalk.u64_in _ (by omega)
 have u2:(i:Int)%18446744073709551616=(i:Int):=by omega
 have EI:Hid (((i:Int)+1)=((i+1:Nat):Int)):=Lib.hid (by omega)
 have i1:(i:Int)≤1024:=by omega
 have i0:0≤(i:Int):=by omega
 have RDE:=Lib.hid (fun j=>Dk.read_any B b d ((t.at_+i:Nat):Int) (w.drewN j).drew ((h.call (below_drewN w j)).drew.dk) hr ho (by omega))
 have E:=Dk.newest_read d (a:=((t.at_+i:Nat):Int)) (by omega) (by omega) hf
 have EN:((t.at_+i:Nat):Int).toNat=t.at_+i:=by omega
 rw [EN] at E
 rw [E] at RDE ⊢
 rw [HS] at RDE
 generalize hD1:DS.mk d.sec d.opn (d.fail-1) (d.reads+1)=D1 at *
 have FR:=Lib.hid (fun w=>read_any (mkB (Dk.newestOf d (t.at_+i))) w)
 rw [mkB_data] at FR
 have HW:=Lib.hid hw
 clear hw EN
 have NXJ:=Lib.hid (fun j=>NX.out.call (below_drewN w j))
 clear h HS E hD1 cq ci c0 c1 c2
 have cq:=NX.out.cq
 have ci:=NX.out.ci
 have c2:=NX.out.wl.c2
 obtain ⟨p2,hp2⟩:∃ p2,p2=p+2:=⟨_,rfl⟩
 have HP2:=Lib.hid hp2
 rw [← hp2] at ci ⊢
 clear hp2
 go_enter Tryz.func218,Tryz.ntmps218
 go_wp2_with fail
 go_quiet (fail)
 have NX2:=Lib.hid (NXJ.out nq)
 have RD:=Lib.hid (RDE.out nq)
 go_wp2_with fail
 clear RDE NXJ NX cq ci c2
 have T0:=Lib.hid (Tx.of_below (below_drewN w nq))
 generalize w.drewN nq=w at *
 have cq:=NX2.out.cq
 have ci:=NX2.out.ci
 have c0:=NX2.out.wl.c0
 have c1:=NX2.out.wl.c1
 have KD:Hid (∀ w3,Dk B b D1 w3→Moved b w.drew w3→w3.cell? ⟨p+2,0,none⟩=some (.int .i64 (i:Int))∧w3.cell? ⟨p,0,none⟩=some (ptr q)∧w3.cell? ⟨q,0,none⟩=some (ptr b)∧w3.cell? ⟨q,1,none⟩=some (.int .i64 (t.at_:Int))):=Lib.hid (fun w3 k3 m3=>by
  have n3:=NX2.out.drew.disk k3 m3
  exact ⟨n3.ci,n3.cq,n3.wl.c0,n3.wl.c1⟩)
 have KS:Hid (w.drew.cell? ⟨p+2,0,none⟩=some (.int .i64 (i:Int))∧w.drew.cell? ⟨p,0,none⟩=some (ptr q)∧w.drew.cell? ⟨q,0,none⟩=some (ptr b)∧w.drew.cell? ⟨q,1,none⟩=some (.int .i64 (t.at_:Int))):=Lib.hid ⟨ci,cq,c0,c1⟩
 rw [← HP2.out] at KD KS ci
 generalize (t.n:Int)=K at *
 generalize (t.at_:Int)=A at *
 generalize hI:(i:Int)=I at *
 have HI:=Lib.hid hI
 clear hI
 generalize Dk.newestOf d (t.at_+i)=X at *
 have ne:(((0:Nat):Int) != 0)=false:=by decide
 go_region_held3 (fun w'=>w'.cell? ⟨p2,0,none⟩=some (.int .i64 I)∧w'.cell? ⟨p,0,none⟩=some (ptr q)∧w'.cell? ⟨q,0,none⟩=some (ptr b)∧w'.cell? ⟨q,1,none⟩=some (.int .i64 A)) (first|exact KS.out|assumption|fail) (first|(go_at_call 148;(with_reducible refine RD.out.mono ?_);rintro e1 w3 ⟨rfl,k3,m3⟩;(have kn:=KD.out w3 k3 m3))|fail)
 have N3:=Lib.hid (NX2.out.drew.disk k3 m3)
 have T3:=Lib.hid (T0.out.trans ((Tx.of_below (Below.refl w.heap.size w).drew).trans (Tx.of_moved NX2.out.drew.dk m3)))
 clear KD KS RD NX2 kn k3 m3 cq ci c0 c1
 go_wp2_with fail
 (with_reducible refine (FR.out _).mono ?_)
 rintro e1 w4 ⟨rfl,b4⟩
 have N4:=Lib.hid (N3.out.call b4)
 have T4:=Lib.hid (T3.out.trans (Tx.of_below b4))
 clear FR N3 b4 T3 T0
 have cN:=N4.out
 rw [whole_c] at HW
 generalize rdc X=c at *
 clear cN
 cases c with
 | none=>
  have FIN:=Lib.hid (And.intro (N4.out.call ((Below.refl _ _).alloc (Nat.le_refl _) (.cells #[.string ⟨#[]⟩,.int .u64 0,.int .u64 0] 204))) (T4.out.trans (Tx.of_below ((Below.refl _ _).alloc (Nat.le_refl _) (.cells #[.string ⟨#[]⟩,.int .u64 0,.int .u64 0] 204)))))
  have EV:cellOf none=.agg #[.string ⟨#[]⟩,.int .u64 0,.int .u64 0]:=rfl
  have EB:(none:Option Cl).isSome=false:=rfl
  rw [EV,EB]
  clear N4 EV EB
  go_wp2
  go_ret3
  exact ⟨rfl,FIN.out⟩
 | some c=>
  obtain ⟨P,f,m⟩:=c
  have FIN:=Lib.hid (And.intro (N4.out.call ((Below.refl _ _).alloc (Nat.le_refl _) (.cells #[.string (mkB P),.int .u64 (f:Int),.int .u64 (m:Int)] 204))) (T4.out.trans (Tx.of_below ((Below.refl _ _).alloc (Nat.le_refl _) (.cells #[.string (mkB P),.int .u64 (f:Int),.int .u64 (m:Int)] 204)))))
  have EV:cellOf (some (P,f,m))=.agg #[.string (mkB P),.int .u64 (f:Int),.int .u64 (m:Int)]:=rfl
  have EB:(some (P,f,m):Option Cl).isSome=true:=rfl
  rw [EV,EB]
  clear EV EB
  have ce:=N4.out.ce
  have ci:=N4.out.ci
  rw [HI.out,← HP2.out] at ci
  obtain ⟨p1,hp1⟩:∃ p1,p1=p+1:=⟨_,rfl⟩
  rw [← hp1] at ce ⊢
  have l1:p1<w4.heap.size:=by rw [hp1];exact Dk.lt_of_heap N4.out.be
  have l2:p2<w4.heap.size:=by rw [HP2.out];exact Dk.lt_of_heap N4.out.bi
  have n1:p1≠w4.heap.size:=by omega
  have n2:p2≠w4.heap.size:=by omega
  clear hp1 N4
  have HWc:=HW.out
  unfold wholeC at HWc
  clear HW
  have HIo:=HI.out
  by_cases hfe:f=e
  ·have hmi:m≠i:=fun hh=>by simp [hfe,hh] at HWc
   have x1:((f:Int) != (e:Int))=false:=by simp [hfe]
   have x2:((m:Int) != I)=true:=by rw [← HIo];simp;omega
   have x3:((m:Int)==I)=false:=by rw [← HIo];simp;omega
   have x4:((f:Int)==(e:Int))=true:=by simp [hfe]
   clear HWc HIo hmi hfe HI
   generalize (f:Int)=FF at *
   generalize (m:Int)=MM at *
   generalize (e:Int)=EE at *
   generalize mkB P=PP at *
   go_wp2
   go_ret3
   exact ⟨rfl,FIN.out⟩
  ·have x1:((f:Int) != (e:Int))=true:=by simp;omega
   have x4:((f:Int)==(e:Int))=false:=by simp;omega
   clear HWc HIo hfe HI
   generalize (f:Int)=FF at *
   generalize (m:Int)=MM at *
   generalize (e:Int)=EE at *
   generalize mkB P=PP at *
   go_wp2
   go_ret3
   exact ⟨rfl,FIN.out⟩
theorem next_yes {B b q p e i:Nat} {t:WS} {d:DS} {w0:World} (w:World) (h:Nx B b q p t e i d w0 w) (hi:i<t.n) (ht:t.at_+t.n≤1024) (hl:t.at_+t.n≤d.sec.length) (hr:d.reads≤1000000000) (ho:d.opn.length≤1000000) (hf:d.fail≠1) (hf2:d.fail<9223372036854775808) (hw:whole (Dk.newestOf d (t.at_+i)) e i=true) :
 Calls Tryz.prog 218 #[ptr (p+2),ptr p,ptr (p+1)] w fun r w'=>r=.returned (.tuple #[.string (mkB (payOf (Dk.newestOf d (t.at_+i)))),.bool true,.int .i64 0])∧Nx B b q p t e (i+1) (Dk.readR d ((t.at_+i:Nat):Int)).1 w0 w'∧Tx w w':=by
 have cq:=h.cq
 have ci:=h.ci
 have c0:=h.wl.c0
 have c1:=h.wl.c1
 have c2:=h.wl.c2
 have NX:=Lib.hid h
 have HS:((t.at_+i:Nat):Int)=(t.at_:Int)+(i:Int):=by push_cast;rfl
 have k1:((i:Int)==(t.n:Int))=false:=by simp;omega
 have w1:IntKind.i64.wrap ((t.at_:Int)+(i:Int))=(t.at_:Int)+(i:Int):=IntWalk.i64_in _ (by omega)
 have s1:(t.at_:Int)+(i:Int)≤1024:=by omega
 have s0:0≤(t.at_:Int)+(i:Int):=by omega
 have u1:IntKind.u64.wrap (i:Int)=(i:Int):=IntWalk.u64_in _ (by omega)
 have u2:(i:Int)%18446744073709551616=(i:Int):=by omega
 have EI:Hid (((i:Int)+1)=((i+1:Nat):Int)):=Lib.hid (by omega)
 have i1:(i:Int)≤1024:=by omega
 have i0:0≤(i:Int):=by omega
 have RDE:=Lib.hid (fun j=>Dk.read_any B b d ((t.at_+i:Nat):Int) (w.drewN j).drew ((h.call (below_drewN w j)).drew.dk) hr ho (by omega))
 have E:=Dk.newest_read d (a:=((t.at_+i:Nat):Int)) (by omega) (by omega) hf
 have EN:((t.at_+i:Nat):Int).toNat=t.at_+i:=by omega
 rw [EN] at E
 rw [E] at RDE ⊢
 rw [HS] at RDE
 generalize hD1:DS.mk d.sec d.opn (d.fail-1) (d.reads+1)=D1 at *
 have FR:=Lib.hid (fun w=>read_any (mkB (Dk.newestOf d (t.at_+i))) w)
 rw [mkB_data] at FR
 have HW:=Lib.hid hw
 clear hw EN
 generalize Dk.newestOf d (t.at_+i)=X at *
 generalize hP:payOf X=P at *
 have HP:=Lib.hid hP
 clear hP
 have NXJ:=Lib.hid (fun j=>NX.out.call (below_drewN w j))
 clear h HS E hD1 cq ci c0 c1 c2
 have cq:=NX.out.cq
 have ci:=NX.out.ci
 have c2:=NX.out.wl.c2
 obtain ⟨p2,hp2⟩:∃ p2,p2=p+2:=⟨_,rfl⟩
 have HP2:=Lib.hid hp2
 rw [← hp2] at ci ⊢
 clear hp2
 go_enter Tryz.func218,Tryz.ntmps218
 go_wp2_with fail
 go_quiet (fail)
 have NX2:=Lib.hid (NXJ.out nq)
 have RD:=Lib.hid (RDE.out nq)
 go_wp2_with fail
 clear RDE NXJ NX cq ci c2
 have T0:=Lib.hid (Tx.of_below (below_drewN w nq))
 generalize w.drewN nq=w at *
 have cq:=NX2.out.cq
 have ci:=NX2.out.ci
 have c0:=NX2.out.wl.c0
 have c1:=NX2.out.wl.c1
 have KD:Hid (∀ w3,Dk B b D1 w3→Moved b w.drew w3→w3.cell? ⟨p+2,0,none⟩=some (.int .i64 (i:Int))∧w3.cell? ⟨p,0,none⟩=some (ptr q)∧w3.cell? ⟨q,0,none⟩=some (ptr b)∧w3.cell? ⟨q,1,none⟩=some (.int .i64 (t.at_:Int))):=Lib.hid (fun w3 k3 m3=>by
  have n3:=NX2.out.drew.disk k3 m3
  exact ⟨n3.ci,n3.cq,n3.wl.c0,n3.wl.c1⟩)
 have KS:Hid (w.drew.cell? ⟨p+2,0,none⟩=some (.int .i64 (i:Int))∧w.drew.cell? ⟨p,0,none⟩=some (ptr q)∧w.drew.cell? ⟨q,0,none⟩=some (ptr b)∧w.drew.cell? ⟨q,1,none⟩=some (.int .i64 (t.at_:Int))):=Lib.hid ⟨ci,cq,c0,c1⟩
 rw [← HP2.out] at KD KS ci
 generalize (t.n:Int)=K at *
 generalize (t.at_:Int)=A at *
 generalize hI:(i:Int)=I at *
 have HI:=Lib.hid hI
 clear hI
 have ne:(((0:Nat):Int) != 0)=false:=by decide
 go_region_held3 (fun w'=>w'.cell? ⟨p2,0,none⟩=some (.int .i64 I)∧w'.cell? ⟨p,0,none⟩=some (ptr q)∧w'.cell? ⟨q,0,none⟩=some (ptr b)∧w'.cell? ⟨q,1,none⟩=some (.int .i64 A)) (first|exact KS.out|assumption|fail) (first|(go_at_call 148;(with_reducible refine RD.out.mono ?_);rintro e1 w3 ⟨rfl,k3,m3⟩;(have kn:=KD.out w3 k3 m3))|fail)
 have N3:=Lib.hid (NX2.out.drew.disk k3 m3)
 have T3:=Lib.hid (T0.out.trans ((Tx.of_below (Below.refl w.heap.size w).drew).trans (Tx.of_moved NX2.out.drew.dk m3)))
 clear KD KS RD NX2 kn k3 m3 cq ci c0 c1
 go_wp2_with fail
 (with_reducible refine (FR.out _).mono ?_)
 rintro e1 w4 ⟨rfl,b4⟩
 have N4:=Lib.hid (N3.out.call b4)
 have T4:=Lib.hid (T3.out.trans (Tx.of_below b4))
 clear FR N3 b4 T3 T0
 have cN:=N4.out
 have HR:=Sl.whole_rdc HW.out
 rw [HP.out] at HR
 rw [HR]
 clear cN HR HW HP
 have FIN:=Lib.hid (And.intro ((N4.out.next EI.out).call ((Below.refl _ _).alloc (Nat.le_refl _) (.cells #[.string (mkB P),.int .u64 (e:Int),.int .u64 (i:Int)] 204))) (T4.out.trans ((Tx.set (o:=0) (x:=.int .i64 (I+1)) N4.out.bi (by decide)).trans (Tx.of_below ((Below.refl _ _).alloc (Nat.le_refl _) (.cells #[.string (mkB P),.int .u64 (e:Int),.int .u64 (i:Int)] 204))))))
 have EV:cellOf (some (P,e,i))=.agg #[.string (mkB P),.int .u64 (e:Int),.int .u64 (i:Int)]:=rfl
 have EB:(some (P,e,i):Option Cl).isSome=true:=rfl
 rw [EV,EB]
 rw [HI.out] at FIN ⊢
 clear EV EB EI
 have ce:=N4.out.ce
 have ci:=N4.out.ci
 have fi:=N4.out.fi
 rw [HI.out,← HP2.out] at ci
 rw [← HP2.out] at fi FIN
 obtain ⟨p1,hp1⟩:∃ p1,p1=p+1:=⟨_,rfl⟩
 rw [← hp1] at ce ⊢
 have l1:p1<w4.heap.size:=by rw [hp1];exact Dk.lt_of_heap N4.out.be
 have l2:p2<w4.heap.size:=by rw [HP2.out];exact Dk.lt_of_heap N4.out.bi
 have n1:p1≠w4.heap.size:=by omega
 have n2:p2≠w4.heap.size:=by omega
 clear hp1 N4 HI
 generalize (e:Int)=EE at *
 go_wp2
 go_ret3
 exact ⟨rfl,FIN.out⟩
end Go.Proofs.YteempfoajgblaaaGreat.Wl
namespace Go.Proofs.YteempfoajgblaaaGreat.Wl
open Dk (Dk DS Own Moved ptr)
open Sl (Mv below_drewN rowOf rowOf_length strs_push strs_of strs_block)
section
variable {B b q p e i:Nat} {t:WS} {d d':DS} {w0 W W':World}
theorem Nx.rest (h:Nx B b q p t e i d w0 W) (k:∀ (k:Nat) (cs:Array Value) (T:TypeId) (fz:Nat×Nat),W.heap[k]?=some (Obj.cells cs T fz)→T≠9→W'.heap[k]?=W.heap[k]?) (hb:Below w0.heap.size W W') (hs:W.heap.size≤W'.heap.size):Nx B b q p t e i d w0 W':=by
 obtain ⟨g,v,dk⟩:=h.dk
 refine ⟨⟨g,v,dk.of_blocks fun j hj=>?_⟩,h.wl.of_block (k _ _ _ _ h.wl (by decide)),(k _ _ _ _ h.bq (by decide)).trans h.bq,(k _ _ _ _ h.be (by decide)).trans h.be,(k _ _ _ _ h.bi (by decide)).trans h.bi,?_,h.pl,h.bl⟩
 ·rcases dk.owns.1 hj with rfl|rfl|hj
  · exact k _ _ _ _ dk.blk (by decide)
  · exact k _ _ _ _ dk.row (by decide)
  · obtain ⟨cur,hc⟩:=dk.ownBlock hj;exact k _ _ _ _ hc (by decide)
 ·refine ⟨hb.os.trans h.mv.os,hb.tape.trans h.mv.tape,hb.output.trans h.mv.output,Nat.le_trans h.mv.size hs,fun j hj hn=>?_,fun j hj=>h.mv.own j (hj.of_block (hb.block b h.bl))⟩
  rw [hb.block j hj,h.mv.block j hj hn]
end
def ScRel (B b q p:Nat) (t:WS) (s:DS) (e:Nat) (w0:World) (g:Nat) (s7:Value) (wx:World):Prop:=
 ∃ i,i+g=t.n∧Got s t.at_ t.n e i∧Nx B b q p t e i (dsRead s i) w0 wx∧Strs w0.heap.size wx s7 (paysL (rowOf s t.at_ t.n) i)
theorem Nx.shut {B b q p e i:Nat} {t:WS} {d:DS} {w0 W:World} (h:Nx B b q p t e i d w0 W) {v:Value} {x:Option (Nat×Nat)} (hv:v=stV x) :
 Wl q b ⟨t.at_,t.n,x⟩ (W.setCell ⟨q,3,none⟩ v)∧Dk B b d (W.setCell ⟨q,3,none⟩ v)∧Mv b q w0 (W.setCell ⟨q,3,none⟩ v):=
 ⟨h.wl.setSt hv,Sl.Dk_setOther h.dk (h.wl.notOwn h.dk),(Mv.of_moved h.mv).set (h.wl.ne h.dk) 3 _⟩
theorem strs_log {B q b:Nat} {t:WS} {W:World} {v:Value} {ds:List (List UInt8)} (h:Strs B W v ds) (l:Wl q b t W) (o:Nat) (x:Value):Strs B (W.setCell ⟨q,o,none⟩ x) v ds:=
 strs_of h fun g hg=>Below.heap_setCell W ⟨q,o,none⟩ x g (fun e=>by
  obtain ⟨cur,hc⟩:=strs_block h hg
  have e':g=q:=e
  have l':=l
  unfold Wl at l'
  rw [← e',hc] at l';cases l')
theorem strs_form {B:Nat} {w:World} {v:Value} {ds:List (List UInt8)} (h:Strs B w v ds):∃ a cap,v=.slice a ds.length cap:=by
 rcases h.2 with ⟨rfl,h0⟩|⟨g,cap,cur,rfl,_⟩
 · exact ⟨none,0,by rw [h0]⟩
 · exact ⟨_,_,rfl⟩
theorem scan_ends {B b q p:Nat} {t:WS} {s:DS} {e i:Nat} {w w0 W:World} {d:DS} {v:Value} {ds:List (List UInt8)} (hs:scanR s t.at_ t.n e=(d,ds,0)) (h:Nx B b q p ⟨t.at_,t.n,none⟩ e i d w0 W) (st:Strs w0.heap.size W v ds) (m:Mv b q w w0) (hw:w0.heap.size=w.heap.size) {x:Value} (hx:x=stV (some (e,ds.length))) :
 Strs w.heap.size (W.setCell ⟨q,3,none⟩ x) v (scanR s t.at_ t.n e).2.1∧Dk B b (scanR s t.at_ t.n e).1 (W.setCell ⟨q,3,none⟩ x)∧Wl q b ⟨t.at_,t.n,scanS s t.at_ t.n e⟩ (W.setCell ⟨q,3,none⟩ x)∧Mv b q w (W.setCell ⟨q,3,none⟩ x):=by
 obtain ⟨h1,h2,h3⟩:=h.shut hx
 unfold scanS
 rw [hs]
 exact ⟨by rw [← hw];exact strs_log st h.wl 3 x,h2,h1,m.trans h3⟩
theorem scan_fails {B b q p:Nat} {t:WS} {s:DS} {e i:Nat} {w w0 W:World} {d:DS} (hs:scanR s t.at_ t.n e=(d,[],18)) (h:Nx B b q p ⟨t.at_,t.n,none⟩ e i d w0 W) (m:Mv b q w w0) :
 Strs w.heap.size W (.slice none 0 0) (scanR s t.at_ t.n e).2.1∧Dk B b (scanR s t.at_ t.n e).1 W∧Wl q b ⟨t.at_,t.n,scanS s t.at_ t.n e⟩ W∧Mv b q w W:=by
 unfold scanS
 rw [hs]
 exact ⟨strs_nil _ _,h.dk,h.wl,m.trans (.of_moved h.mv)⟩
theorem scan_any {B b q:Nat} {t:WS} {s:DS} (e:Nat) (w:World) (h:Wl q b t w) (dk:Dk B b s w) (hn:1≤t.n) (hl:t.at_+t.n≤s.sec.length) (he:1≤e) (hr:s.reads≤900000000) (ho:s.opn.length≤900000) (hf:s.fail<9223372036854775808) :
 Calls Tryz.prog 163 #[ptr q,.int .u64 (e:Int)] w fun r w'=>∃ v,r=.returned (.tuple #[v,.int .i64 ((scanR s t.at_ t.n e).2.2:Int)])∧Strs w.heap.size w' v (scanR s t.at_ t.n e).2.1∧Dk B b (scanR s t.at_ t.n e).1 w'∧Wl q b ⟨t.at_,t.n,scanS s t.at_ t.n e⟩ w'∧Mv b q w w':=by
 have NO:=Lib.hid (none_any w h hn)
 have hl2:=dk.ok.len
 have W1:=Lib.hid (show Wl q b ⟨t.at_,t.n,none⟩ (w.setCell ⟨q,3,none⟩ (.iface 234 (.agg #[])))∧Dk B b s (w.setCell ⟨q,3,none⟩ (.iface 234 (.agg #[])))∧Mv b q w (w.setCell ⟨q,3,none⟩ (.iface 234 (.agg #[]))) from
  ⟨h.setSt rfl,Sl.Dk_setOther dk (h.notOwn dk),(Mv.refl b q w).set (h.ne dk) 3 _⟩)
 have SZ:Hid ((w.setCell ⟨q,3,none⟩ (.iface 234 (.agg #[]))).heap.size=w.heap.size):=Lib.hid (by simp [World.setCell])
 have c3:=h.c3
 have f3:=h.fz 3
 clear h dk
 have ne:((e:Int)==0)=false:=by simp;omega
 go_enter Tryz.func163,Tryz.ntmps163
 go_wp2_with fail
 go_step3
 go_wp2_with fail
 (with_reducible refine NO.out.mono ?_)
 rintro r1 w1 ⟨rfl,rfl⟩
 clear NO
 go_wp2_with fail
 generalize (w1.setCell ⟨q,3,none⟩ (.iface 234 (.agg #[])))=w0 at *
 have RE:=Lib.hid (reader_any e w0 W1.out.1 W1.out.2.1)
 clear c3 f3
 (with_reducible refine RE.out.mono ?_)
 rintro r2 w2 ⟨rfl,n2⟩
 have N2:=Lib.hid n2
 clear RE n2
 generalize hp:w0.heap.size=p at *
 have HP:=Lib.hid hp
 clear hp
 go_wp2_with fail
 go_step3
 go_wp2_with fail
 go_loopg [7] t.n (ScRel B b q p ⟨t.at_,t.n,none⟩ s e w0)
 case atStart=>exact ⟨0,by simp,got_zero _ _ _ _,N2.out,by rw [paysL_zero];exact strs_nil _ _⟩
 case round=>
  clear N2
  obtain ⟨i,hi,hg,hx,hst⟩:=hrel
  have hi':i+gk=t.n:=hi
  have hg':Got s t.at_ t.n e i:=hg
  have rl:(rowOf s t.at_ t.n).length=t.n:=rowOf_length _ _ _
  clear hi hg
  have PL:(paysL (rowOf s t.at_ t.n) i).length=i:=paysL_length (by rw [rl];exact hg'.1)
  obtain ⟨va,vc,hv⟩:=strs_form hst
  rw [PL] at hv
  subst hv
  have ST:=Lib.hid hst
  have NX:=Lib.hid hx
  clear hst hx
  rcases Nat.lt_or_ge i t.n with hlt|hge
  ·by_cases hio:s.fail-i=1
   ·have EQ:=hg'.io hlt hio
    have ER:=dsRead_io (s:=s) (i:=i) (a:=t.at_+i) (by omega) hio
    have NE:=Lib.hid (next_io wr NX.out hlt (by show t.at_+t.n≤1024;omega) (by show t.at_+t.n≤s.sec.length;exact hl) (by show s.reads+i≤1000000000;omega) (by show s.opn.length≤1000000;omega) hio)
    rw [ER] at NE
    clear ER ST NX
    go_wp2_with fail
    (with_reducible refine NE.out.mono ?_)
    rintro r3 w3 ⟨rfl,n3,x3⟩
    have FIN:=Lib.hid (scan_fails EQ n3 W1.out.2.2)
    have ERR:Hid (((scanR s t.at_ t.n e).2.2:Int)=18):=Lib.hid (by rw [EQ];rfl)
    clear NE n3 W1 hg' EQ PL x3
    go_wp2
    try simp only [Exit.noGoto]
    go_ret2
    exact ⟨_,by rw [ERR.out];rfl,FIN.out⟩
   ·have ER:=dsRead_next (s:=s) (i:=i) (a:=t.at_+i) (by omega) hio
    cases hw:whole (Dk.newestOf s (t.at_+i)) e i with
    | false=>
     have EQ:=hg'.none hlt hw hio
     have NE:=Lib.hid (next_no wr NX.out hlt (by show t.at_+t.n≤1024;omega) (by show t.at_+t.n≤s.sec.length;exact hl) (by show s.reads+i≤1000000000;omega) (by show s.opn.length≤1000000;omega) hio (by show s.fail-i<9223372036854775808;omega) hw)
     rw [ER] at NE
     clear ER
     go_wp2_with fail
     (with_reducible refine NE.out.mono ?_)
     rintro r3 w3 ⟨rfl,n3,x3⟩
     have st3:Strs w0.heap.size w3 (.slice va i vc) (paysL (rowOf s t.at_ t.n) i):=strs_of ST.out fun g hg=>by obtain ⟨cur,hc⟩:=strs_block ST.out hg;exact x3 g cur _ hc
     have FIN:=Lib.hid (fun (x:Value) (hx:x=stV (some (e,i)))=>scan_ends (x:=x) EQ n3 st3 W1.out.2.2 (HP.out.trans SZ.out) (by rw [PL];exact hx))
     have ERR:Hid (((scanR s t.at_ t.n e).2.2:Int)=0):=Lib.hid (by rw [EQ];rfl)
     have c3:=n3.wl.c3
     have f3:=n3.wl.fz 3
     clear n3 st3 W1 NE hg' EQ PL ST NX hw x3
     go_wp2
     try simp only [Exit.noGoto]
     go_ret2
     exact ⟨_,by rw [ERR.out];rfl,FIN.out _ rfl⟩
    | true=>
     have G1:=Lib.hid (hg'.succ hlt hw hio)
     have NE:=Lib.hid (next_yes wr NX.out hlt (by show t.at_+t.n≤1024;omega) (by show t.at_+t.n≤s.sec.length;exact hl) (by show s.reads+i≤1000000000;omega) (by show s.opn.length≤1000000;omega) hio (by show s.fail-i<9223372036854775808;omega) hw)
     rw [ER] at NE
     have PS:=Lib.hid (paysL_row (s:=s) (a:=t.at_) hlt)
     have NW:Dk.newestOf (dsRead s i) (t.at_+i)=Dk.newestOf s (t.at_+i):=rfl
     dsimp only at NE
     rw [NW] at NE
     clear ER NW hw hg'
     generalize payOf (Dk.newestOf s (t.at_+i))=X at *
     go_wp2_with fail
     (with_reducible refine NE.out.mono ?_)
     rintro r3 w3 ⟨rfl,n3,x3⟩
     have st3:Strs w0.heap.size w3 (.slice va i vc) (paysL (rowOf s t.at_ t.n) i):=strs_of ST.out fun g hg=>by obtain ⟨cur,hc⟩:=strs_block ST.out hg;exact x3 g cur _ hc
     obtain ⟨v',w',hap,s4,b4,z4,k4,-,-⟩:=strs_push w0.heap.size w3 _ _ X st3 n3.mv.size (by rw [PL];omega)
     rw [← PS.out] at s4
     have N:=Lib.hid (show ScRel B b q p ⟨t.at_,t.n,none⟩ s e w0 (gk-1) v' w' from ⟨i+1,by show i+1+(gk-1)=t.n;omega,G1.out,n3.rest k4 b4 z4,s4⟩)
     have hg0:0<gk:=by omega
     clear n3 st3 s4 b4 z4 k4 NE ST NX x3 PS G1 PL W1
     go_wp2_with (at_builtin;refine Lib.wpList_append_run _ rfl _ _ _ _ rfl _ _ rfl rfl _ _ hap ?_)
     go_roundg (gk-1)
     case measure=>omega
     case rel=>exact N.out
  ·obtain rfl:i=t.n:=by omega
   have EQ:=hg'.full
   have NE:=Lib.hid (next_end wr NX.out)
   go_wp2_with fail
   (with_reducible refine NE.out.mono ?_)
   rintro r3 w3 ⟨rfl,n3,x3⟩
   have st3:Strs w0.heap.size w3 (.slice va t.n vc) (paysL (rowOf s t.at_ t.n) t.n):=strs_of ST.out fun g hg=>by obtain ⟨cur,hc⟩:=strs_block ST.out hg;exact x3 g cur _ hc
   have FIN:=Lib.hid (fun (x:Value) (hx:x=stV (some (e,t.n)))=>scan_ends (x:=x) EQ n3 st3 W1.out.2.2 (HP.out.trans SZ.out) (by rw [PL];exact hx))
   have ERR:Hid (((scanR s t.at_ t.n e).2.2:Int)=0):=Lib.hid (by rw [EQ];rfl)
   have c3:=n3.wl.c3
   have f3:=n3.wl.fz 3
   clear n3 st3 W1 NE hg' EQ PL ST NX x3
   go_wp2
   try simp only [Exit.noGoto]
   go_ret2
   exact ⟨_,by rw [ERR.out];rfl,FIN.out _ rfl⟩
end Go.Proofs.YteempfoajgblaaaGreat.Wl
