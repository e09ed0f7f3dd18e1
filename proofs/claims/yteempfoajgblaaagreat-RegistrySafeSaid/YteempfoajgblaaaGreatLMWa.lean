/- A log in memory; contracts of package wal's small functions. Contracts of package wal's New, Start, .. -/
import Derived.Test.YteempfoajgblaaaGreatLSlA
import Derived.Test.YteempfoajgblaaaGreatLMWx
import Derived.BigQuiet
set_option maxRecDepth 100000
set_option linter.unusedVariables false
set_option linter.unusedSimpArgs false
open Go.ChangeShapes Go.WideShapes Go.ChangeAt Go.RowKit Go.Joins
set_option maxHeartbeats 1000000
namespace Go.Proofs.YteempfoajgblaaaGreat.Wl
open Dk (Dk DS Own Moved ptr)
open Sl (Mv below_drewN)
def stV:Option (Nat×Nat)→Value
 | none=>.iface 234 (.agg #[])
 | some (e,c)=>.iface 243 (.agg #[.int .u64 (e:Int),.int .i64 (c:Int)])
def cellsOf (b:Nat) (t:WS):Array Value:=#[ptr b,.int .i64 (t.at_:Int),.int .i64 (t.n:Int),stV t.st]
def Wl (q b:Nat) (t:WS) (w:World):Prop:=w.heap[q]?=some (.cells (cellsOf b t) 226 (0,0))
section
variable {q b:Nat} {t:WS} {w w':World}
theorem Wl.lt (h:Wl q b t w):q<w.heap.size:=Dk.lt_of_heap h
theorem Wl.of_block (h:Wl q b t w) (e:w'.heap[q]?=w.heap[q]?):Wl q b t w':=by unfold Wl at *;rw [e];exact h
theorem Wl.call (h:Wl q b t w) (hb:Below w.heap.size w w'):Wl q b t w':=h.of_block (hb.block q h.lt)
theorem Wl.c0 (h:Wl q b t w):w.cell? ⟨q,0,none⟩=some (ptr b):=by rw [Lib.cell_of_heap h];rfl
theorem Wl.c1 (h:Wl q b t w):w.cell? ⟨q,1,none⟩=some (.int .i64 (t.at_:Int)):=by rw [Lib.cell_of_heap h];rfl
theorem Wl.c2 (h:Wl q b t w):w.cell? ⟨q,2,none⟩=some (.int .i64 (t.n:Int)):=by rw [Lib.cell_of_heap h];rfl
theorem Wl.c3 (h:Wl q b t w):w.cell? ⟨q,3,none⟩=some (stV t.st):=by rw [Lib.cell_of_heap h];rfl
theorem Wl.fz (h:Wl q b t w) (o:Nat):w.frozen? ⟨q,o,none⟩=false:=Lib.frozen_of_heap h o
theorem Wl.setSt (h:Wl q b t w) {v:Value} {x:Option (Nat×Nat)} (e:v=stV x):Wl q b ⟨t.at_,t.n,x⟩ (w.setCell ⟨q,3,none⟩ v):=by
 subst e;unfold Wl at *;simp [World.setCell,Array.getElem?_modify,h,cellsOf]
theorem Wl.notOwn {B c:Nat} {s:DS} (h:Wl q b t w) (d:Dk B c s w):¬Own w c q:=by
 obtain ⟨g,v,d⟩:=d
 exact d.keepT h (by decide) (by decide) (by decide)
theorem Wl.disk {B c:Nat} {s:DS} (h:Wl q b t w) (d:Dk B c s w) (m:Moved c w w'):Wl q b t w':=h.of_block (m.block q h.lt (h.notOwn d))
theorem Wl.ne {B:Nat} {s:DS} (h:Wl q b t w) (d:Dk B b s w):q≠b:=fun e=>h.notOwn d (.inl e)
end
theorem none_any {q b:Nat} {t:WS} (w:World) (h:Wl q b t w) (hn:1≤t.n) :
 Calls Tryz.prog 144 #[ptr q] w fun e w'=>e=.returned (.bool false)∧w'=w:=by
 have c2:=h.c2
 clear h
 have ne:((t.n:Int)==0)=false:=by simp;omega
 have ne2:¬(t.n:Int)=0:=by omega
 generalize (t.n:Int)=K at *
 go_enter Tryz.func144,Tryz.ntmps144
 go_wp2
 go_ret
 exact ⟨rfl,rfl⟩
theorem left_open (e c:Int) (n:Int) (w:World) (h0:0≤c) (h1:c≤n) (h2:n≤1024) :
 Calls Tryz.prog 203 #[.agg #[.int .u64 e,.int .i64 c],.int .i64 n] w fun r w'=>r=.returned (.int .i64 (n-c))∧Below w.heap.size w w':=by
 have FIN:=Lib.hid ((Below.refl w.heap.size w).alloc (Nat.le_refl _) (.cells #[.int .u64 e,.int .i64 c] 243))
 go_enter Tryz.func203,Tryz.ntmps203
 go_wp2
 go_ret
 exact ⟨rfl,FIN.out⟩
end Go.Proofs.YteempfoajgblaaaGreat.Wl
namespace Go.Proofs.YteempfoajgblaaaGreat.Wl
open Dk (Dk DS Own Moved ptr)
open Sl (Mv below_drewN)
theorem new_yes (B b:Nat) (s:DS) (a n:Nat) (w:World) (h:Dk B b s w) (h1:1≤n) (h3:a+n≤s.sec.length) :
 Calls Tryz.prog 101 #[ptr b,.int .i64 (a:Int),.int .i64 (n:Int)] w fun e w'=>e=.returned (ptr w.heap.size)∧Wl w.heap.size b ⟨a,n,none⟩ w'∧Below w.heap.size w w':=by
 have LN:=Lib.hid (Dk.len_any B b s w h)
 have hl:=h.ok.len
 have FIN:Hid (Wl w.heap.size b ⟨a,n,none⟩ (w.alloc (.cells (cellsOf b ⟨a,n,none⟩) 226))∧Below w.heap.size w (w.alloc (.cells (cellsOf b ⟨a,n,none⟩) 226))):=
  Lib.hid ⟨heap_alloc_new _ _,(Below.refl _ _).alloc (Nat.le_refl _) _⟩
 clear h
 generalize hA:(a:Int)=A at *
 generalize hK:(n:Int)=K at *
 generalize hL:(s.sec.length:Int)=L at *
 have k1:1≤K:=by omega
 have a0:0≤A:=by omega
 have a1:A≤L-K:=by omega
 have l1:L≤1024:=by omega
 have l0:0≤L:=by omega
 go_enter Tryz.func101,Tryz.ntmps101
 go_wp2_with fail
 (with_reducible refine LN.out.mono ?_)
 rintro e w1 ⟨rfl,rfl⟩
 clear LN
 go_wp2
 go_ret
 have e:(#[ptr b,.int .i64 A,.int .i64 K,.iface 234 (.agg #[])]:Array Value)=cellsOf b ⟨a,n,none⟩:=by
  rw [← hA,← hK];rfl
 rw [e]
 exact ⟨rfl,FIN.out⟩
theorem start_any {B q b:Nat} {t:WS} {s:DS} (e:Nat) (w:World) (h:Wl q b t w) (d:Dk B b s w) (hn:1≤t.n) (he:1≤e) :
 Calls Tryz.prog 108 #[ptr q,.int .u64 (e:Int)] w fun r w'=>r=.returned (.int .i64 0)∧Wl q b ⟨t.at_,t.n,some (e,0)⟩ w'∧Dk B b s w'∧Mv b q w w':=by
 have NO:=Lib.hid (none_any w h hn)
 have FIN:=Lib.hid (show Wl q b ⟨t.at_,t.n,some (e,0)⟩ (w.setCell ⟨q,3,none⟩ (.iface 243 (.agg #[.int .u64 (e:Int),.int .i64 0])))∧Dk B b s (w.setCell ⟨q,3,none⟩ (.iface 243 (.agg #[.int .u64 (e:Int),.int .i64 0])))∧Mv b q w (w.setCell ⟨q,3,none⟩ (.iface 243 (.agg #[.int .u64 (e:Int),.int .i64 0]))) from
  ⟨h.setSt rfl,Sl.Dk_setOther d (h.notOwn d),(Mv.refl b q w).set (h.ne d) 3 _⟩)
 have c3:=h.c3
 have f3:=h.fz 3
 clear h d
 have ne:((e:Int)==0)=false:=by simp;omega
 generalize (e:Int)=E at *
 go_enter Tryz.func108,Tryz.ntmps108
 go_wp2_with fail
 (with_reducible refine NO.out.mono ?_)
 rintro e w1 ⟨rfl,rfl⟩
 clear NO
 go_wp2
 go_ret
 exact ⟨rfl,FIN.out⟩
def rdV (e c:Nat):Value:=.agg #[.int .u64 (e:Int),.int .i64 (c:Int)]
theorem ta_shut (v:Value) (w:World):(Instr.typeAssert (.iface 234 v) 224 243 true).run Tryz.prog w=.ok (.tuple #[.agg #[.int .u64 0,.int .i64 0],.bool false]) w:=by kernel_rfl
theorem ta_open (v:Value) (w:World):(Instr.typeAssert (.iface 243 v) 224 243 true).run Tryz.prog w=.ok (.tuple #[v,.bool true]) w:=by kernel_rfl
def OpAt (w:World) (p:Nat) (e c:Int):Prop:=w.heap[p]?=some (.cells #[.int .u64 e,.int .i64 c] 243 (0,0))
theorem OpAt.c0 {w:World} {p:Nat} {e c:Int} (h:OpAt w p e c):w.cell? ⟨p,0,none⟩=some (.int .u64 e):=by rw [Lib.cell_of_heap h];rfl
theorem OpAt.c1 {w:World} {p:Nat} {e c:Int} (h:OpAt w p e c):w.cell? ⟨p,1,none⟩=some (.int .i64 c):=by rw [Lib.cell_of_heap h];rfl
theorem OpAt.fz {w:World} {p:Nat} {e c:Int} (h:OpAt w p e c) (o:Nat):w.frozen? ⟨p,o,none⟩=false:=Lib.frozen_of_heap h o
theorem OpAt.call {w w':World} {p:Nat} {e c:Int} (h:OpAt w p e c) (hb:Below w.heap.size w w'):OpAt w' p e c:=by unfold OpAt at *;rw [hb.block p (Dk.lt_of_heap h)];exact h
theorem opAt_new (w:World) (e c:Int):OpAt (w.alloc (.cells #[.int .u64 e,.int .i64 c] 243)) w.heap.size e c:=heap_alloc_new _ _
theorem ready_shut {q b:Nat} {t:WS} (w:World) (h:Wl q b t w) (hs:t.st=none) :
 Calls Tryz.prog 177 #[ptr q] w fun r w'=>r=.returned (.tuple #[rdV 0 0,.int .i64 13])∧Below w.heap.size w w':=by
 have c3:=h.c3
 rw [hs] at c3
 have c3':w.cell? ⟨q,3,none⟩=some (.iface 234 (.agg #[])):=c3
 have ql:=h.lt
 have qn:q≠w.heap.size:=by omega
 have TA:=ta_shut
 have FIN:=Lib.hid ((Below.refl w.heap.size w).alloc (Nat.le_refl _) (.cells #[.int .u64 0,.int .i64 0] 243))
 clear h c3 hs
 go_enter Tryz.func177,Tryz.ntmps177
 go_wp2
 refine bodyPost_ret (v:=.tuple #[rdV 0 0,.int .i64 13]) (by simp [results,Tryz.results177,go_sem,rdV]) rfl ⟨rfl,FIN.out⟩
theorem ready_open {q b:Nat} {t:WS} {e c:Nat} (w:World) (h:Wl q b t w) (hs:t.st=some (e,c)) (hc:c≤t.n) (hn:t.n≤1024) :
 Calls Tryz.prog 177 #[ptr q] w fun r w'=>r=.returned (if c=t.n then .tuple #[rdV 0 0,.int .i64 22] else .tuple #[rdV e c,.int .i64 0])∧Below w.heap.size w w':=by
 have c3:=h.c3
 have c2:=h.c2
 rw [hs] at c3
 have c3':w.cell? ⟨q,3,none⟩=some (.iface 243 (.agg #[.int .u64 (e:Int),.int .i64 (c:Int)])):=c3
 have ql:=h.lt
 have qn:q≠w.heap.size:=by omega
 have qn2:q≠w.heap.size+1:=by omega
 have TA:=ta_open
 have LC:=Lib.hid (fun w=>left_open (e:Int) (c:Int) (t.n:Int) w (by omega) (by omega) (by omega))
 obtain ⟨W,hW⟩:∃ W,W=(w.alloc (.cells #[.int .u64 0,.int .i64 0] 243)).alloc (.cells #[.int .u64 (e:Int),.int .i64 (c:Int)] 243):=⟨_,rfl⟩
 have bW:Below w.heap.size w W:=by rw [hW];exact ((Below.refl _ _).alloc (Nat.le_refl _) _).alloc (by simp) _
 have o2:OpAt W w.heap.size 0 0:=by rw [hW];exact (opAt_new w 0 0).call ((Below.refl _ _).alloc (Nat.le_refl _) _)
 have o4:OpAt W (w.heap.size+1) (e:Int) (c:Int):=by
  have:=opAt_new (w.alloc (.cells #[.int .u64 0,.int .i64 0] 243)) (e:Int) (c:Int)
  rw [World.size_alloc] at this
  rw [hW];exact this
 have c2W:W.cell? ⟨q,2,none⟩=some (.int .i64 (t.n:Int)):=by rw [bW.cell (p:=⟨q,2,none⟩) ql];exact c2
 have HO:=Lib.hid (And.intro o2 (And.intro o4 bW))
 have HB:Hid (∀ w2,Below W.drew.heap.size W.drew w2→OpAt w2 w.heap.size 0 0∧OpAt w2 (w.heap.size+1) (e:Int) (c:Int)∧Below w.heap.size w w2):=Lib.hid (fun w2 hb=>by
  have hb':Below W.heap.size W w2:=(Below.refl W.heap.size W).drew.trans hb
  exact ⟨o2.call hb',o4.call hb',bW.trans (hb'.mono bW.size)⟩)
 have d0:=o4.c0
 have d1:=o4.c1
 clear h c3 hs o2 o4 bW c2
 by_cases hcn:c=t.n
 ·rw [if_pos hcn]
  have HE:((t.n:Int)-(c:Int)==0)=true:=by rw [hcn];simp
  generalize (t.n:Int)=K at *
  generalize (e:Int)=E at *
  generalize (c:Int)=C at *
  go_enter Tryz.func177,Tryz.ntmps177
  go_wp2_with fail
  simp only [← hW]
  clear hW
  generalize w.heap.size+1=p4 at *
  go_region_with (go_at_call 203;(with_reducible refine (LC.out _).mono ?_);rintro e w2 ⟨rfl,b1⟩;obtain ⟨z2,z4,zb⟩:=HB.out _ b1;have y0:=z2.c0;have y1:=z2.c1;have f0:=z2.fz 0;have f1:=z2.fz 1)
  all_goals go_wp2
  all_goals refine bodyPost_ret (v:=.tuple #[rdV 0 0,.int .i64 22]) (by simp [results,Tryz.results177,go_sem,rdV,y0,y1]) rfl ⟨rfl,(zb.setCell (Nat.le_refl _) _).setCell (Nat.le_refl _) _⟩
 ·rw [if_neg hcn]
  have HE:((t.n:Int)-(c:Int)==0)=false:=by simp;omega
  generalize (t.n:Int)=K at *
  have RV:rdV e c=.agg #[.int .u64 (e:Int),.int .i64 (c:Int)]:=rfl
  rw [RV]
  clear RV
  generalize (e:Int)=E at *
  generalize (c:Int)=C at *
  go_enter Tryz.func177,Tryz.ntmps177
  go_wp2_with fail
  simp only [← hW]
  clear hW
  generalize w.heap.size+1=p4 at *
  go_region_with (go_at_call 203;(with_reducible refine (LC.out _).mono ?_);rintro e w2 ⟨rfl,b1⟩;obtain ⟨z2,z4,zb⟩:=HB.out _ b1;have y0:=z2.c0;have y1:=z2.c1;have f0:=z2.fz 0;have f1:=z2.fz 1;have x0:=z4.c0;have x1:=z4.c1)
  all_goals go_wp2
  all_goals refine bodyPost_ret (v:=.tuple #[.agg #[.int .u64 E,.int .i64 C],.int .i64 0]) (by simp [results,Tryz.results177,go_sem,rdV,y0,y1]) rfl ⟨rfl,(zb.setCell (Nat.le_refl _) _).setCell (Nat.le_refl _) _⟩
end Go.Proofs.YteempfoajgblaaaGreat.Wl
