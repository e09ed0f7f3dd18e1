/- Rows of tasks, seen as layer 12 sees them; Test both ways of a row. How the arguments of the statements of layer 15 are opened: numbers of ops, one by one and in rows. -/
import Derived.Test.YteempfoajgblaaaGreatKMJm
import Derived.Test.YteempfoajgblaaaGreatKMTt
import Derived.Test.YteempfoajgblaaaGreatKMQa
import Derived.Test.YteempfoajgblaaaGreatKQpE
import Derived.Test.YteempfoajgblaaaGreatKMTa
import Derived.ChangeOld
import Derived.ShutString
import Derived.ChangeMaps5
namespace Go.Proofs.YteempfoajgblaaaGreat.Ju
open Go.ChangeShapes Go.WideShapes Go.ChangeAt Go.RowKit Go.Joins
open Pm (Tk Ts TkAt)
open Ge (El Seen Row)
open Qp (testR test_any rtest_any)
open Tb
set_option maxRecDepth 100000
set_option maxRecDepth 100000
set_option linter.unusedVariables false
set_option linter.unusedSimpArgs false
theorem seen_ts {ao:Option Addr} {l:List Tk} {w:World} (h:Seen tcs 5 ao l w):Ts ao l w:=fun h0=>by
 obtain ⟨b,off,rfl,hb,hat⟩:=h h0
 refine ⟨b,off,rfl,hb,fun i x hi=>?_⟩
 obtain ⟨c0,c1,c2,c3,c4⟩:=tk_cells hat hi
 exact ⟨c0,c1,c2,c3,c4⟩
theorem test_seen (l:List Tk) (ao:Option Addr) (cap:Nat) (w:World) (h:Seen tcs 5 ao l w) (hl:l.length≤1000000) :
 Calls Tryz.prog 172 #[.slice ao l.length cap] w fun e w'=>e=.returned (.int .i64 (testR l))∧Below w.heap.size w w':=test_any l ao cap w (seen_ts h) hl
theorem rtest_seen (l:List Tk) (ao:Option Addr) (cap:Nat) (w:World) (h:Seen tcs 5 ao l w) (hl:l.length≤1000000) :
 Calls Tryz.prog 99 #[.slice ao l.length cap] w fun e w'=>e=.returned (.int .i64 (testR l))∧Below w.heap.size w w':=rtest_any l ao cap w (seen_ts h) hl
end Go.Proofs.YteempfoajgblaaaGreat.Ju
namespace Go.Proofs.YteempfoajgblaaaGreat.Ju
open Go.ChangeShapes Go.WideShapes Go.ChangeAt Go.RowKit Go.Joins
open Pm (I64)
open Ge (El Seen Row)
set_option maxRecDepth 100000
set_option maxRecDepth 100000
set_option linter.unusedVariables false
set_option linter.unusedSimpArgs false
theorem one_of {cs:List Value} {j:Nat} (h:j<cs.length):(cs.drop j).take 1=[cs[j]]:=by
 rw [List.drop_eq_getElem_cons h]; rfl
theorem i64_wf {z:Int} (h:(Lit.int .i64 z).wf=true):I64 z:=by
 have:=bounds_i64 h
 unfold I64; omega
def Nm.cs (n:Nm):List Value:=[.int .i64 n.kind,.int .i64 n.id,.int .i64 n.c,.int .i64 n.d,.int .i64 n.t,.int .i64 n.m,.bool n.sv]
def Nm.v (n:Nm):Value:=.agg #[.int .i64 n.kind,.int .i64 n.id,.int .i64 n.c,.int .i64 n.d,.int .i64 n.t,.int .i64 n.m,.bool n.sv]
structure Nm.Ok (n:Nm):Prop where
 kind:I64 n.kind
 id:I64 n.id
 c:I64 n.c
 d:I64 n.d
 t:I64 n.t
 m:I64 n.m
theorem open_nmc {H:Type} {enc:TypeId×Value→H} {W:World} {base:Nat} {spare:Nat→Bool} {held:Bool} {fuel:Nat} {cs:List Value} {x:DataW H×List MemPlace} (hl:cs.length=7)
 (hf:DataW.trod enc Tryz.prog W base spare held fuel 36 cs=some x):∃ n:Nm,cs=n.cs∧n.Ok:=by
 have ci:Tryz.prog.cellsOf 3=1:=by kernel_rfl
 have cb:Tryz.prog.cellsOf 4=1:=by kernel_rfl
 obtain ⟨ys,n',hn',hy,hlen,hyl,hfd⟩:=DataW.trod_struct Tryz.underlying36 hf
 have g0:DataW.trod enc Tryz.prog W base spare held n' 3 ((cs.drop 0).take (Tryz.prog.cellsOf 3))=ys[0]?:=hfd 0 _ rfl
 have g1:DataW.trod enc Tryz.prog W base spare held n' 3 ((cs.drop 1).take (Tryz.prog.cellsOf 3))=ys[1]?:=hfd 1 _ rfl
 have g2:DataW.trod enc Tryz.prog W base spare held n' 3 ((cs.drop 2).take (Tryz.prog.cellsOf 3))=ys[2]?:=hfd 2 _ rfl
 have g3:DataW.trod enc Tryz.prog W base spare held n' 3 ((cs.drop 3).take (Tryz.prog.cellsOf 3))=ys[3]?:=hfd 3 _ rfl
 have g4:DataW.trod enc Tryz.prog W base spare held n' 3 ((cs.drop 4).take (Tryz.prog.cellsOf 3))=ys[4]?:=hfd 4 _ rfl
 have g5:DataW.trod enc Tryz.prog W base spare held n' 3 ((cs.drop 5).take (Tryz.prog.cellsOf 3))=ys[5]?:=hfd 5 _ rfl
 have g6:DataW.trod enc Tryz.prog W base spare held n' 4 ((cs.drop 6).take (Tryz.prog.cellsOf 4))=ys[6]?:=hfd 6 _ rfl
 have hy7:ys.length=7:=by rw [hyl]; rfl
 rw [ci,one_of (j:=0) (by omega),List.getElem?_eq_getElem (by omega)] at g0
 obtain ⟨z0,e0,-,w0⟩:=DataW.trod_int Tryz.underlying3 g0
 rw [ci,one_of (j:=1) (by omega),List.getElem?_eq_getElem (by omega)] at g1
 obtain ⟨z1,e1,-,w1⟩:=DataW.trod_int Tryz.underlying3 g1
 rw [ci,one_of (j:=2) (by omega),List.getElem?_eq_getElem (by omega)] at g2
 obtain ⟨z2,e2,-,w2⟩:=DataW.trod_int Tryz.underlying3 g2
 rw [ci,one_of (j:=3) (by omega),List.getElem?_eq_getElem (by omega)] at g3
 obtain ⟨z3,e3,-,w3⟩:=DataW.trod_int Tryz.underlying3 g3
 rw [ci,one_of (j:=4) (by omega),List.getElem?_eq_getElem (by omega)] at g4
 obtain ⟨z4,e4,-,w4⟩:=DataW.trod_int Tryz.underlying3 g4
 rw [ci,one_of (j:=5) (by omega),List.getElem?_eq_getElem (by omega)] at g5
 obtain ⟨z5,e5,-,w5⟩:=DataW.trod_int Tryz.underlying3 g5
 rw [cb,one_of (j:=6) (by omega),List.getElem?_eq_getElem (by omega)] at g6
 obtain ⟨z6,e6,-⟩:=DataW.trod_bool Tryz.underlying4 g6
 refine ⟨⟨z0,z1,z2,z3,z4,z5,z6⟩,?_,⟨i64_wf w0,i64_wf w1,i64_wf w2,i64_wf w3,i64_wf w4,i64_wf w5⟩⟩
 clear hfd hy g0 g1 g2 g3 g4 g5 g6 hf
 match cs,hl,e0,e1,e2,e3,e4,e5,e6 with
 | [u0,u1,u2,u3,u4,u5,u6],_,e0,e1,e2,e3,e4,e5,e6=>
  simp at e0 e1 e2 e3 e4 e5 e6
  subst e0 e1 e2 e3 e4 e5 e6
  rfl
theorem open_els {α:Type} [Inhabited α] {H:Type} {enc:TypeId×Value→H} {W:World} {base:Nat} {spare:Nat→Bool} {held:Bool} {fuel:Nat} {T ST:TypeId} {n:Nat} {f:α→List Value} {v:Value} {x:DataW H×List MemPlace} (hST:Tryz.prog.underlying ST=some (.slice T)) (hC:Tryz.prog.cellsOf T=n) (hn:0<n) (hlen:∀ y,(f y).length=n)
 (hel:∀ (m:Nat) (cs:List Value) (z:DataW H×List MemPlace),cs.length=n→DataW.trod enc Tryz.prog W base spare held m T cs=some z→∃ y,cs=f y)
 (hf:DataW.trod enc Tryz.prog W base spare held fuel ST [v]=some x) :
 ∃ (ao:Option Addr) (l:List α) (cap:Nat),v=.slice ao l.length cap∧l.length≤9223372036854775807∧l.length≤cap∧(ao=none→cap=0)∧Seen f n ao l W:=by
 rcases Go.Deep.open_slice hST hf with ⟨hcs,hx⟩ | ⟨a,len,cap,m,k,D,Pl,hcs,_,hl,hm,hmm,hx,hi⟩
 ·simp at hcs
  subst hcs
  exact ⟨none,[],0,rfl,by simp,by simp,fun _=>rfl,Ge.seen_nil _ _⟩
 ·simp at hcs
  subst hcs
  have hml:len≤m:=by rw [hmm]; split <;> omega
  rw [hC] at hi
  have key:∀ i,i<len→∃ y:α,∀ j u,(f y)[j]?=some u→W.cell? ((a.add (i*n)).add j)=some u:=by
   intro i hil
   obtain ⟨cs,hc,ht⟩:=hi i (by omega)
   obtain ⟨_,hcl,hat⟩:=World.cells?_some hc
   obtain ⟨y,rfl⟩:=hel _ cs _ hcl ht
   refine ⟨y,fun j u hj=>?_⟩
   have hjl:=(List.getElem?_eq_some_iff.1 hj).1
   have:=hat j (by rw [hlen] at hjl; exact hjl)
   rw [hj] at this
   exact this
  obtain ⟨g,hg⟩:=Go.Deep.choose_lt key
  have hlenm:((List.range len).map g).length=len:=by simp
  refine ⟨some a,(List.range len).map g,cap,by rw [hlenm],by rw [hlenm]; unfold maxLen at hm; omega,by rw [hlenm]; exact hl,⟨fun h=>by simp at h,fun h0=>?_⟩⟩
  rw [hlenm] at h0
  obtain ⟨b,off,spot⟩:=a
  have h00:(f (g 0))[0]?=some ((f (g 0))[0]'(by rw [hlen]; exact hn)):=List.getElem?_eq_getElem _
  have c0:=hg 0 h0 0 _ h00
  have hspot:spot=none:=by simpa [Addr.add] using World.cell?_spot c0
  subst hspot
  refine ⟨b,off,rfl,World.block_lt_of_cell? _ _ (by rw [Ge.addr_add,Ge.addr_add] at c0; exact c0),fun i y hiy j u hj=>?_⟩
  obtain ⟨hi2,rfl⟩:=List.getElem?_eq_some_iff.1 hiy
  simp only [List.getElem_map,List.getElem_range] at hj
  have:=hg i (by omega) j u hj
  rw [Ge.addr_add,Ge.addr_add] at this
  exact this
instance:Inhabited Nm:=⟨⟨0,0,0,0,0,0,false⟩⟩
theorem open_nms {H:Type} {enc:TypeId×Value→H} {W:World} {r:Reach} {b0 base:Nat} {spare:Nat→Bool} {held:Bool} {v:Value} {d:DataW H} {p:List MemPlace}
 (hok:Value.okWide Tryz.prog W r b0 74 v) (h:DataW.Trod enc Tryz.prog W base spare held 74 v d p) :
 ∃ (ao:Option Addr) (l:List Nm) (cap:Nat),v=.slice ao l.length cap∧l.length≤9223372036854775807∧l.length≤cap∧Seen Nm.cs 7 ao l W:=by
 obtain ⟨ao,len,cap,rfl⟩:=okWide_slice Tryz.underlying74 hok
 obtain ⟨fuel,hf⟩:=h
 obtain ⟨ao',l,cap',e,h1,h2,-,h3⟩:=open_els (f:=Nm.cs) (n:=7) Tryz.underlying74 (by kernel_rfl) (by omega) (fun _=>rfl) (fun m cs z hl ht=>by obtain ⟨o,e,-⟩:=open_nmc hl ht; exact ⟨o,e⟩) (by simpa [Value.cells] using hf)
 exact ⟨ao',l,cap',e,h1,h2,h3⟩
end Go.Proofs.YteempfoajgblaaaGreat.Ju
