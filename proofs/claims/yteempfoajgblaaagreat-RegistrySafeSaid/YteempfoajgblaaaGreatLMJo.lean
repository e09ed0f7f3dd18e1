/- Rows of tasks, seen as layer 12 sees them; Test both ways of a row. How the arguments of the .. -/
import Derived.Test.YteempfoajgblaaaGreatLMJm
import Derived.Test.YteempfoajgblaaaGreatLMTt
import Derived.Test.YteempfoajgblaaaGreatLMQa
import Derived.Test.YteempfoajgblaaaGreatLQpE
import Derived.Test.YteempfoajgblaaaGreatLMTa
import Derived.ChangeOld
import Derived.ShutString
import Derived.ChangeMaps5
set_option maxRecDepth 100000
set_option linter.unusedVariables false
set_option linter.unusedSimpArgs false
open Go.ChangeShapes Go.WideShapes Go.ChangeAt Go.RowKit Go.Joins
namespace Go.Proofs.YteempfoajgblaaaGreat.Ju
open Pm (Tk Ts TkAt)
open Ge (El Seen Row)
open Qp (testR test_any rtest_any)
open Tb
theorem seen_ts {ao:Option Addr} {l:List Tk} {w:World} (h:Seen tcs 5 ao l w):Ts ao l w:=fun h0=>by
 obtain ⟨b,off,rfl,hb,hat⟩:=h h0
 refine ⟨b,off,rfl,hb,fun i x hi=>?_⟩
 obtain ⟨c0,c1,c2,c3,c4⟩:=tk_cells hat hi
 exact ⟨c0,c1,c2,c3,c4⟩
theorem test_seen (l:List Tk) (ao:Option Addr) (cap:Nat) (w:World) (h:Seen tcs 5 ao l w) (hl:l.length≤1000000) :
 Calls Tryz.prog 172 #[.slice ao l.length cap] w fun e w'=>e=.returned (.int .i64 (testR l))∧Below w.heap.size w w':=test_any l ao cap w (seen_ts h) hl
theorem rtest_seen (l:List Tk) (ao:Option Addr) (cap:Nat) (w:World) (h:Seen tcs 5 ao l w) (hl:l.length≤1000000) :
 Calls Tryz.prog 99 #[.slice ao l.length cap] w fun e w'=>e=.returned (.int .i64 (testR l))∧Below w.heap.size w w':=rtest_any l ao cap w (seen_ts h) hl
end Go.Proofs.YteempfoajgblaaaGreat.Ju
namespace Go.Proofs.YteempfoajgblaaaGreat.Ju
open Pm (I64)
open Ge (El Seen Row)
theorem one_of {cs:List Value} {j:Nat} (h:j<cs.length):(cs.drop j).take 1=[cs[j]]:=by
 rw [List.drop_eq_getElem_cons h];rfl
theorem i64_wf {z:Int} (h:(Lit.int .i64 z).wf=true):I64 z:=by
 have:=bounds_i64 h
 unfold I64;omega
def Nm.cs (n:Nm):List Value:=[.int .i64 n.kind,.int .i64 n.id,.int .i64 n.c,.int .i64 n.d,.int .i64 n.t,.int .i64 n.m,.bool n.sv]
def Nm.v (n:Nm):Value:=.agg #[.int .i64 n.kind,.int .i64 n.id,.int .i64 n.c,.int .i64 n.d,.int .i64 n.t,.int .i64 n.m,.bool n.sv]
structure Nm.Ok (n:Nm):Prop where
 kind:I64 n.kind
 id:I64 n.id
 c:I64 n.c
 d:I64 n.d
 t:I64 n.t
 m:I64 n.m
theorem open_nmc {H:Type} {enc:TypeId×Value→H} {W:World} {base:Nat} {spare:Nat→Bool} {held:Bool} {fuel:Nat} {cs:List Value} {x:DataW H×List MemPlace} (hl:cs.length=7)
 (hf:DataW.trod enc Tryz.prog W base spare held fuel 36 cs=some x):∃ n:Nm,cs=n.cs∧n.Ok:=by
 have ci:Tryz.prog.cellsOf 3=1:=by kernel_rfl
 have cb:Tryz.prog.cellsOf 4=1:=by kernel_rfl
 obtain ⟨ys,n',hn',hy,hlen,hyl,hfd⟩:=DataW.trod_struct Tryz.underlying36 hf
 have g0:DataW.trod enc Tryz.prog W base spare held n' 3 ((cs.drop 0).take (Tryz.prog.cellsOf 3))=ys[0]?:=hfd 0 _ rfl
 have g1:DataW.trod enc Tryz.prog W base spare held n' 3 ((cs.drop 1).take (Tryz.prog.cellsOf 3))=ys[1]?:=hfd 1 _ rfl
 have g2:DataW.trod enc Tryz.prog W base spare held n' 3 ((cs.drop 2).take (Tryz.prog.cellsOf 3))=ys[2]?:=hfd 2 _ rfl
 have g3:DataW.trod enc Tryz.prog W base spare held n' 3 ((cs.drop 3).take (Tryz.prog.cellsOf 3))=ys[3]?:=hfd 3 _ rfl
 have g4:DataW.trod enc Tryz.prog W base spare held n' 3 ((cs.drop 4).take (Tryz.prog.cellsOf 3))=ys[4]?:=hfd 4 _ rfl
 have g5:DataW.trod enc Tryz.prog W base spare held n' 3 ((cs.drop 5).take (Tryz.prog.cellsOf 3))=ys[5]?:=hfd 5 _ rfl
 have g6:DataW.trod enc Tryz.prog W base spare held n' 4 ((cs.drop 6).take (Tryz.prog.cellsOf 4))=ys[6]?:=hfd 6 _ rfl
 have hy7:ys.length=7:=by rw [hyl];rfl
 rw [ci,one_of (j:=0) (by omega),List.getElem?_eq_getElem (by omega)] at g0
 obtain ⟨z0,e0,-,w0⟩:=DataW.trod_int Tryz.underlying3 g0
 rw [ci,one_of (j:=1) (by omega),List.getElem?_eq_getElem (by omega)] at g1
 obtain ⟨z1,e1,-,w1⟩:=DataW.trod_int Tryz.underlying3 g1
 rw [ci,one_of (j:=2) (by omega),List.getElem?_eq_getElem (by omega)] at g2
 obtain ⟨z2,e2,-,w2⟩:=DataW.trod_int Tryz.underlying3 g2
 rw [ci,one_of (j:=3) (by omega),List.getElem?_eq_getElem (by omega)] at g3
 obtain ⟨z3,e3,-,w3⟩:=DataW.trod_int Tryz.underlying3 g3
 rw [ci,one_of (j:=4) (by omega),List.getElem?_eq_getElem (by omega)] at g4
 obtain ⟨z4,e4,-,w4⟩:=DataW.trod_int Tryz.underlying3 g4
 rw [ci,one_of (j:=5) (by omega),List.getElem?_eq_getElem (by omega)] at g5
 obtain ⟨z5,e5,-,w5⟩:=DataW.trod_int Tryz.underlying3 g5
 rw [cb,one_of (j:=6) (by omega),List.getElem?_eq_getElem (by omega)] at g6
 obtain ⟨z6,e6,-⟩:=DataW.trod_bool Tryz.underlying4 g6
 refine ⟨⟨z0,z1,z2,z3,z4,z5,z6⟩,?_,⟨i64_wf w0,i64_wf w1,i64_wf w2,i64_wf w3,i64_wf w4,i64_wf w5⟩⟩
 clear hfd hy g0 g1 g2 g3 g4 g5 g6 hf
 match cs,hl,e0,e1,e2,e3,e4,e5,e6 with
 | [u0,u1,u2,u3,u4,u5,u6],_,e0,e1,e2,e3,e4,e5,e6=>
  simp at e0 e1 e2 e3 e4 e5 e6
  subst e0 e1 e2 e3 e4 e5 e6
  rfl
instance:Inhabited Nm:=⟨⟨0,0,0,0,0,0,false⟩⟩
end Go.Proofs.YteempfoajgblaaaGreat.Ju
