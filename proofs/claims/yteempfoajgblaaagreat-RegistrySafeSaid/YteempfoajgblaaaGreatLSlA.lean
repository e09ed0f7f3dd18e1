/- Two slots in memory; contracts of package slots' small functions. -/
import Derived.Test.YteempfoajgblaaaGreatLQD
import Derived.Test.YteempfoajgblaaaGreatLMFr
set_option maxRecDepth 100000
set_option linter.unusedVariables false
set_option linter.unusedSimpArgs false
open Go.ChangeShapes Go.WideShapes Go.ChangeAt Go.RowKit Go.Joins
namespace Go.Proofs.YteempfoajgblaaaGreat.Sl
open Dk (Dk DS Own Moved ptr)
structure SS where
 at_:Nat
 k:Nat
 rd:Bool
 nw:Nat
 nx:Nat
def cellsOf (b:Nat) (t:SS):Array Value:=#[ptr b,.int .i64 (t.at_:Int),.int .i64 (t.k:Int),.bool t.rd,.int .u64 (t.nw:Int),.int .i64 (t.nx:Int)]
def Sl (q b:Nat) (t:SS) (w:World):Prop:=w.heap[q]?=some (.cells (cellsOf b t) 178 (0,0))
section
variable {q b:Nat} {t:SS} {w w':World}
theorem Sl.lt (h:Sl q b t w):q<w.heap.size:=Dk.lt_of_heap h
theorem Sl.of_block (h:Sl q b t w) (e:w'.heap[q]?=w.heap[q]?):Sl q b t w':=by unfold Sl at *;rw [e];exact h
theorem Sl.call (h:Sl q b t w) (hb:Below w.heap.size w w'):Sl q b t w':=h.of_block (hb.block q h.lt)
theorem Sl.c0 (h:Sl q b t w):w.cell? ⟨q,0,none⟩=some (ptr b):=by rw [Lib.cell_of_heap h];rfl
theorem Sl.c1 (h:Sl q b t w):w.cell? ⟨q,1,none⟩=some (.int .i64 (t.at_:Int)):=by rw [Lib.cell_of_heap h];rfl
theorem Sl.c2 (h:Sl q b t w):w.cell? ⟨q,2,none⟩=some (.int .i64 (t.k:Int)):=by rw [Lib.cell_of_heap h];rfl
theorem Sl.c3 (h:Sl q b t w):w.cell? ⟨q,3,none⟩=some (.bool t.rd):=by rw [Lib.cell_of_heap h];rfl
theorem Sl.c4 (h:Sl q b t w):w.cell? ⟨q,4,none⟩=some (.int .u64 (t.nw:Int)):=by rw [Lib.cell_of_heap h];rfl
theorem Sl.c5 (h:Sl q b t w):w.cell? ⟨q,5,none⟩=some (.int .i64 (t.nx:Int)):=by rw [Lib.cell_of_heap h];rfl
theorem Sl.fz (h:Sl q b t w) (o:Nat):w.frozen? ⟨q,o,none⟩=false:=Lib.frozen_of_heap h o
theorem Sl.setRd (h:Sl q b t w) (x:Bool):Sl q b ⟨t.at_,t.k,x,t.nw,t.nx⟩ (w.setCell ⟨q,3,none⟩ (.bool x)):=by
 unfold Sl at *;simp [World.setCell,Array.getElem?_modify,h,cellsOf]
theorem Sl.setNw (h:Sl q b t w) {x:Int} {m:Nat} (e:x=(m:Int)):Sl q b ⟨t.at_,t.k,t.rd,m,t.nx⟩ (w.setCell ⟨q,4,none⟩ (.int .u64 x)):=by
 subst e;unfold Sl at *;simp [World.setCell,Array.getElem?_modify,h,cellsOf]
theorem Sl.setNx (h:Sl q b t w) {x:Int} {m:Nat} (e:x=(m:Int)):Sl q b ⟨t.at_,t.k,t.rd,t.nw,m⟩ (w.setCell ⟨q,5,none⟩ (.int .i64 x)):=by
 subst e;unfold Sl at *;simp [World.setCell,Array.getElem?_modify,h,cellsOf]
theorem Sl.notOwn {B c:Nat} {s:DS} (h:Sl q b t w) (d:Dk B c s w):¬Own w c q:=by
 obtain ⟨g,v,d⟩:=d
 exact d.keepT h (by decide) (by decide) (by decide)
theorem Sl.disk {B c:Nat} {s:DS} (h:Sl q b t w) (d:Dk B c s w) (m:Moved c w w'):Sl q b t w':=h.of_block (m.block q h.lt (h.notOwn d))
end
structure Mv (b q:Nat) (w w':World):Prop where
 os:w'.os=w.os
 tape:w'.tape=w.tape
 output:w'.output=w.output
 size:w.heap.size≤w'.heap.size
 block:∀ k,k<w.heap.size→¬Own w b k→k≠q→w'.heap[k]?=w.heap[k]?
 own:∀ k,Own w' b k→Own w b k∨w.heap.size≤k
section
variable {b q B:Nat} {u v w w':World}
theorem Mv.of_moved (m:Moved b w w'):Mv b q w w':=⟨m.os,m.tape,m.output,m.size,fun k hk hn _=>m.block k hk hn,m.own⟩
theorem Mv.refl (b q:Nat) (w:World):Mv b q w w:=.of_moved (Moved.refl b w)
theorem Mv.trans (h:Mv b q u v) (k:Mv b q v w):Mv b q u w:=by
 refine ⟨k.os.trans h.os,k.tape.trans h.tape,k.output.trans h.output,Nat.le_trans h.size k.size,fun i hi hn hq=>?_,fun i hi=>?_⟩
 ·rw [k.block i (Nat.lt_of_lt_of_le hi h.size) ?_ hq,h.block i hi hn hq]
  intro e
  rcases h.own i e with e|e
  · exact hn e
  · omega
 ·rcases k.own i hi with e|e
  · exact h.own i e
  · exact .inr (Nat.le_trans h.size e)
theorem Mv.call (h:Mv b q u w) (hb:Below w.heap.size w w') (hl:b<w.heap.size):Mv b q u w':=h.trans (.of_moved (.of_below hb hl))
theorem Mv.moved (h:Mv b q u w) (m:Moved b w w'):Mv b q u w':=h.trans (.of_moved m)
theorem Mv.drew (h:Mv b q u w):Mv b q u w.drew:=h.trans (.of_moved (Moved.refl b w).drew)
theorem Mv.set (h:Mv b q u w) (hn:q≠b) (o:Nat) (x:Value):Mv b q u (w.setCell ⟨q,o,none⟩ x):=by
 refine h.trans ⟨rfl,rfl,rfl,by simp [World.setCell],fun k _ _ hk=>Below.heap_setCell w ⟨q,o,none⟩ x k hk,fun k hk=>.inl (hk.of_block (Below.heap_setCell w ⟨q,o,none⟩ x b (Ne.symm hn)))⟩
theorem Mv.setNew (h:Mv b q u w) (hu:b<u.heap.size) {p:Nat} (hp:u.heap.size≤p) (o:Nat) (x:Value):Mv b q u (w.setCell ⟨p,o,none⟩ x):=by
 have hb:b≠p:=by omega
 refine ⟨h.os,h.tape,h.output,by simpa [World.setCell] using h.size,fun k hk hn hq=>?_,fun k hk=>h.own k (hk.of_block (Below.heap_setCell w ⟨p,o,none⟩ x b hb))⟩
 rw [Below.heap_setCell w ⟨p,o,none⟩ x k (by show k≠p;omega)]
 exact h.block k hk hn hq
theorem Mv.below (m:Mv b q w w') (h:∀ k,Own w b k→B≤k) (hs:B≤w.heap.size) (hq:B≤q):Below B w w' :=
 ⟨m.os,m.tape,m.output,m.size,fun k hk=>m.block k (by omega) (fun e=>by have:=h k e;omega) (by omega)⟩
theorem Mv.belowD {s:DS} (m:Mv b q w w') (h:Dk B b s w) (hq:B≤q):Below B w w':=m.below (fun k hk=>(h.ownLt hk).1) h.le hq
theorem Mv.keep {s:DS} {k:Nat} {cs:Array Value} {T:TypeId} {fz:Nat×Nat} (m:Mv b q w w') (h:Dk B b s w) (hk:w.heap[k]?=some (.cells cs T fz)) (hq:k≠q) (h1:T≠83) (h2:T≠99) (h3:T≠101):w'.heap[k]?=some (.cells cs T fz):=by
 obtain ⟨g,v,h⟩:=h
 rw [m.block k (Dk.lt_of_heap hk) (h.keepT hk h1 h2 h3) hq];exact hk
end
theorem Dk_setOther {B b q o:Nat} {s:DS} {w:World} {v:Value} (h:Dk B b s w) (hq:¬Own w b q):Dk B b s (w.setCell ⟨q,o,none⟩ v):=by
 obtain ⟨g,u,h⟩:=h
 exact ⟨g,u,h.of_blocks fun k hk=>Below.heap_setCell w ⟨q,o,none⟩ v k (fun e=>hq (by have e':k=q:=e;rw [← e'];exact hk))⟩
theorem Sl.ne {q b B:Nat} {t:SS} {s:DS} {w:World} (h:Sl q b t w) (d:Dk B b s w):q≠b:=fun e=>h.notOwn d (.inl e)
theorem below_drewN (w:World) (n:Nat):Below w.heap.size w (w.drewN n):=⟨rfl,rfl,rfl,by simp,fun k _=>by simp⟩
theorem new_yes (B b:Nat) (s:DS) (a k:Nat) (w:World) (h:Dk B b s w) (h1:1≤k) (h2:k≤64) (h3:a+2*k≤s.sec.length) :
 Calls Tryz.prog 100 #[ptr b,.int .i64 (a:Int),.int .i64 (k:Int)] w fun e w'=>e=.returned (ptr w.heap.size)∧Sl w.heap.size b ⟨a,k,false,0,0⟩ w'∧Below w.heap.size w w':=by
 have LN:=Lib.hid (Dk.len_any B b s w h)
 have hl:=h.ok.len
 have FIN:Hid (Sl w.heap.size b ⟨a,k,false,0,0⟩ (w.alloc (.cells (cellsOf b ⟨a,k,false,0,0⟩) 178))∧Below w.heap.size w (w.alloc (.cells (cellsOf b ⟨a,k,false,0,0⟩) 178))):=
  Lib.hid ⟨heap_alloc_new _ _,(Below.refl _ _).alloc (Nat.le_refl _) _⟩
 clear h
 generalize hA:(a:Int)=A at *
 generalize hK:(k:Int)=K at *
 generalize hL:(s.sec.length:Int)=L at *
 have k1:1≤K:=by omega
 have k2:K≤64:=by omega
 have a0:0≤A:=by omega
 have a1:A≤L-2*K:=by omega
 have l1:L≤1024:=by omega
 have l0:0≤L:=by omega
 go_enter Tryz.func100,Tryz.ntmps100
 go_wp2_with fail
 (with_reducible refine LN.out.mono ?_)
 rintro e w1 ⟨rfl,rfl⟩
 clear LN
 go_wp2
 go_ret
 have e:(#[ptr b,.int .i64 A,.int .i64 K,.bool false,.int .u64 0,.int .i64 0]:Array Value)=cellsOf b ⟨a,k,false,0,0⟩:=by
  rw [← hA,← hK];rfl
 rw [e]
 exact ⟨rfl,FIN.out⟩
theorem room_any {q b:Nat} {t:SS} (w:World) (h:Sl q b t w) (hk:t.k≤64) :
 Calls Tryz.prog 77 #[ptr q] w fun e w'=>e=.returned (.int .i64 (43*(t.k:Int)))∧w'=w:=by
 have c2:=h.c2
 clear h
 generalize hK:(t.k:Int)=K at *
 have k1:K≤64:=by omega
 have k0:0≤K:=by omega
 clear hK hk
 go_enter Tryz.func77,Tryz.ntmps77
 go_wp2
 go_ret
 exact ⟨rfl,rfl⟩
theorem other_any (n:Nat) (w:World) (h:n≤1) :
 Calls Tryz.prog 106 #[.int .i64 (n:Int)] w fun e w'=>e=.returned (.int .i64 (1-(n:Int)))∧w'=w:=by
 generalize hK:(n:Int)=K at *
 have k1:K≤1:=by omega
 have k0:0≤K:=by omega
 clear hK h
 go_enter Tryz.func106,Tryz.ntmps106
 go_wp2
 go_ret
 exact ⟨rfl,rfl⟩
theorem place_any {q b:Nat} {t:SS} (sl i:Nat) (w:World) (h:Sl q b t w) (hk:t.k≤64) (ha:t.at_≤1024) (hs:sl≤1) (hi:i≤64) :
 Calls Tryz.prog 149 #[ptr q,.int .i64 (sl:Int),.int .i64 (i:Int)] w fun e w'=>e=.returned (.int .i64 ((t.at_+sl*t.k+i:Nat):Int))∧Below w.heap.size w w':=by
 have c1:=h.c1
 have c2:=h.c2
 have E:((t.at_+sl*t.k+i:Nat):Int)=(t.at_:Int)+(sl:Int)*(t.k:Int)+(i:Int):=by push_cast;rfl
 have hp:0≤(sl:Int)*(t.k:Int):=Int.mul_nonneg (by omega) (by omega)
 have hp2:(sl:Int)*(t.k:Int)≤64:=by
  have:=Nat.mul_le_mul hs hk
  have e:((sl*t.k:Nat):Int)=(sl:Int)*(t.k:Int):=by push_cast;rfl
  omega
 rw [E]
 clear h E
 generalize hK:(t.k:Int)=K at *
 generalize hA:(t.at_:Int)=A at *
 generalize hS:(sl:Int)=S at *
 generalize hI:(i:Int)=I at *
 have a1:A≤1024:=by omega
 have a0:0≤A:=by omega
 have i1:I≤64:=by omega
 have i0:0≤I:=by omega
 clear hK hA hS hI hk ha hs hi
 go_enter Tryz.func149,Tryz.ntmps149
 go_wp2_with fail
 go_quiet (fail)
 have FIN:=Lib.hid (below_drewN w nq)
 go_wp2
 go_ret
 exact ⟨rfl,FIN.out⟩
end Go.Proofs.YteempfoajgblaaaGreat.Sl
