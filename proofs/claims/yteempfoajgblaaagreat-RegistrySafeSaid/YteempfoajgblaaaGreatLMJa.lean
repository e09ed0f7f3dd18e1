/- A journal in memory: a disk, a log, two slots and what the journal knows; contracts of package .. -/
import Derived.Test.YteempfoajgblaaaGreatLMWa
import Derived.Test.YteempfoajgblaaaGreatLSlA
import Derived.Test.YteempfoajgblaaaGreatLGnT
import Derived.BigQuiet
import Derived.Test.YteempfoajgblaaaGreatLMSh
import Derived.Test.YteempfoajgblaaaGreatLMSg
import Derived.Test.YteempfoajgblaaaGreatLMWb
import Derived.Deep.RegionHeld3
set_option maxRecDepth 100000
set_option linter.unusedVariables false
set_option linter.unusedSimpArgs false
open Go.ChangeShapes Go.WideShapes Go.ChangeAt Go.RowKit Go.Joins
set_option maxHeartbeats 1000000
namespace Go.Proofs.YteempfoajgblaaaGreat.Jn
open Dk (Dk DS Own Moved ptr)
open Sl (Mv SS below_drewN)
open Wl (WS)
def JAt (w:World) (j l q e:Nat) (g:Bool):Prop:=w.heap[j]?=some (.cells #[ptr l,ptr q,.int .u64 (e:Int),.bool g] 141 (0,0))
section
variable {w w':World} {j l q e:Nat} {g:Bool}
theorem JAt.lt (h:JAt w j l q e g):j<w.heap.size:=Dk.lt_of_heap h
theorem JAt.of_block (h:JAt w j l q e g) (k:w'.heap[j]?=w.heap[j]?):JAt w' j l q e g:=by unfold JAt at *;rw [k];exact h
theorem JAt.c0 (h:JAt w j l q e g):w.cell? ⟨j,0,none⟩=some (ptr l):=by rw [Lib.cell_of_heap h];rfl
theorem JAt.c1 (h:JAt w j l q e g):w.cell? ⟨j,1,none⟩=some (ptr q):=by rw [Lib.cell_of_heap h];rfl
theorem JAt.c2 (h:JAt w j l q e g):w.cell? ⟨j,2,none⟩=some (.int .u64 (e:Int)):=by rw [Lib.cell_of_heap h];rfl
theorem JAt.c3 (h:JAt w j l q e g):w.cell? ⟨j,3,none⟩=some (.bool g):=by rw [Lib.cell_of_heap h];rfl
theorem JAt.fz (h:JAt w j l q e g) (o:Nat):w.frozen? ⟨j,o,none⟩=false:=Lib.frozen_of_heap h o
theorem JAt.setE (h:JAt w j l q e g) {x:Int} {m:Nat} (k:x=(m:Int)):JAt (w.setCell ⟨j,2,none⟩ (.int .u64 x)) j l q m g:=by
 subst k;unfold JAt at *;simp [World.setCell,Array.getElem?_modify,h]
theorem JAt.setG (h:JAt w j l q e g) (x:Bool):JAt (w.setCell ⟨j,3,none⟩ (.bool x)) j l q e x:=by
 unfold JAt at *;simp [World.setCell,Array.getElem?_modify,h]
end
def Jt (T:TypeId):Prop:=T≠83∧T≠99∧T≠101∧T≠226∧T≠178∧T≠141
instance (T:TypeId):Decidable (Jt T):=by unfold Jt;infer_instance
def Kp (w w':World):Prop:=∀ (k:Nat) (cs:Array Value) (T:TypeId) (fz:Nat×Nat),w.heap[k]?=some (.cells cs T fz)→Jt T→w'.heap[k]?=some (.cells cs T fz)
section
variable {u v w w':World} {B b j l q:Nat} {s:DS}
theorem Kp.trans (h:Kp u v) (k:Kp v w):Kp u w:=fun i cs T fz hi hT=>k i cs T fz (h i cs T fz hi hT) hT
theorem Kp.below (hb:Below w.heap.size w w'):Kp w w':=fun k cs T fz h _=>(hb.block k (Dk.lt_of_heap h)).trans h
theorem Kp.call (h:Kp u w) (hb:Below w.heap.size w w'):Kp u w':=h.trans (.below hb)
theorem Kp.mvL {t:WS} (d:Dk B b s w) (hl:Wl.Wl l b t w) (m:Mv b l w w'):Kp w w':=fun k cs T fz h hT=>m.keep d h (fun e=>by
 unfold Wl.Wl at hl;rw [e,hl] at h;cases h;exact hT.2.2.2.1 rfl) hT.1 hT.2.1 hT.2.2.1
theorem Kp.mvS {t:SS} (d:Dk B b s w) (hq:Sl.Sl q b t w) (m:Mv b q w w'):Kp w w':=fun k cs T fz h hT=>m.keep d h (fun e=>by
 unfold Sl.Sl at hq;rw [e,hq] at h;cases h;exact hT.2.2.2.2.1 rfl) hT.1 hT.2.1 hT.2.2.1
theorem Kp.moved (d:Dk B b s w) (m:Moved b w w'):Kp w w':=fun k cs T fz h hT=>by
 obtain ⟨g,v,d⟩:=d
 rw [m.block k (Dk.lt_of_heap h) (d.keepT h hT.1 hT.2.1 hT.2.2.1)];exact h
theorem Kp.setJ {e:Nat} {g:Bool} (h:JAt w j l q e g) (o:Nat) (x:Value):Kp w (w.setCell ⟨j,o,none⟩ x):=fun k cs T fz hk hT=>by
 rw [Below.heap_setCell w ⟨j,o,none⟩ x k (fun e=>by unfold JAt at h;have e':k=j:=e;rw [e',h] at hk;cases hk;exact hT.2.2.2.2.2 rfl)];exact hk
theorem Kp.drew:Kp w w.drew:=.below (Below.refl _ _).drew
theorem Kp.strs (h:Kp w w') {A:Nat} {v:Value} {ds:List (List UInt8)} (st:Strs A w v ds):Strs A w' v ds:=
 Sl.strs_of st fun g hg=>by
  obtain ⟨cur,hc⟩:=Sl.strs_block st hg
  rw [hc]
  exact h g _ _ _ hc (by decide)
end
def Jd (T:TypeId):Prop:=T≠83∧T≠99∧T≠101
instance (T:TypeId):Decidable (Jd T):=by unfold Jd;infer_instance
def Since (w0 w:World):Prop:=∀ (k:Nat) (cs:Array Value) (T:TypeId) (fz:Nat×Nat),w0.heap[k]?=some (.cells cs T fz)→Jd T→w.heap[k]?=some (.cells cs T fz)
theorem Since.refl (w:World):Since w w:=fun _ _ _ _ h _=>h
theorem Since.trans {u v w:World} (h:Since u v) (k:Since v w):Since u w:=fun i cs T fz hi hT=>k i cs T fz (h i cs T fz hi hT) hT
theorem Since.call {w0 w w':World} (h:Since w0 w) (hb:Below w.heap.size w w'):Since w0 w':=fun k cs T fz hk hT=>(hb.block k (Dk.lt_of_heap (h k cs T fz hk hT))).trans (h k cs T fz hk hT)
theorem Since.below {B:Nat} {w0 w:World} (hB:w0.heap.size≤B) (hb:Below B w0 w):Since w0 w:=fun k cs T fz hk _=>(hb.block k (by have:=Dk.lt_of_heap hk;omega)).trans hk
theorem Since.moved {B b:Nat} {s:DS} {w0 w w':World} (h:Since w0 w) (d:Dk B b s w) (m:Moved b w w'):Since w0 w':=fun k cs T fz hk hT=>by
 obtain ⟨g,v,d⟩:=d
 have h1:=h k cs T fz hk hT
 rw [m.block k (Dk.lt_of_heap h1) (d.keepT h1 hT.1 hT.2.1 hT.2.2)];exact h1
theorem Since.mv {B b l:Nat} {s:DS} {w0 w w':World} (h:Since w0 w) (d:Dk B b s w) (m:Mv b l w w') (hl:w0.heap.size≤l):Since w0 w':=fun k cs T fz hk hT=>
 m.keep d (h k cs T fz hk hT) (by have:=Dk.lt_of_heap hk;omega) hT.1 hT.2.1 hT.2.2
theorem Since.set {w0 w:World} (h:Since w0 w) {j:Nat} (hj:w0.heap.size≤j) (o:Nat) (x:Value):Since w0 (w.setCell ⟨j,o,none⟩ x):=fun k cs T fz hk hT=>by
 rw [Below.heap_setCell w ⟨j,o,none⟩ x k (by show k≠j;have:=Dk.lt_of_heap hk;omega)]
 exact h k cs T fz hk hT
structure Jn (B b j l q:Nat) (tl:WS) (ts:SS) (e:Nat) (g:Bool) (s:DS) (w0 w:World):Prop where
 dk:Dk B b s w
 wl:Wl.Wl l b tl w
 sl:Sl.Sl q b ts w
 jn:JAt w j l q e g
 bel:Below B w0 w
 hj:B≤j
 hl:B≤l
 hq:B≤q
 nj:w0.heap.size≤j
 nl:w0.heap.size≤l
 nq:w0.heap.size≤q
 old:Since w0 w
section
variable {B b j l q e:Nat} {tl tl':WS} {ts ts':SS} {g:Bool} {s s':DS} {w0 w w':World}
theorem Jn.lq (h:Jn B b j l q tl ts e g s w0 w):l≠q:=fun k=>by
 have h1:=h.wl;have h2:=h.sl
 unfold Wl.Wl at h1;unfold Sl.Sl at h2
 rw [k,h2] at h1
 simp only [Option.some.injEq,Obj.cells.injEq] at h1
 exact absurd h1.2.1 (by decide)
theorem Jn.lj (h:Jn B b j l q tl ts e g s w0 w):l≠j:=fun k=>by
 have h1:=h.wl;have h2:=h.jn
 unfold Wl.Wl at h1;unfold JAt at h2
 rw [k,h2] at h1
 simp only [Option.some.injEq,Obj.cells.injEq] at h1
 exact absurd h1.2.1 (by decide)
theorem Jn.qj (h:Jn B b j l q tl ts e g s w0 w):q≠j:=fun k=>by
 have h1:=h.sl;have h2:=h.jn
 unfold Sl.Sl at h1;unfold JAt at h2
 rw [k,h2] at h1
 simp only [Option.some.injEq,Obj.cells.injEq] at h1
 exact absurd h1.2.1 (by decide)
theorem Jn.notOwn (h:Jn B b j l q tl ts e g s w0 w):¬Dk.Own w b j:=by
 obtain ⟨g',v,d⟩:=h.dk
 exact d.keepT h.jn (by decide) (by decide) (by decide)
theorem Jn.call (h:Jn B b j l q tl ts e g s w0 w) (hb:Below w.heap.size w w'):Jn B b j l q tl ts e g s w0 w' :=
 ⟨h.dk.call hb,h.wl.call hb,h.sl.call hb,h.jn.of_block (hb.block j h.jn.lt),h.bel.trans (hb.mono h.dk.le),h.hj,h.hl,h.hq,h.nj,h.nl,h.nq,h.old.call hb⟩
theorem Jn.goL (h:Jn B b j l q tl ts e g s w0 w) (k:Dk B b s' w') (k2:Wl.Wl l b tl' w') (m:Mv b l w w'):Jn B b j l q tl' ts e g s' w0 w' :=
 ⟨k,k2,h.sl.of_block (m.block q h.sl.lt (h.sl.notOwn h.dk) (Ne.symm h.lq)),h.jn.of_block (m.block j h.jn.lt h.notOwn (Ne.symm h.lj)),h.bel.trans (m.belowD h.dk h.hl),h.hj,h.hl,h.hq,h.nj,h.nl,h.nq,h.old.mv h.dk m h.nl⟩
theorem Jn.goS (h:Jn B b j l q tl ts e g s w0 w) (k:Dk B b s' w') (k2:Sl.Sl q b ts' w') (m:Mv b q w w'):Jn B b j l q tl ts' e g s' w0 w' :=
 ⟨k,h.wl.of_block (m.block l h.wl.lt (h.wl.notOwn h.dk) h.lq),k2,h.jn.of_block (m.block j h.jn.lt h.notOwn (Ne.symm h.qj)),h.bel.trans (m.belowD h.dk h.hq),h.hj,h.hl,h.hq,h.nj,h.nl,h.nq,h.old.mv h.dk m h.nq⟩
theorem Jn.goD (h:Jn B b j l q tl ts e g s w0 w) (k:Dk B b s' w') (m:Moved b w w'):Jn B b j l q tl ts e g s' w0 w' :=
 h.goL k (h.wl.disk h.dk m) (.of_moved m)
theorem Jn.setO (h:Jn B b j l q tl ts e g s w0 w) (o:Nat) (x:Value) {e':Nat} {g':Bool} (k:JAt (w.setCell ⟨j,o,none⟩ x) j l q e' g'):Jn B b j l q tl ts e' g' s w0 (w.setCell ⟨j,o,none⟩ x):=by
 refine ⟨Sl.Dk_setOther h.dk h.notOwn,h.wl.of_block (Below.heap_setCell w ⟨j,o,none⟩ x l h.lj),h.sl.of_block (Below.heap_setCell w ⟨j,o,none⟩ x q h.qj),k,?_,h.hj,h.hl,h.hq,h.nj,h.nl,h.nq,h.old.set h.nj o x⟩
 refine h.bel.trans ⟨rfl,rfl,rfl,by simp [World.setCell],fun i hi=>Below.heap_setCell w ⟨j,o,none⟩ x i (fun ei=>?_)⟩
 have e':i=j:=ei
 have:=h.hj
 omega
theorem Jn.setE (h:Jn B b j l q tl ts e g s w0 w) {x:Int} {m:Nat} (k:x=(m:Int)):Jn B b j l q tl ts m g s w0 (w.setCell ⟨j,2,none⟩ (.int .u64 x)):=h.setO 2 _ (h.jn.setE k)
theorem Jn.setG (h:Jn B b j l q tl ts e g s w0 w) (x:Bool):Jn B b j l q tl ts e x s w0 (w.setCell ⟨j,3,none⟩ (.bool x)):=h.setO 3 _ (h.jn.setG x)
end
theorem none_any {j l q e:Nat} {g:Bool} (w:World) (h:JAt w j l q e g) :
 Calls Tryz.prog 76 #[ptr j] w fun r w'=>r=.returned (.bool false)∧w'=w:=by
 have c1:=h.c1
 clear h
 go_enter Tryz.func76,Tryz.ntmps76
 go_wp2
 go_ret
 exact ⟨rfl,rfl⟩
theorem good_any {j l q e:Nat} {g:Bool} (w:World) (h:JAt w j l q e g) :
 Calls Tryz.prog 57 #[ptr j] w fun r w'=>r=.returned (.bool g)∧w'=w:=by
 have NO:=Lib.hid (none_any w h)
 have c3:=h.c3
 clear h
 go_enter Tryz.func57,Tryz.ntmps57
 go_wp2_with fail
 (with_reducible refine NO.out.mono ?_)
 rintro e w1 ⟨rfl,rfl⟩
 clear NO
 go_wp2
 go_ret
 exact ⟨rfl,rfl⟩
theorem on_yes (B b:Nat) (s:DS) (k n:Nat) (w0 w:World) (h:Dk B b s w) (hb:Below B w0 w) (ho:Since w0 w) (h1:1≤k) (h2:k≤64) (h3:1≤n) (h4:s.sec.length=2*k+n) :
 Calls Tryz.prog 63 #[ptr b,.int .i64 (k:Int)] w fun e w'=>∃ j l q,e=.returned (ptr j)∧Jn B b j l q ⟨2*k,n,none⟩ ⟨0,k,false,0,0⟩ 0 false s w0 w'∧Below w.heap.size w w':=by
 have hl:=h.ok.len
 have NS:Hid (Calls Tryz.prog 100 #[ptr b,.int .i64 0,.int .i64 (k:Int)] w fun e w'=>e=.returned (ptr w.heap.size)∧Sl.Sl w.heap.size b ⟨0,k,false,0,0⟩ w'∧Below w.heap.size w w'):=Lib.hid (Sl.new_yes B b s 0 k w h h1 h2 (by omega))
 have NW:=Lib.hid (fun w (h:Dk B b s w)=>Wl.new_yes B b s (2*k) n w h h3 (by omega))
 have LN:=Lib.hid (fun w (h:Dk B b s w)=>Dk.len_any B b s w h)
 have E1:((2*k:Nat):Int)=2*(k:Int):=by push_cast;rfl
 have E2:(s.sec.length:Int)-2*(k:Int)=(n:Int):=by omega
 have D0:=Lib.hid (And.intro h (And.intro hb h.le))
 have O0:=Lib.hid ho
 clear h hb ho
 rw [E1] at NW
 generalize (s.sec.length:Int)=L at *
 have l1:L≤1024:=by omega
 have l0:0≤L:=by omega
 have k1:1≤(k:Int):=by omega
 have k2:(k:Int)≤64:=by omega
 go_enter Tryz.func63,Tryz.ntmps63
 go_wp2_with fail
 (with_reducible refine NS.out.mono ?_)
 rintro e w1 ⟨rfl,s1,b1⟩
 clear NS
 have D1:=Lib.hid (And.intro (D0.out.1.call b1) s1)
 have B1:=Lib.hid b1
 clear s1 b1
 have LN1:=Lib.hid (LN.out w1 D1.out.1)
 have NW1:=Lib.hid (NW.out w1 D1.out.1)
 clear LN NW
 go_wp2_with fail
 (with_reducible refine LN1.out.mono ?_)
 rintro e w1 ⟨rfl,rfl⟩
 clear LN1
 go_wp2_with fail
 (with_reducible refine NW1.out.mono ?_)
 rintro e w2 ⟨rfl,l2,b2⟩
 clear NW1
 have FIN:Hid (Jn B b w2.heap.size w1.heap.size w.heap.size ⟨2*k,n,none⟩ ⟨0,k,false,0,0⟩ 0 false s w0 (w2.alloc (.cells #[ptr w1.heap.size,ptr w.heap.size,.int .u64 0,.bool false] 141))∧Below w.heap.size w (w2.alloc (.cells #[ptr w1.heap.size,ptr w.heap.size,.int .u64 0,.bool false] 141))):=Lib.hid (by
  have b3:=(Below.refl w2.heap.size w2).alloc (Nat.le_refl _) (.cells #[ptr w1.heap.size,ptr w.heap.size,.int .u64 0,.bool false] 141)
  have b13:=b2.trans (b3.mono b2.size)
  have b03:=B1.out.trans (b13.mono B1.out.size)
  have z:=D0.out.2.2
  have z1:=B1.out.size
  have z2:=b2.size
  exact ⟨⟨D1.out.1.call b13,l2.call b3,D1.out.2.call b13,heap_alloc_new _ _,D0.out.2.1.trans (b03.mono z),by omega,by omega,z,by have:=D0.out.2.1.size;omega,by have:=D0.out.2.1.size;omega,D0.out.2.1.size,O0.out.call b03⟩,b03⟩)
 clear D0 D1 B1 l2 b2
 go_wp2
 go_ret
 exact ⟨_,_,_,rfl,FIN.out⟩
end Go.Proofs.YteempfoajgblaaaGreat.Jn
namespace Go.Proofs.YteempfoajgblaaaGreat.Jn
open Dk (Dk DS Own Moved ptr)
open Sl (Mv SS below_drewN SnAt)
open Wl (WS)
def FdAt (w:World) (p:Nat) (t:ByteArray) (v:Value):Prop:=w.heap[p]?=some (.cells #[.string t,v] 109 (0,0))
section
variable {w w':World} {p:Nat} {t:ByteArray} {v:Value}
theorem FdAt.lt (h:FdAt w p t v):p<w.heap.size:=Dk.lt_of_heap h
theorem FdAt.c0 (h:FdAt w p t v):w.cell? ⟨p,0,none⟩=some (.string t):=by rw [Lib.cell_of_heap h];rfl
theorem FdAt.c1 (h:FdAt w p t v):w.cell? ⟨p,1,none⟩=some v:=by rw [Lib.cell_of_heap h];rfl
theorem FdAt.fz (h:FdAt w p t v) (o:Nat):w.frozen? ⟨p,o,none⟩=false:=Lib.frozen_of_heap h o
theorem FdAt.kp (h:FdAt w p t v) (k:Kp w w'):FdAt w' p t v:=k p _ _ _ h (by decide)
theorem FdAt.set0 (h:FdAt w p t v) (x:ByteArray):FdAt (w.setCell ⟨p,0,none⟩ (.string x)) p x v:=by
 unfold FdAt at *;simp [World.setCell,Array.getElem?_modify,h]
theorem FdAt.set1 (h:FdAt w p t v) (x:Value):FdAt (w.setCell ⟨p,1,none⟩ x) p t x:=by
 unfold FdAt at *;simp [World.setCell,Array.getElem?_modify,h]
theorem fdAt_new (w:World) (t:ByteArray) (v:Value):FdAt (w.alloc (.cells #[.string t,v] 109)) w.heap.size t v:=heap_alloc_new _ _
theorem snAt_kp {e:Nat} {d:List UInt8} (h:SnAt w p e d) (k:Kp w w'):SnAt w' p e d:=k p _ _ _ h (by decide)
end
theorem Kp.setNew {u w:World} (h:Kp u w) {p:Nat} (hp:u.heap.size≤p) (o:Nat) (x:Value):Kp u (w.setCell ⟨p,o,none⟩ x):=fun k cs T fz hk hT=>by
 have:=Dk.lt_of_heap hk
 rw [Below.heap_setCell w ⟨p,o,none⟩ x k (by show k≠p;omega)]
 exact h k cs T fz hk hT
theorem Jn.setNew {B b j l q e:Nat} {tl:WS} {ts:SS} {g:Bool} {s:DS} {w0 w:World} (h:Jn B b j l q tl ts e g s w0 w) {p:Nat} {cs:Array Value} {T:TypeId} {fz:Nat×Nat} (hp:w.heap[p]?=some (.cells cs T fz)) (hT:Jt T) (hB:B≤p) (hW:w0.heap.size≤p) (o:Nat) (x:Value):Jn B b j l q tl ts e g s w0 (w.setCell ⟨p,o,none⟩ x):=by
 have e1:l≠p:=fun k=>by have h1:=h.wl;unfold Wl.Wl at h1;rw [k,hp] at h1;simp only [Option.some.injEq,Obj.cells.injEq] at h1;exact hT.2.2.2.1 h1.2.1
 have e2:q≠p:=fun k=>by have h1:=h.sl;unfold Sl.Sl at h1;rw [k,hp] at h1;simp only [Option.some.injEq,Obj.cells.injEq] at h1;exact hT.2.2.2.2.1 h1.2.1
 have e3:j≠p:=fun k=>by have h1:=h.jn;unfold JAt at h1;rw [k,hp] at h1;simp only [Option.some.injEq,Obj.cells.injEq] at h1;exact hT.2.2.2.2.2 h1.2.1
 have nO:¬Dk.Own w b p:=by
  obtain ⟨g',v,d⟩:=h.dk
  exact d.keepT hp hT.1 hT.2.1 hT.2.2.1
 refine ⟨Sl.Dk_setOther h.dk nO,h.wl.of_block (Below.heap_setCell w ⟨p,o,none⟩ x l e1),h.sl.of_block (Below.heap_setCell w ⟨p,o,none⟩ x q e2),h.jn.of_block (Below.heap_setCell w ⟨p,o,none⟩ x j e3),?_,h.hj,h.hl,h.hq,h.nj,h.nl,h.nq,h.old.set hW o x⟩
 refine h.bel.trans ⟨rfl,rfl,rfl,by simp [World.setCell],fun i hi=>Below.heap_setCell w ⟨p,o,none⟩ x i (fun ei=>?_)⟩
 have e':i=p:=ei
 omega
theorem ret_two {B b j l q e:Nat} {tl:WS} {ts:SS} {g:Bool} {s:DS} {w0 w W:World} {p:Nat} {t:ByteArray} {v:Value} (h:Jn B b j l q tl ts e g s w0 W) (f:FdAt W p t v) (k:Kp w W) (hp:w.heap.size≤p) (hB:B≤w.heap.size) (hW:w0.heap.size≤w.heap.size) (x:ByteArray) (y:Value) :
 Jn B b j l q tl ts e g s w0 ((W.setCell ⟨p,0,none⟩ (.string x)).setCell ⟨p,1,none⟩ y)∧FdAt ((W.setCell ⟨p,0,none⟩ (.string x)).setCell ⟨p,1,none⟩ y) p x y∧Kp w ((W.setCell ⟨p,0,none⟩ (.string x)).setCell ⟨p,1,none⟩ y):=
 ⟨(h.setNew f (by decide) (by omega) (by omega) 0 _).setNew (f.set0 x) (by decide) (by omega) (by omega) 1 _,(f.set0 x).set1 y,(k.setNew hp 0 _).setNew hp 1 _⟩
theorem strs_two {A:Nat} {W:World} {p:Nat} {t:ByteArray} {u:Value} {v:Value} {ds:List (List UInt8)} (st:Strs A W v ds) (f:FdAt W p t u) (x:ByteArray) (y:Value):Strs A ((W.setCell ⟨p,0,none⟩ (.string x)).setCell ⟨p,1,none⟩ y) v ds:=
 Sl.strs_of st fun g hg=>by
  obtain ⟨cur,hc⟩:=Sl.strs_block st hg
  have ne:g≠p:=fun e=>by
   have f':=f
   unfold FdAt at f'
   rw [← e,hc] at f'
   simp only [Option.some.injEq,Obj.cells.injEq] at f'
   exact absurd f'.2.1 (by decide)
  rw [Below.heap_setCell _ _ _ _ ne,Below.heap_setCell _ _ _ _ ne]
theorem renew_ok (B b j l q:Nat) (tl:WS) (ts:SS) (e:Nat) (g:Bool) (s s':DS) (data:List UInt8) (w0 w:World) (h:Jn B b j l q tl ts e g s w0 w) (k1:1≤ts.k) (k2:ts.k≤64) (hx:ts.nx≤1) (ha:ts.at_+ts.nx*ts.k+ts.k≤s.sec.length) (hr:ts.rd=true) (hnw:ts.nw<18446744073709551615) (hd:data.length≤1000) (hd2:data.length≤43*ts.k) (hn:s.opn.length≤800000) (hf:s.fail<9223372036854775808) (n1:1≤tl.n)
 (hP:Sl.putR s (ts.at_+ts.nx*ts.k) ts.k data (ts.nw+1)=(s',true)) :
 Calls Tryz.prog 65 #[ptr j,.string (mkB data)] w fun r w'=>r=.returned (.int .i64 0)∧Jn B b j l q ⟨tl.at_,tl.n,some (ts.nw+1,0)⟩ ⟨ts.at_,ts.k,true,ts.nw+1,1-ts.nx⟩ (ts.nw+1) g s' w0 w'∧Kp w w':=by
 have WR:=Sl.write_any B b q ts s data w h.dk h.sl k1 k2 hx ha hr hnw hd hd2 hn hf
 rw [hP] at WR
 have WR':Hid (Calls Tryz.prog 107 #[ptr q,.string (mkB data)] w fun e w'=>e=.returned (.tuple #[.int .u64 ((ts.nw+1:Nat):Int),.int .i64 0])∧Dk B b s' w'∧Sl.Sl q b ⟨ts.at_,ts.k,true,ts.nw+1,1-ts.nx⟩ w'∧Mv b q w w'):=Lib.hid WR
 clear WR hP
 have ST:=Lib.hid (fun w1 (h1:Wl.Wl l b tl w1) (d1:Dk B b s' w1)=>Wl.start_any (ts.nw+1) w1 h1 d1 n1 (by omega))
 have P0:=Lib.hid h
 have c1:=h.jn.c1
 have e0:0≤((ts.nw+1:Nat):Int):=by omega
 have e1:((ts.nw+1:Nat):Int)<18446744073709551616:=by omega
 clear h hd hd2 ha hn hf hr hx hnw
 generalize mkB data=DT at *
 go_enter Tryz.func65,Tryz.ntmps65
 go_wp2_with fail
 (with_reducible refine WR'.out.mono ?_)
 rintro r w1 ⟨rfl,d1,s1,m1⟩
 have P1:=Lib.hid (show Jn B b j l q tl ⟨ts.at_,ts.k,true,ts.nw+1,1-ts.nx⟩ e g s' w0 w1∧Kp w w1 from ⟨P0.out.goS d1 s1 m1,.mvS P0.out.dk P0.out.sl m1⟩)
 have P2:=Lib.hid (show Jn B b j l q tl ⟨ts.at_,ts.k,true,ts.nw+1,1-ts.nx⟩ (ts.nw+1) g s' w0 (w1.setCell ⟨j,2,none⟩ (.int .u64 ((ts.nw+1:Nat):Int)))∧Kp w (w1.setCell ⟨j,2,none⟩ (.int .u64 ((ts.nw+1:Nat):Int))) from ⟨P1.out.1.setE rfl,P1.out.2.trans (.setJ P1.out.1.jn 2 _)⟩)
 have x2:=P1.out.1.jn.c2
 have f2:=P1.out.1.jn.fz 2
 have x0:=P2.out.1.jn.c0
 have SX:=Lib.hid (ST.out _ P2.out.1.wl P2.out.1.dk)
 clear WR' c1 d1 s1 m1 P1 ST P0
 generalize hE:((ts.nw+1:Nat):Int)=E at *
 generalize hW:w1.setCell ⟨j,2,none⟩ (.int .u64 E)=W2 at *
 have HW:=Lib.hid hW
 go_wp2_with fail
 (try rw [hW])
 (with_reducible refine SX.out.mono ?_)
 rintro r w3 ⟨rfl,l3,d3,m3⟩
 have FIN:=Lib.hid (show Jn B b j l q ⟨tl.at_,tl.n,some (ts.nw+1,0)⟩ ⟨ts.at_,ts.k,true,ts.nw+1,1-ts.nx⟩ (ts.nw+1) g s' w0 w3∧Kp w w3 from ⟨P2.out.1.goL d3 l3 m3,P2.out.2.trans (.mvL P2.out.1.dk P2.out.1.wl m3)⟩)
 clear SX P2 l3 d3 m3 x0 x2 f2 hW HW
 go_wp2
 go_ret
 exact ⟨rfl,FIN.out⟩
theorem renew_io (B b j l q:Nat) (tl:WS) (ts:SS) (e:Nat) (g:Bool) (s s':DS) (data:List UInt8) (w0 w:World) (h:Jn B b j l q tl ts e g s w0 w) (k1:1≤ts.k) (k2:ts.k≤64) (hx:ts.nx≤1) (ha:ts.at_+ts.nx*ts.k+ts.k≤s.sec.length) (hr:ts.rd=true) (hnw:ts.nw<18446744073709551615) (hd:data.length≤1000) (hd2:data.length≤43*ts.k) (hn:s.opn.length≤800000) (hf:s.fail<9223372036854775808)
 (hP:Sl.putR s (ts.at_+ts.nx*ts.k) ts.k data (ts.nw+1)=(s',false)) :
 Calls Tryz.prog 65 #[ptr j,.string (mkB data)] w fun r w'=>r=.returned (.int .i64 18)∧Jn B b j l q tl ⟨ts.at_,ts.k,false,ts.nw+1,ts.nx⟩ e g s' w0 w'∧Kp w w':=by
 have WR:=Sl.write_any B b q ts s data w h.dk h.sl k1 k2 hx ha hr hnw hd hd2 hn hf
 rw [hP] at WR
 have WR':Hid (Calls Tryz.prog 107 #[ptr q,.string (mkB data)] w fun e w'=>e=.returned (.tuple #[.int .u64 0,.int .i64 18])∧Dk B b s' w'∧Sl.Sl q b ⟨ts.at_,ts.k,false,ts.nw+1,ts.nx⟩ w'∧Mv b q w w'):=Lib.hid WR
 clear WR hP
 have P0:=Lib.hid h
 have c1:=h.jn.c1
 clear h hd hd2 ha hn hf hr hx hnw
 generalize mkB data=DT at *
 go_enter Tryz.func65,Tryz.ntmps65
 go_wp2_with fail
 (with_reducible refine WR'.out.mono ?_)
 rintro r w1 ⟨rfl,d1,s1,m1⟩
 have FIN:=Lib.hid (show Jn B b j l q tl ⟨ts.at_,ts.k,false,ts.nw+1,ts.nx⟩ e g s' w0 w1∧Kp w w1 from ⟨P0.out.goS d1 s1 m1,.mvS P0.out.dk P0.out.sl m1⟩)
 clear WR' c1 d1 s1 m1 P0
 go_wp2
 go_ret
 exact ⟨rfl,FIN.out⟩
def noFound:Value:=.agg #[.string ⟨#[]⟩,.slice none 0 0]
theorem find_rd (B b j l q:Nat) (tl:WS) (ts:SS) (e:Nat) (g:Bool) (s:DS) (w0 w:World) (h:Jn B b j l q tl ts e g s w0 w) (k1:1≤ts.k) (k2:ts.k≤64) (ka:ts.at_+2*ts.k≤s.sec.length) (hr:s.reads≤800000000) (hn:s.opn.length≤900000) (hf1:1≤s.fail) (hf2:s.fail≤2*ts.k) :
 Calls Tryz.prog 124 #[ptr j] w fun r w'=>r=.returned (.tuple #[noFound,.int .i64 18])∧Jn B b j l q tl ⟨ts.at_,ts.k,false,0,0⟩ e g ⟨s.sec,s.opn,0,s.reads+s.fail⟩ w0 w'∧Kp w w':=by
 have b0:=(Below.refl w.heap.size w).alloc (Nat.le_refl _) (.cells #[.string ⟨#[]⟩,.slice none 0 0] 109)
 have P0:=Lib.hid (And.intro (h.call b0) (And.intro (fdAt_new w ⟨#[]⟩ (.slice none 0 0)) (Kp.below b0)))
 have RD:=Lib.hid (Sl.read_io B b q ts s _ P0.out.1.dk P0.out.1.sl k1 k2 ka (by omega) hn hf1 hf2)
 have c1:=P0.out.1.jn.c1
 have HB:B≤w.heap.size:=h.dk.le
 have HW0:w0.heap.size≤w.heap.size:=h.bel.size
 clear h b0
 generalize hW:w.alloc (.cells #[.string ⟨#[]⟩,.slice none 0 0] 109)=W0 at *
 go_enter Tryz.func124,Tryz.ntmps124
 go_wp2_with fail
 (try rw [hW])
 (with_reducible refine RD.out.mono ?_)
 rintro r w1 ⟨rfl,d1,s1,m1⟩
 have b2:=(Below.refl w1.heap.size w1).alloc (Nat.le_refl _) (.cells #[.int .u64 0,.string ⟨#[]⟩] 134)
 have P1:=Lib.hid (show Jn B b j l q tl ⟨ts.at_,ts.k,false,0,0⟩ e g ⟨s.sec,s.opn,0,s.reads+s.fail⟩ w0 (w1.alloc (.cells #[.int .u64 0,.string ⟨#[]⟩] 134))∧FdAt (w1.alloc (.cells #[.int .u64 0,.string ⟨#[]⟩] 134)) w.heap.size ⟨#[]⟩ (.slice none 0 0)∧Kp w (w1.alloc (.cells #[.int .u64 0,.string ⟨#[]⟩] 134)) from by
  have kp:=Kp.mvS P0.out.1.dk P0.out.1.sl m1
  exact ⟨(P0.out.1.goS d1 s1 m1).call b2,(P0.out.2.1.kp kp).kp (.below b2),(P0.out.2.2.trans kp).call b2⟩)
 have FIN:=Lib.hid (ret_two P1.out.1 P1.out.2.1 P1.out.2.2 (Nat.le_refl _) HB HW0 ⟨#[]⟩ (.slice none 0 0))
 have y0:=P1.out.2.1.c0
 have y1:=P1.out.2.1.c1
 have z0:=P1.out.2.1.fz 0
 have z1:=P1.out.2.1.fz 1
 have x0:=FIN.out.2.1.c0
 have x1:=FIN.out.2.1.c1
 clear RD c1 d1 s1 m1 b2 P0 hW P1
 go_wp2
 refine bodyPost_ret (v:=.tuple #[noFound,.int .i64 18]) (by simp [results,Tryz.results124,go_sem,y0,y1,x0,x1,noFound]) rfl ⟨rfl,FIN.out.1,FIN.out.2.2⟩
structure Fnd (B b j l q p n:Nat) (tl:WS) (ts:SS) (e:Nat) (g:Bool) (s:DS) (E:Nat) (d:List UInt8) (w0 w W:World):Prop where
 jn:Jn B b j l q tl ts e g s w0 W
 fd:FdAt W p ⟨#[]⟩ (.slice none 0 0)
 sn:SnAt W n E d
 kp:Kp w W
theorem find_scan (B b j l q:Nat) (tl:WS) (ts:SS) (e:Nat) (g:Bool) (s:DS) (E:Nat) (d:List UInt8) (x:Nat) (w0 w:World) (h:Jn B b j l q tl ts e g s w0 w) (k1:1≤ts.k) (k2:ts.k≤64) (ka:ts.at_+2*ts.k≤s.sec.length) (hr:s.reads≤800000000) (hn:s.opn.length≤900000) (hf:s.fail<9223372036854775808) (hf2:s.fail=0∨2*ts.k<s.fail) (ht:Sl.toldR ts s=((E,d),x)) (hE:1≤E) (n1:1≤tl.n) (nl:tl.at_+tl.n≤s.sec.length) (err:Nat) (ops:List (List UInt8)) (s':DS)
 (hs:Wl.scanR (Sl.gotR s ts.k) tl.at_ tl.n E=(s',ops,err)) :
 (err=18→Calls Tryz.prog 124 #[ptr j] w fun r w'=>r=.returned (.tuple #[noFound,.int .i64 18])∧Jn B b j l q ⟨tl.at_,tl.n,none⟩ ⟨ts.at_,ts.k,true,Sl.newR ts s,x⟩ e g s' w0 w'∧Kp w w') ∧
 (err=0→Calls Tryz.prog 124 #[ptr j] w fun r w'=>∃ v,r=.returned (.tuple #[.agg #[.string (mkB d),v],.int .i64 0])∧Strs w.heap.size w' v ops∧Jn B b j l q ⟨tl.at_,tl.n,some (E,ops.length)⟩ ⟨ts.at_,ts.k,true,Sl.newR ts s,x⟩ E g s' w0 w'∧Kp w w'):=by
 have b0:=(Below.refl w.heap.size w).alloc (Nat.le_refl _) (.cells #[.string ⟨#[]⟩,.slice none 0 0] 109)
 have P0:=Lib.hid (And.intro (h.call b0) (And.intro (fdAt_new w ⟨#[]⟩ (.slice none 0 0)) (Kp.below b0)))
 have RD:=Sl.read_ok B b q ts s _ P0.out.1.dk P0.out.1.sl k1 k2 ka (by omega) hn hf hf2
 rw [ht] at RD
 have hp:decide (0<E)=true:=by simp;omega
 dsimp only at RD
 rw [hp] at RD
 have RD':Hid _:=Lib.hid RD
 have c1:=P0.out.1.jn.c1
 have HB:B≤w.heap.size:=h.dk.le
 have HW0:w0.heap.size≤w.heap.size:=h.bel.size
 have SC0:=Lib.hid (fun w1 (h1:Wl.Wl l b tl w1) (d1:Dk B b (Sl.gotR s ts.k) w1)=>Wl.scan_any E w1 h1 d1 n1 (by show _≤s.sec.length;exact nl) hE (by show s.reads+2*ts.k≤900000000;omega) (by show s.opn.length≤900000;exact hn) (by show s.fail-2*ts.k<_;omega))
 have E18:err=18→Wl.scanS (Sl.gotR s ts.k) tl.at_ tl.n E=none:=fun h=>by unfold Wl.scanS;rw [hs];simp [h]
 have E0:err=0→Wl.scanS (Sl.gotR s ts.k) tl.at_ tl.n E=some (E,ops.length):=fun h=>by unfold Wl.scanS;rw [hs];simp [h]
 have EL:E<18446744073709551616:=by
  have:=Sl.readTo_lt (Sl.rowOf s ts.at_ ts.k) (Sl.rowOf s (ts.at_+ts.k) ts.k) 2
  have e':Sl.readTo (Sl.rowOf s ts.at_ ts.k) (Sl.rowOf s (ts.at_+ts.k) ts.k) 2=((E,d),x):=ht
  rw [e'] at this;exact this
 have HS:=Lib.hid hs
 clear h b0 RD ht hp hs hn hr hf hf2 nl n1 ka k1 k2
 have A1:=Lib.hid (fun w1 (d1:Dk B b (Sl.gotR s ts.k) w1) (s1:Sl.Sl q b ⟨ts.at_,ts.k,true,Sl.newR ts s,x⟩ w1) (m1:Mv b q (w.alloc (.cells #[.string ⟨#[]⟩,.slice none 0 0] 109)) w1)=>show Fnd B b j l q w.heap.size w1.heap.size tl ⟨ts.at_,ts.k,true,Sl.newR ts s,x⟩ e g (Sl.gotR s ts.k) E d w0 w ((w1.alloc (.cells #[.int .u64 (E:Int),.string (mkB d)] 134)).drew) from by
  have b2:=((Below.refl w1.heap.size w1).alloc (Nat.le_refl _) (.cells #[.int .u64 (E:Int),.string (mkB d)] 134)).drew
  have kp:=Kp.mvS P0.out.1.dk P0.out.1.sl m1
  exact ⟨(P0.out.1.goS d1 s1 m1).call b2,(P0.out.2.1.kp kp).kp (.below b2),heap_alloc_new _ _,(P0.out.2.2.trans kp).call b2⟩)
 generalize hW:w.alloc (.cells #[.string ⟨#[]⟩,.slice none 0 0] 109)=W0 at *
 clear P0
 refine ⟨fun herr=>?_,fun herr=>?_⟩
 ·have ES:=Lib.hid (E18 herr)
  subst herr
  clear E0 E18
  go_enter Tryz.func124,Tryz.ntmps124
  go_wp2_with fail
  (try rw [hW])
  (with_reducible refine RD'.out.mono ?_)
  rintro r w1 ⟨rfl,d1,s1,m1⟩
  have P2:=Lib.hid (A1.out w1 d1 s1 m1)
  have jc0:(w1.alloc (.cells #[.int .u64 (E:Int),.string (mkB d)] 134)).cell? ⟨j,0,none⟩=some (ptr l):=P2.out.jn.jn.c0
  have sc0:(w1.alloc (.cells #[.int .u64 (E:Int),.string (mkB d)] 134)).cell? ⟨w1.heap.size,0,none⟩=some (.int .u64 (E:Int)):=P2.out.sn.c0
  have SX:=SC0.out _ P2.out.jn.wl P2.out.jn.dk
  rw [HS.out,ES.out] at SX
  have SX':=Lib.hid SX
  clear RD' c1 d1 s1 m1 A1 SC0 SX ES HS
  go_wp2_with fail
  generalize hA:w1.alloc (.cells #[.int .u64 (E:Int),.string (mkB d)] 134)=WA at *
  generalize hn:w1.heap.size=n at *
  have KS:Hid (WA.drew.cell? ⟨j,0,none⟩=some (ptr l)∧WA.drew.cell? ⟨n,0,none⟩=some (.int .u64 (E:Int))):=Lib.hid ⟨P2.out.jn.jn.c0,P2.out.sn.c0⟩
  have KD:=Lib.hid (fun w3 (m3:Mv b l WA.drew w3)=>show w3.cell? ⟨j,0,none⟩=some (ptr l)∧w3.cell? ⟨n,0,none⟩=some (.int .u64 (E:Int)) from ⟨(P2.out.jn.jn.of_block (m3.block j P2.out.jn.jn.lt P2.out.jn.notOwn (Ne.symm P2.out.jn.lj))).c0,(snAt_kp P2.out.sn (Kp.mvL P2.out.jn.dk P2.out.jn.wl m3)).c0⟩)
  generalize hEI:(E:Int)=EI at *
  go_region_held3 (fun w'=>w'.cell? ⟨j,0,none⟩=some (ptr l)∧w'.cell? ⟨n,0,none⟩=some (.int .u64 EI)) (first|exact KS.out|assumption|fail) (first|(go_at_call 163;(with_reducible refine SX'.out.mono ?_);rintro e1 w3 ⟨v,rfl,st,d3,l3,m3⟩;(have kn:=KD.out w3 m3))|fail)
  clear jc0 sc0 KS KD kn
  subst hEI
  obtain ⟨va,vc,hv⟩:=Wl.strs_form st
  subst hv
  have kp:=Kp.mvL P2.out.jn.dk P2.out.jn.wl m3
  have P3:=Lib.hid (And.intro (P2.out.jn.goL d3 l3 m3) (And.intro (P2.out.fd.kp kp) (P2.out.kp.trans kp)))
  have FIN:=Lib.hid (ret_two P3.out.1 P3.out.2.1 P3.out.2.2 (Nat.le_refl _) HB HW0 ⟨#[]⟩ (.slice none 0 0))
  have y0:=P3.out.2.1.c0
  have y1:=P3.out.2.1.c1
  have z0:=P3.out.2.1.fz 0
  have z1:=P3.out.2.1.fz 1
  have x0:=FIN.out.2.1.c0
  have x1:=FIN.out.2.1.c1
  clear SX' P2 P3 st d3 l3 m3 kp hW hA hn
  go_wp2
  refine bodyPost_ret (v:=.tuple #[noFound,.int .i64 18]) (by simp [results,Tryz.results124,go_sem,y0,y1,x0,x1,noFound]) rfl ⟨rfl,FIN.out.1,FIN.out.2.2⟩
 ·have ES:=Lib.hid (E0 herr)
  subst herr
  clear E0 E18
  go_enter Tryz.func124,Tryz.ntmps124
  go_wp2_with fail
  (try rw [hW])
  (with_reducible refine RD'.out.mono ?_)
  rintro r w1 ⟨rfl,d1,s1,m1⟩
  have P2:=Lib.hid (A1.out w1 d1 s1 m1)
  have WS2:w.heap.size≤w1.heap.size:=by have:=m1.size;rw [← hW] at this;simp at this;omega
  have jc0:(w1.alloc (.cells #[.int .u64 (E:Int),.string (mkB d)] 134)).cell? ⟨j,0,none⟩=some (ptr l):=P2.out.jn.jn.c0
  have sc0:(w1.alloc (.cells #[.int .u64 (E:Int),.string (mkB d)] 134)).cell? ⟨w1.heap.size,0,none⟩=some (.int .u64 (E:Int)):=P2.out.sn.c0
  have SX:=SC0.out _ P2.out.jn.wl P2.out.jn.dk
  rw [HS.out,ES.out] at SX
  have SX':=Lib.hid SX
  have WZ:w.heap.size≤(w1.alloc (.cells #[.int .u64 (E:Int),.string (mkB d)] 134)).drew.heap.size:=by simp;omega
  clear RD' c1 d1 s1 m1 A1 SC0 SX ES HS
  go_wp2_with fail
  generalize hA:w1.alloc (.cells #[.int .u64 (E:Int),.string (mkB d)] 134)=WA at *
  generalize hn:w1.heap.size=n at *
  have KS:Hid (WA.drew.cell? ⟨j,0,none⟩=some (ptr l)∧WA.drew.cell? ⟨n,0,none⟩=some (.int .u64 (E:Int))):=Lib.hid ⟨P2.out.jn.jn.c0,P2.out.sn.c0⟩
  have KD:=Lib.hid (fun w3 (m3:Mv b l WA.drew w3)=>show w3.cell? ⟨j,0,none⟩=some (ptr l)∧w3.cell? ⟨n,0,none⟩=some (.int .u64 (E:Int)) from ⟨(P2.out.jn.jn.of_block (m3.block j P2.out.jn.jn.lt P2.out.jn.notOwn (Ne.symm P2.out.jn.lj))).c0,(snAt_kp P2.out.sn (Kp.mvL P2.out.jn.dk P2.out.jn.wl m3)).c0⟩)
  generalize hEI:(E:Int)=EI at *
  go_region_held3 (fun w'=>w'.cell? ⟨j,0,none⟩=some (ptr l)∧w'.cell? ⟨n,0,none⟩=some (.int .u64 EI)) (first|exact KS.out|assumption|fail) (first|(go_at_call 163;(with_reducible refine SX'.out.mono ?_);rintro e1 w3 ⟨v,rfl,st,d3,l3,m3⟩;(have kn:=KD.out w3 m3))|fail)
  clear jc0 sc0 KS KD kn
  subst hEI
  obtain ⟨va,vc,hv⟩:=Wl.strs_form st
  subst hv
  have kp:=Kp.mvL P2.out.jn.dk P2.out.jn.wl m3
  have P3:=Lib.hid (show Fnd B b j l q w.heap.size n _ _ e g s' E d w0 w w3 from ⟨P2.out.jn.goL d3 l3 m3,P2.out.fd.kp kp,snAt_kp P2.out.sn kp,P2.out.kp.trans kp⟩)
  have ST3:=Lib.hid (Sl.strs_mono st WZ)
  have KJ:=Kp.setJ P3.out.jn.jn 2 (.int .u64 (E:Int))
  have P4:=Lib.hid (show Fnd B b j l q w.heap.size n _ _ E g s' E d w0 w (w3.setCell ⟨j,2,none⟩ (.int .u64 (E:Int))) from ⟨P3.out.jn.setE rfl,P3.out.fd.kp KJ,snAt_kp P3.out.sn KJ,P3.out.kp.trans KJ⟩)
  have ST4:=Lib.hid (KJ.strs ST3.out)
  have FIN:=Lib.hid (ret_two P4.out.jn P4.out.fd P4.out.kp (Nat.le_refl _) HB HW0 (mkB d) (.slice va ops.length vc))
  have ST5:=Lib.hid (strs_two ST4.out P4.out.fd (mkB d) (.slice va ops.length vc))
  have q2:=P3.out.jn.jn.c2
  have qf:=P3.out.jn.jn.fz 2
  have r0:=P3.out.sn.c0
  have r1:=P3.out.sn.c1
  have r2:=P4.out.sn.c1
  have y0:=P4.out.fd.c0
  have y1:=P4.out.fd.c1
  have z0:=P4.out.fd.fz 0
  have z1:=P4.out.fd.fz 1
  have x0:=FIN.out.2.1.c0
  have x1:=FIN.out.2.1.c1
  clear SX' P2 P3 P4 st d3 l3 m3 kp hW hA KJ ST3 ST4 hn WZ WS2
  go_wp2
  refine bodyPost_ret (v:=.tuple #[.agg #[.string (mkB d),.slice va ops.length vc],.int .i64 0]) (by simp [results,Tryz.results124,go_sem,y0,y1,x0,x1]) rfl ⟨_,rfl,ST5.out,FIN.out.1,FIN.out.2.2⟩
end Go.Proofs.YteempfoajgblaaaGreat.Jn
