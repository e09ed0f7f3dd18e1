/- The arithmetic of layer 3: numbers as bytes, the greatest first; what a reader takes of a text. A .. -/
import Derived.Test.YteempfoajgblaaaGreatRows
import Derived.WalkKit
import Derived.ProofKit
import Derived.OpenShut
import Derived.Below
import Derived.Lib.Hide
import Derived.Lib.SmallJoins
import Derived.Lib.FrozenHead2
import Derived.Lib.UnsafeStr
import Derived.Lib.AppendStr
import Derived.Lib.Builder
import Derived.Laws.Externs
import Derived.Test.YteempfoajgblaaaGreatLQC
import Derived.Laws.StructEq
import Derived.Deep.RegionWith
import Derived.BigQuiet
import Derived.Deep.RegionHeld3
set_option maxRecDepth 100000
set_option linter.unusedVariables false
set_option linter.unusedSimpArgs false
open Go.ChangeShapes Go.WideShapes Go.ChangeAt Go.RowKit Go.Joins
set_option maxHeartbeats 4000000
namespace Go.Proofs.YteempfoajgblaaaGreat.Oc
def mkB (l:List UInt8):ByteArray:=⟨l.toArray⟩
theorem mkB_size (l:List UInt8):(mkB l).size=l.length:=by unfold mkB;show l.toArray.size=_;simp
theorem mkB_data (l:List UInt8):(mkB l).data.toList=l:=by unfold mkB;simp
theorem mkB_of (s:ByteArray):mkB s.data.toList=s:=by unfold mkB;simp
theorem mkB_ext {s:ByteArray} {l:List UInt8} (h:s.data.toList=l):s=mkB l:=by rw [← h,mkB_of]
def bytesOf (n:Nat):List UInt8:=if h:n=0 then [] else bytesOf (n/256)++[UInt8.ofNat (n%256)]
 termination_by n
 decreasing_by omega
theorem bytesOf_zero:bytesOf 0=[]:=by rw [bytesOf];simp
theorem bytesOf_pos {n:Nat} (h:n≠0):bytesOf n=bytesOf (n/256)++[UInt8.ofNat (n%256)]:=by rw [bytesOf];simp [h]
def val (l:List UInt8):Nat:=l.foldl (fun a b=>a*256+b.toNat) 0
theorem val_nil:val []=0:=rfl
theorem val_snoc (l:List UInt8) (b:UInt8):val (l++[b])=val l*256+b.toNat:=by unfold val;rw [List.foldl_append];rfl
theorem val_bytesOf (n:Nat):val (bytesOf n)=n:=by
 induction n using Nat.strongRecOn with
 | _ n ih=>
  by_cases h:n=0
  · subst h;rw [bytesOf_zero];rfl
  ·rw [bytesOf_pos h,val_snoc,ih (n/256) (by omega),UInt8.toNat_ofNat']
   omega
theorem bytesOf_length {n k:Nat} (h:n<256^k):(bytesOf n).length≤k:=by
 induction k generalizing n with
 | zero=>have:n=0:=by simp at h;exact h
         subst this;rw [bytesOf_zero];simp
 | succ k ih=>
  by_cases h0:n=0
  · subst h0;rw [bytesOf_zero];simp
  ·rw [bytesOf_pos h0,List.length_append]
   have:n/256<256^k:=by rw [Nat.div_lt_iff_lt_mul (by omega)];rw [Nat.pow_succ] at h;exact h
   have:=ih this
   simp;omega
theorem bytesOf_len8 {n:Nat} (h:n<18446744073709551616):(bytesOf n).length≤8:=bytesOf_length (k:=8) (by simpa using h)
theorem val_lt (l:List UInt8):val l<256^l.length:=by
 have key:∀ r:List UInt8,val r.reverse<256^r.length:=by
  intro r
  induction r with
  | nil=>simp [val]
  | cons b r ih=>
   rw [List.reverse_cons,val_snoc,List.length_cons,Nat.pow_succ]
   have:=UInt8.toNat_lt b
   omega
 have:=key l.reverse
 simpa using this
theorem bytesOf_val (l:List UInt8) (h:l.head?≠some 0):bytesOf (val l)=l:=by
 have key:∀ r:List UInt8,r.reverse.head?≠some 0→bytesOf (val r.reverse)=r.reverse:=by
  intro r
  induction r with
  | nil=>intro _;simp [val,bytesOf_zero]
  | cons b r ih=>
   intro h
   rw [List.reverse_cons] at h ⊢
   rw [val_snoc]
   have hb:=UInt8.toNat_lt b
   by_cases hr:r=[]
   ·subst hr
    have hb0:b≠0:=by simpa using h
    have hb1:b.toNat≠0:=fun e=>hb0 (UInt8.toNat_inj.1 (by rw [e];rfl))
    simp only [List.reverse_nil,List.nil_append,val_nil]
    rw [bytesOf_pos (by omega),show (0*256+b.toNat)/256=0 by omega,bytesOf_zero,show (0*256+b.toNat)%256=b.toNat by omega]
    simp
   ·have hh:r.reverse.head?≠some 0:=by
     cases hrr:r.reverse with
     | nil=>simp
     | cons x y=>rw [hrr] at h;simpa using h
    have hv:val r.reverse≠0:=by
     intro e
     have:=ih hh
     rw [e,bytesOf_zero] at this
     exact hr (by simpa using this.symm)
    rw [bytesOf_pos (by omega),show (val r.reverse*256+b.toNat)/256=val r.reverse by omega,show (val r.reverse*256+b.toNat)%256=b.toNat by omega,ih hh]
    simp
 have:=key l.reverse
 simp only [List.reverse_reverse] at this
 exact this h
theorem bytesOf_head (n:Nat):(bytesOf n).head?≠some 0:=by
 induction n using Nat.strongRecOn with
 | _ n ih=>
  by_cases h:n=0
  · subst h;rw [bytesOf_zero];simp
  ·rw [bytesOf_pos h]
   cases hb:bytesOf (n/256) with
   | nil=>
    have e:n/256=0:=by rw [← val_bytesOf (n/256),hb];rfl
    simp only [List.nil_append,List.head?_cons,ne_eq,Option.some.injEq]
    intro e1
    have:(UInt8.ofNat (n%256)).toNat=0:=by rw [e1];rfl
    rw [UInt8.toNat_ofNat'] at this
    omega
   | cons x y=>have:=ih (n/256) (by omega);rw [hb] at this;simpa using this
def enc (n:Nat):List UInt8:=UInt8.ofNat (bytesOf n).length :: bytesOf n
def encInt (n:Int):List UInt8:=enc n.toNat
def encFlag (b:Bool):List UInt8:=enc (if b then 1 else 0)
theorem enc_length (n:Nat):(enc n).length=(bytesOf n).length+1:=rfl
theorem enc_len9 {n:Nat} (h:n<18446744073709551616):(enc n).length≤9:=by rw [enc_length];have:=bytesOf_len8 h;omega
def dec:List UInt8→Option (Nat×List UInt8)
 | []=>none
 | k :: r=>if k.toNat≤8∧k.toNat≤r.length∧(r.take k.toNat).head?≠some 0 then some (val (r.take k.toNat),r.drop k.toNat) else none
theorem dec_cons (k:UInt8) (r:List UInt8):dec (k :: r)=if k.toNat≤8∧k.toNat≤r.length∧(r.take k.toNat).head?≠some 0 then some (val (r.take k.toNat),r.drop k.toNat) else none:=rfl
theorem dec_enc {n:Nat} (h:n<18446744073709551616) (r:List UInt8):dec (enc n++r)=some (n,r):=by
 have h8:=bytesOf_len8 h
 have e:(UInt8.ofNat (bytesOf n).length).toNat=(bytesOf n).length:=by rw [UInt8.toNat_ofNat'];omega
 unfold enc
 rw [List.cons_append,dec_cons,e,List.take_left,List.drop_left,if_pos ⟨h8,by simp,bytesOf_head n⟩,val_bytesOf]
theorem dec_some {l:List UInt8} {n:Nat} {r:List UInt8} (h:dec l=some (n,r)):l=enc n++r∧n<18446744073709551616:=by
 cases l with
 | nil=>cases h
 | cons k t=>
  rw [dec_cons] at h
  split at h
  ·rename_i hc
   simp only [Option.some.injEq,Prod.mk.injEq] at h
   obtain ⟨rfl,rfl⟩:=h
   obtain ⟨h8,hl,h0⟩:=hc
   have e1:=bytesOf_val _ h0
   have e2:(t.take k.toNat).length=k.toNat:=by rw [List.length_take];omega
   refine ⟨?_,?_⟩
   · unfold enc;rw [e1,e2];simp
   ·have:=val_lt (t.take k.toNat)
    rw [e2] at this
    have h2:256^k.toNat≤256^8:=Nat.pow_le_pow_right (by omega) h8
    have h3:(256:Nat)^8=18446744073709551616:=by decide
    omega
  · cases h
abbrev St:=Option (List UInt8)
def num (o:St) (most:Nat):Nat×St:=match o with
 | none=>(0,none)
 | some l=>match dec l with
  | none=>(0,none)
  | some (n,r)=>if n≤most then (n,some r) else (0,none)
def int (o:St) (most:Int):Nat×St:=if most<0 then (0,none) else num o most.toNat
def flag (o:St):Bool×St:=((num o 1).1==1,(num o 1).2)
def left (o:St):Nat:=match o with|none=>0|some l=>l.length
def ended (o:St):Bool:=o==some []
theorem num_most (o:St) (most:Nat):(num o most).1≤most:=by
 unfold num
 cases o with
 | none=>simp
 | some l=>
  simp only
  cases dec l with
  | none=>simp
  | some x=>obtain ⟨n,r⟩:=x;simp only;split <;> simp;assumption
theorem num_shorter {o:St} {most:Nat} {r:List UInt8} (h:(num o most).2=some r):∃ l,o=some l∧r.length<l.length∧dec l=some ((num o most).1,r):=by
 unfold num at h ⊢
 cases o with
 | none=>cases h
 | some l=>
  simp only at h ⊢
  cases hd:dec l with
  | none=>rw [hd] at h;cases h
  | some x=>
   obtain ⟨n,r'⟩:=x
   rw [hd] at h
   simp only at h ⊢
   split at h
   ·rename_i hc
    rw [if_pos hc]
    cases h
    have:=(dec_some hd).1
    refine ⟨l,rfl,?_,hd⟩
    rw [this,List.length_append,enc_length];omega
   · cases h
end Go.Proofs.YteempfoajgblaaaGreat.Oc
namespace Go.Proofs.YteempfoajgblaaaGreat.Oc
structure Apart (b:Nat) (w w':World):Prop where
 os:w'.os=w.os
 tape:w'.tape=w.tape
 output:w'.output=w.output
 size:w.heap.size≤w'.heap.size
 block:∀ k,k<w.heap.size→k≠b→w'.heap[k]?=w.heap[k]?
theorem Apart.refl (b:Nat) (w:World):Apart b w w:=⟨rfl,rfl,rfl,Nat.le_refl _,fun _ _ _=>rfl⟩
theorem Apart.trans {b:Nat} {u v w:World} (h:Apart b u v) (k:Apart b v w):Apart b u w:=
 ⟨k.os.trans h.os,k.tape.trans h.tape,k.output.trans h.output,Nat.le_trans h.size k.size,fun i hi hb=>(k.block i (Nat.lt_of_lt_of_le hi h.size) hb).trans (h.block i hi hb)⟩
theorem Apart.drew {b:Nat} {u w:World} (h:Apart b u w):Apart b u w.drew:=h.trans ⟨rfl,rfl,rfl,Nat.le_refl _,fun _ _ _=>rfl⟩
theorem Apart.setCell {b:Nat} {u w:World} (h:Apart b u w) (o:Nat) (v:Value):Apart b u (w.setCell ⟨b,o,none⟩ v):=
 h.trans ⟨rfl,rfl,rfl,by simp,fun k hk hb=>Below.heap_setCell _ _ _ _ hb⟩
theorem Apart.alloc {b:Nat} {u w:World} (h:Apart b u w) (o:Obj):Apart b u (w.alloc o):=
 h.trans ⟨rfl,rfl,rfl,by simp,fun k hk hb=>Below.heap_alloc _ _ _ hk⟩
theorem Apart.below {b B:Nat} {w w':World} (h:Apart b w w') (hB:B≤b) (hs:B≤w.heap.size):Below B w w' :=
 ⟨h.os,h.tape,h.output,h.size,fun k hk=>h.block k (by omega) (by omega)⟩
theorem Apart.of_below {b:Nat} {w w':World} (h:Below w.heap.size w w'):Apart b w w' :=
 ⟨h.os,h.tape,h.output,h.size,fun k hk _=>h.block k hk⟩
theorem lt_of_heap {w:World} {k:Nat} {o:Obj} (h:w.heap[k]?=some o):k<w.heap.size:=(Array.getElem?_eq_some_iff.1 h).1
def bufOf (w:World) (b:Nat):Option Nat:=(w.cell? ⟨b,1,none⟩).bind Value.ownBlock
structure Moved (b:Nat) (w w':World):Prop where
 os:w'.os=w.os
 tape:w'.tape=w.tape
 output:w'.output=w.output
 size:w.heap.size≤w'.heap.size
 block:∀ k,k<w.heap.size→k≠b→bufOf w b≠some k→w'.heap[k]?=w.heap[k]?
 own:∀ k,bufOf w' b=some k→bufOf w b=some k∨w.heap.size≤k
theorem Moved.refl (b:Nat) (w:World):Moved b w w:=⟨rfl,rfl,rfl,Nat.le_refl _,fun _ _ _ _=>rfl,fun _ h=>.inl h⟩
theorem Moved.trans {b:Nat} {u v w:World} (h:Moved b u v) (k:Moved b v w):Moved b u w:=by
 refine ⟨k.os.trans h.os,k.tape.trans h.tape,k.output.trans h.output,Nat.le_trans h.size k.size,fun i hi hb hn=>?_,fun i hi=>?_⟩
 ·rw [k.block i (Nat.lt_of_lt_of_le hi h.size) hb ?_,h.block i hi hb hn]
  intro e
  rcases h.own i e with e|e
  · exact hn e
  · omega
 ·rcases k.own i hi with e|e
  · exact h.own i e
  · exact .inr (Nat.le_trans h.size e)
theorem Moved.drew {b:Nat} {u w:World} (h:Moved b u w):Moved b u w.drew:=h.trans ⟨rfl,rfl,rfl,Nat.le_refl _,fun _ _ _ _=>rfl,fun _ h=>.inl h⟩
def BAt (B b:Nat) (p h:Value) (l:List UInt8) (w:World):Prop:=
 B≤b∧∃ v,w.heap[b]?=some (.cells #[p,v,h] 191 (0,0))∧w.ownsRowF B 5 1 v l.length (Lib.byteCells l)∧(l=[]→v=.slice none 0 0)
theorem BAt.lt {B b:Nat} {p h:Value} {l:List UInt8} {w:World} (k:BAt B b p h l w):b<w.heap.size:=by
 obtain ⟨_,v,hb,_⟩:=k;exact lt_of_heap hb
theorem BAt.drew {B b:Nat} {p h:Value} {l:List UInt8} {w:World} (k:BAt B b p h l w):BAt B b p h l w.drew:=k
theorem bufOf_eq {w:World} {b:Nat} {p v h:Value} {T:TypeId} {fz:Nat×Nat} (hb:w.heap[b]?=some (.cells #[p,v,h] T fz)):bufOf w b=v.ownBlock:=by
 unfold bufOf;rw [Lib.cell_of_heap hb];rfl
theorem neF {w:World} {B n:Nat} {v:Value} {xs:List Value} {b:Nat} {cs:Array Value} {T:TypeId} {fr:Nat×Nat} (hown:w.ownsRowF B 5 1 v n xs) (hb:w.heap[b]?=some (.cells cs T fr)) (hT:T≠5):v.ownBlock≠some b:=Lib.ownBlock_neF hown hb hT
theorem grownBy_setCell (w:World) (b o:Nat) (v:Value):w.grownBy (w.setCell ⟨b,o,none⟩ v) (some b):=
 ⟨rfl,rfl,rfl,by simp [World.setCell],fun k _ hk=>Below.heap_setCell _ _ _ _ (fun e=>hk (by simp [e]))⟩
theorem BAt.used {B b:Nat} {p h:Value} {l:List UInt8} {w:World} (k:BAt B b p h l w) (q:Value):BAt B b q h l (w.setCell ⟨b,0,none⟩ q):=by
 obtain ⟨hB,v,hb,hown,hn⟩:=k
 refine ⟨hB,v,?_,hown.kept (grownBy_setCell _ _ _ _) (.inr (neF hown hb (by decide))),hn⟩
 simp [World.setCell,Array.getElem?_modify,hb]
theorem BAt.homed {B b:Nat} {p h:Value} {l:List UInt8} {w:World} (k:BAt B b p h l w) (q:Value):BAt B b p q l (w.setCell ⟨b,2,none⟩ q):=by
 obtain ⟨hB,v,hb,hown,hn⟩:=k
 refine ⟨hB,v,?_,hown.kept (grownBy_setCell _ _ _ _) (.inr (neF hown hb (by decide))),hn⟩
 simp [World.setCell,Array.getElem?_modify,hb]
theorem BAt.put {B b:Nat} {p v v' h:Value} {l:List UInt8} {w:World} (hB:B≤b) (hb:w.heap[b]?=some (.cells #[p,v,h] 191 (0,0))) (hown:w.ownsRowF B 5 1 v' l.length (Lib.byteCells l)) (hn:l=[]→v'=.slice none 0 0) :
 BAt B b p h l (w.setCell ⟨b,1,none⟩ v'):=by
 refine ⟨hB,v',?_,hown.kept (grownBy_setCell _ _ _ _) (.inr (neF hown hb (by decide))),hn⟩
 simp [World.setCell,Array.getElem?_modify,hb]
theorem Moved.set {b:Nat} {p v h:Value} {w:World} {T:TypeId} {fz:Nat×Nat} (hb:w.heap[b]?=some (.cells #[p,v,h] T fz)) (o:Nat) (q:Value) (hq:o=1→∀ k,q.ownBlock=some k→v.ownBlock=some k∨w.heap.size≤k):Moved b w (w.setCell ⟨b,o,none⟩ q):=by
 refine ⟨rfl,rfl,rfl,by simp [World.setCell],fun k _ hk _=>Below.heap_setCell _ _ _ _ hk,fun k hk=>?_⟩
 rw [bufOf_eq hb]
 by_cases e:o=1
 ·subst e
  unfold bufOf at hk
  rw [World.cell?_setCell_same _ _ _ (show w.cell? ⟨b,1,none⟩=some v by rw [Lib.cell_of_heap hb];rfl)] at hk
  exact hq rfl k (by simpa using hk)
 ·left
  rw [← bufOf_eq hb]
  unfold bufOf at hk ⊢
  rwa [World.cell?_setCell_other _ _ _ _ (by first|(simp;done)|(simp;omega))] at hk
theorem Moved.below {B b:Nat} {p h:Value} {l:List UInt8} {w w':World} (m:Moved b w w') (k:BAt B b p h l w) (hs:B≤w.heap.size):Below B w w':=by
 obtain ⟨hB,v,hb,hown,hn⟩:=k
 refine ⟨m.os,m.tape,m.output,m.size,fun i hi=>m.block i (by omega) (by omega) ?_⟩
 rw [bufOf_eq hb]
 intro e
 have:=(hown.lt i e).1
 omega
end Go.Proofs.YteempfoajgblaaaGreat.Oc
namespace Go.Proofs.YteempfoajgblaaaGreat.Ox
open Pm (Tk chk chk_iff)
open Oc (enc encInt encFlag dec num int flag dec_enc dec_some enc_length enc_len9 num_most)
structure Od where
 kind:Int
 task:Tk
 server:Bool
 id:Int
 c:Int
 mode:Int
instance:DecidableEq Tk:=fun a b=>decidable_of_iff (a.id=b.id∧a.c=b.c∧a.d=b.d∧a.t=b.t∧a.m=b.m) (by cases a;cases b;simp)
instance:DecidableEq Od:=fun a b=>decidable_of_iff (a.kind=b.kind∧a.task=b.task∧a.server=b.server∧a.id=b.id∧a.c=b.c∧a.mode=b.mode) (by cases a;cases b;simp)
def tk0:Tk:=⟨0,0,0,0,0⟩
def bareR (o:Od):Od:=
 if o.kind=1 then ⟨1,o.task,o.server,0,0,0⟩ else if o.kind=2 then ⟨2,tk0,false,o.id,0,0⟩ else if o.kind=3 then ⟨3,tk0,false,o.id,o.c,0⟩ else if o.kind=4 then ⟨4,tk0,false,0,0,o.mode⟩ else ⟨o.kind,tk0,false,0,0,0⟩
def mayR (o:Od):Bool:=
 if o.kind=1 then chk o.task&&(!o.server||o.task.d==o.task.t) else if o.kind=2 then decide (0≤o.id∧o.id≤1023) else if o.kind=3 then decide (0≤o.id∧o.id≤1023∧1≤o.c∧o.c≤2147483648) else if o.kind=4 then decide (0≤o.mode∧o.mode≤3) else false
def chkR (o:Od):Bool:=decide (o=bareR o)&&mayR o
theorem chk_admit {t:Tk} {s:Bool} (h:chk t=true) (hs:s=true→t.d=t.t):chkR ⟨1,t,s,0,0,0⟩=true:=by
 unfold chkR mayR bareR
 cases s with
 | false=>simp [h]
 | true=>simp [h,hs rfl]
theorem chk_remove {i:Int} (h1:0≤i) (h2:i≤1023):chkR ⟨2,tk0,false,i,0,0⟩=true:=by
 unfold chkR mayR bareR
 simp [h1,h2]
theorem chk_resize {i c:Int} (h1:0≤i) (h2:i≤1023) (h3:1≤c) (h4:c≤2147483648):chkR ⟨3,tk0,false,i,c,0⟩=true:=by
 unfold chkR mayR bareR
 simp [h1,h2,h3,h4]
theorem chk_mode {m:Int} (h1:0≤m) (h2:m≤3):chkR ⟨4,tk0,false,0,0,m⟩=true:=by
 unfold chkR mayR bareR
 simp [h1,h2]
theorem chkR_iff {o:Od}:chkR o=true↔(∃ t s,o=⟨1,t,s,0,0,0⟩∧chk t=true∧(s=true→t.d=t.t))∨(∃ i,o=⟨2,tk0,false,i,0,0⟩∧0≤i∧i≤1023)∨(∃ i c,o=⟨3,tk0,false,i,c,0⟩∧0≤i∧i≤1023∧1≤c∧c≤2147483648)∨(∃ m,o=⟨4,tk0,false,0,0,m⟩∧0≤m∧m≤3):=by
 constructor
 ·intro h
  unfold chkR at h
  rw [Bool.and_eq_true,decide_eq_true_eq] at h
  obtain ⟨hb,hm⟩:=h
  unfold bareR at hb
  unfold mayR at hm
  by_cases h1:o.kind=1
  ·rw [if_pos h1] at hb hm
   rw [Bool.and_eq_true] at hm
   refine .inl ⟨o.task,o.server,hb,hm.1,fun h=>?_⟩
   have:=hm.2
   rw [h] at this
   simpa using this
  rw [if_neg h1] at hb hm
  by_cases h2:o.kind=2
  ·rw [if_pos h2] at hb hm
   exact .inr (.inl ⟨o.id,hb,of_decide_eq_true hm⟩)
  rw [if_neg h2] at hb hm
  by_cases h3:o.kind=3
  ·rw [if_pos h3] at hb hm
   exact .inr (.inr (.inl ⟨o.id,o.c,hb,of_decide_eq_true hm⟩))
  rw [if_neg h3] at hb hm
  by_cases h4:o.kind=4
  ·rw [if_pos h4] at hb hm
   exact .inr (.inr (.inr ⟨o.mode,hb,of_decide_eq_true hm⟩))
  · rw [if_neg h4] at hm;cases hm
 ·rintro (⟨t,s,rfl,hc,hs⟩|⟨i,rfl,h1,h2⟩|⟨i,c,rfl,h1,h2,h3,h4⟩|⟨m,rfl,h1,h2⟩)
  · exact chk_admit hc hs
  · exact chk_remove h1 h2
  · exact chk_resize h1 h2 h3 h4
  · exact chk_mode h1 h2
def encO (o:Od):List UInt8:=
 if o.kind=1 then encInt 1++encInt o.task.id++enc o.task.c.toNat++enc o.task.d.toNat++enc o.task.t.toNat++encInt o.task.m++encFlag o.server
 else if o.kind=2 then encInt 2++encInt o.id else if o.kind=3 then encInt 3++encInt o.id++enc o.c.toNat else encInt o.kind++encInt o.mode
def readM (o:Oc.St):Od×Oc.St:=
 let k:=int o 4
 if k.1=1 then
  let a:=int k.2 1023;let b:=num a.2 2147483648;let d:=num b.2 2147483648;let t:=num d.2 2147483648;let m:=int t.2 15;let f:=flag m.2
  (⟨1,⟨a.1,b.1,d.1,t.1,m.1⟩,f.1,0,0,0⟩,f.2)
 else if k.1=2 then
  let a:=int k.2 1023
  (⟨2,tk0,false,a.1,0,0⟩,a.2)
 else if k.1=3 then
  let a:=int k.2 1023;let b:=num a.2 2147483648
  (⟨3,tk0,false,a.1,b.1,0⟩,b.2)
 else if k.1=4 then
  let a:=int k.2 3
  (⟨4,tk0,false,0,0,a.1⟩,a.2)
 else (⟨k.1,tk0,false,0,0,0⟩,k.2)
theorem num_e {n most:Nat} (hn:n≤most) (hm:most<18446744073709551616) (r:List UInt8):num (some (enc n++r)) most=(n,some r):=by
 unfold num
 simp only [dec_enc (show n<18446744073709551616 by omega),if_pos hn]
theorem int_e {n:Int} {most:Int} (h0:0≤n) (hn:n≤most) (hm:most<18446744073709551616) (r:List UInt8):int (some (encInt n++r)) most=(n.toNat,some r):=by
 unfold int encInt
 rw [if_neg (by omega),num_e (by omega) (by omega)]
theorem flag_e (b:Bool) (r:List UInt8):flag (some (encFlag b++r))=(b,some r):=by
 unfold flag encFlag
 cases b with
 | false=>rw [if_neg (by decide),num_e (by decide) (by decide)];rfl
 | true=>rw [if_pos rfl,num_e (by decide) (by decide)];rfl
theorem readM_enc {o:Od} (h:chkR o=true) (r:List UInt8):readM (some (encO o++r))=(o,some r):=by
 rcases chkR_iff.1 h with ⟨t,s,rfl,hc,-⟩|⟨i,rfl,h1,h2⟩|⟨i,c,rfl,h1,h2,h3,h4⟩|⟨m,rfl,h1,h2⟩
 ·have hk:=chk_iff.1 hc
  obtain ⟨ti,tc,td,tt,tm⟩:=t
  simp only at hk
  unfold encO readM
  simp only [if_true,List.append_assoc]
  rw [int_e (by decide) (by decide) (by decide)]
  simp only [show (1:Int).toNat=1 from rfl,if_true]
  rw [int_e (by omega) (by omega) (by decide)]
  simp only
  rw [num_e (by omega) (by decide)]
  simp only
  rw [num_e (by omega) (by decide)]
  simp only
  rw [num_e (by omega) (by decide)]
  simp only
  rw [int_e (by omega) (by omega) (by decide)]
  simp only
  rw [flag_e]
  simp only [Prod.mk.injEq,Od.mk.injEq,Tk.mk.injEq,true_and,and_true]
  omega
 ·unfold encO readM
  simp only [show ¬(2:Int)=1 by decide,if_false,if_true,List.append_assoc]
  rw [int_e (by decide) (by decide) (by decide)]
  simp only [show (2:Int).toNat=2 from rfl,show ¬(2:Nat)=1 by decide,if_false,if_true]
  rw [int_e (by omega) (by omega) (by decide)]
  simp only [Prod.mk.injEq,Od.mk.injEq,true_and,and_true]
  omega
 ·unfold encO readM
  simp only [show ¬(3:Int)=1 by decide,show ¬(3:Int)=2 by decide,if_false,if_true,List.append_assoc]
  rw [int_e (by decide) (by decide) (by decide)]
  simp only [show (3:Int).toNat=3 from rfl,show ¬(3:Nat)=1 by decide,show ¬(3:Nat)=2 by decide,if_false,if_true]
  rw [int_e (by omega) (by omega) (by decide)]
  simp only
  rw [num_e (by omega) (by decide)]
  simp only [Prod.mk.injEq,Od.mk.injEq,true_and,and_true]
  omega
 ·unfold encO readM
  simp only [show ¬(4:Int)=1 by decide,show ¬(4:Int)=2 by decide,show ¬(4:Int)=3 by decide,if_false,if_true,List.append_assoc]
  rw [int_e (by decide) (by decide) (by decide)]
  simp only [show (4:Int).toNat=4 from rfl,show ¬(4:Nat)=1 by decide,show ¬(4:Nat)=2 by decide,show ¬(4:Nat)=3 by decide,if_false,if_true]
  rw [int_e (by omega) (by omega) (by decide)]
  simp only [Prod.mk.injEq,Od.mk.injEq,true_and,and_true]
  omega
def readR (l:List UInt8):Option Od:=if (readM (some l)).2=some []∧chkR (readM (some l)).1=true∧encO (readM (some l)).1=l then some (readM (some l)).1 else none
theorem readR_enc {o:Od} (h:chkR o=true):readR (encO o)=some o:=by
 have h1:=readM_enc h []
 rw [List.append_nil] at h1
 unfold readR
 rw [h1,if_pos ⟨rfl,h,rfl⟩]
theorem num_took {o:Oc.St} {most:Nat} {r:List UInt8} (h:(num o most).2=some r):o=some (enc (num o most).1++r):=by
 obtain ⟨l,rfl,-,hd⟩:=Oc.num_shorter h
 rw [← (dec_some hd).1]
theorem int_took {o:Oc.St} {most:Int} {r:List UInt8} (h:(int o most).2=some r):o=some (enc (int o most).1++r):=by
 unfold int at h ⊢
 by_cases hm:most<0
 · rw [if_pos hm] at h;cases h
 · rw [if_neg hm] at h ⊢;exact num_took h
theorem flag_took {o:Oc.St} {r:List UInt8} (h:(flag o).2=some r):o=some (encFlag (flag o).1++r):=by
 unfold flag at h ⊢
 simp only at h ⊢
 have h1:=num_took h
 have h2:=num_most o 1
 have h3:encFlag ((num o 1).1==1)=enc (num o 1).1:=by
  unfold encFlag
  have:(num o 1).1=0∨(num o 1).1=1:=by omega
  rcases this with e|e <;> rw [e] <;> rfl
 rw [h3]
 exact h1
theorem readM_took {l:List UInt8} {r:List UInt8} (h:(readM (some l)).2=some r) (hc:chkR (readM (some l)).1=true):l=encO (readM (some l)).1++r:=by
 have key:∀ o:Oc.St,(readM o).2=some r→chkR (readM o).1=true→o=some (encO (readM o).1++r):=by
  intro o h hc
  unfold readM at h hc ⊢
  simp only at h hc ⊢
  by_cases h1:(int o 4).1=1
  ·rw [if_pos h1] at h hc ⊢
   simp only at h
   have e6:=flag_took h
   have e5:=int_took e6
   have e4:=num_took e5
   have e3:=num_took e4
   have e2:=num_took e3
   have e1:=int_took e2
   have e0:=int_took e1
   rw [h1] at e0
   unfold encO
   simp only [if_true,encInt,Int.toNat_natCast,List.append_assoc]
   exact e0
  rw [if_neg h1] at h hc ⊢
  by_cases h2:(int o 4).1=2
  ·rw [if_pos h2] at h hc ⊢
   simp only at h
   have e1:=int_took h
   have e0:=int_took e1
   rw [h2] at e0
   unfold encO
   simp only [show ¬(2:Int)=1 by decide,if_false,if_true,encInt,Int.toNat_natCast,List.append_assoc]
   exact e0
  rw [if_neg h2] at h hc ⊢
  by_cases h3:(int o 4).1=3
  ·rw [if_pos h3] at h hc ⊢
   simp only at h
   have e2:=num_took h
   have e1:=int_took e2
   have e0:=int_took e1
   rw [h3] at e0
   unfold encO
   simp only [show ¬(3:Int)=1 by decide,show ¬(3:Int)=2 by decide,if_false,if_true,encInt,Int.toNat_natCast,List.append_assoc]
   exact e0
  rw [if_neg h3] at h hc ⊢
  by_cases h4:(int o 4).1=4
  ·rw [if_pos h4] at h hc ⊢
   simp only at h
   have e1:=int_took h
   have e0:=int_took e1
   rw [h4] at e0
   unfold encO
   simp only [show ¬(4:Int)=1 by decide,show ¬(4:Int)=2 by decide,show ¬(4:Int)=3 by decide,if_false,encInt,Int.toNat_natCast,List.append_assoc]
   exact e0
  ·rw [if_neg h4] at hc
   exfalso
   rcases chkR_iff.1 hc with ⟨t,s,e,-⟩|⟨i,e,-⟩|⟨i,c,e,-⟩|⟨m,e,-⟩ <;> (simp only [Od.mk.injEq] at e;omega)
 have:=key (some l) h hc
 simpa using this
theorem readR_of {l:List UInt8} (h:(readM (some l)).2=some []) (hc:chkR (readM (some l)).1=true):readR l=some (readM (some l)).1:=by
 have:=readM_took h hc
 rw [List.append_nil] at this
 unfold readR
 rw [if_pos ⟨h,hc,this.symm⟩]
theorem readR_not {l:List UInt8} (h:¬((readM (some l)).2=some []∧chkR (readM (some l)).1=true)):readR l=none:=by
 unfold readR
 rw [if_neg (fun k=>h ⟨k.1,k.2.1⟩)]
theorem bl {n k:Nat} (h:n<256^k):(enc n).length≤k+1:=by rw [enc_length];have:=Oc.bytesOf_length h;omega
theorem encO_len {o:Od} (h:chkR o=true):(encO o).length≤43:=by
 rcases chkR_iff.1 h with ⟨t,s,rfl,hc,-⟩|⟨i,rfl,h1,h2⟩|⟨i,c,rfl,h1,h2,h3,h4⟩|⟨m,rfl,h1,h2⟩
 ·have hk:=chk_iff.1 hc
  have l1:(encInt 1).length≤2:=bl (k:=1) (by decide)
  have l2:(encInt t.id).length≤3:=bl (k:=2) (by omega)
  have l3:(enc t.c.toNat).length≤5:=bl (k:=4) (by omega)
  have l4:(enc t.d.toNat).length≤5:=bl (k:=4) (by omega)
  have l5:(enc t.t.toNat).length≤5:=bl (k:=4) (by omega)
  have l6:(encInt t.m).length≤2:=bl (k:=1) (by omega)
  have l7:(encFlag s).length≤2:=bl (k:=1) (by split <;> decide)
  unfold encO
  simp only [if_true,List.length_append]
  omega
 ·have l1:(encInt 2).length≤2:=bl (k:=1) (by decide)
  have l2:(encInt i).length≤3:=bl (k:=2) (by omega)
  unfold encO
  simp only [show ¬(2:Int)=1 by decide,if_false,if_true,List.length_append]
  omega
 ·have l1:(encInt 3).length≤2:=bl (k:=1) (by decide)
  have l2:(encInt i).length≤3:=bl (k:=2) (by omega)
  have l3:(enc c.toNat).length≤5:=bl (k:=4) (by omega)
  unfold encO
  simp only [show ¬(3:Int)=1 by decide,show ¬(3:Int)=2 by decide,if_false,if_true,List.length_append]
  omega
 ·have l1:(encInt 4).length≤2:=bl (k:=1) (by decide)
  have l2:(encInt m).length≤2:=bl (k:=1) (by omega)
  unfold encO
  simp only [show ¬(4:Int)=1 by decide,show ¬(4:Int)=2 by decide,show ¬(4:Int)=3 by decide,if_false,List.length_append]
  omega
end Go.Proofs.YteempfoajgblaaaGreat.Ox
namespace Go.Proofs.YteempfoajgblaaaGreat.Ox
open Pm (Tk chk chk_iff below_drewN)
def Od.cs (o:Od):Array Value:=#[.int .i64 o.kind,.int .i64 o.task.id,.int .i64 o.task.c,.int .i64 o.task.d,.int .i64 o.task.t,.int .i64 o.task.m,.bool o.server,.int .i64 o.id,.int .i64 o.c,.int .i64 o.mode]
def Od.v (o:Od):Value:=.agg o.cs
inductive Fd where
 | admit (t:Tk) (s:Bool)
 | remove (i:Int)
 | resize (i c:Int)
 | mode (m:Int)
 | unknown (k:Int)
def Fd.v:Fd→Value
 | .admit t s=>.iface 262 (.agg #[.int .i64 t.id,.int .i64 t.c,.int .i64 t.d,.int .i64 t.t,.int .i64 t.m,.bool s])
 | .remove i=>.iface 264 (.agg #[.int .i64 i])
 | .resize i c=>.iface 266 (.agg #[.int .i64 i,.int .i64 c])
 | .mode m=>.iface 268 (.agg #[.int .i64 m])
 | .unknown k=>.iface 270 (.agg #[.int .i64 k])
def ofR (o:Od):Fd:=if o.kind=1 then .admit o.task o.server else if o.kind=2 then .remove o.id else if o.kind=3 then .resize o.id o.c else if o.kind=4 then .mode o.mode else .unknown o.kind
def opR:Fd→Od
 | .admit t s=>⟨1,t,s,0,0,0⟩
 | .remove i=>⟨2,tk0,false,i,0,0⟩
 | .resize i c=>⟨3,tk0,false,i,c,0⟩
 | .mode m=>⟨4,tk0,false,0,0,m⟩
 | .unknown k=>⟨k,tk0,false,0,0,0⟩
def mayF:Fd→Bool
 | .admit t s=>chk t&&(!s||t.d==t.t)
 | .remove i=>decide (0≤i∧i≤1023)
 | .resize i c=>decide (0≤i∧i≤1023∧1≤c∧c≤2147483648)
 | .mode m=>decide (0≤m∧m≤3)
 | .unknown _=>false
theorem bare_of (o:Od):opR (ofR o)=bareR o:=by
 unfold ofR bareR
 repeat' split
 all_goals rfl
theorem may_of (o:Od):mayF (ofR o)=mayR o:=by
 unfold ofR mayR
 repeat' split
 all_goals rfl
theorem chk_of (o:Od):(mayF (ofR o)&&decide (o=bareR o))=chkR o:=by unfold chkR;rw [may_of,Bool.and_comm]
theorem of_any (o:Od) (w:World) :
 Calls Tryz.prog 140 #[o.v] w fun e w'=>e=.returned (ofR o).v∧Below w.heap.size w w':=by
 have b1:=Lib.hid ((Below.refl w.heap.size w).alloc (Nat.le_refl _) (.cells o.cs 47))
 obtain ⟨k,⟨i,c,d,t,m⟩,s,id,cc,mo⟩:=o
 unfold ofR Od.v
 unfold Od.cs at *
 simp only at *
 by_cases h1:k=1
 ·subst h1
  go_enter Tryz.func140,Tryz.ntmps140
  go_wp2
  go_ret
  exact ⟨rfl,b1.out⟩
 have k1:(k==1)=false:=by simpa using h1
 rw [if_neg h1]
 by_cases h2:k=2
 ·subst h2
  clear h1
  go_enter Tryz.func140,Tryz.ntmps140
  go_wp2
  go_ret
  exact ⟨rfl,b1.out⟩
 have k2:(k==2)=false:=by simpa using h2
 rw [if_neg h2]
 by_cases h3:k=3
 ·subst h3
  clear h1 h2
  go_enter Tryz.func140,Tryz.ntmps140
  go_wp2
  go_ret
  exact ⟨rfl,b1.out⟩
 have k3:(k==3)=false:=by simpa using h3
 rw [if_neg h3]
 by_cases h4:k=4
 ·subst h4
  clear h1 h2 h3
  go_enter Tryz.func140,Tryz.ntmps140
  go_wp2
  go_ret
  exact ⟨rfl,b1.out⟩
 have k4:(k==4)=false:=by simpa using h4
 rw [if_neg h4]
 go_enter Tryz.func140,Tryz.ntmps140
 go_wp2
 go_ret
 exact ⟨rfl,b1.out⟩
theorem op_admit (t:Tk) (s:Bool) (w:World) :
 Calls Tryz.prog 298 #[.agg #[.int .i64 t.id,.int .i64 t.c,.int .i64 t.d,.int .i64 t.t,.int .i64 t.m,.bool s]] w fun e w'=>e=.returned (opR (.admit t s)).v∧Below w.heap.size w w':=by
 have F:=Lib.hid (fun v x=>((Below.refl w.heap.size w).alloc (Nat.le_refl _) v).alloc (by simp) x)
 go_enter Tryz.func298,Tryz.ntmps298
 go_wp2
 refine bodyPost_ret (v:=(opR (.admit t s)).v) (by simp [results,Tryz.results298,go_sem,Od.v,Od.cs,opR,tk0]) rfl ⟨rfl,F.out _ _⟩
theorem m_admit (v:Value) (w:World):(method 468 262 v "horarium/ops.op").run Tryz.prog w=.ok (298,v) w:=by kernel_rfl
theorem op_remove (i:Int) (w:World) :
 Calls Tryz.prog 299 #[.agg #[.int .i64 i]] w fun e w'=>e=.returned (opR (.remove i)).v∧Below w.heap.size w w':=by
 have F:=Lib.hid (fun v x=>((Below.refl w.heap.size w).alloc (Nat.le_refl _) v).alloc (by simp) x)
 go_enter Tryz.func299,Tryz.ntmps299
 go_wp2
 refine bodyPost_ret (v:=(opR (.remove i)).v) (by simp [results,Tryz.results299,go_sem,Od.v,Od.cs,opR,tk0]) rfl ⟨rfl,F.out _ _⟩
theorem m_remove (v:Value) (w:World):(method 468 264 v "horarium/ops.op").run Tryz.prog w=.ok (299,v) w:=by kernel_rfl
theorem op_resize (i c:Int) (w:World) :
 Calls Tryz.prog 300 #[.agg #[.int .i64 i,.int .i64 c]] w fun e w'=>e=.returned (opR (.resize i c)).v∧Below w.heap.size w w':=by
 have F:=Lib.hid (fun v x=>((Below.refl w.heap.size w).alloc (Nat.le_refl _) v).alloc (by simp) x)
 go_enter Tryz.func300,Tryz.ntmps300
 go_wp2
 refine bodyPost_ret (v:=(opR (.resize i c)).v) (by simp [results,Tryz.results300,go_sem,Od.v,Od.cs,opR,tk0]) rfl ⟨rfl,F.out _ _⟩
theorem m_resize (v:Value) (w:World):(method 468 266 v "horarium/ops.op").run Tryz.prog w=.ok (300,v) w:=by kernel_rfl
theorem op_mode (m:Int) (w:World) :
 Calls Tryz.prog 301 #[.agg #[.int .i64 m]] w fun e w'=>e=.returned (opR (.mode m)).v∧Below w.heap.size w w':=by
 have F:=Lib.hid (fun v x=>((Below.refl w.heap.size w).alloc (Nat.le_refl _) v).alloc (by simp) x)
 go_enter Tryz.func301,Tryz.ntmps301
 go_wp2
 refine bodyPost_ret (v:=(opR (.mode m)).v) (by simp [results,Tryz.results301,go_sem,Od.v,Od.cs,opR,tk0]) rfl ⟨rfl,F.out _ _⟩
theorem m_mode (v:Value) (w:World):(method 468 268 v "horarium/ops.op").run Tryz.prog w=.ok (301,v) w:=by kernel_rfl
theorem op_unknown (k:Int) (w:World) :
 Calls Tryz.prog 302 #[.agg #[.int .i64 k]] w fun e w'=>e=.returned (opR (.unknown k)).v∧Below w.heap.size w w':=by
 have F:=Lib.hid (fun v x=>((Below.refl w.heap.size w).alloc (Nat.le_refl _) v).alloc (by simp) x)
 go_enter Tryz.func302,Tryz.ntmps302
 go_wp2
 refine bodyPost_ret (v:=(opR (.unknown k)).v) (by simp [results,Tryz.results302,go_sem,Od.v,Od.cs,opR,tk0]) rfl ⟨rfl,F.out _ _⟩
theorem m_unknown (v:Value) (w:World):(method 468 270 v "horarium/ops.op").run Tryz.prog w=.ok (302,v) w:=by kernel_rfl
theorem eq_run (a b:Od) (w:World) (r:Bool→Value):(if a.kind=b.kind then if a.task.id=b.task.id then if a.task.c=b.task.c then if a.task.d=b.task.d then if a.task.t=b.task.t then if a.task.m=b.task.m then if a.server=b.server then if a.id=b.id then if a.c=b.c then if a.mode=b.mode then Result.ok (r true) w else Result.ok (r false) w else Result.ok (r false) w else Result.ok (r false) w else Result.ok (r false) w else Result.ok (r false) w else Result.ok (r false) w else Result.ok (r false) w else Result.ok (r false) w else Result.ok (r false) w else Result.ok (r false) w)=Result.ok (r (decide (a=b))) w:=by
 by_cases h:a=b
 · subst h;simp
 ·rw [decide_eq_false h]
  repeat' split
  all_goals first|rfl|(exfalso;apply h;obtain ⟨_,⟨_,_,_,_,_⟩,_,_,_,_⟩:=a;obtain ⟨_,⟨_,_,_,_,_⟩,_,_,_,_⟩:=b;simp_all)
theorem eql_op (a b:Od) (w:World):(binOp .eql 47 a.v b.v).run Tryz.prog w=.ok (.bool (decide (a=b))) w:=by
 unfold Od.v
 rw [run_eql_struct]
 simp [go_sem,Od.cs]
 exact eq_run a b w .bool
theorem neq_op (a b:Od) (w:World):(binOp .neq 47 a.v b.v).run Tryz.prog w=.ok (.bool (!decide (a=b))) w:=by
 unfold Od.v
 rw [run_neq_struct]
 simp [go_sem,Od.cs]
 exact eq_run a b w (fun x=>.bool (!x))
def At (w:World) (p:Nat) (o:Od):Prop:=w.heap[p]?=some (.cells o.cs 47 (0,0))
theorem At.lt {w:World} {p:Nat} {o:Od} (h:At w p o):p<w.heap.size:=(Array.getElem?_eq_some_iff.1 h).1
theorem At.call {w w':World} {p:Nat} {o:Od} (h:At w p o) (hb:Below w.heap.size w w'):At w' p o:=(hb.block p h.lt).trans h
theorem At.fz {w:World} {p:Nat} {o:Od} (h:At w p o) (k:Nat):w.frozen? ⟨p,k,none⟩=false:=Lib.frozen_of_heap h k
theorem At.cells {w:World} {p:Nat} {o:Od} (h:At w p o):w.cell? ⟨p,0,none⟩=some (.int .i64 o.kind)∧w.cell? ⟨p,1,none⟩=some (.int .i64 o.task.id)∧w.cell? ⟨p,2,none⟩=some (.int .i64 o.task.c)∧w.cell? ⟨p,3,none⟩=some (.int .i64 o.task.d)∧w.cell? ⟨p,4,none⟩=some (.int .i64 o.task.t)∧w.cell? ⟨p,5,none⟩=some (.int .i64 o.task.m)∧w.cell? ⟨p,6,none⟩=some (.bool o.server)∧w.cell? ⟨p,7,none⟩=some (.int .i64 o.id)∧w.cell? ⟨p,8,none⟩=some (.int .i64 o.c)∧w.cell? ⟨p,9,none⟩=some (.int .i64 o.mode):=by
 refine ⟨?_,?_,?_,?_,?_,?_,?_,?_,?_,?_⟩ <;> (rw [Lib.cell_of_heap h];rfl)
theorem at_new (w:World) (o:Od):At (w.alloc (.cells o.cs 47)) w.heap.size o:=heap_alloc_new _ _
def setOp (w:World) (p:Nat) (o:Od):World:=((((((((((w.setCell ⟨p,0,none⟩ (.int .i64 o.kind)).setCell ⟨p,1,none⟩ (.int .i64 o.task.id)).setCell ⟨p,2,none⟩ (.int .i64 o.task.c)).setCell ⟨p,3,none⟩ (.int .i64 o.task.d)).setCell ⟨p,4,none⟩ (.int .i64 o.task.t)).setCell ⟨p,5,none⟩ (.int .i64 o.task.m)).setCell ⟨p,6,none⟩ (.bool o.server)).setCell ⟨p,7,none⟩ (.int .i64 o.id)).setCell ⟨p,8,none⟩ (.int .i64 o.c)).setCell ⟨p,9,none⟩ (.int .i64 o.mode))
theorem At.put {w:World} {p:Nat} {o:Od} (h:At w p o) (x:Od):At (setOp w p x) p x:=by
 unfold At at *
 unfold setOp
 simp [World.setCell,Array.getElem?_modify,h,Od.cs]
theorem setOp_below {B:Nat} {u w:World} {p:Nat} (h:Below B u w) (hp:B≤p) (x:Od):Below B u (setOp w p x):=
 (((((((((h.setCell hp _).setCell hp _).setCell hp _).setCell hp _).setCell hp _).setCell hp _).setCell hp _).setCell hp _).setCell hp _).setCell hp _
end Go.Proofs.YteempfoajgblaaaGreat.Ox
namespace Go.Proofs.YteempfoajgblaaaGreat.Ox
open Pm (Tk chk chk_iff below_drewN)
def od0:Od:=⟨0,tk0,false,0,0,0⟩
theorem ta_admit_admit (v:Value) (w:World):(Instr.typeAssert (.iface 262 v) 220 262 true).run Tryz.prog w=.ok (.tuple #[v,.bool true]) w:=by kernel_rfl
theorem ta_remove_admit (v:Value) (w:World):(Instr.typeAssert (.iface 264 v) 220 262 true).run Tryz.prog w=.ok (.tuple #[.agg #[.int .i64 0,.int .i64 0,.int .i64 0,.int .i64 0,.int .i64 0,.bool false],.bool false]) w:=by kernel_rfl
theorem ta_remove_remove (v:Value) (w:World):(Instr.typeAssert (.iface 264 v) 220 264 true).run Tryz.prog w=.ok (.tuple #[v,.bool true]) w:=by kernel_rfl
theorem ta_resize_admit (v:Value) (w:World):(Instr.typeAssert (.iface 266 v) 220 262 true).run Tryz.prog w=.ok (.tuple #[.agg #[.int .i64 0,.int .i64 0,.int .i64 0,.int .i64 0,.int .i64 0,.bool false],.bool false]) w:=by kernel_rfl
theorem ta_resize_remove (v:Value) (w:World):(Instr.typeAssert (.iface 266 v) 220 264 true).run Tryz.prog w=.ok (.tuple #[.agg #[.int .i64 0],.bool false]) w:=by kernel_rfl
theorem ta_resize_resize (v:Value) (w:World):(Instr.typeAssert (.iface 266 v) 220 266 true).run Tryz.prog w=.ok (.tuple #[v,.bool true]) w:=by kernel_rfl
theorem ta_mode_admit (v:Value) (w:World):(Instr.typeAssert (.iface 268 v) 220 262 true).run Tryz.prog w=.ok (.tuple #[.agg #[.int .i64 0,.int .i64 0,.int .i64 0,.int .i64 0,.int .i64 0,.bool false],.bool false]) w:=by kernel_rfl
theorem ta_mode_remove (v:Value) (w:World):(Instr.typeAssert (.iface 268 v) 220 264 true).run Tryz.prog w=.ok (.tuple #[.agg #[.int .i64 0],.bool false]) w:=by kernel_rfl
theorem ta_mode_resize (v:Value) (w:World):(Instr.typeAssert (.iface 268 v) 220 266 true).run Tryz.prog w=.ok (.tuple #[.agg #[.int .i64 0,.int .i64 0],.bool false]) w:=by kernel_rfl
theorem ta_mode_mode (v:Value) (w:World):(Instr.typeAssert (.iface 268 v) 220 268 true).run Tryz.prog w=.ok (.tuple #[v,.bool true]) w:=by kernel_rfl
theorem ta_unknown_admit (v:Value) (w:World):(Instr.typeAssert (.iface 270 v) 220 262 true).run Tryz.prog w=.ok (.tuple #[.agg #[.int .i64 0,.int .i64 0,.int .i64 0,.int .i64 0,.int .i64 0,.bool false],.bool false]) w:=by kernel_rfl
theorem ta_unknown_remove (v:Value) (w:World):(Instr.typeAssert (.iface 270 v) 220 264 true).run Tryz.prog w=.ok (.tuple #[.agg #[.int .i64 0],.bool false]) w:=by kernel_rfl
theorem ta_unknown_resize (v:Value) (w:World):(Instr.typeAssert (.iface 270 v) 220 266 true).run Tryz.prog w=.ok (.tuple #[.agg #[.int .i64 0,.int .i64 0],.bool false]) w:=by kernel_rfl
theorem ta_unknown_mode (v:Value) (w:World):(Instr.typeAssert (.iface 270 v) 220 268 true).run Tryz.prog w=.ok (.tuple #[.agg #[.int .i64 0],.bool false]) w:=by kernel_rfl
theorem bare_any (o:Od) (w:World) :
 Calls Tryz.prog 176 #[o.v] w fun e w'=>e=.returned (bareR o).v∧Below w.heap.size w w':=by
 have OF:=Lib.hid (of_any o)
 have b1:=Lib.hid ((Below.refl w.heap.size w).alloc (Nat.le_refl _) (.cells o.cs 47))
 have HZ:Hid (∀ w3 w4,Below ((w.alloc (.cells o.cs 47)).alloc (.cells od0.cs 47)).heap.size ((w.alloc (.cells o.cs 47)).alloc (.cells od0.cs 47)) w3→Below w3.heap.size w3 w4→At w4 (w.heap.size+1) od0∧Below w.heap.size w w4):=Lib.hid (fun w3 w4 h3 h4=>by
  have z:=at_new (w.alloc (.cells o.cs 47)) od0
  rw [World.size_alloc] at z
  have hb:Below w.heap.size w ((w.alloc (.cells o.cs 47)).alloc (.cells od0.cs 47)):=((Below.refl w.heap.size w).alloc (Nat.le_refl _) _).alloc (by simp) _
  exact ⟨(z.call h3).call h4,(hb.trans (h3.mono hb.size)).trans (h4.mono (hb.trans (h3.mono hb.size)).size)⟩)
 rw [← bare_of]
 generalize ofR o=f at *
 obtain ⟨k,⟨i,c,d,t,m⟩,s,id,cc,mo⟩:=o
 unfold Od.v Od.cs at *
 simp only [od0,tk0] at *
 cases f with
 | admit t s=>
  have OP:=Lib.hid (op_admit t s)
  have MT:=m_admit
  simp only [Fd.v,Od.v,Od.cs] at OF OP
  go_enter Tryz.func176,Tryz.ntmps176
  go_wp2_with fail
  (with_reducible refine (OF.out _).mono ?_)
  rintro e w3 ⟨rfl,b3⟩
  go_wp2_with fail
  (with_reducible refine (OP.out _).mono ?_)
  rintro e w4 ⟨rfl,b4⟩
  obtain ⟨z,bz⟩:=HZ.out w3 w4 b3 b4
  obtain ⟨c0,c1,c2,c3,c4,c5,c6,c7,c8,c9⟩:=z.cells
  have f0:=z.fz
  have B4:=Lib.hid bz
  clear b3 b4 HZ OF OP bz z
  go_wp2
  refine bodyPost_ret (v:=(opR (.admit t s)).v) (by simp [results,Tryz.results176,go_sem,Od.v,Od.cs,opR,tk0,c0,c1,c2,c3,c4,c5,c6,c7,c8,c9]) rfl ⟨rfl,?_⟩
  exact setOp_below B4.out (by omega) (opR (.admit t s))
 | remove i=>
  have OP:=Lib.hid (op_remove i)
  have MT:=m_remove
  simp only [Fd.v,Od.v,Od.cs] at OF OP
  go_enter Tryz.func176,Tryz.ntmps176
  go_wp2_with fail
  (with_reducible refine (OF.out _).mono ?_)
  rintro e w3 ⟨rfl,b3⟩
  go_wp2_with fail
  (with_reducible refine (OP.out _).mono ?_)
  rintro e w4 ⟨rfl,b4⟩
  obtain ⟨z,bz⟩:=HZ.out w3 w4 b3 b4
  obtain ⟨c0,c1,c2,c3,c4,c5,c6,c7,c8,c9⟩:=z.cells
  have f0:=z.fz
  have B4:=Lib.hid bz
  clear b3 b4 HZ OF OP bz z
  go_wp2
  refine bodyPost_ret (v:=(opR (.remove i)).v) (by simp [results,Tryz.results176,go_sem,Od.v,Od.cs,opR,tk0,c0,c1,c2,c3,c4,c5,c6,c7,c8,c9]) rfl ⟨rfl,?_⟩
  exact setOp_below B4.out (by omega) (opR (.remove i))
 | resize i c=>
  have OP:=Lib.hid (op_resize i c)
  have MT:=m_resize
  simp only [Fd.v,Od.v,Od.cs] at OF OP
  go_enter Tryz.func176,Tryz.ntmps176
  go_wp2_with fail
  (with_reducible refine (OF.out _).mono ?_)
  rintro e w3 ⟨rfl,b3⟩
  go_wp2_with fail
  (with_reducible refine (OP.out _).mono ?_)
  rintro e w4 ⟨rfl,b4⟩
  obtain ⟨z,bz⟩:=HZ.out w3 w4 b3 b4
  obtain ⟨c0,c1,c2,c3,c4,c5,c6,c7,c8,c9⟩:=z.cells
  have f0:=z.fz
  have B4:=Lib.hid bz
  clear b3 b4 HZ OF OP bz z
  go_wp2
  refine bodyPost_ret (v:=(opR (.resize i c)).v) (by simp [results,Tryz.results176,go_sem,Od.v,Od.cs,opR,tk0,c0,c1,c2,c3,c4,c5,c6,c7,c8,c9]) rfl ⟨rfl,?_⟩
  exact setOp_below B4.out (by omega) (opR (.resize i c))
 | mode m=>
  have OP:=Lib.hid (op_mode m)
  have MT:=m_mode
  simp only [Fd.v,Od.v,Od.cs] at OF OP
  go_enter Tryz.func176,Tryz.ntmps176
  go_wp2_with fail
  (with_reducible refine (OF.out _).mono ?_)
  rintro e w3 ⟨rfl,b3⟩
  go_wp2_with fail
  (with_reducible refine (OP.out _).mono ?_)
  rintro e w4 ⟨rfl,b4⟩
  obtain ⟨z,bz⟩:=HZ.out w3 w4 b3 b4
  obtain ⟨c0,c1,c2,c3,c4,c5,c6,c7,c8,c9⟩:=z.cells
  have f0:=z.fz
  have B4:=Lib.hid bz
  clear b3 b4 HZ OF OP bz z
  go_wp2
  refine bodyPost_ret (v:=(opR (.mode m)).v) (by simp [results,Tryz.results176,go_sem,Od.v,Od.cs,opR,tk0,c0,c1,c2,c3,c4,c5,c6,c7,c8,c9]) rfl ⟨rfl,?_⟩
  exact setOp_below B4.out (by omega) (opR (.mode m))
 | unknown k=>
  have OP:=Lib.hid (op_unknown k)
  have MT:=m_unknown
  simp only [Fd.v,Od.v,Od.cs] at OF OP
  go_enter Tryz.func176,Tryz.ntmps176
  go_wp2_with fail
  (with_reducible refine (OF.out _).mono ?_)
  rintro e w3 ⟨rfl,b3⟩
  go_wp2_with fail
  (with_reducible refine (OP.out _).mono ?_)
  rintro e w4 ⟨rfl,b4⟩
  obtain ⟨z,bz⟩:=HZ.out w3 w4 b3 b4
  obtain ⟨c0,c1,c2,c3,c4,c5,c6,c7,c8,c9⟩:=z.cells
  have f0:=z.fz
  have B4:=Lib.hid bz
  clear b3 b4 HZ OF OP bz z
  go_wp2
  refine bodyPost_ret (v:=(opR (.unknown k)).v) (by simp [results,Tryz.results176,go_sem,Od.v,Od.cs,opR,tk0,c0,c1,c2,c3,c4,c5,c6,c7,c8,c9]) rfl ⟨rfl,?_⟩
  exact setOp_below B4.out (by omega) (opR (.unknown k))
end Go.Proofs.YteempfoajgblaaaGreat.Ox
namespace Go.Proofs.YteempfoajgblaaaGreat.Ox
open Pm (Tk chk chk_iff below_drewN)
def idR (i:Int):Bool:=decide (0≤i∧i≤1023)
theorem isID_any (i:Int) (w:World) :
 Calls Tryz.prog 202 #[.int .i64 i] w fun e w'=>e=.returned (.bool (idR i))∧w'=w:=by
 by_cases h0:0≤i
 ·have e:idR i=decide (i≤1023):=by unfold idR;simp [h0]
  rw [e]
  clear e
  go_enter Tryz.func202,Tryz.ntmps202
  go_wp2
  go_ret
  exact ⟨rfl,rfl⟩
 ·have e:idR i=false:=by unfold idR;simp [h0]
  rw [e]
  have h1:i<0:=by omega
  clear e h0
  go_enter Tryz.func202,Tryz.ntmps202
  go_wp2
  go_ret
  exact ⟨rfl,rfl⟩
theorem may_any (f:Fd) (w:World) :
 Calls Tryz.prog 175 #[f.v] w fun e w'=>e=.returned (.bool (mayF f))∧Below w.heap.size w w':=by
 cases f with
 | admit t s=>
  have T1:=ta_admit_admit
  have CK:=Lib.hid (Pm.chk_any t)
  have HB:Hid (∀ w1,Below (w.alloc (.cells #[.int .i64 t.id,.int .i64 t.c,.int .i64 t.d,.int .i64 t.t,.int .i64 t.m,.bool s] 262)).heap.size (w.alloc (.cells #[.int .i64 t.id,.int .i64 t.c,.int .i64 t.d,.int .i64 t.t,.int .i64 t.m,.bool s] 262)) w1→(w1.cell? ⟨w.heap.size,2,none⟩=some (.int .i64 t.d)∧w1.cell? ⟨w.heap.size,3,none⟩=some (.int .i64 t.t)∧w1.cell? ⟨w.heap.size,5,none⟩=some (.bool s))∧Below w.heap.size w w1):=Lib.hid (fun w1 h1=>by
   have z:=heap_alloc_new w (.cells #[.int .i64 t.id,.int .i64 t.c,.int .i64 t.d,.int .i64 t.t,.int .i64 t.m,.bool s] 262)
   have z1:=(h1.block w.heap.size (by simp)).trans z
   have hb:Below w.heap.size w (w.alloc (.cells #[.int .i64 t.id,.int .i64 t.c,.int .i64 t.d,.int .i64 t.t,.int .i64 t.m,.bool s] 262)):=(Below.refl w.heap.size w).alloc (Nat.le_refl _) _
   refine ⟨⟨?_,?_,?_⟩,hb.trans (h1.mono hb.size)⟩ <;> (rw [Lib.cell_of_heap z1];rfl))
  obtain ⟨i,c,d,t,m⟩:=t
  have E:mayF (.admit ⟨i,c,d,t,m⟩ s)=(chk ⟨i,c,d,t,m⟩&&(!s||d==t)):=rfl
  rw [E]
  unfold Pm.Tk.v at CK
  simp only [Fd.v] at *
  generalize chk ⟨i,c,d,t,m⟩=q at *
  have dt:∀ x:Bool,decide (x=true)=x:=fun x=>by cases x <;> rfl
  cases q <;> cases s <;> cases hdt:(d==t) <;>
  ·go_enter Tryz.func175,Tryz.ntmps175
   go_wp2_with fail
   (with_reducible refine (CK.out _).mono ?_)
   rintro e w1 ⟨rfl,b1⟩
   obtain ⟨⟨c2,c3,c5⟩,bz⟩:=HB.out w1 b1
   have Z:=Lib.hid bz
   clear b1 bz
   go_wp2
   go_ret
   exact ⟨rfl,Z.out⟩
 | remove i=>
  have T1:=ta_remove_admit
  have T2:=ta_remove_remove
  have CK:=Lib.hid (isID_any i)
  have FB:=Lib.hid (fun v=>(Below.refl w.heap.size w).alloc (Nat.le_refl _) v)
  have E:mayF (.remove i)=idR i:=rfl
  rw [E]
  simp only [Fd.v] at *
  go_enter Tryz.func175,Tryz.ntmps175
  go_wp2_with fail
  (with_reducible refine (CK.out _).mono ?_)
  rintro e w1 ⟨rfl,rfl⟩
  go_wp2
  go_ret
  exact ⟨rfl,FB.out _⟩
 | resize i c=>
  have T1:=ta_resize_admit
  have T2:=ta_resize_remove
  have T3:=ta_resize_resize
  have CK:=Lib.hid (isID_any i)
  have FB:=Lib.hid (fun v=>(Below.refl w.heap.size w).alloc (Nat.le_refl _) v)
  have E:mayF (.resize i c)=(idR i&&decide (1≤c)&&decide (c≤2147483648)):=by unfold mayF idR;by_cases h1:0≤i <;> by_cases h2:i≤1023 <;> by_cases h3:1≤c <;> simp [h1,h2,h3]
  rw [E]
  clear E
  generalize idR i=q at *
  simp only [Fd.v] at *
  cases q <;> cases h1:decide (1≤c) <;> cases h2:decide (c≤2147483648) <;>
  ·go_enter Tryz.func175,Tryz.ntmps175
   go_wp2_with fail
   (with_reducible refine (CK.out _).mono ?_)
   rintro e w1 ⟨rfl,rfl⟩
   go_wp2
   go_ret
   exact ⟨rfl,FB.out _⟩
 | mode m=>
  have T1:=ta_mode_admit
  have T2:=ta_mode_remove
  have T3:=ta_mode_resize
  have T4:=ta_mode_mode
  have FB:=Lib.hid (fun v=>(Below.refl w.heap.size w).alloc (Nat.le_refl _) v)
  have E:mayF (.mode m)=(decide (0≤m)&&decide (m<4)):=by unfold mayF;rw [Bool.eq_iff_iff];simp;omega
  rw [E]
  clear E
  simp only [Fd.v] at *
  cases h1:decide (0≤m) <;> cases h2:decide (m<4) <;>
  ·go_enter Tryz.func175,Tryz.ntmps175
   go_wp2
   go_ret
   exact ⟨rfl,FB.out _⟩
 | unknown k=>
  have T1:=ta_unknown_admit
  have T2:=ta_unknown_remove
  have T3:=ta_unknown_resize
  have T4:=ta_unknown_mode
  have E:mayF (.unknown k)=false:=rfl
  rw [E]
  simp only [Fd.v] at *
  go_enter Tryz.func175,Tryz.ntmps175
  go_wp2
  go_ret
  exact ⟨rfl,Below.refl _ _⟩
theorem check_any (o:Od) (w:World) :
 Calls Tryz.prog 138 #[o.v] w fun e w'=>e=.returned (.bool (chkR o))∧Below w.heap.size w w':=by
 have OF:=Lib.hid (of_any o)
 have MA:=Lib.hid (may_any (ofR o))
 have BA:=Lib.hid (bare_any o)
 have EQ:=eql_op o (bareR o)
 rw [← chk_of]
 have HZ:Hid (∀ w1,Below (w.alloc (.cells o.cs 47)).heap.size (w.alloc (.cells o.cs 47)) w1→At w1 w.heap.size o∧Below w.heap.size w w1):=Lib.hid (fun w1 h1=>by
  have hb:Below w.heap.size w (w.alloc (.cells o.cs 47)):=(Below.refl w.heap.size w).alloc (Nat.le_refl _) _
  exact ⟨(at_new w o).call h1,hb.trans (h1.mono hb.size)⟩)
 generalize (ofR o).v=fv at *
 generalize mayF (ofR o)=q at *
 generalize decide (o=bareR o)=r at *
 generalize bareR o=b at *
 obtain ⟨k,⟨i,c,d,t,m⟩,s,id,cc,mo⟩:=o
 obtain ⟨bk,⟨bi,bc,bd,bt,bm⟩,bs,bid,bcc,bmo⟩:=b
 unfold Od.v Od.cs at *
 simp only at *
 cases q
 ·go_enter Tryz.func138,Tryz.ntmps138
  go_wp2_with fail
  go_region_with (first|(go_at_call 140;(with_reducible refine (OF.out _).mono ?_);rintro e w1 ⟨rfl,b1⟩)|(go_at_call 175;(with_reducible refine (MA.out _).mono ?_);rintro e w2 ⟨rfl,b2⟩))
  all_goals go_wp2
  all_goals go_ret
  all_goals exact ⟨rfl,by
   have x1:=(HZ.out w1 (by first|exact b1|exact (Below.refl _ _).drew.trans b1)).2
   exact x1.trans (b2.mono x1.size)⟩
 ·go_enter Tryz.func138,Tryz.ntmps138
  go_wp2_with fail
  go_region_with (first|(go_at_call 140;(with_reducible refine (OF.out _).mono ?_);rintro e w1 ⟨rfl,b1⟩;(have x1:=HZ.out w1 (by first|exact b1|exact (Below.refl _ _).drew.trans b1));clear b1)|(go_at_call 175;(with_reducible refine (MA.out _).mono ?_);rintro e w2 ⟨rfl,b2⟩;(have z2:=x1.1.call b2);(have f2:=x1.2.trans (b2.mono x1.2.size));clear x1 b2;(obtain ⟨c0,c1,c2,c3,c4,c5,c6,c7,c8,c9⟩:=z2.cells))|(go_at_call 176;(with_reducible refine (BA.out _).mono ?_);rintro e w3 ⟨rfl,b3⟩;(have z3:=z2.call b3);(have f3:=f2.trans (b3.mono f2.size));clear z2 f2 b3;(obtain ⟨d0,d1,d2,d3,d4,d5,d6,d7,d8,d9⟩:=z3.cells)))
  all_goals go_wp2
  all_goals go_ret
  all_goals exact ⟨rfl,f3⟩
end Go.Proofs.YteempfoajgblaaaGreat.Ox
namespace Go.Proofs.YteempfoajgblaaaGreat.Ox
open Pm (Tk chk chk_iff below_drewN)
theorem rbare_any (o:Od) (w:World) :
 Calls Tryz.prog 143 #[o.v] w fun e w'=>e=.returned (bareR o).v∧Below w.heap.size w w':=by
 obtain ⟨k,⟨i,c,d,t,m⟩,s,id,cc,mo⟩:=o
 have EV:Od.v ⟨k,⟨i,c,d,t,m⟩,s,id,cc,mo⟩=.agg #[.int .i64 k,.int .i64 i,.int .i64 c,.int .i64 d,.int .i64 t,.int .i64 m,.bool s,.int .i64 id,.int .i64 cc,.int .i64 mo]:=rfl
 rw [EV]
 clear EV
 by_cases h1:k=1
 ·subst h1
  have E:bareR ⟨1,⟨i,c,d,t,m⟩,s,id,cc,mo⟩=⟨1,⟨i,c,d,t,m⟩,s,0,0,0⟩:=rfl
  rw [E]
  clear E
  go_enter Tryz.func143,Tryz.ntmps143
  go_wp2
  refine bodyPost_ret (v:=Od.v ⟨1,⟨i,c,d,t,m⟩,s,0,0,0⟩) (by simp [results,Tryz.results143,go_sem,Od.v,Od.cs,tk0]) rfl ⟨rfl,?_⟩
  repeat (first|exact Below.refl _ _|refine Below.setCell ?_ (by first|omega|(simp;done)|(simp;omega)) _|refine Below.alloc ?_ (by first|omega|(simp;done)|(simp;omega)) _)
 have k1:(k==1)=false:=by simpa using h1
 by_cases h2:k=2
 ·subst h2
  have E:bareR ⟨2,⟨i,c,d,t,m⟩,s,id,cc,mo⟩=⟨2,tk0,false,id,0,0⟩:=rfl
  rw [E]
  clear E
  go_enter Tryz.func143,Tryz.ntmps143
  go_wp2
  refine bodyPost_ret (v:=Od.v ⟨2,tk0,false,id,0,0⟩) (by simp [results,Tryz.results143,go_sem,Od.v,Od.cs,tk0]) rfl ⟨rfl,?_⟩
  repeat (first|exact Below.refl _ _|refine Below.setCell ?_ (by first|omega|(simp;done)|(simp;omega)) _|refine Below.alloc ?_ (by first|omega|(simp;done)|(simp;omega)) _)
 have k2:(k==2)=false:=by simpa using h2
 by_cases h3:k=3
 ·subst h3
  have E:bareR ⟨3,⟨i,c,d,t,m⟩,s,id,cc,mo⟩=⟨3,tk0,false,id,cc,0⟩:=rfl
  rw [E]
  clear E
  go_enter Tryz.func143,Tryz.ntmps143
  go_wp2
  refine bodyPost_ret (v:=Od.v ⟨3,tk0,false,id,cc,0⟩) (by simp [results,Tryz.results143,go_sem,Od.v,Od.cs,tk0]) rfl ⟨rfl,?_⟩
  repeat (first|exact Below.refl _ _|refine Below.setCell ?_ (by first|omega|(simp;done)|(simp;omega)) _|refine Below.alloc ?_ (by first|omega|(simp;done)|(simp;omega)) _)
 have k3:(k==3)=false:=by simpa using h3
 by_cases h4:k=4
 ·subst h4
  have E:bareR ⟨4,⟨i,c,d,t,m⟩,s,id,cc,mo⟩=⟨4,tk0,false,0,0,mo⟩:=rfl
  rw [E]
  clear E
  go_enter Tryz.func143,Tryz.ntmps143
  go_wp2
  refine bodyPost_ret (v:=Od.v ⟨4,tk0,false,0,0,mo⟩) (by simp [results,Tryz.results143,go_sem,Od.v,Od.cs,tk0]) rfl ⟨rfl,?_⟩
  repeat (first|exact Below.refl _ _|refine Below.setCell ?_ (by first|omega|(simp;done)|(simp;omega)) _|refine Below.alloc ?_ (by first|omega|(simp;done)|(simp;omega)) _)
 have k4:(k==4)=false:=by simpa using h4
 ·have E:bareR ⟨k,⟨i,c,d,t,m⟩,s,id,cc,mo⟩=⟨k,tk0,false,0,0,0⟩:=by unfold bareR;rw [if_neg h1,if_neg h2,if_neg h3,if_neg h4]
  rw [E]
  clear E
  go_enter Tryz.func143,Tryz.ntmps143
  go_wp2
  refine bodyPost_ret (v:=Od.v ⟨k,tk0,false,0,0,0⟩) (by simp [results,Tryz.results143,go_sem,Od.v,Od.cs,tk0]) rfl ⟨rfl,?_⟩
  repeat (first|exact Below.refl _ _|refine Below.setCell ?_ (by first|omega|(simp;done)|(simp;omega)) _|refine Below.alloc ?_ (by first|omega|(simp;done)|(simp;omega)) _)
end Go.Proofs.YteempfoajgblaaaGreat.Ox
namespace Go.Proofs.YteempfoajgblaaaGreat.Ox
open Pm (Tk chk chk_iff below_drewN)
theorem box_call (w:World) (o:Od):∀ w1,Below (w.alloc (.cells o.cs 47)).heap.size (w.alloc (.cells o.cs 47)) w1→(w1.cell? ⟨w.heap.size,0,none⟩=some (.int .i64 o.kind)∧w1.cell? ⟨w.heap.size,1,none⟩=some (.int .i64 o.task.id)∧w1.cell? ⟨w.heap.size,2,none⟩=some (.int .i64 o.task.c)∧w1.cell? ⟨w.heap.size,3,none⟩=some (.int .i64 o.task.d)∧w1.cell? ⟨w.heap.size,4,none⟩=some (.int .i64 o.task.t)∧w1.cell? ⟨w.heap.size,5,none⟩=some (.int .i64 o.task.m)∧w1.cell? ⟨w.heap.size,6,none⟩=some (.bool o.server)∧w1.cell? ⟨w.heap.size,7,none⟩=some (.int .i64 o.id)∧w1.cell? ⟨w.heap.size,8,none⟩=some (.int .i64 o.c)∧w1.cell? ⟨w.heap.size,9,none⟩=some (.int .i64 o.mode))∧Below w.heap.size w w1:=fun w1 h1=>by
 have hb:Below w.heap.size w (w.alloc (.cells o.cs 47)):=(Below.refl w.heap.size w).alloc (Nat.le_refl _) _
 exact ⟨((at_new w o).call h1).cells,hb.trans (h1.mono hb.size)⟩
theorem box_cells (w:World) (o:Od):(w.alloc (.cells o.cs 47)).cell? ⟨w.heap.size,0,none⟩=some (.int .i64 o.kind)∧(w.alloc (.cells o.cs 47)).cell? ⟨w.heap.size,1,none⟩=some (.int .i64 o.task.id)∧(w.alloc (.cells o.cs 47)).cell? ⟨w.heap.size,2,none⟩=some (.int .i64 o.task.c)∧(w.alloc (.cells o.cs 47)).cell? ⟨w.heap.size,3,none⟩=some (.int .i64 o.task.d)∧(w.alloc (.cells o.cs 47)).cell? ⟨w.heap.size,4,none⟩=some (.int .i64 o.task.t)∧(w.alloc (.cells o.cs 47)).cell? ⟨w.heap.size,5,none⟩=some (.int .i64 o.task.m)∧(w.alloc (.cells o.cs 47)).cell? ⟨w.heap.size,6,none⟩=some (.bool o.server)∧(w.alloc (.cells o.cs 47)).cell? ⟨w.heap.size,7,none⟩=some (.int .i64 o.id)∧(w.alloc (.cells o.cs 47)).cell? ⟨w.heap.size,8,none⟩=some (.int .i64 o.c)∧(w.alloc (.cells o.cs 47)).cell? ⟨w.heap.size,9,none⟩=some (.int .i64 o.mode):=(at_new w o).cells
theorem rcheck_not (o:Od) (w:World) (h:o≠bareR o) :
 Calls Tryz.prog 94 #[o.v] w fun e w'=>e=.returned (.bool false)∧Below w.heap.size w w':=by
 have BA:=Lib.hid (rbare_any o)
 have EQ:=neq_op o (bareR o)
 rw [decide_eq_false h] at EQ
 have HZ:=Lib.hid (box_call w o)
 have K0:=Lib.hid (box_cells w o)
 clear h
 generalize bareR o=b at *
 obtain ⟨k,⟨i,c,d,t,m⟩,s,id,cc,mo⟩:=o
 obtain ⟨bk,⟨bi,bc,bd,bt,bm⟩,bs,bid,bcc,bmo⟩:=b
 unfold Od.v Od.cs at *
 simp only [Bool.not_false] at *
 go_enter Tryz.func94,Tryz.ntmps94
 go_wp2_with fail
 first|go_region_with (go_at_call 143;(with_reducible refine (BA.out _).mono ?_);rintro e w1 ⟨rfl,b1⟩;(obtain ⟨kn,bn⟩:=HZ.out w1 (by first|exact b1|exact (Below.refl _ _).drew.trans b1));(obtain ⟨c0,c1,c2,c3,c4,c5,c6,c7,c8,c9⟩:=kn);clear b1)|fail
 all_goals go_wp2
 all_goals go_ret
 all_goals exact ⟨rfl,bn⟩
theorem rcheck_admit (t:Tk) (s:Bool) (w:World) :
 Calls Tryz.prog 94 #[(Od.mk 1 t s 0 0 0).v] w fun e w'=>e=.returned (.bool (chk t&&(!s||t.d==t.t)))∧Below w.heap.size w w':=by
 have BA:=Lib.hid (rbare_any ⟨1,t,s,0,0,0⟩)
 have E:bareR ⟨1,t,s,0,0,0⟩=⟨1,t,s,0,0,0⟩:=rfl
 have EQ:=neq_op ⟨1,t,s,0,0,0⟩ ⟨1,t,s,0,0,0⟩
 rw [decide_eq_true rfl] at EQ
 have HZ:=Lib.hid (box_call w ⟨1,t,s,0,0,0⟩)
 have K0:=Lib.hid (box_cells w ⟨1,t,s,0,0,0⟩)
 have CK:=Lib.hid (Pm.rchk_any t)
 rw [E] at BA
 clear E
 obtain ⟨i,c,d,t,m⟩:=t
 unfold Od.v Od.cs at *
 unfold Tk.v at CK
 simp only [Bool.not_true] at *
 generalize chk ⟨i,c,d,t,m⟩=q at *
 go_enter Tryz.func94,Tryz.ntmps94
 go_wp2_with fail
 first|go_region_held3 (fun w'=>w'.cell? ⟨w.heap.size,0,none⟩=some (.int .i64 1)∧w'.cell? ⟨w.heap.size,1,none⟩=some (.int .i64 i)∧w'.cell? ⟨w.heap.size,2,none⟩=some (.int .i64 c)∧w'.cell? ⟨w.heap.size,3,none⟩=some (.int .i64 d)∧w'.cell? ⟨w.heap.size,4,none⟩=some (.int .i64 t)∧w'.cell? ⟨w.heap.size,5,none⟩=some (.int .i64 m)∧w'.cell? ⟨w.heap.size,6,none⟩=some (.bool s)∧w'.cell? ⟨w.heap.size,7,none⟩=some (.int .i64 0)∧w'.cell? ⟨w.heap.size,8,none⟩=some (.int .i64 0)∧w'.cell? ⟨w.heap.size,9,none⟩=some (.int .i64 0)) (first|exact K0.out|assumption|fail) (first|(go_at_call 143;(with_reducible refine (BA.out _).mono ?_);rintro e w1 ⟨rfl,b1⟩;(obtain ⟨kn,bn⟩:=HZ.out w1 (by first|exact b1|exact (Below.refl _ _).drew.trans b1));clear b1)|fail)|fail
 have c6:=kn.2.2.2.2.2.2.1
 obtain ⟨c0,c1,c2,c3,c4,c5,-,-,-,-⟩:=kn
 have CB:Hid (∀ w2,Below w1.heap.size w1 w2→(w2.cell? ⟨w.heap.size,3,none⟩=some (.int .i64 d)∧w2.cell? ⟨w.heap.size,4,none⟩=some (.int .i64 t)∧w2.cell? ⟨w.heap.size,6,none⟩=some (.bool s))∧Below w.heap.size w w2):=Lib.hid (fun w2 h2=>by
  refine ⟨⟨?_,?_,?_⟩,bn.trans (h2.mono bn.size)⟩
  · rw [h2.cell (p:=⟨w.heap.size,3,none⟩) (World.block_lt_of_cell? _ _ c3)];exact c3
  · rw [h2.cell (p:=⟨w.heap.size,4,none⟩) (World.block_lt_of_cell? _ _ c4)];exact c4
  · rw [h2.cell (p:=⟨w.heap.size,6,none⟩) (World.block_lt_of_cell? _ _ c6)];exact c6)
 clear bn HZ K0 BA EQ
 go_wp2_with fail
 (with_reducible refine (CK.out _).mono ?_)
 rintro e w2 ⟨rfl,b2⟩
 obtain ⟨⟨d3,d4,d6⟩,f2⟩:=CB.out w2 b2
 have F2:=Lib.hid f2
 clear b2 f2 CB c0 c1 c2 c3 c4 c5 c6 CK
 cases q <;> cases s <;> cases hdt:(d==t) <;>
 ·go_wp2
  go_ret
  exact ⟨by first|rfl|(simp [hdt];done),F2.out⟩
/-- the others have no call behind -/
theorem rcheck_other (o:Od) (w:World) (hb:o=bareR o) (q:Bool) (hq:chkR o=q) (hk:o.kind≠1) :
 Calls Tryz.prog 94 #[o.v] w fun e w'=>e=.returned (.bool q)∧Below w.heap.size w w':=by
 have BA:=Lib.hid (rbare_any o)
 rw [← hb] at BA
 have EQ:=neq_op o o
 rw [decide_eq_true rfl] at EQ
 have HZ:=Lib.hid (box_call w o)
 have K0:=Lib.hid (box_cells w o)
 unfold chkR at hq
 rw [decide_eq_true hb,Bool.true_and] at hq
 unfold mayR at hq
 unfold bareR at hb
 rw [if_neg hk] at hb hq
 obtain ⟨k,⟨i,c,d,t,m⟩,s,id,cc,mo⟩:=o
 unfold Od.v Od.cs at *
 simp only [Bool.not_true] at *
 have k1:(k==1)=false:=by simpa using hk
 by_cases h2:k=2
 ·rw [if_pos h2] at hb hq
  unfold tk0 at hb
  cases hb
  clear hk
  by_cases i0:id<0
  ·obtain rfl:q=false:=by rw [← hq];simp;omega
   have e1:decide (id<0)=true:=decide_eq_true i0
   clear hq i0
   go_enter Tryz.func94,Tryz.ntmps94
   go_wp2_with fail
   first|go_region_with (go_at_call 143;(with_reducible refine (BA.out _).mono ?_);rintro e w1 ⟨rfl,b1⟩;(obtain ⟨kn,bn⟩:=HZ.out w1 (by first|exact b1|exact (Below.refl _ _).drew.trans b1));(obtain ⟨c0,c1,c2,c3,c4,c5,c6,c7,c8,c9⟩:=kn);clear b1)|fail
   all_goals go_wp2
   all_goals go_ret
   all_goals exact ⟨rfl,bn⟩
  have e1:decide (id<0)=false:=decide_eq_false i0
  by_cases i2:1023<id
  ·obtain rfl:q=false:=by rw [← hq];simp;omega
   have e2:decide (1023<id)=true:=decide_eq_true i2
   clear hq i0 i2
   go_enter Tryz.func94,Tryz.ntmps94
   go_wp2_with fail
   first|go_region_held3 (fun w'=>w'.cell? ⟨w.heap.size,0,none⟩=some (.int .i64 2)∧w'.cell? ⟨w.heap.size,1,none⟩=some (.int .i64 0)∧w'.cell? ⟨w.heap.size,2,none⟩=some (.int .i64 0)∧w'.cell? ⟨w.heap.size,3,none⟩=some (.int .i64 0)∧w'.cell? ⟨w.heap.size,4,none⟩=some (.int .i64 0)∧w'.cell? ⟨w.heap.size,5,none⟩=some (.int .i64 0)∧w'.cell? ⟨w.heap.size,6,none⟩=some (.bool false)∧w'.cell? ⟨w.heap.size,7,none⟩=some (.int .i64 id)∧w'.cell? ⟨w.heap.size,8,none⟩=some (.int .i64 0)∧w'.cell? ⟨w.heap.size,9,none⟩=some (.int .i64 0)) (first|exact K0.out|assumption|fail) (first|(go_at_call 143;(with_reducible refine (BA.out _).mono ?_);rintro e w1 ⟨rfl,b1⟩;(obtain ⟨kn,bn⟩:=HZ.out w1 (by first|exact b1|exact (Below.refl _ _).drew.trans b1));clear b1)|fail)|fail
   go_wp2
   go_ret
   exact ⟨rfl,bn⟩
  have e2:decide (1023<id)=false:=decide_eq_false i2
  obtain rfl:q=true:=by rw [← hq];simp;omega
  clear hq i0 i2
  go_enter Tryz.func94,Tryz.ntmps94
  go_wp2_with fail
  first|go_region_held3 (fun w'=>w'.cell? ⟨w.heap.size,0,none⟩=some (.int .i64 2)∧w'.cell? ⟨w.heap.size,1,none⟩=some (.int .i64 0)∧w'.cell? ⟨w.heap.size,2,none⟩=some (.int .i64 0)∧w'.cell? ⟨w.heap.size,3,none⟩=some (.int .i64 0)∧w'.cell? ⟨w.heap.size,4,none⟩=some (.int .i64 0)∧w'.cell? ⟨w.heap.size,5,none⟩=some (.int .i64 0)∧w'.cell? ⟨w.heap.size,6,none⟩=some (.bool false)∧w'.cell? ⟨w.heap.size,7,none⟩=some (.int .i64 id)∧w'.cell? ⟨w.heap.size,8,none⟩=some (.int .i64 0)∧w'.cell? ⟨w.heap.size,9,none⟩=some (.int .i64 0)) (first|exact K0.out|assumption|fail) (first|(go_at_call 143;(with_reducible refine (BA.out _).mono ?_);rintro e w1 ⟨rfl,b1⟩;(obtain ⟨kn,bn⟩:=HZ.out w1 (by first|exact b1|exact (Below.refl _ _).drew.trans b1));clear b1)|fail)|fail
  go_wp2
  go_ret
  exact ⟨rfl,bn⟩
 rw [if_neg h2] at hb hq
 have k2:(k==2)=false:=by simpa using h2
 by_cases h3:k=3
 ·rw [if_pos h3] at hb hq
  unfold tk0 at hb
  cases hb
  clear hk h2
  by_cases i0:id<0
  ·obtain rfl:q=false:=by rw [← hq];simp;omega
   have e1:decide (id<0)=true:=decide_eq_true i0
   clear hq i0
   go_enter Tryz.func94,Tryz.ntmps94
   go_wp2_with fail
   first|go_region_with (go_at_call 143;(with_reducible refine (BA.out _).mono ?_);rintro e w1 ⟨rfl,b1⟩;(obtain ⟨kn,bn⟩:=HZ.out w1 (by first|exact b1|exact (Below.refl _ _).drew.trans b1));(obtain ⟨c0,c1,c2,c3,c4,c5,c6,c7,c8,c9⟩:=kn);clear b1)|fail
   all_goals go_wp2
   all_goals go_ret
   all_goals exact ⟨rfl,bn⟩
  have e1:decide (id<0)=false:=decide_eq_false i0
  by_cases i2:1023<id
  ·obtain rfl:q=false:=by rw [← hq];simp;omega
   have e2:decide (1023<id)=true:=decide_eq_true i2
   clear hq i0 i2
   go_enter Tryz.func94,Tryz.ntmps94
   go_wp2_with fail
   first|go_region_held3 (fun w'=>w'.cell? ⟨w.heap.size,0,none⟩=some (.int .i64 3)∧w'.cell? ⟨w.heap.size,1,none⟩=some (.int .i64 0)∧w'.cell? ⟨w.heap.size,2,none⟩=some (.int .i64 0)∧w'.cell? ⟨w.heap.size,3,none⟩=some (.int .i64 0)∧w'.cell? ⟨w.heap.size,4,none⟩=some (.int .i64 0)∧w'.cell? ⟨w.heap.size,5,none⟩=some (.int .i64 0)∧w'.cell? ⟨w.heap.size,6,none⟩=some (.bool false)∧w'.cell? ⟨w.heap.size,7,none⟩=some (.int .i64 id)∧w'.cell? ⟨w.heap.size,8,none⟩=some (.int .i64 cc)∧w'.cell? ⟨w.heap.size,9,none⟩=some (.int .i64 0)) (first|exact K0.out|assumption|fail) (first|(go_at_call 143;(with_reducible refine (BA.out _).mono ?_);rintro e w1 ⟨rfl,b1⟩;(obtain ⟨kn,bn⟩:=HZ.out w1 (by first|exact b1|exact (Below.refl _ _).drew.trans b1));clear b1)|fail)|fail
   go_wp2
   go_ret
   exact ⟨rfl,bn⟩
  have e2:decide (1023<id)=false:=decide_eq_false i2
  obtain rfl:q=(decide (1≤cc)&&decide (cc≤2147483648)):=by rw [← hq,Bool.eq_iff_iff];simp;omega
  clear hq i0 i2
  cases g1:decide (1≤cc) <;> cases g2:decide (cc≤2147483648) <;>
  ·go_enter Tryz.func94,Tryz.ntmps94
   go_wp2_with fail
   first|go_region_held3 (fun w'=>w'.cell? ⟨w.heap.size,0,none⟩=some (.int .i64 3)∧w'.cell? ⟨w.heap.size,1,none⟩=some (.int .i64 0)∧w'.cell? ⟨w.heap.size,2,none⟩=some (.int .i64 0)∧w'.cell? ⟨w.heap.size,3,none⟩=some (.int .i64 0)∧w'.cell? ⟨w.heap.size,4,none⟩=some (.int .i64 0)∧w'.cell? ⟨w.heap.size,5,none⟩=some (.int .i64 0)∧w'.cell? ⟨w.heap.size,6,none⟩=some (.bool false)∧w'.cell? ⟨w.heap.size,7,none⟩=some (.int .i64 id)∧w'.cell? ⟨w.heap.size,8,none⟩=some (.int .i64 cc)∧w'.cell? ⟨w.heap.size,9,none⟩=some (.int .i64 0)) (first|exact K0.out|assumption|fail) (first|(go_at_call 143;(with_reducible refine (BA.out _).mono ?_);rintro e w1 ⟨rfl,b1⟩;(obtain ⟨kn,bn⟩:=HZ.out w1 (by first|exact b1|exact (Below.refl _ _).drew.trans b1));clear b1)|fail)|fail
   go_wp2
   go_ret
   exact ⟨rfl,bn⟩
 rw [if_neg h3] at hb hq
 have k3:(k==3)=false:=by simpa using h3
 by_cases h4:k=4
 ·rw [if_pos h4] at hb hq
  unfold tk0 at hb
  cases hb
  clear hk h2 h3
  obtain rfl:q=(decide (0≤mo)&&decide (mo≤3)):=by rw [← hq,Bool.eq_iff_iff];simp
  clear hq
  cases g1:decide (0≤mo) <;> cases g2:decide (mo≤3) <;>
  ·go_enter Tryz.func94,Tryz.ntmps94
   go_wp2_with fail
   first|go_region_held3 (fun w'=>w'.cell? ⟨w.heap.size,0,none⟩=some (.int .i64 4)∧w'.cell? ⟨w.heap.size,1,none⟩=some (.int .i64 0)∧w'.cell? ⟨w.heap.size,2,none⟩=some (.int .i64 0)∧w'.cell? ⟨w.heap.size,3,none⟩=some (.int .i64 0)∧w'.cell? ⟨w.heap.size,4,none⟩=some (.int .i64 0)∧w'.cell? ⟨w.heap.size,5,none⟩=some (.int .i64 0)∧w'.cell? ⟨w.heap.size,6,none⟩=some (.bool false)∧w'.cell? ⟨w.heap.size,7,none⟩=some (.int .i64 0)∧w'.cell? ⟨w.heap.size,8,none⟩=some (.int .i64 0)∧w'.cell? ⟨w.heap.size,9,none⟩=some (.int .i64 mo)) (first|exact K0.out|assumption|fail) (first|(go_at_call 143;(with_reducible refine (BA.out _).mono ?_);rintro e w1 ⟨rfl,b1⟩;(obtain ⟨kn,bn⟩:=HZ.out w1 (by first|exact b1|exact (Below.refl _ _).drew.trans b1));clear b1)|fail)|fail
   go_wp2
   go_ret
   exact ⟨rfl,bn⟩
 rw [if_neg h4] at hb hq
 have k4:(k==4)=false:=by simpa using h4
 unfold tk0 at hb
 cases hb
 obtain rfl:q=false:=hq.symm
 clear hk h2 h3 h4 hq
 go_enter Tryz.func94,Tryz.ntmps94
 go_wp2_with fail
 first|go_region_held3 (fun w'=>w'.cell? ⟨w.heap.size,0,none⟩=some (.int .i64 k)∧w'.cell? ⟨w.heap.size,1,none⟩=some (.int .i64 0)∧w'.cell? ⟨w.heap.size,2,none⟩=some (.int .i64 0)∧w'.cell? ⟨w.heap.size,3,none⟩=some (.int .i64 0)∧w'.cell? ⟨w.heap.size,4,none⟩=some (.int .i64 0)∧w'.cell? ⟨w.heap.size,5,none⟩=some (.int .i64 0)∧w'.cell? ⟨w.heap.size,6,none⟩=some (.bool false)∧w'.cell? ⟨w.heap.size,7,none⟩=some (.int .i64 0)∧w'.cell? ⟨w.heap.size,8,none⟩=some (.int .i64 0)∧w'.cell? ⟨w.heap.size,9,none⟩=some (.int .i64 0)) (first|exact K0.out|assumption|fail) (first|(go_at_call 143;(with_reducible refine (BA.out _).mono ?_);rintro e w1 ⟨rfl,b1⟩;(obtain ⟨kn,bn⟩:=HZ.out w1 (by first|exact b1|exact (Below.refl _ _).drew.trans b1));clear b1)|fail)|fail
 go_wp2
 go_ret
 exact ⟨rfl,bn⟩
theorem rcheck_any (o:Od) (w:World) :
 Calls Tryz.prog 94 #[o.v] w fun e w'=>e=.returned (.bool (chkR o))∧Below w.heap.size w w':=by
 by_cases h:o=bareR o
 ·by_cases hk:o.kind=1
  ·have e:bareR o=⟨1,o.task,o.server,0,0,0⟩:=by unfold bareR;rw [if_pos hk]
   have e2:chkR o=(chk o.task&&(!o.server||o.task.d==o.task.t)):=by
    unfold chkR mayR
    rw [decide_eq_true h,Bool.true_and,if_pos hk]
   rw [e2]
   have:=rcheck_admit o.task o.server w
   rw [← e,← h] at this
   exact this
  · exact rcheck_other o w h _ rfl hk
 ·have e:chkR o=false:=by unfold chkR;rw [decide_eq_false h,Bool.false_and]
  rw [e]
  exact rcheck_not o w h
end Go.Proofs.YteempfoajgblaaaGreat.Ox
