/- The set as a table: what ops make of it, its bytes: the mathematics. Rows of elements of so many .. -/
import Derived.Test.YteempfoajgblaaaGreatLMOp
import Derived.Laws.AppendOwn
import Derived.Laws.OwnMore
import Derived.Laws.MakeOwn
import Derived.Lib.AppendZeros
import Derived.Deep.MidRow
import Derived.WalkKit
import Derived.ProofKit
import Derived.OpenShut
import Derived.Below
import Derived.Lib.Hide
import Derived.Lib.SmallJoins
import Derived.Lib.FrozenHead2
set_option maxRecDepth 100000
set_option linter.unusedVariables false
set_option linter.unusedSimpArgs false
open Go.ChangeShapes Go.WideShapes Go.ChangeAt Go.RowKit Go.Joins
set_option maxHeartbeats 1000000
namespace Go.Proofs.YteempfoajgblaaaGreat.Tb
open Pm (Tk chk chk_iff)
open Oc (enc encInt encFlag num int flag)
open Ox (Od chkR chkR_iff tk0 encO readR readR_enc num_e int_e flag_e num_took int_took flag_took bl)
structure Rw where
 t:Tk
 s:Bool
instance:DecidableEq Rw:=fun a b=>decidable_of_iff (a.t=b.t∧a.s=b.s) (by cases a;cases b;simp)
structure Tb where
 rows:List Rw
 mode:Int
instance:DecidableEq Tb:=fun a b=>decidable_of_iff (a.rows=b.rows∧a.mode=b.mode) (by cases a;cases b;simp)
def tb0:Tb:=⟨[],0⟩
def okW (r:Rw):Bool:=chk r.t&&(!r.s||r.t.d==r.t.t)
def rise:Int→List Rw→Bool
 | _,[]=>true
 | b,r :: l=>decide (b<r.t.id)&&rise r.t.id l
theorem okW_iff {r:Rw}:okW r=true↔chk r.t=true∧(r.s=true→r.t.d=r.t.t):=by
 unfold okW
 cases h:r.s with
 | false=>simp
 | true=>simp
def chkT (t:Tb):Bool:=t.rows.all okW&&rise (-1) t.rows&&decide (t.rows.length≤16)&&decide (0≤t.mode∧t.mode≤3)
theorem chkT_iff {t:Tb}:chkT t=true↔(∀ r∈t.rows,okW r=true)∧rise (-1) t.rows=true∧t.rows.length≤16∧0≤t.mode∧t.mode≤3:=by
 unfold chkT
 simp [List.all_eq_true,and_assoc]
theorem rise_pair {l:List Rw} {a:Int}:rise a l=true↔(∀ r∈l,a<r.t.id)∧l.Pairwise (fun x y=>x.t.id<y.t.id):=by
 induction l generalizing a with
 | nil=>simp [rise]
 | cons q l ih=>
  unfold rise
  simp only [Bool.and_eq_true,decide_eq_true_eq,ih,List.pairwise_cons,List.mem_cons]
  constructor
  ·rintro ⟨h1,h2,h3⟩
   exact ⟨fun r hr=>by rcases hr with rfl|hr;exact h1;have:=h2 r hr;omega,h2,h3⟩
  ·rintro ⟨h1,h2,h3⟩
   exact ⟨h1 q (.inl rfl),h2,h3⟩
def find (l:List Rw) (id:Int):Option Rw:=l.find? (fun r=>r.t.id==id)
def at_ (l:List Rw) (id:Int):Option Nat:=l.findIdx? (fun r=>r.t.id==id)
theorem at_some {l:List Rw} {id:Int} {k:Nat} (h:at_ l id=some k):∃ r,l[k]?=some r∧r.t.id=id∧find l id=some r:=by
 unfold at_ at h
 unfold find
 induction l generalizing k with
 | nil=>simp at h
 | cons q l ih=>
  rw [List.findIdx?_cons] at h
  rw [List.find?_cons]
  by_cases hq:(q.t.id==id)=true
  ·rw [if_pos hq] at h
   cases h
   refine ⟨q,rfl,by simpa using hq,by rw [hq]⟩
  ·rw [if_neg hq] at h
   cases hf:l.findIdx? (fun r=>r.t.id==id) with
   | none=>rw [hf] at h;cases h
   | some j=>
    rw [hf] at h
    cases h
    obtain ⟨r,h1,h2,h3⟩:=ih hf
    refine ⟨r,h1,h2,?_⟩
    simp only [Bool.not_eq_true] at hq
    rw [hq];exact h3
theorem at_none {l:List Rw} {id:Int} (h:at_ l id=none):(∀ r∈l,r.t.id≠id)∧find l id=none:=by
 unfold at_ at h
 rw [List.findIdx?_eq_none_iff] at h
 refine ⟨fun r hr=>by have:=h r hr;simpa using this,?_⟩
 unfold find
 rw [List.find?_eq_none]
 intro r hr
 rw [h r hr];decide
def ins (x:Rw):List Rw→List Rw
 | []=>[x]
 | r :: l=>if x.t.id<r.t.id then x :: r :: l else r :: ins x l
theorem ins_len (x:Rw) (l:List Rw):(ins x l).length=l.length+1:=by
 induction l with
 | nil=>rfl
 | cons r l ih=>unfold ins;split <;> simp [ih]
theorem ins_mem {x r:Rw} {l:List Rw}:r∈ins x l↔r=x∨r∈l:=by
 induction l with
 | nil=>simp [ins]
 | cons q l ih=>
  unfold ins
  split
  · simp
  ·simp only [List.mem_cons,ih]
   constructor
   ·rintro (h|h|h)
    · exact .inr (.inl h)
    · exact .inl h
    · exact .inr (.inr h)
   ·rintro (h|h|h)
    · exact .inr (.inl h)
    · exact .inl h
    · exact .inr (.inr h)
theorem ins_rise {x:Rw}:∀ {l:List Rw} {a:Int},rise a l=true→a<x.t.id→(∀ r∈l,r.t.id≠x.t.id)→rise a (ins x l)=true:=by
 intro l
 induction l with
 | nil=>intro a _ h _;unfold ins rise;simp [h,rise]
 | cons r l ih=>
  intro a h ha hn
  unfold rise at h
  simp only [Bool.and_eq_true,decide_eq_true_eq] at h
  have hne:=hn r (by simp)
  unfold ins
  by_cases hx:x.t.id<r.t.id
  ·rw [if_pos hx]
   unfold rise
   simp only [Bool.and_eq_true,decide_eq_true_eq]
   refine ⟨ha,?_⟩
   unfold rise
   simp only [Bool.and_eq_true,decide_eq_true_eq]
   exact ⟨hx,h.2⟩
  ·rw [if_neg hx]
   unfold rise
   simp only [Bool.and_eq_true,decide_eq_true_eq]
   exact ⟨h.1,ih h.2 (by omega) (fun q hq=>hn q (by simp [hq]))⟩
def applyR (t:Tb) (o:Od):Tb×Int:=
 if chkT t=false∨chkR o=false then (tb0,1)
 else if o.kind=1 then
  match at_ t.rows o.task.id with
  | some _=>(tb0,14)
  | none=>if 16≤t.rows.length then (tb0,15) else (⟨ins ⟨o.task,o.server⟩ t.rows,t.mode⟩,0)
 else if o.kind=4 then (⟨t.rows,o.mode⟩,0)
 else match at_ t.rows o.id with
  | none=>(tb0,12)
  | some k=>if o.kind=3 then
   match t.rows[k]? with
   | none=>(tb0,12)
   | some r=>if r.t.d<o.c then (tb0,1) else (⟨t.rows.take k++{ r with t:={ r.t with c:=o.c } } :: t.rows.drop (k+1),t.mode⟩,0)
   else (⟨t.rows.take k++t.rows.drop (k+1),t.mode⟩,0)
theorem pair_sub {l m:List Rw} (h:m.Sublist l) (hl:rise (-1) l=true):rise (-1) m=true:=by
 rw [rise_pair] at hl ⊢
 exact ⟨fun r hr=>hl.1 r (h.subset hr),hl.2.sublist h⟩
theorem cut_sub (l:List Rw) (k:Nat):(l.take k++l.drop (k+1)).Sublist l:=by
 rw [← List.eraseIdx_eq_take_drop_succ]
 exact List.eraseIdx_sublist l k
theorem rise_ids {l m:List Rw} (h:l.map (·.t.id)=m.map (·.t.id)) (hl:rise (-1) l=true):rise (-1) m=true:=by
 have key:∀ (l m:List Rw) (a:Int),l.map (·.t.id)=m.map (·.t.id)→rise a l=true→rise a m=true:=by
  intro l
  induction l with
  | nil=>intro m a h _;cases m with
   | nil=>rfl
   | cons r m=>simp at h
  | cons q l ih=>
   intro m a h hl
   cases m with
   | nil=>simp at h
   | cons r m=>
    simp only [List.map_cons,List.cons.injEq] at h
    unfold rise at hl ⊢
    simp only [Bool.and_eq_true,decide_eq_true_eq] at hl ⊢
    rw [← h.1]
    exact ⟨hl.1,ih m _ h.2 hl.2⟩
 exact key l m _ h hl
theorem apply_chk {t:Tb} {o:Od} (h:(applyR t o).2=0):chkT (applyR t o).1=true∧chkT t=true∧chkR o=true:=by
 unfold applyR at h ⊢
 by_cases h0:chkT t=false∨chkR o=false
 · rw [if_pos h0] at h;cases h
 rw [if_neg h0] at h ⊢
 have hT:chkT t=true:=by cases e:chkT t with
  | true=>rfl
  | false=>exact absurd (.inl e) h0
 have hR:chkR o=true:=by cases e:chkR o with
  | true=>rfl
  | false=>exact absurd (.inr e) h0
 refine ⟨?_,hT,hR⟩
 obtain ⟨c1,c2,c3,c4,c5⟩:=chkT_iff.1 hT
 rcases chkR_iff.1 hR with ⟨x,s,rfl,hc,hs⟩|⟨i,rfl,h1,h2⟩|⟨i,c,rfl,h1,h2,h3,h4⟩|⟨m,rfl,h1,h2⟩
 ·simp only [if_true] at h ⊢
  cases ha:at_ t.rows x.id with
  | some k=>rw [ha] at h;cases h
  | none=>
   rw [ha] at h
   simp only at h ⊢
   by_cases h16:16≤t.rows.length
   · rw [if_pos h16] at h;cases h
   rw [if_neg h16]
   have hk:=chk_iff.1 hc
   rw [chkT_iff]
   simp only
   refine ⟨fun r hr=>?_,ins_rise c2 (by show (-1:Int)<x.id;omega) (at_none ha).1,by rw [ins_len];omega,c4,c5⟩
   rcases ins_mem.1 hr with rfl|hr
   · exact okW_iff.2 ⟨hc,hs⟩
   · exact c1 r hr
 ·simp only [show ¬(2:Int)=1 by decide,show ¬(2:Int)=4 by decide,show ¬(2:Int)=3 by decide,if_false] at h ⊢
  cases ha:at_ t.rows i with
  | none=>rw [ha] at h;cases h
  | some k=>
   simp only
   rw [chkT_iff]
   simp only
   have hsub:=cut_sub t.rows k
   exact ⟨fun r hr=>c1 r (hsub.subset hr),pair_sub hsub c2,Nat.le_trans hsub.length_le c3,c4,c5⟩
 ·simp only [show ¬(3:Int)=1 by decide,show ¬(3:Int)=4 by decide,if_false,if_true] at h ⊢
  cases ha:at_ t.rows i with
  | none=>rw [ha] at h;cases h
  | some k=>
   rw [ha] at h
   simp only at h ⊢
   obtain ⟨r,hr,hid,-⟩:=at_some ha
   rw [hr] at h ⊢
   simp only at h ⊢
   by_cases hd:r.t.d<c
   · rw [if_pos hd] at h;cases h
   rw [if_neg hd]
   obtain ⟨hkl,rfl⟩:=List.getElem?_eq_some_iff.1 hr
   have e:t.rows=t.rows.take k++t.rows[k] :: t.rows.drop (k+1):=by rw [← List.drop_eq_getElem_cons hkl,List.take_append_drop]
   rw [chkT_iff]
   simp only
   have hok:=okW_iff.1 (c1 _ (List.getElem_mem hkl))
   have hck:=chk_iff.1 hok.1
   refine ⟨fun q hq=>?_,rise_ids (l:=t.rows) ?_ c2,by have:=congrArg List.length e;simp at this ⊢;omega,c4,c5⟩
   ·rcases List.mem_append.1 hq with hq|hq
    · exact c1 q (List.mem_of_mem_take hq)
    ·rcases List.mem_cons.1 hq with rfl|hq
     · exact okW_iff.2 ⟨by rw [chk_iff];simp only;omega,hok.2⟩
     · exact c1 q (List.mem_of_mem_drop hq)
   ·have e2:=congrArg (List.map (fun (x:Rw)=>x.t.id)) e
    rw [List.map_append,List.map_cons] at e2 ⊢
    exact e2
 ·simp only [show ¬(4:Int)=1 by decide,if_false,if_true]
  rw [chkT_iff]
  exact ⟨c1,c2,c3,h1,h2⟩
theorem chk_tb0:chkT tb0=true:=by decide
def encW (r:Rw):List UInt8:=encInt r.t.id++enc r.t.c.toNat++enc r.t.d.toNat++enc r.t.t.toNat++encInt r.t.m++encFlag r.s
def encWs:List Rw→List UInt8
 | []=>[]
 | r :: l=>encW r++encWs l
theorem encWs_append (l m:List Rw):encWs (l++m)=encWs l++encWs m:=by
 induction l with
 | nil=>rfl
 | cons r l ih=>rw [List.cons_append,encWs,encWs,ih,List.append_assoc]
def encT (t:Tb):List UInt8:=encInt t.mode++encInt (t.rows.length:Int)++encWs t.rows
def readW (o:Oc.St):Rw×Oc.St:=
 let a:=int o 1023;let b:=num a.2 2147483648;let d:=num b.2 2147483648;let t:=num d.2 2147483648;let m:=int t.2 15;let f:=flag m.2
 (⟨⟨a.1,b.1,d.1,t.1,m.1⟩,f.1⟩,f.2)
def readWs:Nat→Oc.St→List Rw×Oc.St
 | 0,o=>([],o)
 | _+1,none=>([],none)
 | n+1,some l=>((readW (some l)).1 :: (readWs n (readW (some l)).2).1,(readWs n (readW (some l)).2).2)
def readM (o:Oc.St):Tb×Oc.St:=
 let m:=int o 3;let n:=int m.2 16;let r:=readWs n.1 n.2
 (⟨r.1,m.1⟩,r.2)
theorem readW_enc {r:Rw} (h:chk r.t=true) (x:List UInt8):readW (some (encW r++x))=(r,some x):=by
 have hk:=chk_iff.1 h
 obtain ⟨⟨ti,tc,td,tt,tm⟩,s⟩:=r
 simp only at hk
 unfold readW encW
 simp only [List.append_assoc]
 rw [int_e (by omega) (by omega) (by decide)]
 simp only
 rw [num_e (by omega) (by decide)]
 simp only
 rw [num_e (by omega) (by decide)]
 simp only
 rw [num_e (by omega) (by decide)]
 simp only
 rw [int_e (by omega) (by omega) (by decide)]
 simp only
 rw [flag_e]
 simp only [Prod.mk.injEq,Rw.mk.injEq,Tk.mk.injEq,and_true]
 omega
theorem readWs_enc {l:List Rw} (h:∀ r∈l,chk r.t=true) (x:List UInt8):readWs l.length (some (encWs l++x))=(l,some x):=by
 induction l with
 | nil=>rfl
 | cons r l ih=>
  rw [List.length_cons,encWs,List.append_assoc,readWs,readW_enc (h r (by simp))]
  simp only
  rw [ih (fun q hq=>h q (by simp [hq]))]
theorem readM_enc {t:Tb} (h:chkT t=true) (x:List UInt8):readM (some (encT t++x))=(t,some x):=by
 obtain ⟨c1,c2,c3,c4,c5⟩:=chkT_iff.1 h
 unfold readM encT
 simp only [List.append_assoc]
 rw [int_e c4 c5 (by decide)]
 simp only
 rw [int_e (by omega) (by omega) (by decide)]
 simp only [Int.toNat_natCast]
 rw [readWs_enc (fun r hr=>(okW_iff.1 (c1 r hr)).1)]
 obtain ⟨rows,mode⟩:=t
 simp only at c4
 simp only [Prod.mk.injEq,Tb.mk.injEq,true_and,and_true]
 omega
theorem readW_took {o:Oc.St} {r:List UInt8} (h:(readW o).2=some r):o=some (encW (readW o).1++r):=by
 unfold readW at h ⊢
 simp only at h ⊢
 have e6:=flag_took h
 have e5:=int_took e6
 have e4:=num_took e5
 have e3:=num_took e4
 have e2:=num_took e3
 have e1:=int_took e2
 unfold encW
 simp only [encInt,Int.toNat_natCast,List.append_assoc]
 exact e1
theorem readWs_took:∀ {n:Nat} {o:Oc.St} {r:List UInt8},(readWs n o).2=some r→o=some (encWs (readWs n o).1++r)∧(readWs n o).1.length=n:=by
 intro n
 induction n with
 | zero=>intro o r h;exact ⟨h,rfl⟩
 | succ n ih=>
  intro o r h
  cases o with
  | none=>cases h
  | some l=>
   rw [readWs] at h ⊢
   simp only at h ⊢
   obtain ⟨h1,h2⟩:=ih h
   have h3:=readW_took h1
   exact ⟨by rw [encWs,List.append_assoc];exact h3,by rw [List.length_cons,h2]⟩
theorem readM_took {l r:List UInt8} (h:(readM (some l)).2=some r):l=encT (readM (some l)).1++r:=by
 have key:∀ o:Oc.St,(readM o).2=some r→o=some (encT (readM o).1++r):=by
  intro o h
  unfold readM at h ⊢
  simp only at h ⊢
  obtain ⟨h1,h2⟩:=readWs_took h
  have e1:=int_took h1
  have e0:=int_took e1
  unfold encT
  simp only [h2,encInt,Int.toNat_natCast,List.append_assoc]
  exact e0
 have:=key (some l) h
 simpa using this
def readR (l:List UInt8):Option Tb:=if (readM (some l)).2=some []∧chkT (readM (some l)).1=true then some (readM (some l)).1 else none
theorem readR_enc {t:Tb} (h:chkT t=true):readR (encT t)=some t:=by
 have h1:=readM_enc h []
 rw [List.append_nil] at h1
 unfold readR
 rw [h1,if_pos ⟨rfl,h⟩]
theorem readR_some {l:List UInt8} {t:Tb} (h:readR l=some t):chkT t=true∧encT t=l:=by
 unfold readR at h
 split at h
 ·rename_i hc
  cases h
  have:=readM_took hc.1
  rw [List.append_nil] at this
  exact ⟨hc.2,this.symm⟩
 · cases h
def replayR (t:Tb):List (List UInt8)→Tb×Nat
 | []=>(t,0)
 | l :: r=>match Ox.readR l with
  | none=>(t,0)
  | some o=>if (applyR t o).2=0 then ((replayR (applyR t o).1 r).1,(replayR (applyR t o).1 r).2+1) else (t,0)
theorem replay_snoc {o:Od}:∀ {l:List (List UInt8)} {s t:Tb},replayR s l=(t,l.length)→(applyR t o).2=0→replayR s (l++[encO o])=((applyR t o).1,l.length+1):=by
 intro l
 induction l with
 | nil=>
  intro s t h ha
  obtain rfl:s=t:=congrArg Prod.fst h
  rw [List.nil_append]
  unfold replayR
  rw [Ox.readR_enc (apply_chk ha).2.2]
  simp only
  rw [if_pos ha]
  rfl
 | cons x l ih=>
  intro s t h ha
  rw [List.cons_append]
  unfold replayR at h ⊢
  cases hx:Ox.readR x with
  | none=>rw [hx] at h;simp at h
  | some p=>
   rw [hx] at h
   simp only at h ⊢
   by_cases hp:(applyR s p).2=0
   ·rw [if_pos hp] at h ⊢
    simp only [Prod.mk.injEq,List.length_cons,Nat.add_right_cancel_iff] at h
    have:=ih (s:=(applyR s p).1) (t:=t) (Prod.ext h.1 h.2) ha
    rw [this];rfl
   · rw [if_neg hp] at h;simp at h
theorem encW_len {r:Rw} (h:chk r.t=true):(encW r).length≤22:=by
 have hk:=chk_iff.1 h
 have l2:(encInt r.t.id).length≤3:=bl (k:=2) (by omega)
 have l3:(enc r.t.c.toNat).length≤5:=bl (k:=4) (by omega)
 have l4:(enc r.t.d.toNat).length≤5:=bl (k:=4) (by omega)
 have l5:(enc r.t.t.toNat).length≤5:=bl (k:=4) (by omega)
 have l6:(encInt r.t.m).length≤2:=bl (k:=1) (by omega)
 have l7:(encFlag r.s).length≤2:=bl (k:=1) (by split <;> decide)
 unfold encW
 simp only [List.length_append]
 omega
theorem encWs_len {l:List Rw} (h:∀ r∈l,chk r.t=true):(encWs l).length≤22*l.length:=by
 induction l with
 | nil=>simp [encWs]
 | cons r l ih=>
  have h1:=encW_len (h r (by simp))
  have h2:=ih (fun q hq=>h q (by simp [hq]))
  rw [encWs,List.length_append,List.length_cons]
  omega
theorem encT_len {t:Tb} (h:chkT t=true):(encT t).length≤356:=by
 obtain ⟨c1,c2,c3,c4,c5⟩:=chkT_iff.1 h
 have l1:(encInt t.mode).length≤2:=bl (k:=1) (by omega)
 have l2:(encInt (t.rows.length:Int)).length≤2:=bl (k:=1) (by omega)
 have l3:=encWs_len (fun r hr=>(okW_iff.1 (c1 r hr)).1)
 unfold encT
 simp only [List.length_append]
 omega
end Go.Proofs.YteempfoajgblaaaGreat.Tb
namespace Go.Proofs.YteempfoajgblaaaGreat.Ge
theorem addr_add (b o j:Nat):(⟨b,o,none⟩:Addr).add j=⟨b,o+j,none⟩:=by
 unfold Addr.add
 by_cases h:j=0 <;> simp [h]
structure El {α:Type} (P:Program) (T ST:TypeId) (n bytes:Nat) (z:Value) (f:α→List Value):Prop where
 sl:P.underlying ST=some (.slice T)
 info:(P.info? T).map (fun i=>(i.zero,i.size,i.bytes))=some (some z,n,bytes)
 zs:z.cells.size=n
 pos:0<n
 by_:bytes≤1000
 len:∀ x,(f x).length=n
 one:∀ x,∀ u∈f x,u.oneCell'=true
section
variable {α:Type} {P:Program} {T ST:TypeId} {n bytes:Nat} {z:Value} {f:α→List Value}
def flat (f:α→List Value) (l:List α):List Value:=l.flatMap f
theorem flat_cons (x:α) (l:List α):flat f (x :: l)=f x++flat f l:=rfl
theorem flat_append (a b:List α):flat f (a++b)=flat f a++flat f b:=by simp [flat]
theorem flat_length (hn:∀ x,(f x).length=n) (l:List α):(flat f l).length=l.length*n:=by
 induction l with
 | nil=>simp [flat]
 | cons x l ih=>rw [flat_cons,List.length_append,ih,List.length_cons,hn,Nat.add_mul];omega
theorem flat_get (hn:∀ x,(f x).length=n) {l:List α} {i:Nat} {x:α} (h:l[i]?=some x):∀ j,j<n→(flat f l)[i*n+j]?=(f x)[j]?:=by
 induction l generalizing i with
 | nil=>simp at h
 | cons y l ih=>
  intro j hj
  rw [flat_cons]
  cases i with
  | zero=>
   obtain rfl:y=x:=by simpa using h
   rw [List.getElem?_append_left (by rw [hn];omega)];simp
  | succ i=>
   rw [List.getElem?_append_right (by rw [hn,Nat.add_mul];omega)]
   have e:(i+1)*n+j-(f y).length=i*n+j:=by rw [hn,Nat.add_mul];omega
   rw [e]
   exact ih (by simpa using h) j hj
theorem flat_where (hn:∀ x,(f x).length=n) {l:List α} {j:Nat} {u:Value} (h:(flat f l)[j]?=some u):∃ i x r,l[i]?=some x∧r<n∧j=i*n+r∧(f x)[r]?=some u:=by
 induction l generalizing j with
 | nil=>simp [flat] at h
 | cons y l ih=>
  rw [flat_cons] at h
  by_cases hj:j<n
  ·rw [List.getElem?_append_left (by rw [hn];exact hj)] at h
   exact ⟨0,y,j,rfl,hj,by omega,h⟩
  ·rw [List.getElem?_append_right (by rw [hn];omega),hn] at h
   obtain ⟨i,x,r,h1,h2,h3,h4⟩:=ih h
   exact ⟨i+1,x,r,by simpa using h1,h2,by rw [Nat.add_mul];omega,h4⟩
def Seen (f:α→List Value) (n:Nat) (ao:Option Addr) (l:List α) (w:World):Prop:=0<l.length→∃ b off,ao=some ⟨b,off,none⟩∧b<w.heap.size∧∀ i x,l[i]?=some x→∀ j u,(f x)[j]?=some u→w.cell? ⟨b,off+i*n+j,none⟩=some u
theorem seen_nil (ao:Option Addr) (w:World):Seen f n ao [] w:=fun h=>by simp at h
theorem Seen.of_block {ao:Option Addr} {l:List α} {w w':World} (h:Seen f n ao l w) (hs:w.heap.size≤w'.heap.size) (hb:∀ b off,ao=some ⟨b,off,none⟩→b<w.heap.size→w'.heap[b]?=w.heap[b]?):Seen f n ao l w':=fun h0=>by
 obtain ⟨b,off,rfl,hl,hc⟩:=h h0
 exact ⟨b,off,rfl,by omega,fun i x hi j u hj=>(World.cell?_of_block (w:=w) (a:=⟨b,off+i*n+j,none⟩) (hb b off rfl hl)).trans (hc i x hi j u hj)⟩
theorem Seen.call {ao:Option Addr} {l:List α} {w w':World} (h:Seen f n ao l w) (hb:Below w.heap.size w w'):Seen f n ao l w':=h.of_block hb.size fun b _ _ hl=>hb.block b hl
theorem Seen.below {B:Nat} {ao:Option Addr} {l:List α} {w w':World} (h:Seen f n ao l w) (hb:Below B w w') (hB:w.heap.size≤B):Seen f n ao l w':=h.call (hb.mono hB)
theorem Seen.take {ao:Option Addr} {l:List α} {w:World} (h:Seen f n ao l w) (k:Nat):Seen f n ao (l.take k) w:=fun h0=>by
 obtain ⟨b,off,rfl,hl,hc⟩:=h (by rw [List.length_take] at h0;omega)
 refine ⟨b,off,rfl,hl,fun i x hi j u hj=>hc i x ?_ j u hj⟩
 rw [List.getElem?_take] at hi
 split at hi
 · exact hi
 · cases hi
theorem Seen.drop {b off:Nat} {l:List α} {w:World} (h:Seen f n (some ⟨b,off,none⟩) l w) (k:Nat):Seen f n (some ⟨b,off+k*n,none⟩) (l.drop k) w:=fun h0=>by
 obtain ⟨b',off',e,hl,hc⟩:=h (by rw [List.length_drop] at h0;omega)
 cases e
 refine ⟨b,off+k*n,rfl,hl,fun i x hi j u hj=>?_⟩
 rw [List.getElem?_drop] at hi
 have:=hc (k+i) x hi j u hj
 rw [Nat.add_mul] at this
 rw [show off+k*n+i*n+j=off+(k*n+i*n)+j by omega]
 exact this
theorem Seen.cells {ad:Addr} {l:List α} {w:World} (hn:∀ x,(f x).length=n) (h:Seen f n (some ad) l w):∀ j u,(flat f l)[j]?=some u→w.cell? (ad.add j)=some u:=fun j u hj=>by
 obtain ⟨i,x,r,h1,h2,rfl,h4⟩:=flat_where hn hj
 obtain ⟨b,off,e,-,hc⟩:=h (by have:=(List.getElem?_eq_some_iff.1 h1).1;omega)
 cases e
 rw [addr_add,show off+(i*n+r)=off+i*n+r by omega]
 exact hc i x h1 r u h4
def Row (f:α→List Value) (n:Nat) (T:TypeId) (B:Nat) (w:World) (v:Value) (l:List α):Prop:=w.ownsRow B T n v l.length (flat f l)
theorem row_nil (B:Nat) (w:World):Row f n T B w (.slice none 0 0) []:=World.ownsRow_nil _ _ _ _
theorem Row.of_blocks {B:Nat} {w w':World} {v:Value} {l:List α} (h:Row f n T B w v l) (hb:∀ k,v.ownBlock=some k→w'.heap[k]?=w.heap[k]?):Row f n T B w' v l:=by
 refine ⟨h.1,?_⟩
 rcases h.2 with hn|⟨g,cap,cur,rfl,hB,hg,rest⟩
 · exact .inl hn
 · exact .inr ⟨g,cap,cur,rfl,hB,by rw [hb g rfl];exact hg,rest⟩
theorem Row.lt {B:Nat} {w:World} {v:Value} {l:List α} (h:Row f n T B w v l):∀ k,v.ownBlock=some k→B≤k∧k<w.heap.size:=World.ownsRow.lt h
theorem Row.call {B:Nat} {w w':World} {v:Value} {l:List α} (h:Row f n T B w v l) (hb:Below w.heap.size w w'):Row f n T B w' v l:=h.of_blocks fun k hk=>hb.block k (h.lt k hk).2
theorem Row.form {B:Nat} {w:World} {v:Value} {l:List α} (hn:∀ x,(f x).length=n) (h:Row f n T B w v l):∃ ao cap,v=.slice ao l.length cap∧l.length≤cap∧Seen f n ao l w∧(∀ b off,ao=some ⟨b,off,none⟩→off=0):=by
 have hc:=fun g (e:v.ownBlock=some g)=>World.ownsRow.cells h (g:=g) e
 rcases h.2 with ⟨rfl,h0⟩|⟨g,cap,cur,rfl,hB,hg,hcap,-⟩
 · exact ⟨none,0,by rw [h0],by omega,fun h=>by omega,fun b off e=>by cases e⟩
 ·refine ⟨some ⟨g,0,none⟩,cap,rfl,hcap,fun h0=>⟨g,0,rfl,(Array.getElem?_eq_some_iff.1 hg).1,fun i x hi j u hj=>?_⟩,fun b off e=>by cases e;rfl⟩
  have hjn:j<n:=by have:=(List.getElem?_eq_some_iff.1 hj).1;rw [hn] at this;exact this
  have:=hc g rfl (i*n+j) u (by rw [flat_get hn hi j hjn];exact hj)
  rw [addr_add] at this
  rw [show 0+i*n+j=0+(i*n+j) by omega];exact this
theorem row_all (E:El P T ST n bytes z f) {B:Nat} {w:World} {v:Value} {l m:List α} {ad:Addr} {c:Nat} {ty:TypeId} (h:Row f n T B w v l) (hu:Seen f n (some ad) m w) (hB:B≤w.heap.size) (hl:l.length+m.length≤100000) :
 ∃ v' w',(Builtin.append_ #[ST,ST] ty #[v,.slice (some ad) m.length c]).run P w=.ok v' w'∧Row f n T B w' v' (l++m)∧Below B w w'∧w.grownBy w' v.ownBlock:=by
 obtain ⟨i,hi,hz⟩:=Option.map_eq_some_iff.1 E.info
 simp only [Prod.mk.injEq] at hz
 obtain ⟨hz,hs,hy⟩:=hz
 have hb:(l.length+m.length)*bytes≤140737488355328:=by
  have:=Nat.mul_le_mul hl E.by_
  omega
 obtain ⟨v',w',hr,ho,hg,-⟩:=run_append_own (P:=P) w B ST ty T i z n bytes E.sl hi hz hs hy E.zs E.pos v l.length _ h
  ad m.length c (flat f m) (flat_length E.len m) (hu.cells E.len) (fun u hu=>by
   simp only [flat,List.mem_flatMap] at hu
   obtain ⟨x,-,hu⟩:=hu
   exact E.one x u hu) (by unfold maxLen;omega) hb hB
 refine ⟨v',w',hr,?_,⟨hg.os,hg.tape,hg.output,hg.size,fun k hk=>hg.block k (by omega) (fun e=>?_)⟩,hg⟩
 ·unfold Row
  rw [List.length_append,flat_append]
  exact ho
 · have:=(h.lt k e.symm).1;omega
theorem row_one (E:El P T ST n bytes z f) {B:Nat} {w:World} {v:Value} {l:List α} {x:α} {b o c:Nat} {ty:TypeId} (h:Row f n T B w v l) (hx:∀ j u,(f x)[j]?=some u→w.cell? ⟨b,o+j,none⟩=some u) (hB:B≤w.heap.size) (hl:l.length≤99999) :
 ∃ v' w',(Builtin.append_ #[ST,ST] ty #[v,.slice (some ⟨b,o,none⟩) 1 c]).run P w=.ok v' w'∧Row f n T B w' v' (l++[x])∧Below B w w'∧w.grownBy w' v.ownBlock:=by
 have hb:b<w.heap.size:=by
  have h0:0<(f x).length:=by rw [E.len];exact E.pos
  exact World.block_lt_of_cell? _ _ (hx 0 _ (List.getElem?_eq_getElem h0))
 exact row_all E (m:=[x]) h (fun _=>⟨b,o,rfl,hb,fun i y hi j u hj=>by
  match i,hi with
  | 0,hi=>
   obtain rfl:x=y:=by simpa using hi
   rw [Nat.zero_mul,Nat.add_zero];exact hx j u hj
  | i+1,hi=>simp at hi⟩) hB (by simpa using (by omega:l.length+1≤100000))
theorem all_none (E:El P T ST n bytes z f) (w:World) (ty:TypeId) (a b:Option Addr) (k c c2:Nat) (hk:k≤c):(Builtin.append_ #[ST,ST] ty #[.slice a k c,.slice b 0 c2]).run P w=.ok (.slice a k c) w:=by
 obtain ⟨i,hi,hz⟩:=Option.map_eq_some_iff.1 E.info
 cases a with
 | none=>cases b <;> simp [Builtin.append_,run_underlying E.sl,sizeOf,typeInfo,hi,Builtin.lenOf,hk,Builtin.firstCells,loadCells,loadCellsFrom]
 | some a=>cases b <;> simp [Builtin.append_,run_underlying E.sl,sizeOf,typeInfo,hi,Builtin.lenOf,hk,Builtin.firstCells,storeCells,loadCells,loadCellsFrom]
theorem full_all (E:El P T ST n bytes z f) {w:World} {l m:List α} {ao:Option Addr} {ad:Addr} {c cl:Nat} {ty:TypeId} (h:Seen f n ao l w) (hao:ao=none→cl=0) (hcl:l.length≤cl) (hu:Seen f n (some ad) m w) (hm:cl<l.length+m.length) (hl:l.length+m.length≤100000) :
 ∃ v' w',(Builtin.append_ #[ST,ST] ty #[.slice ao l.length cl,.slice (some ad) m.length c]).run P w=.ok v' w'∧Row f n T w.heap.size w' v' (l++m)∧Below w.heap.size w w':=by
 cases ao with
 | none=>
  have h0:l=[]:=by
   rcases Nat.eq_zero_or_pos l.length with e|e
   · exact List.eq_nil_of_length_eq_zero e
   · obtain ⟨b,off,e,-⟩:=h e;cases e
  subst h0
  rw [hao rfl]
  obtain ⟨v',w',h1,h2,h3,-⟩:=row_all E (c:=c) (ty:=ty) (row_nil (f:=f) (n:=n) (T:=T) w.heap.size w) hu (Nat.le_refl _) hl
  exact ⟨v',w',h1,h2,h3⟩
 | some ab=>
  obtain ⟨i,hi,hz⟩:=Option.map_eq_some_iff.1 E.info
  simp only [Prod.mk.injEq] at hz
  obtain ⟨hz,rfl,rfl⟩:=hz
  have hb:(l.length+m.length)*i.bytes≤140737488355328:=by
   have:=Nat.mul_le_mul hl E.by_
   omega
  have hr:=run_append_grow (P:=P) w ST ty T i z E.sl hi hz ab l.length cl (flat f l) (flat_length E.len l) (h.cells E.len) ad m.length c (flat f m) (flat_length E.len m) (hu.cells E.len) hm (by omega) (growslice_fits hm hb)
  refine ⟨_,_,hr,?_,(Below.refl _ _).drew.alloc (Nat.le_refl _) _⟩
  have hge:=grownCap_ge w (l.length+m.length) cl T
  have hcm:grownCap w (l.length+m.length) cl T≤maxLen:=grownCap_le_maxLen w (l.length+m.length) cl T (by unfold maxLen;omega)
  have hlen:(flat f l++flat f m).length=(l.length+m.length)*i.size:=by rw [List.length_append,flat_length E.len,flat_length E.len,Nat.add_mul]
  unfold Row
  rw [List.length_append,flat_append]
  refine ⟨hlen,.inr ⟨w.heap.size,_,_,rfl,Nat.le_refl _,heap_alloc_new w.drew _,hge,hcm,?_,?_⟩⟩
  ·simp only [Array.size_append,List.size_toArray,size_zeroCells,E.zs,flat_length E.len,← Nat.add_mul]
   congr 1
   omega
  ·simp only [Array.toList_append,List.append_assoc]
   rw [← List.append_assoc,← hlen]
   exact List.take_left
end
end Go.Proofs.YteempfoajgblaaaGreat.Ge
namespace Go.Proofs.YteempfoajgblaaaGreat.Tb
open Pm (Tk chk chk_iff below_drewN)
open Ge (El Seen Row)
structure Bos (l:List (Nat×Array Value×Nat)) (w W:World):Prop where
 at_:∀ x∈l,W.heap[x.1]?=some (.cells x.2.1 x.2.2 (0,0))∧w.heap.size≤x.1
 nd:(l.map (·.1)).Nodup
 bl:Below w.heap.size w W
theorem Bos.call {l:List (Nat×Array Value×Nat)} {w W W':World} (h:Bos l w W) (hb:Below W.heap.size W W'):Bos l w W' :=
 ⟨fun x hx=>⟨(hb.block x.1 (Array.getElem?_eq_some_iff.1 (h.at_ x hx).1).1).trans (h.at_ x hx).1,(h.at_ x hx).2⟩,h.nd,h.bl.trans (hb.mono h.bl.size)⟩
theorem Bos.drew {l:List (Nat×Array Value×Nat)} {w W:World} (h:Bos l w W):Bos l w W.drew:=h.call (Below.refl _ _).drew
theorem bos_nil (w:World):Bos [] w w:=⟨by simp,by simp,Below.refl _ _⟩
theorem Bos.new {l:List (Nat×Array Value×Nat)} {w W:World} (h:Bos l w W) (cs:Array Value) (T:Nat):Bos ((W.heap.size,cs,T) :: l) w (W.alloc (.cells cs T)):=by
 have h':=h.call ((Below.refl W.heap.size W).alloc (Nat.le_refl _) (.cells cs T))
 refine ⟨fun x hx=>?_,?_,h'.bl⟩
 ·rcases List.mem_cons.1 hx with rfl|hx
  · exact ⟨heap_alloc_new _ _,h.bl.size⟩
  · exact h'.at_ x hx
 ·rw [List.map_cons,List.nodup_cons]
  refine ⟨fun hm=>?_,h.nd⟩
  obtain ⟨x,hx,hxe⟩:=List.mem_map.1 hm
  have:=(Array.getElem?_eq_some_iff.1 (h.at_ x hx).1).1
  simp only at hxe;omega
theorem Bos.cell {l:List (Nat×Array Value×Nat)} {w W:World} (h:Bos l w W) {p:Nat} {cs:Array Value} {T:Nat} (i:Nat) (hi:l[i]?=some (p,cs,T)) (o:Nat):W.cell? ⟨p,o,none⟩=cs[o]?:=by
 rw [Lib.cell_of_heap (h.at_ _ (List.mem_of_getElem? hi)).1]
theorem Bos.fz {l:List (Nat×Array Value×Nat)} {w W:World} (h:Bos l w W) {p:Nat} {cs:Array Value} {T:Nat} (i:Nat) (hi:l[i]?=some (p,cs,T)) (o:Nat):W.frozen? ⟨p,o,none⟩=false:=Lib.frozen_of_heap (h.at_ _ (List.mem_of_getElem? hi)).1 o
theorem Bos.lt {l:List (Nat×Array Value×Nat)} {w W:World} (h:Bos l w W) {p:Nat} {cs:Array Value} {T:Nat} (i:Nat) (hi:l[i]?=some (p,cs,T)):p<W.heap.size∧w.heap.size≤p:=⟨(Array.getElem?_eq_some_iff.1 (h.at_ _ (List.mem_of_getElem? hi)).1).1,(h.at_ _ (List.mem_of_getElem? hi)).2⟩
theorem Bos.ne {l:List (Nat×Array Value×Nat)} {w W:World} (h:Bos l w W) {i j:Nat} {x y:Nat×Array Value×Nat} (hi:l[i]?=some x) (hj:l[j]?=some y) (hij:i≠j):x.1≠y.1:=fun e=>by
 have hn:=h.nd
 rw [List.nodup_iff_pairwise_ne,List.pairwise_iff_getElem] at hn
 obtain ⟨i1,rfl⟩:=List.getElem?_eq_some_iff.1 hi
 obtain ⟨j1,rfl⟩:=List.getElem?_eq_some_iff.1 hj
 rcases Nat.lt_or_gt_of_ne hij with g|g
 · have:=hn i j (by simpa) (by simpa) g;simp at this;exact this e
 · have:=hn j i (by simpa) (by simpa) g;simp at this;exact this e.symm
theorem Bos.set {l:List (Nat×Array Value×Nat)} {w W:World} (h:Bos l w W) {p:Nat} {cs:Array Value} {T:Nat} (i:Nat) (hi:l[i]?=some (p,cs,T)) (o:Nat) (v:Value):Bos (l.set i (p,cs.setIfInBounds o v,T)) w (W.setCell ⟨p,o,none⟩ v):=by
 obtain ⟨hil,hie⟩:=List.getElem?_eq_some_iff.1 hi
 have hp:=h.at_ _ (List.mem_of_getElem? hi)
 simp only at hp
 refine ⟨fun x hx=>?_,?_,h.bl.setCell hp.2 _⟩
 ·obtain ⟨j,hj,rfl⟩:=List.getElem_of_mem hx
  rw [List.length_set] at hj
  rw [List.getElem_set]
  split
  ·subst i
   refine ⟨?_,hp.2⟩
   simp [World.setCell,Array.getElem?_modify,hp.1]
  ·rename_i hne
   have hj2:=h.at_ _ (List.getElem_mem hj)
   refine ⟨?_,hj2.2⟩
   have hd:=h.ne hi (List.getElem?_eq_getElem hj) hne
   simp only at hd
   rw [Below.heap_setCell _ _ _ _ (Ne.symm hd)]
   exact hj2.1
 ·rw [List.map_set]
  have e:(l.map (·.1)).set i p=l.map (·.1):=by
   apply List.ext_getElem?
   intro j
   rw [List.getElem?_set]
   split
   ·subst i
    rw [List.length_map,if_pos hil,List.getElem?_map,hi];rfl
   · rfl
  rw [e];exact h.nd
theorem Bos.sub {l m:List (Nat×Array Value×Nat)} {w W:World} (h:Bos l w W) (hs:m.Sublist l):Bos m w W:=
 ⟨fun x hx=>h.at_ x (hs.subset hx),h.nd.sublist (hs.map _),h.bl⟩
def Rw.cs (r:Rw):List Value:=[.int .i64 r.t.id,.int .i64 r.t.c,.int .i64 r.t.d,.int .i64 r.t.t,.int .i64 r.t.m,.bool r.s]
def Rw.v (r:Rw):Value:=.agg #[.int .i64 r.t.id,.int .i64 r.t.c,.int .i64 r.t.d,.int .i64 r.t.t,.int .i64 r.t.m,.bool r.s]
theorem cs_len (r:Rw):r.cs.length=6:=rfl
theorem el:El Tryz.prog 123 50 6 48 (.agg #[.int .i64 0,.int .i64 0,.int .i64 0,.int .i64 0,.int .i64 0,.bool false]) Rw.cs where
 sl:=Tryz.underlying50
 info:=by kernel_rfl
 zs:=rfl
 pos:=by omega
 by_:=by omega
 len:=cs_len
 one:=fun x u hu=>by simp [Rw.cs] at hu;rcases hu with rfl|rfl|rfl|rfl|rfl|rfl <;> rfl
theorem row_cells {b off:Nat} {l:List Rw} {W:World} (h:∀ i x,l[i]?=some x→∀ j u,(Rw.cs x)[j]?=some u→W.cell? ⟨b,off+i*6+j,none⟩=some u) {i:Nat} {x:Rw} (hx:l[i]?=some x) :
 W.cell? ⟨b,off+i*6,none⟩=some (.int .i64 x.t.id)∧W.cell? ⟨b,off+i*6+1,none⟩=some (.int .i64 x.t.c)∧W.cell? ⟨b,off+i*6+2,none⟩=some (.int .i64 x.t.d)∧W.cell? ⟨b,off+i*6+3,none⟩=some (.int .i64 x.t.t)∧W.cell? ⟨b,off+i*6+4,none⟩=some (.int .i64 x.t.m)∧W.cell? ⟨b,off+i*6+5,none⟩=some (.bool x.s):=
 ⟨h i x hx 0 _ rfl,h i x hx 1 _ rfl,h i x hx 2 _ rfl,h i x hx 3 _ rfl,h i x hx 4 _ rfl,h i x hx 5 _ rfl⟩
theorem cell2 {W:World} {p:Nat} {a b:Value} (h:∀ o,W.cell? ⟨p,o,none⟩=(#[a,b]:Array Value)[o]?):W.cell? ⟨p,0,none⟩=some a∧W.cell? ⟨p,1,none⟩=some b:=⟨h 0,h 1⟩
theorem cell6 {W:World} {p:Nat} {a b c d e f:Value} (h:∀ o,W.cell? ⟨p,o,none⟩=(#[a,b,c,d,e,f]:Array Value)[o]?):W.cell? ⟨p,0,none⟩=some a∧W.cell? ⟨p,1,none⟩=some b∧W.cell? ⟨p,2,none⟩=some c∧W.cell? ⟨p,3,none⟩=some d∧W.cell? ⟨p,4,none⟩=some e∧W.cell? ⟨p,5,none⟩=some f:=⟨h 0,h 1,h 2,h 3,h 4,h 5⟩
theorem cell10 {W:World} {p:Nat} {a b c d e f g x y z:Value} (h:∀ o,W.cell? ⟨p,o,none⟩=(#[a,b,c,d,e,f,g,x,y,z]:Array Value)[o]?):W.cell? ⟨p,0,none⟩=some a∧W.cell? ⟨p,1,none⟩=some b∧W.cell? ⟨p,2,none⟩=some c∧W.cell? ⟨p,3,none⟩=some d∧W.cell? ⟨p,4,none⟩=some e∧W.cell? ⟨p,5,none⟩=some f∧W.cell? ⟨p,6,none⟩=some g∧W.cell? ⟨p,7,none⟩=some x∧W.cell? ⟨p,8,none⟩=some y∧W.cell? ⟨p,9,none⟩=some z:=⟨h 0,h 1,h 2,h 3,h 4,h 5,h 6,h 7,h 8,h 9⟩
theorem eqrow_run (a b:Rw) (w:World) (r:Bool→Value):(if a.t.id=b.t.id then if a.t.c=b.t.c then if a.t.d=b.t.d then if a.t.t=b.t.t then if a.t.m=b.t.m then if a.s=b.s then Result.ok (r true) w else Result.ok (r false) w else Result.ok (r false) w else Result.ok (r false) w else Result.ok (r false) w else Result.ok (r false) w else Result.ok (r false) w)=Result.ok (r (decide (a=b))) w:=by
 by_cases h:a=b
 · subst h;simp
 ·rw [decide_eq_false h]
  repeat' split
  all_goals first|rfl|(exfalso;apply h;obtain ⟨⟨_,_,_,_,_⟩,_⟩:=a;obtain ⟨⟨_,_,_,_,_⟩,_⟩:=b;simp_all)
theorem neq_row (a b:Rw) (w:World):(binOp .neq 123 a.v b.v).run Tryz.prog w=.ok (.bool (!decide (a=b))) w:=by
 unfold Rw.v
 rw [run_neq_struct]
 simp [go_sem]
 exact eqrow_run a b w (fun x=>.bool (!x))
theorem mode_any (m:Int) (w:World) :
 Calls Tryz.prog 153 #[.int .i64 m] w fun e w'=>e=.returned (.bool (decide (0≤m∧m≤3)))∧w'=w:=by
 by_cases h0:0≤m
 ·have e:decide (0≤m∧m≤3)=decide (m<4):=by simp [h0];omega
  rw [e]
  clear e
  go_enter Tryz.func153,Tryz.ntmps153
  go_wp2
  go_ret
  exact ⟨rfl,rfl⟩
 ·have e:decide (0≤m∧m≤3)=false:=by simp [h0]
  rw [e]
  have h1:m<0:=by omega
  clear e h0
  go_enter Tryz.func153,Tryz.ntmps153
  go_wp2
  go_ret
  exact ⟨rfl,rfl⟩
theorem may_any (r:Rw) (w:World) :
 Calls Tryz.prog 154 #[r.v] w fun e w'=>e=.returned (.bool (okW r))∧Below w.heap.size w w':=by
 have CK:=Lib.hid (Pm.chk_any r.t)
 have E:okW r=(chk r.t&&(!r.s||r.t.d==r.t.t)):=rfl
 rw [E]
 obtain ⟨⟨i,c,d,t,m⟩,s⟩:=r
 unfold Pm.Tk.v at CK
 simp only [Rw.v] at *
 have H0:=Lib.hid ((bos_nil w).new #[.int .i64 i,.int .i64 c,.int .i64 d,.int .i64 t,.int .i64 m,.bool s] 123)
 generalize chk ⟨i,c,d,t,m⟩=q at *
 clear E
 cases q <;> cases s <;> cases hdt:(d==t) <;>
 ·go_enter Tryz.func154,Tryz.ntmps154
  go_wp2_with fail
  (with_reducible refine (CK.out _).mono ?_)
  rintro e w1 ⟨rfl,b1⟩
  have H1:=Lib.hid (H0.out.call b1)
  obtain ⟨c0,c1,c2,c3,c4,c5⟩:=cell6 (H1.out.cell 0 rfl)
  have Z:=Lib.hid H1.out.bl
  clear b1 H0
  go_wp2
  go_ret
  exact ⟨rfl,Z.out⟩
end Go.Proofs.YteempfoajgblaaaGreat.Tb
