/- Rows that a call owns: one element more. Any program, any element. A disk's mathematics: what lies .. -/
import Derived.Test.YteempfoajgblaaaGreatLQA
import Derived.Laws.AppendOwn
import Derived.Laws.OwnMore
import Derived.Laws.MakeOwn
import Derived.WalkKit
import Derived.ProofKit
import Derived.OpenShut
import Derived.Below
import Derived.Lib.Hide
import Derived.Lib.SmallJoins
import Derived.Deep.WholeRow
import Derived.Deep.MidRow
import Derived.Lib.BufferWrite
import Derived.Lib.UnsafeStr
import Derived.Lib.Builder
import Derived.Laws.IdiomStrings
import Derived.Deep.OwnRows
import Derived.Deep.LoopGhost
import Derived.Deep.QuietTactic
import Derived.BigQuiet
import Derived.StillTailTactics
import Derived.RegionTactic
import Derived.Laws.BitsAll
import Derived.IntWalk
set_option maxRecDepth 100000
set_option linter.unusedVariables false
set_option linter.unusedSimpArgs false
open Go.ChangeShapes Go.WideShapes Go.ChangeAt Go.RowKit Go.Joins
namespace Go.Proofs.YteempfoajgblaaaGreat.Dk
theorem lt_of_heap {w:World} {k:Nat} {o:Obj} (h:w.heap[k]?=some o):k<w.heap.size:=(Array.getElem?_eq_some_iff.1 h).1
theorem append_one {P:Program} (w:World) (B:Nat) (t ty e:TypeId) (z:Value) (size bytes:Nat) (ht:P.underlying t=some (.slice e)) (hinfo:(P.info? e).map (fun i=>(i.zero,i.size,i.bytes))=some (some z,size,bytes)) (hzs:z.cells.size=size) (hsz:0<size) (hby:bytes≤1000)
 (v:Value) (n:Nat) (xs:List Value) (hown:w.ownsRow B e size v n xs) (a:Addr) (news:List Value) (hl:news.length=size) (hnews:∀ j u,news[j]?=some u→w.cell? (a.add j)=some u) (h1:∀ u∈news,u.oneCell'=true) (hlen:n≤1000000) (hB:B≤w.heap.size) :
 ∃ g cap w',(Builtin.append_ #[t,t] ty #[v,.slice (some a) 1 1]).run P w=.ok (.slice (some ⟨g,0,none⟩) (n+1) cap) w'∧w'.ownsRow B e size (.slice (some ⟨g,0,none⟩) (n+1) cap) (n+1) (xs++news)∧w.grownBy w' v.ownBlock∧(v.ownBlock=some g∨w.heap.size≤g):=by
 obtain ⟨i,hi,hzz⟩:=Option.map_eq_some_iff.1 hinfo
 simp only [Prod.mk.injEq] at hzz
 obtain ⟨hz,hs,hb⟩:=hzz
 have hl1:news.length=1*size:=by omega
 have h63:n+1≤maxLen:=by unfold maxLen;omega
 have hbb:(n+1)*bytes≤140737488355328:=by
  have:=Nat.mul_le_mul (show n+1≤1000001 by omega) hby
  omega
 have fin:∀ {base:Nat} {v':Value} {w':World},w'.ownsRow base e size v' (n+1) (xs++news)→∃ g cap,v'=.slice (some ⟨g,0,none⟩) (n+1) cap:=by
  intro base v' w' ho
  rcases ho.2 with ⟨_,h0⟩|⟨g,cap,cur,hv,_⟩
  · omega
  · exact ⟨g,cap,hv⟩
 obtain ⟨v',w',hr,hown',hgrow,_⟩:=run_append_own (P:=P) w B t ty e i z size bytes ht hi hz hs hb hzs hsz v n xs hown a 1 1 news hl1 hnews h1 h63 hbb hB
 obtain ⟨g,cap,rfl⟩:=fin hown'
 refine ⟨g,cap,w',hr,hown',hgrow,?_⟩
 rcases hown.2 with ⟨rfl,h0⟩|⟨g0,cap0,cur,rfl,hbg,hg,hnc,hcm,hcs,htake⟩
 ·obtain ⟨v2,w2,hr2,hown2,_⟩:=run_append_own (P:=P) w w.heap.size t ty e i z size bytes ht hi hz hs hb hzs hsz (.slice none 0 0) n xs ⟨hown.1,.inl ⟨rfl,h0⟩⟩ a 1 1 news hl1 hnews h1 h63 hbb (Nat.le_refl _)
  rw [hr] at hr2
  cases hr2
  exact .inr (hown2.lt g rfl).1
 ·by_cases hroom:n+1≤cap0
  ·obtain ⟨w2,hr2,-,-⟩:=run_append_fits (P:=P) w B t ty e i size ht hi hs g0 n cap0 xs hown a 1 1 news hl1 hnews h1 hroom
   rw [hr] at hr2
   cases hr2
   exact .inl rfl
  ·have hr2:=run_append_grow (P:=P) w t ty e i z ht hi hz ⟨g0,0,none⟩ n cap0 xs (by rw [hs];exact hown.1) (hown.cells (g:=g0) rfl) a 1 1 news (by rw [hs];exact hl1) hnews (by omega) (by omega) (by rw [hb];exact growslice_fits (by omega) hbb)
   rw [hr] at hr2
   cases hr2
   exact .inr (Nat.le_refl _)
def Own (w:World) (b k:Nat):Prop:=k=b∨(w.cell? ⟨b,0,none⟩).bind Value.ownBlock=some k∨(w.cell? ⟨b,1,none⟩).bind Value.ownBlock=some k
structure Moved (b:Nat) (w w':World):Prop where
 os:w'.os=w.os
 tape:w'.tape=w.tape
 output:w'.output=w.output
 size:w.heap.size≤w'.heap.size
 block:∀ k,k<w.heap.size→¬Own w b k→w'.heap[k]?=w.heap[k]?
 own:∀ k,Own w' b k→Own w b k∨w.heap.size≤k
theorem Own.self (w:World) (b:Nat):Own w b b:=.inl rfl
theorem Own.of_block {w w':World} {b k:Nat} (e:w'.heap[b]?=w.heap[b]?) (h:Own w' b k):Own w b k:=by
 unfold Own at *
 rwa [World.cell?_of_block (w:=w) (a:=⟨b,0,none⟩) e,World.cell?_of_block (w:=w) (a:=⟨b,1,none⟩) e] at h
theorem Moved.refl (b:Nat) (w:World):Moved b w w:=⟨rfl,rfl,rfl,Nat.le_refl _,fun _ _ _=>rfl,fun _ h=>.inl h⟩
theorem Moved.trans {b:Nat} {u v w:World} (h:Moved b u v) (k:Moved b v w):Moved b u w:=by
 refine ⟨k.os.trans h.os,k.tape.trans h.tape,k.output.trans h.output,Nat.le_trans h.size k.size,fun i hi hn=>?_,fun i hi=>?_⟩
 ·rw [k.block i (Nat.lt_of_lt_of_le hi h.size) ?_,h.block i hi hn]
  intro e
  rcases h.own i e with e|e
  · exact hn e
  · omega
 ·rcases k.own i hi with e|e
  · exact h.own i e
  · exact .inr (Nat.le_trans h.size e)
theorem Moved.of_below {b:Nat} {w w':World} (h:Below w.heap.size w w') (hb:b<w.heap.size):Moved b w w' :=
 ⟨h.os,h.tape,h.output,h.size,fun k hk _=>h.block k hk,fun k hk=>.inl (hk.of_block (h.block b hb))⟩
theorem Moved.drew {b:Nat} {u w:World} (h:Moved b u w):Moved b u w.drew:=h.trans ⟨rfl,rfl,rfl,Nat.le_refl _,fun _ _ _=>rfl,fun _ h=>.inl h⟩
theorem Moved.alloc {b:Nat} {u w:World} (h:Moved b u w) (hb:b<w.heap.size) (o:Obj):Moved b u (w.alloc o):=
 h.trans (.of_below ((Below.refl _ _).alloc (Nat.le_refl _) _) hb)
theorem Moved.set {b o:Nat} {u w:World} {v x:Value} (h:Moved b u w) (hx:w.cell? ⟨b,o,none⟩=some x) (hv:∀ k,v.ownBlock=some k→o≤1→Own u b k∨u.heap.size≤k):Moved b u (w.setCell ⟨b,o,none⟩ v):=by
 refine ⟨h.os,h.tape,h.output,by simpa [World.setCell] using h.size,fun k hk hn=>?_,fun k hk=>?_⟩
 ·have hkb:k≠b:=fun e=>hn (.inl e)
  rw [Below.heap_setCell w ⟨b,o,none⟩ v k hkb]
  exact h.block k hk hn
 ·rcases hk with rfl|hk|hk
  · exact .inl (Own.self _ _)
  ·by_cases e:o=0
   ·subst e
    rw [World.cell?_setCell_same _ _ _ hx] at hk
    exact hv k hk (by omega)
   ·rw [World.cell?_setCell_other _ _ _ _ (by first|(simp;done)|(simp;omega))] at hk
    exact h.own k (.inr (.inl hk))
  ·by_cases e:o=1
   ·subst e
    rw [World.cell?_setCell_same _ _ _ hx] at hk
    exact hv k hk (by omega)
   ·rw [World.cell?_setCell_other _ _ _ _ (by first|(simp;done)|(simp;omega))] at hk
    exact h.own k (.inr (.inr hk))
theorem Moved.grown {b:Nat} {u w w':World} {row:Option Nat} (h:Moved b u w) (hg:w.grownBy w' row) (hb:b<w.heap.size) (hne:row≠some b) (hr:∀ k,row=some k→Own w b k):Moved b u w':=by
 refine h.trans ⟨hg.os,hg.tape,hg.output,hg.size,fun k hk hn=>hg.block k hk (fun e=>hn (hr k e.symm)),fun k hk=>.inl (hk.of_block (hg.block b hb (fun e=>hne e.symm)))⟩
theorem Moved.row {b g:Nat} {u w:World} (h:Moved b u w) (hn:g≠b) (hr:Own w b g) (cs:Array Value):Moved b u (w.setRow g cs):=by
 refine h.trans ⟨rfl,rfl,rfl,by simp [World.setRow],fun k hk hn'=>setRow_other _ _ _ _ (fun e=>hn' (e▸hr)),fun k hk=>.inl (hk.of_block (setRow_other _ _ _ _ (fun e=>hn e.symm)))⟩
end Go.Proofs.YteempfoajgblaaaGreat.Dk
namespace Go.Proofs.YteempfoajgblaaaGreat.Dk
theorem flat_len {α:Type} {m:Nat}:∀ {L:List (List α)},(∀ x∈L,x.length=m)→L.flatten.length=m*L.length
 | [],_=>by simp
 | x :: L,h=>by
  rw [List.flatten_cons,List.length_append,flat_len (fun y hy=>h y (by simp [hy])),h x (by simp),List.length_cons,Nat.mul_succ];omega
theorem flat_split {α:Type} (L:List (List α)) {i:Nat} (h:i<L.length):L.flatten=(L.take i).flatten++(L[i]++(L.drop (i+1)).flatten):=by
 have e:L=L.take i++L[i] :: L.drop (i+1):=by
  rw [List.getElem_cons_drop h,List.take_append_drop]
 conv=>lhs;rw [e]
 rw [List.flatten_append,List.flatten_cons]
theorem flat_take {α:Type} {m:Nat} {L:List (List α)} (hm:∀ x∈L,x.length=m) {i:Nat} (h:i≤L.length):(L.take i).flatten.length=m*i:=by
 rw [flat_len (fun x hx=>hm x (List.mem_of_mem_take hx)),List.length_take,Nat.min_eq_left h]
theorem flat_get {α:Type} {m:Nat} {L:List (List α)} (hm:∀ x∈L,x.length=m) {i j:Nat} (h:i<L.length) (hj:j<m):L.flatten[m*i+j]?=L[i][j]?:=by
 have h1:=flat_take hm (i:=i) (by omega)
 have h2:L[i].length=m:=hm _ (List.getElem_mem h)
 rw [flat_split L h,List.getElem?_append_right (by omega),h1,show m*i+j-m*i=j by omega,List.getElem?_append_left (by omega)]
theorem flat_sub {α:Type} {m:Nat} {L:List (List α)} (hm:∀ x∈L,x.length=m) {i:Nat} (h:i<L.length):(L.flatten.drop (m*i)).take m=L[i]:=by
 have h1:=flat_take hm (i:=i) (by omega)
 have h2:L[i].length=m:=hm _ (List.getElem_mem h)
 rw [flat_split L h,List.drop_left' h1,List.take_left' h2]
structure DS where
 sec:List (List UInt8)
 opn:List (Nat×List UInt8)
 fail:Nat
 reads:Nat
structure DS.Ok (s:DS):Prop where
 len:s.sec.length≤1024
 sec:∀ x∈s.sec,x.length=64
 opn:∀ p∈s.opn,p.1<s.sec.length∧p.2.length=64
def putS (S:List (List UInt8)) (a:Nat) (bs:List UInt8) (k:Nat):List (List UInt8):=S.set a (bs.take k++(S[a]?.getD []).drop k)
theorem putS_length (S:List (List UInt8)) (a:Nat) (bs:List UInt8) (k:Nat):(putS S a bs k).length=S.length:=by simp [putS]
theorem putS_zero (S:List (List UInt8)) (a:Nat) (bs:List UInt8):putS S a bs 0=S:=by
 unfold putS
 apply List.ext_getElem?
 intro j
 rw [List.getElem?_set]
 split
 ·rename_i e
  subst e
  split
  · rename_i h;simp [h]
  · rename_i h;rw [List.getElem?_eq_none (by omega)]
 · rfl
theorem putS_get (S:List (List UInt8)) (a:Nat) (bs:List UInt8) (k j:Nat) (hj:j<S.length):(putS S a bs k)[j]?=some (if a=j then bs.take k++(S[j]).drop k else S[j]):=by
 unfold putS
 rw [List.getElem?_set]
 split
 · rename_i e;subst e;simp [hj]
 · simp [hj]
theorem putS_sec {S:List (List UInt8)} {a:Nat} {bs:List UInt8} {k:Nat} (hS:∀ x∈S,x.length=64) (ha:a<S.length) (hb:bs.length=64) (hk:k≤64):∀ x∈putS S a bs k,x.length=64:=by
 intro x hx
 rcases List.mem_or_eq_of_mem_set hx with h|rfl
 · exact hS x h
 ·have:S[a]?.getD []=S[a]:=by simp [ha]
  rw [this,List.length_append,List.length_take,List.length_drop,hS _ (List.getElem_mem ha)];omega
theorem putS_flat {S:List (List UInt8)} {a:Nat} {bs:List UInt8} {k:Nat} (hS:∀ x∈S,x.length=64) (ha:a<S.length) (hb:bs.length=64) (hk:k≤64) :
 (putS S a bs k).flatten=S.flatten.take (64*a)++bs.take k++S.flatten.drop (64*a+k):=by
 have h1:=flat_take hS (i:=a) (by omega)
 have h2:S[a].length=64:=hS _ (List.getElem_mem ha)
 have e:putS S a bs k=S.take a++(bs.take k++S[a].drop k) :: S.drop (a+1):=by
  unfold putS
  have:S[a]?.getD []=S[a]:=by simp [ha]
  rw [this,List.set_eq_take_append_cons_drop,if_pos ha]
 rw [e,List.flatten_append,List.flatten_cons,flat_split S ha]
 rw [List.take_left' h1,show 64*a+k=(S.take a).flatten.length+k by rw [h1],List.drop_append,List.drop_append]
 rw [show (S.take a).flatten.length+k-(S.take a).flatten.length=k by omega,List.drop_eq_nil_of_le (show (S.take a).flatten.length≤(S.take a).flatten.length+k by omega)]
 rw [show k-S[a].length=0 by omega]
 simp [List.append_assoc]
def lastOf:List (Nat×List UInt8)→Nat→Option (List UInt8)
 | [],_=>none
 | p :: l,a=>(lastOf l a).or (if p.1=a then some p.2 else none)
theorem lastOf_append (l r:List (Nat×List UInt8)) (a:Nat):lastOf (l++r) a=(lastOf r a).or (lastOf l a):=by
 induction l with
 | nil=>simp [lastOf]
 | cons p l ih=>simp only [List.cons_append,lastOf,ih,Option.or_assoc]
theorem lastOf_snoc (l:List (Nat×List UInt8)) (p:Nat×List UInt8) (a:Nat):lastOf (l++[p]) a=if p.1=a then some p.2 else lastOf l a:=by
 rw [lastOf_append]
 simp only [lastOf]
 split <;> rfl
def newestOf (s:DS) (a:Nat):List UInt8:=(lastOf s.opn a).getD (s.sec[a]?.getD [])
theorem lastOf_mem {l:List (Nat×List UInt8)} {a:Nat} {x:List UInt8} (h:lastOf l a=some x):(a,x)∈l:=by
 induction l with
 | nil=>cases h
 | cons p l ih=>
  simp only [lastOf] at h
  cases hl:lastOf l a with
  | some y=>rw [hl] at h;simp at h;subst h;simp [ih hl]
  | none=>
   rw [hl] at h
   simp at h
   obtain ⟨rfl,rfl⟩:=h
   simp
theorem newestOf_length {s:DS} (h:s.Ok) {a:Nat} (ha:a<s.sec.length):(newestOf s a).length=64:=by
 unfold newestOf
 cases hl:lastOf s.opn a with
 | some x=>exact (h.opn _ (lastOf_mem hl)).2
 | none=>simp [ha,h.sec]
theorem lastOf_at {l:List (Nat×List UInt8)} {a i:Nat} (hi:i<l.length) (hn:lastOf (l.drop (i+1)) a=none) (he:l[i].1=a):lastOf l a=some l[i].2:=by
 have e:l=l.take i++(l[i] :: l.drop (i+1)):=by rw [List.getElem_cons_drop hi,List.take_append_drop]
 conv=>lhs;rw [e]
 rw [lastOf_append]
 simp only [lastOf,hn,he]
 rfl
theorem lastOf_not {l:List (Nat×List UInt8)} {a i:Nat} (hi:i<l.length) (hn:lastOf (l.drop (i+1)) a=none) (he:l[i].1≠a):lastOf (l.drop i) a=none:=by
 rw [← List.getElem_cons_drop hi]
 simp only [lastOf,hn,if_neg he]
 rfl
def laid (S:List (List UInt8)) (O:List (Nat×List UInt8)) (k:Nat→Nat):Nat→List (List UInt8)
 | 0=>S
 | i+1=>match O[i]? with
  | some p=>putS (laid S O k i) p.1 p.2 (k i)
  | none=>laid S O k i
theorem laid_succ {S:List (List UInt8)} {O:List (Nat×List UInt8)} {k:Nat→Nat} {i:Nat} (h:i<O.length):laid S O k (i+1)=putS (laid S O k i) O[i].1 O[i].2 (k i):=by
 simp only [laid,List.getElem?_eq_getElem h]
theorem laid_length (S:List (List UInt8)) (O:List (Nat×List UInt8)) (k:Nat→Nat) (i:Nat):(laid S O k i).length=S.length:=by
 induction i with
 | zero=>rfl
 | succ i ih=>
  simp only [laid]
  split
  · rw [putS_length,ih]
  · exact ih
theorem laid_sec {S:List (List UInt8)} {O:List (Nat×List UInt8)} {k:Nat→Nat} (hS:∀ x∈S,x.length=64) (hO:∀ p∈O,p.1<S.length∧p.2.length=64) (hk:∀ i,k i≤64) (i:Nat):∀ x∈laid S O k i,x.length=64:=by
 induction i with
 | zero=>exact hS
 | succ i ih=>
  simp only [laid]
  split
  ·rename_i p hp
   have:=hO p (List.mem_of_getElem? hp)
   exact putS_sec ih (by rw [laid_length];exact this.1) this.2 (hk i)
  · exact ih
def keepOf (kind a:Int):Nat:=if kind%3=0 then 0 else if kind%3=1 then 64 else (a%65).toNat
theorem keepOf_le (kind a:Int):keepOf kind a≤64:=by unfold keepOf;split;omega;split <;> omega
def keptAt (l:List (Int×Int)) (i:Nat):Nat:=match l[i]? with|some p=>keepOf p.1 p.2|none=>0
theorem keptAt_le (l:List (Int×Int)) (i:Nat):keptAt l i≤64:=by unfold keptAt;split;exact keepOf_le _ _;omega
theorem keptAt_lt {l:List (Int×Int)} {i:Nat} (h:i<l.length):keptAt l i=keepOf l[i].1 l[i].2:=by unfold keptAt;simp [h]
theorem keptAt_ge {l:List (Int×Int)} {i:Nat} (h:l.length≤i):keptAt l i=0:=by unfold keptAt;simp [h]
def brokenTo (l:List (Int×Int)):Nat→Nat
 | 0=>0
 | i+1=>brokenTo l i+(if keptAt l i=64 then 0 else 1)
theorem brokenTo_le (l:List (Int×Int)) (i:Nat):brokenTo l i≤i:=by
 induction i with
 | zero=>exact Nat.le_refl _
 | succ i ih=>simp only [brokenTo];split <;> omega
theorem laid_rest {S:List (List UInt8)} {O:List (Nat×List UInt8)} {k:Nat→Nat} {m:Nat} (h:∀ j,m≤j→k j=0) (d:Nat):laid S O k (m+d)=laid S O k m:=by
 induction d with
 | zero=>rfl
 | succ d ih=>
  rw [← Nat.add_assoc,laid]
  split
  · rw [h _ (by omega),putS_zero,ih]
  · exact ih
theorem brokenTo_rest {l:List (Int×Int)} {m:Nat} (h:∀ j,m≤j→keptAt l j=0) (d:Nat):brokenTo l (m+d)=brokenTo l m+d:=by
 induction d with
 | zero=>rfl
 | succ d ih=>rw [← Nat.add_assoc,brokenTo,h _ (by omega),if_neg (by omega),ih];omega
theorem crash_end {S:List (List UInt8)} {O:List (Nat×List UInt8)} {l:List (Int×Int)} {m:Nat} (h:min l.length O.length=m):laid S O (keptAt l) O.length=laid S O (keptAt l) m∧brokenTo l O.length=O.length-(m-brokenTo l m):=by
 have hb:=brokenTo_le l m
 by_cases e:O.length≤l.length
 ·obtain rfl:m=O.length:=by omega
  exact ⟨rfl,by omega⟩
 ·obtain rfl:m=l.length:=by omega
  have h0:∀ j,l.length≤j→keptAt l j=0:=fun j hj=>keptAt_ge hj
  obtain ⟨d,hd⟩:∃ d,O.length=l.length+d:=⟨O.length-l.length,by omega⟩
  rw [hd]
  exact ⟨laid_rest h0 d,by rw [brokenTo_rest h0 d];omega⟩
def flushedS (s:DS):List (List UInt8):=laid s.sec s.opn (fun _=>64) s.opn.length
def crashedS (s:DS) (l:List (Int×Int)):List (List UInt8):=laid s.sec s.opn (keptAt l) s.opn.length
def readR (s:DS) (a:Int):DS×List UInt8×Nat:=
 if 0≤a∧a<s.sec.length then (if s.fail=1 then (⟨s.sec,s.opn,0,s.reads+1⟩,[],18) else (⟨s.sec,s.opn,s.fail-1,s.reads+1⟩,newestOf s a.toNat,0)) else (s,[],1)
def writeR (s:DS) (a:Int) (t:List UInt8):DS×Nat:=
 if (0≤a∧a<s.sec.length)∧t.length=64 then (if s.fail=1 then (⟨s.sec,s.opn,0,s.reads⟩,18) else (⟨s.sec,s.opn++[(a.toNat,t)],s.fail-1,s.reads⟩,0)) else (s,1)
def flushR (s:DS):DS×Nat:=if s.fail=1 then (⟨s.sec,s.opn,0,s.reads⟩,18) else (⟨flushedS s,[],s.fail-1,s.reads⟩,0)
def failR (s:DS) (n:Int):DS:=⟨s.sec,s.opn,n.toNat,s.reads⟩
def crashR (s:DS) (l:List (Int×Int)):DS×Nat:=(⟨crashedS s l,[],0,0⟩,brokenTo l s.opn.length)
def newR (n:Nat):DS:=⟨List.replicate n (List.replicate 64 0),[],0,0⟩
theorem newR_ok {n:Nat} (h:n≤1024):(newR n).Ok:=
 ⟨by simp [newR];exact h,fun x hx=>by simp [newR] at hx;rw [hx.2];simp,fun p hp=>by simp [newR] at hp⟩
theorem DS.Ok.with {s:DS} (h:s.Ok) (f r:Nat):(DS.mk s.sec s.opn f r).Ok:=⟨h.len,h.sec,h.opn⟩
end Go.Proofs.YteempfoajgblaaaGreat.Dk
namespace Go.Proofs.YteempfoajgblaaaGreat.Dk
theorem lt_of_cell {w:World} {p:Addr} {v:Value} (h:w.cell? p=some v):p.block<w.heap.size:=by
 rcases Nat.lt_or_ge p.block w.heap.size with h'|h'
 · exact h'
 · exfalso;unfold World.cell? at h;rw [Array.getElem?_eq_none h'] at h;cases h
theorem addr_add (b o j:Nat):(⟨b,o,none⟩:Addr).add j=⟨b,o+j,none⟩:=by unfold Addr.add;split <;> simp_all
def putCells (p:Nat×List UInt8):List Value:=.int .i64 (p.1:Int) :: Lib.byteCells p.2
def opnCells (O:List (Nat×List UInt8)):List Value:=(O.map putCells).flatten
theorem byteCells_len (l:List UInt8):(Lib.byteCells l).length=l.length:=by simp [Lib.byteCells]
theorem putCells_len {p:Nat×List UInt8} (h:p.2.length=64):(putCells p).length=65:=by simp [putCells,byteCells_len,h]
theorem byteCells_one (l:List UInt8):∀ v∈Lib.byteCells l,v.oneCell'=true:=by
 intro v hv
 simp only [Lib.byteCells,List.mem_map] at hv
 obtain ⟨x,-,rfl⟩:=hv
 rfl
theorem putCells_one (p:Nat×List UInt8):∀ v∈putCells p,v.oneCell'=true:=by
 intro v hv
 simp only [putCells,List.mem_cons] at hv
 rcases hv with rfl|hv
 · rfl
 · exact byteCells_one _ v hv
theorem opnCells_snoc (O:List (Nat×List UInt8)) (p:Nat×List UInt8):opnCells (O++[p])=opnCells O++putCells p:=by simp [opnCells]
def RowB (w:World) (g:Nat) (T:TypeId) (l:List UInt8):Prop:=w.heap[g]?=some (.cells (Lib.byteCells l).toArray T (0,0))
section
variable {w w':World} {g:Nat} {T:TypeId} {l:List UInt8}
theorem RowB.lt (h:RowB w g T l):g<w.heap.size:=lt_of_heap h
theorem RowB.cell (h:RowB w g T l) {j:Nat} (hj:j<l.length):w.cell? ⟨g,j,none⟩=some (.int .u8 (l[j].toNat:Int)):=by
 rw [Lib.cell_of_heap h,List.getElem?_toArray];simp [Lib.byteCells,hj]
theorem RowB.frozen (h:RowB w g T l) (j:Nat):w.frozen? ⟨g,j,none⟩=false:=by unfold RowB at h;simp [World.frozen?,h]
theorem RowB.of_block (h:RowB w g T l) (e:w'.heap[g]?=w.heap[g]?):RowB w' g T l:=by unfold RowB at *;rw [e];exact h
theorem RowB.call (h:RowB w g T l) (hb:Below w.heap.size w w'):RowB w' g T l:=h.of_block (hb.block g h.lt)
theorem RowB.put (h:RowB w g T l) (m:List UInt8):RowB (w.setRow g (Lib.byteCells m).toArray) g T m:=setRow_heap _ _ _ _ _ _ h
theorem RowB.range (h:RowB w g T l) (o n:Nat) (hn:o+n≤l.length):w.rangeAt g o (Lib.byteCells ((l.drop o).take n)):=fun j v hv=>by
 have hj:j<n:=by have:=(List.getElem?_eq_some_iff.1 hv).1;simp [byteCells_len] at this;omega
 rw [h.cell (by omega)]
 simp [Lib.byteCells,hj,show o+j<l.length by omega] at hv
 rw [← hv]
theorem RowB.set (h:RowB w g T l) {j:Nat} {x:Int} {v:UInt8} (e:x=(v.toNat:Int)):RowB (w.setCell ⟨g,j,none⟩ (.int .u8 x)) g T (l.set j v):=by
 subst e
 rw [setCell_eq_setRow w g j _ T (0,0) _ h]
 have:(Lib.byteCells l).toArray.setIfInBounds j (.int .u8 (v.toNat:Int))=(Lib.byteCells (l.set j v)).toArray:=by simp [Lib.byteCells,List.map_set]
 rw [this]
 exact h.put _
theorem RowB.text (h:RowB w g T l) (o n cap:Nat) (hn:o+n≤l.length) :
 (convert 84 9 (.slice (some ⟨g,o,none⟩) n cap)).run Tryz.prog w=.ok (.string (mkB ((l.drop o).take n))) w:=by
 have hl:((l.drop o).take n).length=n:=by simp;omega
 have:=run_convert_bytes_back (P:=Tryz.prog) w 84 9 5 ⟨g,o,none⟩ cap ((l.drop o).take n) Tryz.underlying84 Tryz.underlying5 Tryz.underlying9 (fun j hj=>by
  rw [hl] at hj
  rw [addr_add,h.cell (by omega)]
  simp)
 rw [hl] at this
 exact this
end
theorem rowB_new (w:World) (l:List UInt8) (T:TypeId):RowB (w.alloc (.cells (Lib.byteCells l).toArray T)) w.heap.size T l:=heap_alloc_new _ _
structure DkAt (B b g:Nat) (v:Value) (s:DS) (w:World):Prop where
 ok:s.Ok
 hb:B≤b
 hg:B≤g
 blk:w.heap[b]?=some (.cells #[.slice (some ⟨g,0,none⟩) s.sec.length s.sec.length,v,.int .i64 (s.fail:Int),.int .i64 (s.reads:Int)] 83 (0,0))
 row:RowB w g 99 s.sec.flatten
 own:w.ownsRow B 101 65 v s.opn.length (opnCells s.opn)
def Dk (B b:Nat) (s:DS) (w:World):Prop:=∃ g v,DkAt B b g v s w
section
variable {B b g:Nat} {v:Value} {s:DS} {w w':World}
theorem DkAt.lt (h:DkAt B b g v s w):b<w.heap.size:=lt_of_heap h.blk
theorem DkAt.le (h:DkAt B b g v s w):B≤w.heap.size:=by have:=h.lt;have:=h.hb;omega
theorem DkAt.ne (h:DkAt B b g v s w):g≠b:=by
 intro e
 have h1:=h.row
 have h2:=h.blk
 unfold RowB at h1
 rw [e,h2] at h1
 simp only [Option.some.injEq,Obj.cells.injEq] at h1
 exact absurd h1.2.1 (by decide)
theorem DkAt.c0 (h:DkAt B b g v s w):w.cell? ⟨b,0,none⟩=some (.slice (some ⟨g,0,none⟩) s.sec.length s.sec.length):=by rw [Lib.cell_of_heap h.blk];rfl
theorem DkAt.c1 (h:DkAt B b g v s w):w.cell? ⟨b,1,none⟩=some v:=by rw [Lib.cell_of_heap h.blk];rfl
theorem DkAt.c2 (h:DkAt B b g v s w):w.cell? ⟨b,2,none⟩=some (.int .i64 (s.fail:Int)):=by rw [Lib.cell_of_heap h.blk];rfl
theorem DkAt.c3 (h:DkAt B b g v s w):w.cell? ⟨b,3,none⟩=some (.int .i64 (s.reads:Int)):=by rw [Lib.cell_of_heap h.blk];rfl
theorem DkAt.fz (h:DkAt B b g v s w) (o:Nat):w.frozen? ⟨b,o,none⟩=false:=Lib.frozen_of_heap h.blk o
theorem DkAt.ownBlock (h:DkAt B b g v s w) {k:Nat} (e:v.ownBlock=some k):∃ cur,w.heap[k]?=some (.cells cur 101 (0,0)):=by
 rcases h.own.2 with ⟨rfl,_⟩|⟨g',cap,cur,rfl,_,hg,_⟩
 · simp [Value.ownBlock] at e
 · simp [Value.ownBlock] at e;subst e;exact ⟨cur,hg⟩
theorem DkAt.ownNe (h:DkAt B b g v s w) {k:Nat} (e:v.ownBlock=some k):k≠b∧k≠g:=by
 obtain ⟨cur,hk⟩:=h.ownBlock e
 constructor
 ·rintro rfl
  have h2:=h.blk
  rw [hk] at h2
  simp only [Option.some.injEq,Obj.cells.injEq] at h2
  exact absurd h2.2.1 (by decide)
 ·rintro rfl
  have h2:=h.row
  unfold RowB at h2
  rw [hk] at h2
  simp only [Option.some.injEq,Obj.cells.injEq] at h2
  exact absurd h2.2.1 (by decide)
theorem DkAt.owns (h:DkAt B b g v s w) {k:Nat}:Own w b k↔k=b∨k=g∨v.ownBlock=some k:=by
 unfold Own
 rw [h.c0,h.c1]
 simp [Value.ownBlock]
 constructor
 ·rintro (h|h|h)
  · exact .inl h
  · exact .inr (.inl h.symm)
  · exact .inr (.inr h)
 ·rintro (h|h|h)
  · exact .inl h
  · exact .inr (.inl h.symm)
  · exact .inr (.inr h)
theorem DkAt.ownLt (h:DkAt B b g v s w) {k:Nat} (e:Own w b k):B≤k∧k<w.heap.size:=by
 rcases h.owns.1 e with rfl|rfl|e
 · exact ⟨h.hb,h.lt⟩
 · exact ⟨h.hg,h.row.lt⟩
 · exact h.own.lt k e
theorem DkAt.of_blocks (h:DkAt B b g v s w) (e:∀ k,Own w b k→w'.heap[k]?=w.heap[k]?):DkAt B b g v s w':=by
 refine ⟨h.ok,h.hb,h.hg,by rw [e b (.inl rfl)];exact h.blk,h.row.of_block (e g (h.owns.2 (.inr (.inl rfl)))),h.own.1,?_⟩
 rcases h.own.2 with hn|⟨g',cap,cur,rfl,hB,hg,rest⟩
 · exact .inl hn
 · exact .inr ⟨g',cap,cur,rfl,hB,by rw [e g' (h.owns.2 (.inr (.inr rfl)))];exact hg,rest⟩
theorem DkAt.call (h:DkAt B b g v s w) (hb:Below w.heap.size w w'):DkAt B b g v s w':=h.of_blocks fun k hk=>hb.block k (h.ownLt hk).2
theorem DkAt.drew (h:DkAt B b g v s w):DkAt B b g v s w.drew:=h.of_blocks fun _ _=>rfl
theorem DkAt.alloc (h:DkAt B b g v s w) (o:Obj):DkAt B b g v s (w.alloc o):=h.call ((Below.refl _ _).alloc (Nat.le_refl _) _)
theorem Dk.call (h:Dk B b s w) (hb:Below w.heap.size w w'):Dk B b s w':=by obtain ⟨g,v,h⟩:=h;exact ⟨g,v,h.call hb⟩
theorem Dk.lt (h:Dk B b s w):b<w.heap.size:=by obtain ⟨g,v,h⟩:=h;exact h.lt
theorem Dk.ok (h:Dk B b s w):s.Ok:=by obtain ⟨g,v,h⟩:=h;exact h.ok
theorem Dk.le (h:Dk B b s w):B≤w.heap.size:=by obtain ⟨g,v,h⟩:=h;exact h.le
theorem Dk.ownLt (h:Dk B b s w) {k:Nat} (e:Own w b k):B≤k∧k<w.heap.size:=by obtain ⟨g,v,h⟩:=h;exact h.ownLt e
theorem Moved.below (m:Moved b w w') (h:∀ k,Own w b k→B≤k) (hs:B≤w.heap.size):Below B w w' :=
 ⟨m.os,m.tape,m.output,m.size,fun k hk=>m.block k (by omega) (fun e=>by have:=h k e;omega)⟩
theorem Dk.below (h:Dk B b s w) (m:Moved b w w'):Below B w w':=m.below (fun k hk=>(h.ownLt hk).1) h.le
theorem DkAt.keepT (h:DkAt B b g v s w) {k:Nat} {cs:Array Value} {T:TypeId} {fz:Nat×Nat} (hk:w.heap[k]?=some (.cells cs T fz)) (h1:T≠83) (h2:T≠99) (h3:T≠101):¬Own w b k:=by
 intro e
 rcases h.owns.1 e with rfl|rfl|e
 · have:=h.blk;rw [hk] at this;simp only [Option.some.injEq,Obj.cells.injEq] at this;exact h1 this.2.1
 · have:=h.row;unfold RowB at this;rw [hk] at this;simp only [Option.some.injEq,Obj.cells.injEq] at this;exact h2 this.2.1
 · obtain ⟨cur,hc⟩:=h.ownBlock e;rw [hk] at hc;simp only [Option.some.injEq,Obj.cells.injEq] at hc;exact h3 hc.2.1
theorem Dk.keep (h:Dk B b s w) (m:Moved b w w') {k:Nat} {cs:Array Value} {T:TypeId} {fz:Nat×Nat} (hk:w.heap[k]?=some (.cells cs T fz)) (h1:T≠83) (h2:T≠99) (h3:T≠101):w'.heap[k]?=some (.cells cs T fz):=by
 obtain ⟨g,v,h⟩:=h
 rw [m.block k (lt_of_heap hk) (h.keepT hk h1 h2 h3)];exact hk
theorem DkAt.setFail (h:DkAt B b g v s w) {x:Int} {f:Nat} (e:x=(f:Int)):DkAt B b g v ⟨s.sec,s.opn,f,s.reads⟩ (w.setCell ⟨b,2,none⟩ (.int .i64 x)):=by
 subst e
 have hne:=h.ne
 refine ⟨h.ok.with _ _,h.hb,h.hg,by simp [World.setCell,Array.getElem?_modify,h.blk],h.row.of_block (Below.heap_setCell _ _ _ _ hne),h.own.kept (row:=some b) ⟨rfl,rfl,rfl,by simp [World.setCell],fun k _ hk=>Below.heap_setCell _ _ _ _ (fun e=>hk (by simp [e]))⟩ ?_⟩
 exact .inr (fun e=>(h.ownNe e).1 rfl)
theorem DkAt.setReads (h:DkAt B b g v s w) {x:Int} {f:Nat} (e:x=(f:Int)):DkAt B b g v ⟨s.sec,s.opn,s.fail,f⟩ (w.setCell ⟨b,3,none⟩ (.int .i64 x)):=by
 subst e
 have hne:=h.ne
 refine ⟨h.ok.with _ _,h.hb,h.hg,by simp [World.setCell,Array.getElem?_modify,h.blk],h.row.of_block (Below.heap_setCell _ _ _ _ hne),h.own.kept (row:=some b) ⟨rfl,rfl,rfl,by simp [World.setCell],fun k _ hk=>Below.heap_setCell _ _ _ _ (fun e=>hk (by simp [e]))⟩ ?_⟩
 exact .inr (fun e=>(h.ownNe e).1 rfl)
theorem movedFail (h:DkAt B b g v s w) (x:Int):Moved b w (w.setCell ⟨b,2,none⟩ (.int .i64 x)):=(Moved.refl b w).set h.c2 (fun k hk _=>by simp [Value.ownBlock] at hk)
theorem movedReads (h:DkAt B b g v s w) (x:Int):Moved b w (w.setCell ⟨b,3,none⟩ (.int .i64 x)):=(Moved.refl b w).set h.c3 (fun k hk _=>by simp [Value.ownBlock] at hk)
theorem opn_len (h:s.Ok):∀ x∈s.opn.map putCells,x.length=65:=by
 intro x hx
 simp only [List.mem_map] at hx
 obtain ⟨p,hp,rfl⟩:=hx
 exact putCells_len (h.opn p hp).2
theorem DkAt.slice (h:DkAt B b g v s w) (hp:0<s.opn.length):∃ k cap,v=.slice (some ⟨k,0,none⟩) s.opn.length cap∧s.opn.length≤cap∧k<w.heap.size:=by
 rcases h.own.2 with ⟨_,h0⟩|⟨g',cap,cur,rfl,hB,hg,hc,rest⟩
 · omega
 · exact ⟨g',cap,rfl,hc,lt_of_heap hg⟩
theorem DkAt.put (h:DkAt B b g v s w) {k cap:Nat} (e:v=.slice (some ⟨k,0,none⟩) s.opn.length cap) {i:Nat} (hi:i<s.opn.length):w.rangeAt k (i*65) (putCells s.opn[i]):=by
 subst e
 rw [Nat.mul_comm]
 intro j u hu
 have hj:j<65:=by have:=(List.getElem?_eq_some_iff.1 hu).1;rwa [putCells_len (h.ok.opn _ (List.getElem_mem hi)).2] at this
 rw [h.own.cellAt (65*i+j) (by omega)]
 have:=flat_get (opn_len h.ok) (i:=i) (j:=j) (by simpa using hi) hj
 unfold opnCells
 rw [this]
 simpa using hu
theorem DkAt.sect (h:DkAt B b g v s w) {i:Nat} (hi:i<s.sec.length):w.rangeAt g (i*64) (Lib.byteCells s.sec[i]):=by
 rw [Nat.mul_comm]
 have:=h.row.range (64*i) 64 (by rw [flat_len h.ok.sec];omega)
 rwa [flat_sub h.ok.sec hi] at this
end
end Go.Proofs.YteempfoajgblaaaGreat.Dk
namespace Go.Proofs.YteempfoajgblaaaGreat.Dk
abbrev ptr (b:Nat):Value:=.pointer (some ⟨b,0,none⟩)
theorem len_any (B b:Nat) (s:DS) (w:World) (h:Dk B b s w) :
 Calls Tryz.prog 102 #[ptr b] w fun e w'=>e=.returned (.int .i64 (s.sec.length:Int))∧w'=w:=by
 obtain ⟨g,v,h⟩:=h
 have c0:=h.c0
 have hl:=h.ok.len
 clear h
 go_enter Tryz.func102,Tryz.ntmps102
 go_wp2
 go_ret
 exact ⟨rfl,rfl⟩
theorem has_yes (B b:Nat) (s:DS) (a:Int) (w:World) (h:Dk B b s w) (h0:0≤a) (h1:a<s.sec.length) :
 Calls Tryz.prog 182 #[ptr b,.int .i64 a] w fun e w'=>e=.returned (.bool true)∧w'=w:=by
 have L:=Lib.hid (len_any B b s w h)
 clear h
 go_enter Tryz.func182,Tryz.ntmps182
 go_wp2_with ((with_reducible refine L.out.mono ?_);rintro e w1 ⟨rfl,rfl⟩)
 go_ret
 exact ⟨rfl,rfl⟩
theorem has_no (B b:Nat) (s:DS) (a:Int) (w:World) (h:Dk B b s w) (h0:¬(0≤a∧a<s.sec.length)) :
 Calls Tryz.prog 182 #[ptr b,.int .i64 a] w fun e w'=>e=.returned (.bool false)∧w'=w:=by
 have L:=Lib.hid (len_any B b s w h)
 clear h
 by_cases h1:0≤a
 ·have h2:(s.sec.length:Int)≤a:=by omega
  have h3:decide (a<(s.sec.length:Int))=false:=by simp;omega
  clear h0
  go_enter Tryz.func182,Tryz.ntmps182
  go_wp2_with ((with_reducible refine L.out.mono ?_);rintro e w1 ⟨rfl,rfl⟩)
  go_ret
  exact ⟨rfl,rfl⟩
 ·have h2:a<0:=by omega
  clear h0 h1
  go_enter Tryz.func182,Tryz.ntmps182
  go_wp2_with ((with_reducible refine L.out.mono ?_);rintro e w1 ⟨rfl,rfl⟩)
  go_ret
  exact ⟨rfl,rfl⟩
theorem operate_ok (B b:Nat) (s:DS) (w:World) (h:Dk B b s w) (hf:s.fail≠1) (hb:s.fail<9223372036854775808) :
 Calls Tryz.prog 162 #[ptr b] w fun e w'=>e=.returned (.int .i64 0)∧Dk B b ⟨s.sec,s.opn,s.fail-1,s.reads⟩ w'∧Moved b w w':=by
 obtain ⟨g,v,h⟩:=h
 have c2:=h.c2
 have f2:=h.fz 2
 rcases Nat.eq_zero_or_pos s.fail with h0|h0
 ·have FIN:Hid (Dk B b ⟨s.sec,s.opn,s.fail-1,s.reads⟩ w∧Moved b w w):=Lib.hid ⟨⟨g,v,by
   have e:DS.mk s.sec s.opn (s.fail-1) s.reads=s:=by rw [h0];cases s;simp at h0;subst h0;rfl
   rw [e];exact h⟩,Moved.refl _ _⟩
  rw [h0] at c2
  clear h h0 hf hb
  go_enter Tryz.func162,Tryz.ntmps162
  go_wp2
  go_ret
  exact ⟨rfl,FIN.out⟩
 ·have FIN:=Lib.hid (fun x (e:x=((s.fail-1:Nat):Int))=>And.intro (show Dk B b _ _ from ⟨g,v,h.setFail e⟩) (movedFail h x))
  have t0:((s.fail:Int)==0)=false:=by simp;omega
  have t1:((s.fail:Int)-1==0)=false:=by simp;omega
  generalize hF:(s.fail:Int)=F at *
  have b1:2≤F:=by omega
  have b2:F<9223372036854775808:=by omega
  have E:=Lib.hid (show F-1=((s.fail-1:Nat):Int) by omega)
  clear hF h hb h0
  go_enter Tryz.func162,Tryz.ntmps162
  go_wp2
  go_ret
  exact ⟨rfl,FIN.out _ E.out⟩
theorem operate_io (B b:Nat) (s:DS) (w:World) (h:Dk B b s w) (hf:s.fail=1) :
 Calls Tryz.prog 162 #[ptr b] w fun e w'=>e=.returned (.int .i64 18)∧Dk B b ⟨s.sec,s.opn,0,s.reads⟩ w'∧Moved b w w':=by
 obtain ⟨g,v,h⟩:=h
 have c2:=h.c2
 have f2:=h.fz 2
 have FIN:=Lib.hid (And.intro (show Dk B b _ _ from ⟨g,v,h.setFail (x:=0) (f:=0) rfl⟩) (movedFail h 0))
 rw [hf] at c2
 clear h hf
 go_enter Tryz.func162,Tryz.ntmps162
 go_wp2
 go_ret
 exact ⟨rfl,FIN.out⟩
theorem fail_any (B b:Nat) (s:DS) (n:Int) (w:World) (h:Dk B b s w) (hn:n<9223372036854775808) :
 Calls Tryz.prog 15 #[ptr b,.int .i64 n] w fun e w'=>e=.returned (.tuple #[])∧Dk B b (failR s n) w'∧Moved b w w':=by
 obtain ⟨g,v,h⟩:=h
 have c2:=h.c2
 have f2:=h.fz 2
 have FIN:=Lib.hid (fun x (e:x=((n.toNat:Nat):Int))=>And.intro (show Dk B b (failR s n) _ from ⟨g,v,h.setFail e⟩) (movedFail h x))
 have mx:∀ w:World,(Builtin.max_ #[3,3] 3 #[.int .i64 n,.int .i64 0]).run Tryz.prog w=.ok (.int .i64 (n.toNat:Int)) w:=by
  intro w
  simp [Builtin.max_,Builtin.max2]
  repeat' split
  all_goals first|(simp;omega)|omega|simp_all
 clear h
 generalize (n.toNat:Int)=m at *
 go_enter Tryz.func15,Tryz.ntmps15
 go_wp2
 go_end0
 exact ⟨rfl,FIN.out _ rfl⟩
theorem rest_any (n m:Int) (w:World) (h0:0<m) (h1:m≤1000) (hn : -9223372036854775808≤n) (hn2:n≤9223372036854775807) :
 Calls Tryz.prog 40 #[.int .i64 n,.int .i64 m] w fun e w'=>e=.returned (.int .i64 (n%m))∧w'=w:=by
 have t:n.tmod m=n%m∧0≤n.tmod m∨n.tmod m+m=n%m∧n.tmod m<0:=by
  have e:=Int.mul_tdiv_add_tmod n m
  have e2:=Int.mul_ediv_add_emod n m
  have l1:=Int.tmod_lt_of_pos n h0
  have l2:=Int.lt_tmod_of_pos n h0
  have l3:=Int.emod_lt_of_pos n h0
  have l4:=Int.emod_nonneg n (show m≠0 by omega)
  rcases (show n.tmod m<0∨0≤n.tmod m by omega) with h|h
  ·right
   refine ⟨?_,h⟩
   rw [Int.emod_eq_add_self_emod]
   have:(n+m)%m=(n.tmod m+m)%m:=by
    conv=>lhs;rw [← e,Int.add_assoc,Int.add_comm,Int.add_mul_emod_self_left]
   rw [this,Int.emod_eq_of_lt (by omega) (by omega)]
  ·left
   refine ⟨?_,h⟩
   have:n%m=(n.tmod m)%m:=by
    conv=>lhs;rw [← e,Int.add_comm,Int.add_mul_emod_self_left]
   rw [this,Int.emod_eq_of_lt h l1]
 have ub:=Int.tmod_lt_of_pos n h0
 have lb:=Int.lt_tmod_of_pos n h0
 rcases t with ⟨t,t0⟩|⟨t,t0⟩
 ·have T:=Lib.hid t
  clear t
  go_enter Tryz.func40,Tryz.ntmps40
  go_wp2
  go_ret
  exact ⟨by rw [← T.out];rfl,rfl⟩
 ·have T:=Lib.hid t
  clear t
  go_enter Tryz.func40,Tryz.ntmps40
  go_wp2
  go_ret
  exact ⟨by rw [← T.out];rfl,rfl⟩
end Go.Proofs.YteempfoajgblaaaGreat.Dk
