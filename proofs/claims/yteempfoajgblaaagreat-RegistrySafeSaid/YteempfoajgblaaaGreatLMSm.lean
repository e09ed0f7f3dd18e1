/- The mathematics of two slots: what a row of sectors tells, what a Read and a Write make of a disk. .. -/
import Derived.Test.YteempfoajgblaaaGreatLMFr
import Derived.Test.YteempfoajgblaaaGreatLMDa
set_option maxRecDepth 100000
set_option linter.unusedVariables false
set_option linter.unusedSimpArgs false
namespace Go.Proofs.YteempfoajgblaaaGreat.Sl
open Dk (DS)
theorem tagE_lt (l:List UInt8):tagE l<18446744073709551616:=by unfold tagE;split;exact epochOf_lt l;omega
def newestTo (L:List (List UInt8)) (i:Nat):Nat:=(L.take i).foldl (fun m l=>max m (tagE l)) 0
theorem newestTo_zero (L:List (List UInt8)):newestTo L 0=0:=rfl
theorem newestTo_succ {L:List (List UInt8)} {i:Nat} (h:i<L.length):newestTo L (i+1)=max (newestTo L i) (tagE L[i]):=by
 unfold newestTo
 rw [List.take_add_one,List.getElem?_eq_getElem h,List.foldl_append]
 rfl
theorem newestTo_lt (L:List (List UInt8)) (i:Nat) (h:i≤L.length):newestTo L i<18446744073709551616:=by
 induction i with
 | zero=>rw [newestTo_zero];omega
 | succ i ih=>rw [newestTo_succ (by omega)];have:=tagE_lt L[i];have:=ih (by omega);omega
def newestL (L:List (List UInt8)):Nat:=newestTo L L.length
theorem newestTo_ge {L:List (List UInt8)} {i j:Nat} (hj:j<i) (hi:i≤L.length):tagE (L[j]'(by omega))≤newestTo L i:=by
 induction i with
 | zero=>omega
 | succ i ih=>
  rw [newestTo_succ (by omega)]
  rcases Nat.lt_or_ge j i with h|h
  · have:=ih h (by omega);omega
  ·obtain rfl:j=i:=by omega
   omega
theorem newestL_ge {L:List (List UInt8)} {j:Nat} (hj:j<L.length):tagE L[j]≤newestL L:=newestTo_ge hj (Nat.le_refl _)
theorem newestTo_le {L:List (List UInt8)} {i m:Nat} (hi:i≤L.length) (h:∀ j (hj:j<L.length),j<i→tagE L[j]≤m):newestTo L i≤m:=by
 induction i with
 | zero=>rw [newestTo_zero];omega
 | succ i ih=>
  rw [newestTo_succ (by omega)]
  have:=ih (by omega) (fun j hj hji=>h j hj (by omega))
  have:=h i (by omega) (by omega)
  omega
theorem newestL_le {L:List (List UInt8)} {m:Nat} (h:∀ j (hj:j<L.length),tagE L[j]≤m):newestL L≤m:=newestTo_le (Nat.le_refl _) (fun j hj _=>h j hj)
theorem whole_rdc {l:List UInt8} {e n:Nat} (h:whole l e n=true):rdc l=some (payOf l,e,n):=by
 obtain ⟨p,rfl,hp⟩:=whole_true h
 unfold whole at h
 cases hr:rdc (sec p e n) with
 | none=>rw [hr] at h;cases h
 | some c=>
  obtain ⟨q,f,m⟩:=c
  rw [hr] at h
  simp at h
  obtain ⟨rfl,rfl⟩:=h
  obtain ⟨h1,h2,-,-⟩:=rdc_some hr
  have:=payOf_sec hp f m
  rw [this]
  have h3:=payOf_sec h2 f m
  rw [← h1,this] at h3
  rw [h3]
theorem rdc_whole {l p:List UInt8} {e n:Nat} (h:rdc l=some (p,e,n)) (e' n':Nat):whole l e' n'=(e==e'&&n==n'):=by unfold whole;rw [h]
theorem rdc_none_whole {l:List UInt8} (h:rdc l=none) (e n:Nat):whole l e n=false:=by unfold whole;rw [h]
theorem whole_epoch {l:List UInt8} {e n:Nat} (h:whole l e n=true):epochOf l=e∧numberOf l=n∧l.length=64∧(payOf l).length≤43:=by
 have hr:=whole_rdc h
 obtain ⟨h1,h2,h3,h4⟩:=rdc_some hr
 have e1:=epochOf_sec h2 h3 n
 have e2:=numberOf_sec h2 e h4
 have e3:=sec_length h2 e n
 rw [← h1] at e1 e2 e3
 exact ⟨e1,e2,e3,h2⟩
def first (L:List (List UInt8)):Nat:=epochOf (L.headD [])
def allTo (L:List (List UInt8)) (i:Nat):Prop:=∀ j (h:j<L.length),j<i→whole L[j] (first L) j=true
def paysTo (L:List (List UInt8)) (i:Nat):List UInt8:=((L.take i).map payOf).flatten
theorem first_get {L:List (List UInt8)} (h:0<L.length):first L=epochOf L[0]:=by
 unfold first
 cases L with
 | nil=>simp at h
 | cons x L=>rfl
theorem first_lt (L:List (List UInt8)):first L<18446744073709551616:=epochOf_lt _
theorem allTo_zero (L:List (List UInt8)):allTo L 0:=fun j _ h=>by omega
theorem allTo_succ {L:List (List UInt8)} {i:Nat} (hi:i<L.length) (h:allTo L i) (hw:whole L[i] (first L) i=true):allTo L (i+1):=fun j hj hji=>by
 rcases Nat.lt_or_ge j i with h'|h'
 · exact h j hj h'
 ·obtain rfl:j=i:=by omega
  exact hw
theorem paysTo_zero (L:List (List UInt8)):paysTo L 0=[]:=rfl
theorem paysTo_succ {L:List (List UInt8)} {i:Nat} (h:i<L.length):paysTo L (i+1)=paysTo L i++payOf L[i]:=by
 unfold paysTo
 rw [List.take_add_one,List.getElem?_eq_getElem h,List.map_append,List.flatten_append]
 simp only [Option.toList,List.map_cons,List.map_nil,List.flatten_cons,List.flatten_nil,List.append_nil]
theorem paysTo_len {L:List (List UInt8)}:∀ {i:Nat},i≤L.length→allTo L i→(paysTo L i).length≤43*i
 | 0,_,_=>by simp [paysTo_zero]
 | i+1,hi,h=>by
  rw [paysTo_succ (by omega),List.length_append]
  have:=paysTo_len (i:=i) (by omega) (fun j hj hji=>h j hj (by omega))
  have:=(whole_epoch (h i (by omega) (by omega))).2.2.2
  omega
open Classical in
/-- what a row of sectors tells -/
noncomputable def snapL (L:List (List UInt8)):(Nat×List UInt8)×Bool:=if allTo L L.length then ((first L,paysTo L L.length),decide (0<first L)) else ((0,[]),false)
theorem snapL_yes {L:List (List UInt8)} (h:allTo L L.length):snapL L=((first L,paysTo L L.length),decide (0<first L)):=by unfold snapL;rw [if_pos h]
theorem snapL_no {L:List (List UInt8)} (h:¬allTo L L.length):snapL L=((0,[]),false):=by unfold snapL;rw [if_neg h]
theorem not_allTo {L:List (List UInt8)} {i:Nat} (hi:i<L.length) (h:whole L[i] (first L) i=false):¬allTo L L.length:=fun ha=>by
 have:=ha i hi hi
 rw [h] at this;cases this
theorem snapL_lt (L:List (List UInt8)):(snapL L).1.1<18446744073709551616:=by
 unfold snapL;split;exact first_lt L;simp
def payAt (l:List UInt8) (i:Nat):List UInt8:=(l.drop (43*i)).take 43
theorem payAt_len (l:List UInt8) (i:Nat):(payAt l i).length≤43:=by unfold payAt;simp;omega
theorem chunks_at (l:List UInt8) (i:Nat):((chunks l)[i]?).getD []=payAt l i:=by
 induction i generalizing l with
 | zero=>
  by_cases c:43<l.length
  · rw [chunks_long c];simp [payAt]
  · rw [chunks_short (by omega)];simp [payAt];exact (List.take_of_length_le (by omega)).symm
 | succ i ih=>
  by_cases c:43<l.length
  ·rw [chunks_long c,List.getElem?_cons_succ,ih]
   unfold payAt
   rw [List.drop_drop]
   congr 2
   omega
  ·rw [chunks_short (by omega)]
   unfold payAt
   rw [List.drop_eq_nil_of_le (by omega)]
   simp
theorem chunks_le (l:List UInt8) {k:Nat} (h:l.length≤43*k) (hk:1≤k):(chunks l).length≤k:=by
 induction k generalizing l with
 | zero=>omega
 | succ k ih=>
  by_cases c:43<l.length
  ·rw [chunks_long c,List.length_cons]
   have:=ih (l.drop 43) (by simp;omega) (by omega)
   omega
  · rw [chunks_short (by omega)];simp
theorem pays_all (l:List UInt8) (k:Nat) (h:l.length≤43*k):((List.range k).map (payAt l)).flatten=l:=by
 have:∀ m,((List.range m).map (payAt l)).flatten=l.take (43*m):=by
  intro m
  induction m with
  | zero=>simp
  | succ m ih=>
   rw [List.range_succ,List.map_append,List.flatten_append,ih]
   simp only [List.map_cons,List.map_nil,List.flatten_cons,List.flatten_nil,List.append_nil]
   unfold payAt
   rw [show 43*(m+1)=43*m+43 by omega,List.take_add]
 rw [this,List.take_of_length_le h]
def wrAt (a:Nat) (data:List UInt8) (e i:Nat):Nat×List UInt8:=(a+i,sec (payAt data i) e i)
def wrs (a:Nat) (data:List UInt8) (e n:Nat):List (Nat×List UInt8):=(List.range n).map (wrAt a data e)
theorem wrs_succ (a:Nat) (data:List UInt8) (e n:Nat):wrs a data e (n+1)=wrs a data e n++[wrAt a data e n]:=by simp [wrs,List.range_succ]
theorem wrs_length (a:Nat) (data:List UInt8) (e n:Nat):(wrs a data e n).length=n:=by simp [wrs]
def putR (s:DS) (a k:Nat) (data:List UInt8) (e:Nat):DS×Bool:=
 if 1≤s.fail∧s.fail≤k+1 then (⟨s.sec,s.opn++wrs a data e (s.fail-1),0,s.reads⟩,false)
 else (⟨Dk.flushedS ⟨s.sec,s.opn++wrs a data e k,0,s.reads⟩,[],s.fail-(k+1),s.reads⟩,true)
def gotR (s:DS) (k:Nat):DS:=⟨s.sec,s.opn,s.fail-2*k,s.reads+2*k⟩
def rowOf (s:DS) (a k:Nat):List (List UInt8):=(List.range k).map fun i=>Dk.newestOf s (a+i)
theorem rowOf_length (s:DS) (a k:Nat):(rowOf s a k).length=k:=by simp [rowOf]
theorem rowOf_get (s:DS) (a k:Nat) {i:Nat} (h:i<(rowOf s a k).length):(rowOf s a k)[i]=Dk.newestOf s (a+i):=by simp [rowOf]
end Go.Proofs.YteempfoajgblaaaGreat.Sl
namespace Go.Proofs.YteempfoajgblaaaGreat.Sl
open Dk (DS)
def mix (j:Nat) (n o:List UInt8):List UInt8:=n.take j++o.drop j
theorem mix_zero (n o:List UInt8):mix 0 n o=o:=by simp [mix]
theorem mix_all {j:Nat} {n o:List UInt8} (hn:n.length=64) (ho:o.length=64) (hj:64≤j):mix j n o=n:=by
 unfold mix
 rw [List.take_of_length_le (by omega),List.drop_eq_nil_of_le (by omega),List.append_nil]
theorem mix_length {j:Nat} {n o:List UInt8} (hn:n.length=64) (ho:o.length=64):(mix j n o).length=64:=by
 unfold mix;simp;omega
theorem small_zero {l:List UInt8} (hl:l.length=8) (hv:val l<256) {j:Nat} (hj:j≤7):l.take j=List.replicate j 0:=by
 have e:=be_val l
 rw [hl] at e
 rw [← e]
 apply List.ext_getElem
 · simp [be_length];omega
 ·intro i h1 h2
  simp only [List.length_replicate] at h2
  rw [List.getElem_take,be_get,List.getElem_replicate]
  have h3:256^1≤256^(8-1-i):=Nat.pow_le_pow_right (by omega) (by omega)
  rw [Nat.div_eq_of_lt (by omega)]
  rfl
theorem mix_tag {p o:List UInt8} {E i j:Nat} (hp:p.length≤43) (hE:E<256) (hi:i<256) (ho:o.length=64) (he:epochOf o<256) (hn:numberOf o<256) :
 (mix j (sec p E i) o).drop 48=o.drop 48∨((mix j (sec p E i) o).drop 48=be 8 E++o.drop 56∧(mix j (sec p E i) o).take 48=(sec p E i).take 48)∨mix j (sec p E i) o=sec p E i:=by
 have l64:=sec_length hp E i
 have ht:=sec_tag hp E i
 have oe:((o.drop 48).take 8).length=8:=by simp;omega
 have on':((o.drop 56).take 8).length=8:=by simp;omega
 rcases Nat.lt_or_ge 48 j with h1|h1
 ·rcases Nat.lt_or_ge 55 j with h2|h2
  ·rcases Nat.lt_or_ge 63 j with h3|h3
   · exact .inr (.inr (mix_all l64 ho (by omega)))
   ·right;left
    constructor
    ·unfold mix
     rw [List.drop_append,show 48-((sec p E i).take j).length=0 by simp;omega,List.drop_zero,List.drop_take,ht,List.take_append,be_length,List.take_of_length_le (by rw [be_length];omega),List.append_assoc]
     congr 1
     rw [small_zero (be_length 8 i) (by rw [val_be (by rw [pow8];omega)];exact hi) (by omega)]
     have e1:o.drop 56=(o.drop 56).take (j-48-8)++o.drop j:=by
      conv=>lhs;rw [← List.take_append_drop (j-48-8) (o.drop 56)]
      rw [List.drop_drop];congr 2;omega
     rw [e1]
     congr 1
     have e2:(o.drop 56).take (j-48-8)=((o.drop 56).take 8).take (j-48-8):=by rw [List.take_take];congr 1;omega
     rw [e2,small_zero on' hn (by omega)]
    ·unfold mix
     rw [List.take_append_of_le_length (by simp;omega),List.take_take]
     congr 1;omega
  ·left
   unfold mix
   rw [List.drop_append,show 48-((sec p E i).take j).length=0 by simp;omega,List.drop_zero,List.drop_take,ht,List.take_append_of_le_length (by rw [be_length];omega),small_zero (be_length 8 E) (by rw [val_be (by rw [pow8];omega)];exact hE) (by omega)]
   have e1:o.drop 48=(o.drop 48).take (j-48)++o.drop j:=by
    conv=>lhs;rw [← List.take_append_drop (j-48) (o.drop 48)]
    rw [List.drop_drop];congr 2;omega
   conv=>rhs;rw [e1]
   congr 1
   have e2:(o.drop 48).take (j-48)=((o.drop 48).take 8).take (j-48):=by rw [List.take_take];congr 1;omega
   rw [e2,small_zero oe he (by omega)]
 ·left
  unfold mix
  rw [List.drop_append,List.drop_eq_nil_of_le (by simp;omega),List.nil_append,List.drop_drop]
  congr 1
  simp;omega
theorem mix_cases {p o:List UInt8} {E i j:Nat} (hp:p.length≤43) (hE:E<256) (hi:i<256) (ho:o.length=64) (he:epochOf o<256) (hn:numberOf o<256) :
 (epochOf (mix j (sec p E i) o)=epochOf o∧numberOf (mix j (sec p E i) o)=numberOf o)∨(epochOf (mix j (sec p E i) o)=E∧numberOf (mix j (sec p E i) o)=numberOf o∧(numberOf o=i→mix j (sec p E i) o=sec p E i))∨mix j (sec p E i) o=sec p E i:=by
 rcases mix_tag (j:=j) hp hE hi ho he hn with h|⟨h,h2⟩|h
 ·left
  unfold epochOf numberOf
  rw [show 56=48+8 from rfl,← List.drop_drop,← List.drop_drop,h]
  exact ⟨rfl,rfl⟩
 ·right;left
  have d56:(mix j (sec p E i) o).drop 56=o.drop 56:=by
   rw [show 56=48+8 from rfl,← List.drop_drop,h,List.drop_left' (be_length 8 E)]
  refine ⟨?_,?_,fun hni=>?_⟩
  ·unfold epochOf
   rw [h,List.take_left' (be_length 8 E),val_be (by rw [pow8];omega)]
  ·unfold numberOf
   rw [d56]
  ·have l8:(o.drop 56).length=8:=by simp;omega
   have e8:o.drop 56=be 8 i:=by
    have:=be_val (o.drop 56)
    rw [l8] at this
    rw [← this]
    congr 1
    unfold numberOf at hni
    rw [List.take_of_length_le (by omega)] at hni
    exact hni
   rw [← List.take_append_drop 48 (mix j (sec p E i) o),h2,h,e8,← sec_tag hp E i,List.take_append_drop]
 · exact .inr (.inr h)
end Go.Proofs.YteempfoajgblaaaGreat.Sl
