/- An address and a place behind it; what a call leaves of a cell. Texts as lists of bytes; numbers as .. -/
import Derived.WalkKit
import Derived.ProofKit
import Derived.OpenShut
import Derived.Below
import Derived.Lib.SmallJoins
import Derived.Test.YteempfoajgblaaaGreatRows
set_option maxRecDepth 100000
set_option linter.unusedVariables false
set_option linter.unusedSimpArgs false
open Go.ChangeShapes Go.WideShapes Go.ChangeAt Go.RowKit Go.Joins
namespace Go.Proofs.YteempfoajgblaaaGreat
theorem addr_add (b o j:Nat):(⟨b,o,none⟩:Addr).add j=⟨b,o+j,none⟩:=by
 unfold Addr.add
 by_cases h:j=0 <;> simp [h]
theorem carry {W w1:World} {p:Addr} {v:Value} (hb:Below W.heap.size W w1) (h:W.cell? p=some v):w1.cell? p=some v:=by
 rw [← h]
 apply hb.cell
 rcases Nat.lt_or_ge p.block W.heap.size with h'|h'
 · exact h'
 · exfalso;unfold World.cell? at h;rw [Array.getElem?_eq_none h'] at h;cases h
end Go.Proofs.YteempfoajgblaaaGreat
namespace Go.Proofs.YteempfoajgblaaaGreat
def mkB (l:List UInt8):ByteArray:=⟨l.toArray⟩
theorem mkB_size (l:List UInt8):(mkB l).size=l.length:=by unfold mkB;show l.toArray.size=_;simp
theorem mkB_data (l:List UInt8):(mkB l).data.toList=l:=by unfold mkB;simp
theorem mkB_of (s:ByteArray):mkB s.data.toList=s:=by unfold mkB;simp
theorem mkB_ext {s:ByteArray} {l:List UInt8} (h:s.data.toList=l):s=mkB l:=by rw [← h,mkB_of]
theorem mkB_append (a b:List UInt8):mkB a++mkB b=mkB (a++b):=by
 apply mkB_ext
 rw [ByteArray.data_append,Array.toList_append,mkB_data,mkB_data]
theorem size_list (s:ByteArray):s.size=s.data.toList.length:=by simp
def val (l:List UInt8):Nat:=l.foldl (fun a b=>a*256+b.toNat) 0
theorem val_nil:val []=0:=rfl
theorem val_snoc (l:List UInt8) (b:UInt8):val (l++[b])=val l*256+b.toNat:=by unfold val;rw [List.foldl_append];rfl
theorem val_lt (l:List UInt8):val l<256^l.length:=by
 have key:∀ r:List UInt8,val r.reverse<256^r.length:=by
  intro r
  induction r with
  | nil=>simp [val]
  | cons b r ih=>
   rw [List.reverse_cons,val_snoc,List.length_cons,Nat.pow_succ]
   have:=UInt8.toNat_lt b
   omega
 have:=key l.reverse
 simpa using this
def be:Nat→Nat→List UInt8|0,_=>[]|k+1,n=>be k (n/256)++[UInt8.ofNat (n%256)]
theorem be_length (k n:Nat):(be k n).length=k:=by
 induction k generalizing n with
 | zero=>rfl
 | succ k ih=>simp [be,ih]
theorem val_be {k n:Nat} (h:n<256^k):val (be k n)=n:=by
 induction k generalizing n with
 | zero=>simp at h;subst h;rfl
 | succ k ih=>
  rw [be,val_snoc,ih (by rw [Nat.div_lt_iff_lt_mul (by omega)];rw [Nat.pow_succ] at h;exact h),UInt8.toNat_ofNat']
  omega
theorem be_val (l:List UInt8):be l.length (val l)=l:=by
 have key:∀ r:List UInt8,be r.length (val r.reverse)=r.reverse:=by
  intro r
  induction r with
  | nil=>rfl
  | cons b r ih=>
   have hb:=UInt8.toNat_lt b
   rw [List.reverse_cons,val_snoc,List.length_cons,be,show (val r.reverse*256+b.toNat)/256=val r.reverse by omega,show (val r.reverse*256+b.toNat)%256=b.toNat by omega,ih]
   simp
 have:=key l.reverse
 simpa using this
theorem be_get {k n j:Nat} (h:j<(be k n).length):(be k n)[j]=UInt8.ofNat (n/256^(k-1-j)%256):=by
 induction k generalizing n j with
 | zero=>rw [be_length] at h;omega
 | succ k ih=>
  rw [be_length] at h
  by_cases e:j<k
  ·have h':j<(be k (n/256)).length:=by rw [be_length];exact e
   have:(be (k+1) n)[j]'(by rw [be_length];exact h)=(be k (n/256))[j]'h':=by simp only [be];exact List.getElem_append_left h'
   rw [this,ih h',Nat.div_div_eq_div_mul,show 256*256^(k-1-j)=256^(k+1-1-j) by rw [Nat.mul_comm,← Nat.pow_succ];congr 1;omega]
  ·obtain rfl:j=k:=by omega
   have:(be (j+1) n)[j]'(by rw [be_length];omega)=UInt8.ofNat (n%256):=by
    simp only [be]
    rw [List.getElem_append_right (by rw [be_length];exact Nat.le_refl _)]
    simp [be_length]
   rw [this]
   simp
theorem pow8:256^8=18446744073709551616:=by decide
end Go.Proofs.YteempfoajgblaaaGreat
