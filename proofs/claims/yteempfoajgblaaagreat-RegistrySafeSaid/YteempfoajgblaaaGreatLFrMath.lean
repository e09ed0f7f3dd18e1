/- The words of layer 4: a cell's sector, what a sector says, a text's chunks; what follows of them. -/
import Derived.Test.YteempfoajgblaaaGreatLQA
import Derived.Test.YteempfoajgblaaaGreatLMCc
set_option maxRecDepth 100000
set_option linter.unusedVariables false
set_option linter.unusedSimpArgs false
namespace Go.Proofs.YteempfoajgblaaaGreat
def content (p:List UInt8) (e n:Nat):List UInt8:=p++(be 8 e++be 8 n)
def sumOf (p:List UInt8) (e n:Nat):Nat:=more 0 (mkB (content p e n))
theorem sumOf_is32 (p:List UInt8) (e n:Nat):Is32 (sumOf p e n):=more_is32 (by unfold Is32;omega)
def sec (p:List UInt8) (e n:Nat):List UInt8:=[UInt8.ofNat p.length]++be 4 (sumOf p e n)++p++List.replicate (43-p.length) 0++(be 8 e++be 8 n)
theorem sec_length {p:List UInt8} (h:p.length≤43) (e n:Nat):(sec p e n).length=64:=by
 simp [sec,be_length];omega
theorem bytesOf_be {x:Nat} (h:Is32 x):bytesOf x=mkB (be 4 x):=by
 unfold bytesOf mkB
 simp [be,Nat.div_div_eq_div_mul]
def payOf (l:List UInt8):List UInt8:=(l.drop 5).take (l.headD 0).toNat
def epochOf (l:List UInt8):Nat:=val ((l.drop 48).take 8)
def numberOf (l:List UInt8):Nat:=val ((l.drop 56).take 8)
abbrev Cl:=List UInt8×Nat×Nat
def rdc (l:List UInt8):Option Cl:=
 if l.length=64∧(l.headD 0).toNat≤43∧sec (payOf l) (epochOf l) (numberOf l)=l then some (payOf l,epochOf l,numberOf l) else none
def whole (l:List UInt8) (e n:Nat):Bool:=match rdc l with|some c=>c.2.1==e&&c.2.2==n|none=>false
theorem epochOf_lt (l:List UInt8):epochOf l<18446744073709551616:=by
 have h:=val_lt ((l.drop 48).take 8)
 have h2:((l.drop 48).take 8).length≤8:=by simp;omega
 have h3:256^((l.drop 48).take 8).length≤256^8:=Nat.pow_le_pow_right (by omega) h2
 unfold epochOf;rw [← pow8];omega
theorem numberOf_lt (l:List UInt8):numberOf l<18446744073709551616:=by
 have h:=val_lt ((l.drop 56).take 8)
 have h2:((l.drop 56).take 8).length≤8:=by simp;omega
 have h3:256^((l.drop 56).take 8).length≤256^8:=Nat.pow_le_pow_right (by omega) h2
 unfold numberOf;rw [← pow8];omega
theorem sec_head {p:List UInt8} (h:p.length≤43) (e n:Nat):((sec p e n).headD 0).toNat=p.length:=by
 show (UInt8.ofNat p.length).toNat=_
 rw [UInt8.toNat_ofNat'];omega
theorem sec_pay {p:List UInt8} (h:p.length≤43) (e n:Nat):((sec p e n).drop 5).take p.length=p:=by
 unfold sec
 rw [show [UInt8.ofNat p.length]++be 4 (sumOf p e n)++p++List.replicate (43-p.length) 0++(be 8 e++be 8 n)=([UInt8.ofNat p.length]++be 4 (sumOf p e n))++(p++(List.replicate (43-p.length) 0++(be 8 e++be 8 n))) by simp only [List.append_assoc]]
 rw [List.drop_left' (by simp [be_length]),List.take_left]
theorem sec_tag {p:List UInt8} (h:p.length≤43) (e n:Nat):(sec p e n).drop 48=be 8 e++be 8 n:=by
 unfold sec
 rw [List.drop_left' (by simp [be_length];omega)]
theorem payOf_sec {p:List UInt8} (h:p.length≤43) (e n:Nat):payOf (sec p e n)=p:=by
 unfold payOf;rw [sec_head h,sec_pay h]
theorem epochOf_sec {p:List UInt8} (h:p.length≤43) {e:Nat} (he:e<18446744073709551616) (n:Nat):epochOf (sec p e n)=e:=by
 unfold epochOf;rw [sec_tag h,List.take_left' (be_length 8 e),val_be (by rw [pow8];exact he)]
theorem numberOf_sec {p:List UInt8} (h:p.length≤43) (e:Nat) {n:Nat} (hn:n<18446744073709551616):numberOf (sec p e n)=n:=by
 unfold numberOf
 rw [show 56=48+8 from rfl,← List.drop_drop,sec_tag h,List.drop_left' (be_length 8 e),List.take_of_length_le (by rw [be_length];omega),val_be (by rw [pow8];exact hn)]
theorem rdc_sec {p:List UInt8} {e n:Nat} (h:p.length≤43) (he:e<18446744073709551616) (hn:n<18446744073709551616):rdc (sec p e n)=some (p,e,n):=by
 unfold rdc
 rw [payOf_sec h,epochOf_sec h he,numberOf_sec h e hn,if_pos ⟨sec_length h e n,by rw [sec_head h];exact h,rfl⟩]
theorem rdc_some {l:List UInt8} {p:List UInt8} {e n:Nat} (h:rdc l=some (p,e,n)):l=sec p e n∧p.length≤43∧e<18446744073709551616∧n<18446744073709551616:=by
 unfold rdc at h
 split at h
 ·rename_i hc
  obtain ⟨h1,h2,h3⟩:=hc
  simp only [Option.some.injEq,Prod.mk.injEq] at h
  obtain ⟨rfl,rfl,rfl⟩:=h
  refine ⟨h3.symm,?_,epochOf_lt l,numberOf_lt l⟩
  unfold payOf
  rw [List.length_take];omega
 · cases h
theorem whole_sec {p:List UInt8} {e n:Nat} (h:p.length≤43) (he:e<18446744073709551616) (hn:n<18446744073709551616) (e' n':Nat):whole (sec p e n) e' n'=(e==e'&&n==n'):=by
 unfold whole;rw [rdc_sec h he hn]
theorem whole_true {l:List UInt8} {e n:Nat} (h:whole l e n=true):∃ p,l=sec p e n∧p.length≤43:=by
 unfold whole at h
 cases hr:rdc l with
 | none=>rw [hr] at h;cases h
 | some c=>
  obtain ⟨p,e',n'⟩:=c
  rw [hr] at h
  obtain ⟨h1,h2,h3,h4⟩:=rdc_some hr
  simp at h
  obtain ⟨rfl,rfl⟩:=h
  exact ⟨p,h1,h2⟩
def chunks (l:List UInt8):List (List UInt8):=if h:43<l.length then l.take 43 :: chunks (l.drop 43) else [l]
 termination_by l.length
 decreasing_by simp;omega
theorem chunks_long {l:List UInt8} (h:43<l.length):chunks l=l.take 43 :: chunks (l.drop 43):=by rw [chunks,dif_pos h]
theorem chunks_short {l:List UInt8} (h:l.length≤43):chunks l=[l]:=by rw [chunks,dif_neg (by omega)]
end Go.Proofs.YteempfoajgblaaaGreat
