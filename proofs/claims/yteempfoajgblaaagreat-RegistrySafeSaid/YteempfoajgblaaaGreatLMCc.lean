/- The arithmetic of layer 2: one shift of a sum, what eight do to a byte, sums of texts. Contracts of .. -/
import Derived.Test.YteempfoajgblaaaGreatRows
import Derived.WalkKit
import Derived.Test.YteempfoajgblaaaGreatLQA
import Derived.ProofKit
import Derived.OpenShut
import Derived.Below
import Derived.Lib.Hide
import Derived.Lib.SmallJoins
import Derived.Laws.BitsAll
import Derived.Laws.BytesString
import Derived.Deep.WholeRow
import Derived.Deep.LoopGhost
set_option maxRecDepth 100000
set_option linter.unusedVariables false
set_option linter.unusedSimpArgs false
open Go.ChangeShapes Go.WideShapes Go.ChangeAt Go.RowKit Go.Joins
namespace Go.Proofs.YteempfoajgblaaaGreat
def poly:Nat:=3988292384
def sh (x:Nat):Nat:=if x%2=0 then x/2 else x/2 ^^^ poly
def shN:Nat→Nat→Nat|0,x=>x|n+1,x=>shN n (sh x)
def tab (x:Nat):Nat:=shN 8 x
def step (x c:Nat):Nat:=tab (x%256 ^^^ c) ^^^ x/256
def fold (x:Nat) (l:List UInt8):Nat:=l.foldl (fun a c=>step a c.toNat) x
def ones:Nat:=4294967295
def more (x:Nat) (s:ByteArray):Nat:=fold (x ^^^ ones) s.data.toList ^^^ ones
def Is32 (x:Nat):Prop:=x<4294967296
theorem xor_mod (x y n:Nat):(x ^^^ y)%2^n=x%2^n ^^^ y%2^n:=Nat.xor_mod_two_pow
theorem xor_div (x y n:Nat):(x ^^^ y)/2^n=x/2^n ^^^ y/2^n:=Nat.xor_div_two_pow
theorem is32_xor {x y:Nat} (h:Is32 x) (k:Is32 y):Is32 (x ^^^ y):=Nat.xor_lt_two_pow (n:=32) h k
theorem is32_ones:Is32 ones:=by unfold Is32 ones;omega
theorem is32_poly:Is32 poly:=by unfold Is32 poly;omega
theorem xor_swap4 (a b c d:Nat):(a ^^^ b) ^^^ (c ^^^ d)=(a ^^^ c) ^^^ (b ^^^ d):=by
 rw [Nat.xor_assoc,Nat.xor_assoc,← Nat.xor_assoc b c d,Nat.xor_comm b c,Nat.xor_assoc c b d]
theorem sh_xor (x y:Nat):sh (x ^^^ y)=sh x ^^^ sh y:=by
 have h1:(x ^^^ y)/2=x/2 ^^^ y/2:=xor_div x y 1
 have h2:(x ^^^ y)%2=(x+y)%2:=by
  rw [show (x ^^^ y)%2=x%2 ^^^ y%2 from xor_mod x y 1]
  rcases Nat.mod_two_eq_zero_or_one x with h|h <;> rcases Nat.mod_two_eq_zero_or_one y with k|k <;> rw [h,k] <;> (first|(show _=_;omega)|(simp;omega))
 unfold sh
 rw [h1,h2]
 by_cases hx:x%2=0 <;> by_cases hy:y%2=0
 · rw [if_pos hx,if_pos hy,if_pos (by omega)]
 · rw [if_pos hx,if_neg hy,if_neg (by omega),Nat.xor_assoc]
 · rw [if_neg hx,if_pos hy,if_neg (by omega),Nat.xor_assoc,Nat.xor_assoc,Nat.xor_comm (y/2) poly]
 · rw [if_neg hx,if_neg hy,if_pos (by omega),xor_swap4,Nat.xor_self,Nat.xor_zero]
theorem sh_is32 {x:Nat} (h:Is32 x):Is32 (sh x):=by
 unfold sh
 split
 · unfold Is32 at *;omega
 · exact is32_xor (by unfold Is32 at *;omega) is32_poly
theorem sh_double (k:Nat):sh (2*k)=k:=by unfold sh;rw [if_pos (by omega)];omega
theorem shN_xor (n x y:Nat):shN n (x ^^^ y)=shN n x ^^^ shN n y:=by
 induction n generalizing x y with
 | zero=>rfl
 | succ n ih=>simp only [shN];rw [sh_xor,ih]
theorem shN_is32 {n x:Nat} (h:Is32 x):Is32 (shN n x):=by
 induction n generalizing x with
 | zero=>exact h
 | succ n ih=>exact ih (sh_is32 h)
theorem tab_256 (k:Nat):tab (256*k)=k:=by
 unfold tab
 simp only [shN]
 rw [show 256*k=2*(2*(2*(2*(2*(2*(2*(2*k))))))) by omega]
 simp only [sh_double]
theorem tab_xor (x y:Nat):tab (x ^^^ y)=tab x ^^^ tab y:=shN_xor 8 x y
theorem split256 (x:Nat):x%256 ^^^ 256*(x/256)=x:=by
 apply Nat.eq_of_testBit_eq
 intro i
 have h1:(x%256).testBit i=(decide (i<8)&&x.testBit i):=Nat.testBit_mod_two_pow x 8 i
 have h2:(256*(x/256)).testBit i=(decide (8≤i)&&(x/256).testBit (i-8)):=Nat.testBit_two_pow_mul (i:=8)
 have h3:(x/256).testBit (i-8)=x.testBit (8+(i-8)):=by
  rw [← Nat.testBit_shiftRight];rw [Nat.shiftRight_eq_div_pow]
 rw [Nat.testBit_xor,h1,h2,h3]
 by_cases h:i<8
 · simp [h,show ¬8≤i by omega]
 · rw [show 8+(i-8)=i by omega];simp [h,show 8≤i by omega]
theorem step_words (x c:Nat):tab (x ^^^ c)=step x c:=by
 unfold step
 conv=>lhs;rw [← split256 x,Nat.xor_assoc,Nat.xor_comm (256*(x/256)) c,← Nat.xor_assoc,tab_xor,tab_256]
theorem step_is32 {x c:Nat} (h:Is32 x) (k:c<256):Is32 (step x c):=by
 rw [← step_words];exact shN_is32 (is32_xor h (by unfold Is32;omega))
theorem fold_is32 {x:Nat} {l:List UInt8} (h:Is32 x):Is32 (fold x l):=by
 induction l generalizing x with
 | nil=>exact h
 | cons c l ih=>exact ih (step_is32 h c.toNat_lt)
theorem fold_snoc (x:Nat) (l:List UInt8) (c:UInt8):fold x (l++[c])=step (fold x l) c.toNat:=by simp [fold]
theorem more_is32 {x:Nat} {s:ByteArray} (h:Is32 x):Is32 (more x s):=is32_xor (fold_is32 (is32_xor h is32_ones)) is32_ones
end Go.Proofs.YteempfoajgblaaaGreat
namespace Go.Proofs.YteempfoajgblaaaGreat
theorem bits_xor32 {x y:Nat} (h:Is32 x) (k:Is32 y):bits .xor .u32 (x:Int) (y:Int)=((x ^^^ y:Nat):Int):=u32_xor_nat x y h k
theorem shift_any (x:Nat) (w:World) (h:Is32 x) :
 Calls Tryz.prog 248 #[.int .u32 (x:Int)] w fun e w'=>e=.returned (.int .u32 (sh x:Int))∧w'=w:=by
 have h1:bits .and .u32 (x:Int) 1=((x%2:Nat):Int):=by
  have:=u32_and_nat x 1 h (by omega)
  rw [Nat.and_one_is_mod] at this
  exact this
 by_cases hx:x%2=0
 ·have e:sh x=x/2:=if_pos hx
  rw [e]
  go_enter Tryz.func248,Tryz.ntmps248
  go_wp2
  go_ret
  exact ⟨rfl,rfl⟩
 ·have e:sh x=x/2 ^^^ poly:=if_neg hx
  rw [e]
  have e2:bits .xor .u32 ((x:Int)/2) 3988292384=((x/2 ^^^ poly:Nat):Int):=bits_xor32 (x:=x/2) (y:=poly) (by unfold Is32 at *;omega) is32_poly
  go_enter Tryz.func248,Tryz.ntmps248
  go_wp2
  go_ret
  exact ⟨rfl,rfl⟩
def byteAt (s:ByteArray) (i:Nat):Nat:=if h:i<s.size then s[i].toNat else 0
theorem byteAt_lt (s:ByteArray) (i:Nat):byteAt s i<256:=by
 unfold byteAt;split
 · exact UInt8.toNat_lt _
 · omega
theorem byteAt_eq {s:ByteArray} {i:Nat} (h:i<s.size):s[i].toNat=byteAt s i:=by unfold byteAt;rw [dif_pos h]
theorem or_low {a b n:Nat} (h:b<2^n):a*2^n ||| b=a*2^n+b:=by
 rw [Nat.mul_comm];exact (Nat.two_pow_add_eq_or_of_lt h a).symm
def zeroCells:Array Value:=#[.int .u32 0,.int .i32 0,.int .u32 0]++Array.replicate 256 (.int .u32 0)
theorem zeroT:(∀ w,(zeroValue 328).run Tryz.prog w=.ok (.agg zeroCells) w)∧(Tryz.prog.info? 328).map (·.size)=some 259:=zero_of_info (by kernel_rfl)
theorem new_any (w:World) :
 Calls Tryz.prog 210 #[] w fun e w'=>e=.returned (.pointer (some ⟨w.heap.size,0,none⟩))∧w'=w.alloc (.cells zeroCells 328):=by
 have z:=zeroT.1
 go_enter Tryz.func210,Tryz.ntmps210
 go_wp2
 go_ret
 exact ⟨rfl,rfl⟩
def bytesOf (x:Nat):ByteArray:=⟨#[UInt8.ofNat (x/16777216%256),UInt8.ofNat (x/65536%256),UInt8.ofNat (x/256%256),UInt8.ofNat (x%256)]⟩
theorem four_bytes (w:World) (g:Nat) (z0 z1 z2 z3:Int) (h0:w.cell? ⟨g,0,none⟩=some (.int .u8 z0)) (h1:w.cell? ⟨g,1,none⟩=some (.int .u8 z1)) (h2:w.cell? ⟨g,2,none⟩=some (.int .u8 z2)) (h3:w.cell? ⟨g,3,none⟩=some (.int .u8 z3)) :
 (convert 84 9 (.slice (some ⟨g,0,none⟩) 4 4)).run Tryz.prog w=.ok (.string ⟨#[UInt8.ofNat z0.toNat,UInt8.ofNat z1.toNat,UInt8.ofNat z2.toNat,UInt8.ofNat z3.toNat]⟩) w:=by
 have hl:=run_loadCells (P:=Tryz.prog) (w:=w) ⟨g,0,none⟩ 4 (fun j=>.int .u8 (if j=0 then z0 else if j=1 then z1 else if j=2 then z2 else z3)) (by
  intro j hj
  rw [addr_add]
  have:j=0∨j=1∨j=2∨j=3:=by omega
  rcases this with rfl|rfl|rfl|rfl
  · exact h0
  · exact h1
  · exact h2
  · exact h3)
 have hm:(((List.range 4).map fun j=>Value.int .u8 (if j=0 then z0 else if j=1 then z1 else if j=2 then z2 else z3)):List Value)=[z0,z1,z2,z3].map (Value.int .u8):=rfl
 rw [hm] at hl
 rw [run_convert_bytes_string w _ _ _ _ _ _ Tryz.underlying84 Tryz.underlying5 Tryz.underlying9,run_bytesToString w _ _ _ _ hl]
 rfl
theorem bytes_run (w:World) (x:Nat) (t:TypeId) :
 (convert 84 9 (.slice (some ⟨w.heap.size,0,none⟩) 4 4)).run Tryz.prog (w.alloc (.cells #[.int .u8 ((x:Int)/16777216%256),.int .u8 ((x:Int)/65536%256),.int .u8 ((x:Int)/256%256),.int .u8 ((x:Int)%256)] t))=.ok (.string (bytesOf x)) (w.alloc (.cells #[.int .u8 ((x:Int)/16777216%256),.int .u8 ((x:Int)/65536%256),.int .u8 ((x:Int)/256%256),.int .u8 ((x:Int)%256)] t)):=
 four_bytes _ _ (((x/16777216%256:Nat)):Int) ((x/65536%256:Nat):Int) ((x/256%256:Nat):Int) ((x%256:Nat):Int) (by simp [go_sem]) (by simp [go_sem]) (by simp [go_sem]) (by simp [go_sem])
theorem bytes_any (x:Nat) (w:World) (h:Is32 x) :
 Calls Tryz.prog 213 #[.int .u32 (x:Int)] w fun e w'=>e=.returned (.string (bytesOf x))∧Below w.heap.size w w':=by
 have hcv:=fun (W:World) (t:TypeId)=>bytes_run W x t
 go_enter Tryz.func213,Tryz.ntmps213
 go_wp2
 go_ret
 exact ⟨rfl,Below.alloc (Below.refl _ _) (Nat.le_refl _) _⟩
end Go.Proofs.YteempfoajgblaaaGreat
namespace Go.Proofs.YteempfoajgblaaaGreat
def part (x:Nat) (s:ByteArray) (i:Nat):Nat:=fold x (s.data.toList.take i)
theorem part_zero (x:Nat) (s:ByteArray):part x s 0=x:=by simp [part,fold]
theorem part_succ (x:Nat) (s:ByteArray) (i:Nat) (h:i<s.size):part x s (i+1)=step (part x s i) (byteAt s i):=by
 have h':i<s.data.toList.length:=by simpa using h
 unfold part
 rw [List.take_succ_eq_append_getElem h',fold_snoc]
 congr 1
 unfold byteAt
 rw [dif_pos h]
 simp [ByteArray.getElem_eq_getElem_data]
theorem part_all (x:Nat) (s:ByteArray):part x s s.size=fold x s.data.toList:=by
 unfold part;rw [List.take_of_length_le (by simp)]
theorem part_is32 {x:Nat} (h:Is32 x) (s:ByteArray) (i:Nat):Is32 (part x s i):=fold_is32 h
theorem not32 {x:Nat} (h:Is32 x):bits .xor .u32 IntKind.u32.max (x:Int)=((x ^^^ ones:Nat):Int):=by
 rw [Nat.xor_comm];exact bits_xor32 (x:=ones) is32_ones h
end Go.Proofs.YteempfoajgblaaaGreat
