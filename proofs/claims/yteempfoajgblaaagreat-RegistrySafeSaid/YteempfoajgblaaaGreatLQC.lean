/- Plain arithmetic for package wide: numbers of 128 bits as two halves. No dump is imported. .. -/
import Derived.WalkKit
import Derived.OpenShut
import Derived.Laws.Bits64
import Derived.Laws.Bits64b
import Derived.Test.YteempfoajgblaaaGreatRows
import Derived.ProofKit
import Derived.Below
import Derived.Lib.Hide
import Derived.Lib.SmallJoins
import Derived.Deep.LoopGhost
import Derived.Test.YteempfoajgblaaaGreatLQA
import Derived.WalkMore
import Derived.Laws.BytesString
import Derived.Deep.RegionWith
import Derived.ChangeOld
import Derived.ShutString
import Derived.Laws.IdiomArrays
import Derived.Deep.QuietTactic
set_option maxRecDepth 100000
set_option linter.unusedVariables false
set_option linter.unusedSimpArgs false
open Go.ChangeShapes Go.WideShapes Go.ChangeAt Go.RowKit Go.Joins
set_option maxHeartbeats 2000000
namespace Go.Proofs.YteempfoajgblaaaGreat
def Is64 (a:Int):Prop:=0≤a∧a<18446744073709551616
end Go.Proofs.YteempfoajgblaaaGreat
namespace Go.Proofs.YteempfoajgblaaaGreat
end Go.Proofs.YteempfoajgblaaaGreat
namespace Go.Proofs.YteempfoajgblaaaGreat
theorem and1 {a:Int} (h:Is64 a):bits .and .u64 a 1=a%2:=by
 unfold Is64 at h
 obtain ⟨n,rfl⟩:=Int.eq_ofNat_of_zero_le h.1
 have hn:n<18446744073709551616:=by omega
 have:=bits_and_u64_nat n 1 hn (by decide)
 rw [Nat.and_one_is_mod] at this
 simpa using this
end Go.Proofs.YteempfoajgblaaaGreat
namespace Go.Proofs.YteempfoajgblaaaGreat
end Go.Proofs.YteempfoajgblaaaGreat
namespace Go.Proofs.YteempfoajgblaaaGreat
def ndF:Nat→Nat→Nat
 | 0,_=>1
 | f+1,n=>if n<10 then 1 else ndF f (n/10)+1
def ndig (n:Nat):Nat:=ndF 40 n
def decK (n k:Nat):List UInt8:=(List.range k).map fun t=>UInt8.ofNat (48+n/10^(k-1-t)%10)
def dec (n:Nat):ByteArray:=⟨(decK n (ndig n)).toArray⟩
end Go.Proofs.YteempfoajgblaaaGreat
namespace Go.Proofs.YteempfoajgblaaaGreat
end Go.Proofs.YteempfoajgblaaaGreat
namespace Go.Proofs.YteempfoajgblaaaGreat
end Go.Proofs.YteempfoajgblaaaGreat
namespace Go.Proofs.YteempfoajgblaaaGreat
theorem own:ownKnob Tryz.prog.godebug=none:=by kernel_rfl
theorem laidOut:laidOutB Tryz.prog=true:=by kernel_rfl
end Go.Proofs.YteempfoajgblaaaGreat
namespace Go.Proofs.YteempfoajgblaaaGreat
end Go.Proofs.YteempfoajgblaaaGreat
namespace Go.Proofs.YteempfoajgblaaaGreat.Pm
def I64 (z:Int):Prop:=-9223372036854775808≤z∧z≤9223372036854775807
structure Tk where
 id:Int
 c:Int
 d:Int
 t:Int
 m:Int
def Tk.v (x:Tk):Value:=.agg #[.int .i64 x.id,.int .i64 x.c,.int .i64 x.d,.int .i64 x.t,.int .i64 x.m]
def chk (x:Tk):Bool:=decide (0≤x.id∧x.id≤1023∧1≤x.c∧x.c≤x.d∧x.d≤x.t∧x.t≤2147483648∧1≤x.m∧x.m≤15)
theorem chk_iff {x:Tk}:chk x=true↔0≤x.id∧x.id≤1023∧1≤x.c∧x.c≤x.d∧x.d≤x.t∧x.t≤2147483648∧1≤x.m∧x.m≤15:=by simp [chk]
def rowB (l:List Tk):Bool:=decide (l.length≤16)&&l.all chk
theorem rowB_all {l:List Tk} (h:rowB l=true):∀ x∈l,chk x=true:=by simp [rowB] at h;exact h.2
theorem rowB_len {l:List Tk} (h:rowB l=true):l.length≤16:=by simp [rowB] at h;exact h.1
def pers:List Tk→Nat→Option Nat
 | [],p=>some p
 | x :: l,p=>if 1048576<Nat.lcm p x.t.toNat then none else pers l (Nat.lcm p x.t.toNat)
def periodR (l:List Tk):Int×Int:=if rowB l then (match pers l 1 with|some p=>((p:Int),0)|none=>(0,(16:Int))) else (0,1)
def work (p:Int):List Tk→Int
 | []=>0
 | x :: l=>x.c*(p/x.t)+work p l
structure Ld where
 n:Int
 p:Int
 e:Int
def loadR (l:List Tk):Ld:=if (periodR l).2=0 then ⟨work (periodR l).1 l,(periodR l).1,0⟩ else ⟨0,0,(periodR l).2⟩
theorem gcd_step {a b:Int}:Int.gcd b (a.tmod b)=Int.gcd a b:=by
 rw [Int.gcd_comm a b]
 unfold Int.gcd
 rw [Int.natAbs_tmod]
 rw [Nat.gcd_comm,← Nat.gcd_rec]
theorem tmod_lt {a b:Int} (h:b≠0):(a.tmod b).natAbs<b.natAbs:=by
 rw [Int.natAbs_tmod];exact Nat.mod_lt _ (by omega)
theorem lcm_eq {p t:Nat} (hp:0<p):p*(t/Nat.gcd p t)=Nat.lcm p t:=by
 unfold Nat.lcm
 rw [Nat.mul_div_assoc _ (Nat.gcd_dvd_right p t)]
theorem lcm_eq' {p t:Nat}:p/Nat.gcd p t*t=Nat.lcm p t:=by
 unfold Nat.lcm
 rw [Nat.mul_comm,← Nat.mul_div_assoc _ (Nat.gcd_dvd_left p t),Nat.mul_comm]
theorem lcm_le {p t:Nat} (hp:p≤1048576) (ht:t≤2147483648):Nat.lcm p t≤2251799813685248:=by
 have:Nat.lcm p t≤p*t:=Nat.div_le_self _ _
 have:=Nat.mul_le_mul hp ht
 omega
theorem lcm_pos {p t:Nat} (hp:0<p) (ht:0<t):0<Nat.lcm p t:=Nat.lcm_pos hp ht
theorem work_take {l:List Tk} {i:Nat} (h:i<l.length) (p:Int):work p (l.take (i+1))=work p (l.take i)+l[i].c*(p/l[i].t):=by
 induction l generalizing i with
 | nil=>simp at h
 | cons x l ih=>
  cases i with
  | zero=>simp [work]
  | succ i=>
   simp only [List.take_succ_cons,work,List.getElem_cons_succ]
   rw [ih (by simpa using h)];omega
theorem term_le {x:Tk} {p:Int} (hx:chk x=true) (hp:0≤p):0≤x.c*(p/x.t)∧x.c*(p/x.t)≤p∧0≤p/x.t∧p/x.t≤p:=by
 obtain ⟨-,-,h1,h2,h3,-⟩:=chk_iff.1 hx
 have h0:0≤p/x.t:=Int.ediv_nonneg hp (by omega)
 refine ⟨Int.mul_nonneg (by omega) h0,?_,h0,Int.ediv_le_self _ hp⟩
 have:=Int.mul_le_mul_of_nonneg_right (show x.c≤x.t by omega) h0
 have h4:=Int.mul_ediv_self_le (x:=p) (k:=x.t) (by omega)
 omega
theorem work_le {l:List Tk} {p:Int} (hl:∀ x∈l,chk x=true) (hp:0≤p):0≤work p l∧work p l≤l.length*p:=by
 induction l with
 | nil=>simp [work]
 | cons x l ih=>
  have h1:=term_le (hl x (by simp)) hp
  have h2:=ih (fun y hy=>hl y (by simp [hy]))
  simp only [work,List.length_cons]
  have:((l.length+1:Nat):Int)*p=l.length*p+p:=by rw [Int.natCast_add,Int.add_mul];simp
  omega
theorem pers_pos {l:List Tk}:∀ {p q:Nat},0<p→p≤1048576→(∀ x∈l,chk x=true)→pers l p=some q→0<q∧q≤1048576∧p ∣ q∧∀ x∈l,x.t.toNat ∣ q:=by
 induction l with
 | nil=>intro p q hp h1 _ h;simp [pers] at h;subst h;exact ⟨hp,h1,Nat.dvd_refl _,by simp⟩
 | cons x l ih=>
  intro p q hp h1 hl h
  have hx:=chk_iff.1 (hl x (by simp))
  rw [pers] at h
  split at h
  · cases h
  ·obtain ⟨h2,h3,h4,h5⟩:=ih (lcm_pos hp (by omega)) (by omega) (fun y hy=>hl y (by simp [hy])) h
   refine ⟨h2,h3,Nat.dvd_trans (Nat.dvd_lcm_left _ _) h4,fun y hy=>?_⟩
   rcases List.mem_cons.1 hy with rfl|hy
   · exact Nat.dvd_trans (Nat.dvd_lcm_right _ _) h4
   · exact h5 y hy
theorem period_ok {l:List Tk} (h:(periodR l).2=0):rowB l=true∧∃ p,pers l 1=some p∧(periodR l).1=(p:Int)∧0<p∧p≤1048576:=by
 unfold periodR at h ⊢
 by_cases hr:rowB l=true
 ·rw [if_pos hr] at h ⊢
  refine ⟨hr,?_⟩
  cases hp:pers l 1 with
  | none=>rw [hp] at h;simp at h
  | some p=>
   have:=pers_pos (by omega) (by omega) (rowB_all hr) hp
   exact ⟨p,rfl,rfl,this.1,this.2.1⟩
 · rw [if_neg hr] at h;simp at h
end Go.Proofs.YteempfoajgblaaaGreat.Pm
namespace Go.Proofs.YteempfoajgblaaaGreat.Pm
theorem below_drewN (w:World) (n:Nat):Below w.heap.size w (w.drewN n):=⟨rfl,rfl,rfl,by simp,fun k _=>by simp⟩
theorem chk_no {x:Tk} (h:¬(0≤x.id∧x.id≤1023∧1≤x.c∧x.c≤x.d∧x.d≤x.t∧x.t≤2147483648∧1≤x.m∧x.m≤15)):false=chk x:=by
 unfold chk;exact (decide_eq_false h).symm
theorem chk_last {x:Tk} (h:0≤x.id∧x.id≤1023∧1≤x.c∧x.c≤x.d∧x.d≤x.t∧x.t≤2147483648∧1≤x.m):chk x=decide (x.m≤15):=by
 unfold chk;apply decide_eq_decide.2;omega
theorem chk_any (x:Tk) (w:World) :
 Calls Tryz.prog 190 #[x.v] w fun e w'=>e=.returned (.bool (chk x))∧Below w.heap.size w w':=by
 obtain ⟨i,c,d,t,m⟩:=x
 unfold Tk.v
 simp only
 go_enter Tryz.func190,Tryz.ntmps190
 go_wp2
 all_goals
  first|(rw [← chk_no (by simp only;omega)])|(rw [chk_last (by simp only;omega)])
  go_ret
  exact ⟨rfl,(Below.refl _ _).alloc (Nat.le_refl _) _⟩
theorem rchk_any (x:Tk) (w:World) :
 Calls Tryz.prog 113 #[x.v] w fun e w'=>e=.returned (.bool (chk x))∧Below w.heap.size w w':=by
 obtain ⟨i,c,d,t,m⟩:=x
 unfold Tk.v
 simp only
 go_enter Tryz.func113,Tryz.ntmps113
 go_wp2
 all_goals
  first|(rw [← chk_no (by simp only;omega)])|(rw [chk_last (by simp only;omega)])
  go_ret
  exact ⟨rfl,(Below.refl _ _).alloc (Nat.le_refl _) _⟩
def GcRel (a b:Int) (w:World) (g:Nat) (s0 s1:Value) (wx:World):Prop:=
 ∃ x y:Int,s0=.int .i64 x∧s1=.int .i64 y∧y.natAbs=g∧(-9223372036854775807≤x∧x≤9223372036854775807)∧(-9223372036854775807≤y∧y≤9223372036854775807)∧Int.gcd x y=Int.gcd a b∧Below w.heap.size w wx
theorem gcd_any (a b:Int) (w:World) (ha : -9223372036854775807≤a∧a≤9223372036854775807) (hb : -9223372036854775807≤b∧b≤9223372036854775807) :
 Calls Tryz.prog 250 #[.int .i64 a,.int .i64 b] w fun e w'=>e=.returned (.int .i64 (Int.gcd a b:Int))∧Below w.heap.size w w':=by
 have HA:=Lib.hid ha
 have HB:=Lib.hid hb
 clear ha hb
 go_enter Tryz.func250,Tryz.ntmps250
 go_wp2_with fail
 go_loopg [0,1] b.natAbs (GcRel a b w)
 case atStart=>exact ⟨a,b,rfl,rfl,rfl,HA.out,HB.out,rfl,Below.refl _ _⟩
 case round=>
  obtain ⟨x,y,rfl,rfl,rfl,hx,hy,hg,hB⟩:=hrel
  have K:=Lib.hid hB
  clear hB
  by_cases h0:y=0
  ·subst h0
   have G:Hid ((Int.gcd a b:Int)=(x.natAbs:Int)):=Lib.hid (by rw [← hg];simp)
   clear hg hy
   by_cases hn:x<0
   ·have e:((x.natAbs:Nat):Int)=-x:=by omega
    have E:=Lib.hid e
    clear e
    go_wp2
    go_ret
    exact ⟨by rw [G.out,E.out];rfl,K.out⟩
   ·have e:((x.natAbs:Nat):Int)=x:=by omega
    have E:=Lib.hid e
    have hn':0≤x:=by omega
    clear e hn
    go_wp2
    go_ret
    exact ⟨by rw [G.out,E.out];rfl,K.out⟩
  ·have h1:(y==0)=false:=by simpa using h0
   have h2:(y != 0)=true:=by simpa using h0
   have T:=Lib.hid (tmod_lt (a:=x) h0)
   have HG:=Lib.hid hg
   have HX:=Lib.hid hx
   have HY:=Lib.hid hy
   clear hg hx hy
   go_wp2_with fail
   go_quiet (fail)
   go_wp2
   go_roundg (x.tmod y).natAbs
   case measure=>exact T.out
   case rel=>exact ⟨y,x.tmod y,rfl,rfl,rfl,HY.out,by have:=T.out;have:=HY.out;omega,by rw [gcd_step];exact HG.out,K.out.trans ((below_drewN _ _).mono K.out.size)⟩
theorem rgcd_nat (n:Nat):∀ (a b:Int) (w:World),b=n→0≤a→a≤9223372036854775807→b≤9223372036854775807 →
 Calls Tryz.prog 205 #[.int .i64 a,.int .i64 b] w fun e w'=>e=.returned (.int .i64 (Int.gcd a b:Int))∧Below w.heap.size w w':=by
 induction n using Nat.strongRecOn with
 | ind n ih=>
  intro a b w hb ha ha2 hb2
  have hb0:0≤b:=by omega
  by_cases h0:b=0
  ·subst h0
   have G:Hid ((Int.gcd a 0:Int)=a):=Lib.hid (by rw [Int.gcd_zero_right];omega)
   clear ih hb
   go_enter Tryz.func205,Tryz.ntmps205
   go_wp2
   go_ret
   exact ⟨by rw [G.out];rfl,Below.refl _ _⟩
  ·have h1:(b==0)=false:=by simpa using h0
   have hm0:0≤a.tmod b:=Int.tmod_nonneg _ ha
   have hm1:=tmod_lt (a:=a) h0
   have R:Hid (∀ w,Calls Tryz.prog 205 #[.int .i64 b,.int .i64 (a.tmod b)] w fun e w'=>e=.returned (.int .i64 (Int.gcd a b:Int))∧Below w.heap.size w w'):=Lib.hid (fun w=>by
    have:=ih (a.tmod b).natAbs (by omega) b (a.tmod b) w (by omega) hb0 hb2 (by omega)
    rw [gcd_step] at this
    exact this)
   rw [Int.tmod_eq_emod_of_nonneg ha] at R
   clear ih hb hm0 hm1
   go_enter Tryz.func205,Tryz.ntmps205
   go_wp2_with fail
   (with_reducible refine (R.out _).mono ?_)
   rintro e w1 ⟨rfl,b1⟩
   go_wp2
   go_ret
   exact ⟨rfl,by repeat (first|exact b1|refine Below.drew ?_)⟩
end Go.Proofs.YteempfoajgblaaaGreat.Pm
namespace Go.Proofs.YteempfoajgblaaaGreat.Pm
structure TkAt (b o:Nat) (x:Tk) (w:World):Prop where
 c0:w.cell? ⟨b,o,none⟩=some (.int .i64 x.id)
 c1:w.cell? ⟨b,o+1,none⟩=some (.int .i64 x.c)
 c2:w.cell? ⟨b,o+2,none⟩=some (.int .i64 x.d)
 c3:w.cell? ⟨b,o+3,none⟩=some (.int .i64 x.t)
 c4:w.cell? ⟨b,o+4,none⟩=some (.int .i64 x.m)
theorem TkAt.lt {b o:Nat} {x:Tk} {w:World} (h:TkAt b o x w):b<w.heap.size:=World.block_lt_of_cell? _ _ h.c0
theorem TkAt.of_block {b o:Nat} {x:Tk} {w w':World} (h:TkAt b o x w) (e:w'.heap[b]?=w.heap[b]?):TkAt b o x w' :=
 ⟨(World.cell?_of_block (w:=w) e).trans h.c0,(World.cell?_of_block (w:=w) e).trans h.c1,(World.cell?_of_block (w:=w) e).trans h.c2,(World.cell?_of_block (w:=w) e).trans h.c3,(World.cell?_of_block (w:=w) e).trans h.c4⟩
theorem TkAt.below {b o:Nat} {x:Tk} {w w':World} (h:TkAt b o x w) {B:Nat} (hb:Below B w w') (hl:b<B):TkAt b o x w':=h.of_block (hb.block b hl)
theorem TkAt.call {b o:Nat} {x:Tk} {w w':World} (h:TkAt b o x w) (hb:Below w.heap.size w w'):TkAt b o x w':=h.below hb h.lt
theorem name_world {P:Program} {c:Code} {Q:Exit→Act→World→Prop} {a:Act} {w:World} (R:World→Prop) (h:R w) (k:∀ W,R W→c.wp P Q a W):c.wp P Q a w:=k w h
def Ts (ao:Option Addr) (l:List Tk) (w:World):Prop:=0<l.length→∃ b off,ao=some ⟨b,off,none⟩∧b<w.heap.size∧∀ i x,l[i]?=some x→TkAt b (off+i*5) x w
theorem Ts.of_blocks {ao:Option Addr} {l:List Tk} {w w':World} (h:Ts ao l w) (hs:w.heap.size≤w'.heap.size) (e:∀ k off,ao=some ⟨k,off,none⟩→k<w.heap.size→w'.heap[k]?=w.heap[k]?):Ts ao l w':=fun h0=>by
 obtain ⟨b,off,rfl,hb,hc⟩:=h h0
 exact ⟨b,off,rfl,by omega,fun i x hi=>(hc i x hi).of_block (e b off rfl hb)⟩
theorem Ts.call {ao:Option Addr} {l:List Tk} {w w':World} (h:Ts ao l w) (hb:Below w.heap.size w w'):Ts ao l w':=h.of_blocks hb.size fun k off _ hk=>hb.block k hk
theorem Ts.below {ao:Option Addr} {l:List Tk} {w w':World} (h:Ts ao l w) {B:Nat} (hb:Below B w w') (hB:w.heap.size≤B):Ts ao l w':=h.call (hb.mono hB)
end Go.Proofs.YteempfoajgblaaaGreat.Pm
namespace Go.Proofs.YteempfoajgblaaaGreat.Pm
def RoRel (l:List Tk) (w:World) (g:Nat) (s:Value) (wx:World):Prop:=
 ∃ i:Nat,i+g=l.length∧s=.int .i64 (i:Int)∧(∀ x∈l.take i,chk x=true)∧Below w.heap.size w wx
theorem take_next {l:List Tk} {i:Nat} (h:i<l.length) (h1:∀ x∈l.take i,chk x=true) (h2:chk l[i]=true):∀ x∈l.take (i+1),chk x=true:=by
 intro x hx
 rw [List.take_succ_eq_append_getElem h] at hx
 rcases List.mem_append.1 hx with hx|hx
 · exact h1 x hx
 ·obtain rfl:x=l[i]:=by simpa using hx
  exact h2
theorem rowB_no {l:List Tk} {x:Tk} (h:x∈l) (hx:chk x=false):rowB l=false:=by
 cases e:rowB l
 · rfl
 ·have:=rowB_all e x h
  rw [hx] at this;cases this
theorem rowB_yes {l:List Tk} (h:l.length≤16) (hx:∀ x∈l,chk x=true):rowB l=true:=by
 simp [rowB,h];exact hx
theorem rowB_long {l:List Tk} (h:16<l.length):rowB l=false:=by
 have:¬l.length≤16:=by omega
 simp [rowB,this]
theorem row_any (l:List Tk) (ao:Option Addr) (cap:Nat) (w:World) (hT:Ts ao l w) (hl:l.length≤9223372036854775807) :
 Calls Tryz.prog 235 #[.slice ao l.length cap] w fun e w'=>e=.returned (.bool (rowB l))∧Below w.heap.size w w':=by
 by_cases h16:16<l.length
 ·have E:=Lib.hid (rowB_long h16)
  clear hT
  have h16':(16:Int)<(l.length:Int):=by omega
  clear h16
  go_enter Tryz.func235,Tryz.ntmps235
  go_wp2
  go_ret
  exact ⟨by rw [E.out];rfl,Below.refl _ _⟩
 ·have T:=Lib.hid hT
  have h16':(l.length:Int)≤16:=by omega
  have YES:Hid ((∀ x∈l,chk x=true)→rowB l=true):=Lib.hid (fun h=>rowB_yes (by omega) h)
  have NO:Hid (∀ x∈l,chk x=false→rowB l=false):=Lib.hid (fun x h h1=>rowB_no h h1)
  clear h16 hT
  go_enter Tryz.func235,Tryz.ntmps235
  go_wp2_with fail
  go_loopg [10] l.length (RoRel l w)
  case atStart=>exact ⟨0,by omega,rfl,by simp,Below.refl _ _⟩
  case round=>
   obtain ⟨i,hi,rfl,hc,hB⟩:=hrel
   have TW:=T.out.below hB (Nat.le_refl _)
   by_cases hlt:i<l.length
   ·obtain ⟨b,off,rfl,hb,hat⟩:=TW (by omega)
    have hx:=hat i l[i] (List.getElem?_eq_getElem hlt)
    have HN:=Lib.hid (take_next hlt hc)
    have HM:=Lib.hid (NO.out l[i] (List.getElem_mem hlt))
    have CK:=Lib.hid (chk_any l[i])
    have K:=Lib.hid hB
    have HI:=Lib.hid hi
    clear hc hB hi TW hat
    generalize l[i]=x at *
    generalize chk x=ck at *
    obtain ⟨c0,c1,c2,c3,c4⟩:=hx
    obtain ⟨xi,xc,xd,xt,xm⟩:=x
    unfold Tk.v at CK
    simp only at CK c0 c1 c2 c3 c4
    have KA:=Lib.hid (fun o=>K.out.alloc (by have:=K.out.size;omega) o)
    clear K
    go_wp2_with fail
    (with_reducible refine (CK.out _).mono ?_)
    rintro e w1 ⟨rfl,b1⟩
    have K1:=Lib.hid ((KA.out _).trans (b1.mono (KA.out _).size))
    clear b1 KA
    cases ck
    ·have E:=Lib.hid (HM.out rfl)
     go_wp2
     go_ret
     exact ⟨by rw [E.out];rfl,K1.out⟩
    ·have hg0:0<gk:=by have:=HI.out;omega
     go_wp2
     go_roundg (gk-1)
     case measure=>omega
     case rel=>exact ⟨i+1,by have:=HI.out;omega,by go_num,HN.out (by first|trivial|rfl),K1.out⟩
   ·have hge:(l.length:Int)≤(i:Int):=by omega
    have E:=Lib.hid (YES.out (by rw [List.take_of_length_le (by omega)] at hc;exact hc))
    have K:=Lib.hid hB
    clear hB TW hc hi hlt
    go_wp2
    go_ret
    exact ⟨by rw [E.out];rfl,K.out⟩
theorem rrow_any (l:List Tk) (ao:Option Addr) (cap:Nat) (w:World) (hT:Ts ao l w) (hl:l.length≤1000000) :
 Calls Tryz.prog 204 #[.slice ao l.length cap] w fun e w'=>e=.returned (.bool (rowB l))∧Below w.heap.size w w':=by
 have T:=Lib.hid hT
 have YES:Hid ((∀ x∈l,chk x=true)→decide ((l.length:Int)≤16)=rowB l):=Lib.hid (fun h=>by
  have:l.all chk=true:=by simpa using h
  unfold rowB;rw [this,Bool.and_true];apply decide_eq_decide.2;omega)
 have NO:Hid (∀ x∈l,chk x=false→rowB l=false):=Lib.hid (fun x h h1=>rowB_no h h1)
 clear hT
 go_enter Tryz.func204,Tryz.ntmps204
 go_wp2_with fail
 go_loopg [3] l.length (RoRel l w)
 case atStart=>exact ⟨0,by omega,rfl,by simp,Below.refl _ _⟩
 case round=>
  obtain ⟨i,hi,rfl,hc,hB⟩:=hrel
  have TW:=T.out.below hB (Nat.le_refl _)
  by_cases hlt:i<l.length
  ·obtain ⟨b,off,rfl,hb,hat⟩:=TW (by omega)
   have hx:=hat i l[i] (List.getElem?_eq_getElem hlt)
   have HN:=Lib.hid (take_next hlt hc)
   have HM:=Lib.hid (NO.out l[i] (List.getElem_mem hlt))
   have CK:=Lib.hid (rchk_any l[i])
   have K:=Lib.hid hB
   have HI:=Lib.hid hi
   clear hc hB hi TW hat
   generalize l[i]=x at *
   generalize chk x=ck at *
   obtain ⟨c0,c1,c2,c3,c4⟩:=hx
   obtain ⟨xi,xc,xd,xt,xm⟩:=x
   unfold Tk.v at CK
   simp only at CK c0 c1 c2 c3 c4
   go_wp2_with fail
   (with_reducible refine (CK.out _).mono ?_)
   rintro e w1 ⟨rfl,b1⟩
   have K1:=Lib.hid (K.out.trans (b1.mono K.out.size))
   clear b1 K
   cases ck
   ·have E:=Lib.hid (HM.out rfl)
    go_wp2
    go_ret
    exact ⟨by rw [E.out];rfl,K1.out⟩
   ·have hg0:0<gk:=by have:=HI.out;omega
    go_wp2
    go_roundg (gk-1)
    case measure=>omega
    case rel=>exact ⟨i+1,by have:=HI.out;omega,by go_num,HN.out (by first|trivial|rfl),K1.out⟩
  ·have hge:(l.length:Int)≤(i:Int):=by omega
   have E:=Lib.hid (YES.out (by rw [List.take_of_length_le (by omega)] at hc;exact hc))
   have K:=Lib.hid hB
   clear hB TW hc hi hlt
   go_wp2
   go_ret
   exact ⟨by rw [← E.out];rfl,K.out⟩
end Go.Proofs.YteempfoajgblaaaGreat.Pm
