/- Contracts of package frame's small functions: what reads a text part by part, numbers and their .. -/
import Derived.Test.YteempfoajgblaaaGreatLFrMath
import Derived.Test.YteempfoajgblaaaGreatLMGr
import Derived.Deep.RegionHeld3
import Derived.Deep.DeepCutAuto
set_option maxRecDepth 100000
set_option linter.unusedVariables false
set_option linter.unusedSimpArgs false
open Go.ChangeShapes Go.WideShapes Go.ChangeAt Go.RowKit Go.Joins
set_option maxHeartbeats 4000000
namespace Go.Proofs.YteempfoajgblaaaGreat
theorem parts_any (s:ByteArray) (w:World) :
 Calls Tryz.prog 184 #[.string s] w fun e w'=>e=.returned (.func (.func 207) #[] #[.pointer (some ⟨w.heap.size,0,none⟩)])∧w'=w.alloc (.cells #[.string s] 9):=by
 have hmf:∀ (fn:Fn) (first cap:Array Value) (w:World),(Instr.makeFunc fn first cap).run Tryz.prog w=.ok (.func fn first cap) w:=fun _ _ _ _=>rfl
 go_enter Tryz.func184,Tryz.ntmps184
 go_wp2
 go_ret
 exact ⟨rfl,rfl⟩
theorem next_any (b k:Nat) (s:ByteArray) (w:World) (hk:k≤s.size) (hc:w.cell? ⟨b,0,none⟩=some (.string s)) (hf:w.frozen? ⟨b,0,none⟩=false) :
 Calls Tryz.prog 207 #[.int .i64 (k:Int),.pointer (some ⟨b,0,none⟩)] w fun e w'=>e=.returned (.string (s.extract 0 k))∧w'=w.setCell ⟨b,0,none⟩ (.string (s.extract k s.size)):=by
 have hk':(k:Int)≤(s.size:Int):=by omega
 go_enter Tryz.func207,Tryz.ntmps207
 go_wp2
 go_ret
 exact ⟨rfl,rfl⟩
structure Parts (w0:World) (b:Nat) (s:ByteArray) (w:World):Prop where
 cell:w.cell? ⟨b,0,none⟩=some (.string s)
 fr:w.frozen? ⟨b,0,none⟩=false
 bel:Below w0.heap.size w0 w
 far:w0.heap.size≤b
theorem parts_of (w0:World) (s:ByteArray) (w:World) (h:Below w0.heap.size w0 w) :
 Calls Tryz.prog 184 #[.string s] w fun e w'=>e=.returned (.func (.func 207) #[] #[.pointer (some ⟨w.heap.size,0,none⟩)])∧Parts w0 w.heap.size s w'∧Below w.heap.size w w' :=
 (parts_any s w).mono fun e w' ⟨he,hw⟩=>⟨he,by subst hw;exact ⟨by simp [go_sem],by simp [go_sem],h.alloc h.size _,h.size⟩,by subst hw;exact (Below.refl _ _).alloc (Nat.le_refl _) _⟩
theorem next_of (w0:World) (b k:Nat) (z:Int) (hz:z=(k:Int)) (s:ByteArray) (w:World) (hk:k≤s.size) (h:Parts w0 b s w) :
 Calls Tryz.prog 207 #[.int .i64 z,.pointer (some ⟨b,0,none⟩)] w fun e w'=>e=.returned (.string (s.extract 0 k))∧Parts w0 b (s.extract k s.size) w'∧Apart b w w':=by
 subst hz
 exact (next_any b k s w hk h.cell h.fr).mono fun e w' ⟨he,hw⟩=>⟨he,by subst hw;exact ⟨World.cell?_setCell_same _ _ _ h.cell,by simpa using h.fr,h.bel.setCell h.far _,h.far⟩,by subst hw;exact (Apart.refl _ _).setCell _ _⟩
theorem or64 {x b:Nat} (h:x<72057594037927936) (hb:b<256):bits .or .u64 ((x:Int)*256) (b:Int)=((x*256+b:Nat):Int):=by
 have e:x*256 ||| b=x*256+b:=or_low (n:=8) hb
 have:=u64_or_nat (x*256) b (by omega) (by omega)
 rw [e] at this
 rw [← this]
 simp
theorem val_step {s:ByteArray} {i:Nat} (h:i<s.size):val (s.data.toList.take (i+1))=val (s.data.toList.take i)*256+byteAt s i:=by
 have h':i<s.data.toList.length:=by simpa using h
 rw [List.take_succ_eq_append_getElem h',val_snoc]
 congr 1
 unfold byteAt
 rw [dif_pos h]
 simp [ByteArray.getElem_eq_getElem_data]
theorem val_small {s:ByteArray} {i:Nat} (h:i≤7):val (s.data.toList.take i)<72057594037927936:=by
 have h1:=val_lt (s.data.toList.take i)
 have h2:(s.data.toList.take i).length≤7:=by simp;omega
 have h3:256^(s.data.toList.take i).length≤256^7:=Nat.pow_le_pow_right (by omega) h2
 have h4:256^7=72057594037927936:=by decide
 omega
def NumRel (w:World) (s:ByteArray) (g:Nat) (s3 s7:Value) (wx:World):Prop:=∃ i:Nat,i+g=s.size∧s3=.int .u64 (val (s.data.toList.take i):Int)∧s7=.int .i64 (i:Int)∧wx=w
theorem num_any (s:ByteArray) (w:World) (hs:s.size≤8) :
 Calls Tryz.prog 185 #[.string s] w fun e w'=>e=.returned (.int .u64 (val s.data.toList:Int))∧w'=w:=by
 have hE:val s.data.toList=val (s.data.toList.take s.size):=by rw [List.take_of_length_le (by simp)]
 generalize val s.data.toList=t at *
 have HE:=Lib.hid hE
 clear hE
 go_enter Tryz.func185,Tryz.ntmps185
 go_wp2
 go_loopg [3,7] (s.size) (NumRel w s)
 case atStart=>exact ⟨0,by omega,rfl,rfl,rfl⟩
 case round=>
  obtain ⟨i,hk,rfl,rfl,rfl⟩:=hrel
  rcases Nat.lt_or_ge i s.size with hlt|hge
  ·have b:=byteAt_eq hlt
   have hb:=byteAt_lt s i
   have hv:=val_small (s:=s) (i:=i) (by omega)
   have V:=Lib.hid (val_step hlt)
   have il:(i:Int)<(s.size:Int):=by omega
   generalize val (s.data.toList.take i)=x at *
   generalize byteAt s i=c at *
   have o:=or64 hv hb
   have m1:(c:Int)%18446744073709551616=(c:Int):=by omega
   have m2:(x:Int)*256%18446744073709551616=(x:Int)*256:=by omega
   clear HE
   go_wp2
   go_roundg (gk-1)
   case measure=>omega
   case rel=>exact ⟨i+1,by omega,by rw [V.out,Int.natCast_add,Int.natCast_mul];rfl,rfl,rfl⟩
  ·obtain rfl:i=s.size:=by omega
   rw [← HE.out]
   clear HE
   go_wp2
   go_ret
   exact ⟨rfl,rfl⟩
end Go.Proofs.YteempfoajgblaaaGreat
namespace Go.Proofs.YteempfoajgblaaaGreat
def part8 (n i:Nat):List UInt8:=(be 8 n).take i++List.replicate (8-i) 0
theorem part8_all (n:Nat):part8 n 8=be 8 n:=by unfold part8;rw [List.take_of_length_le (by rw [be_length];omega)];simp
theorem part8_set (n:Nat) {i:Nat} (h:i<8):(part8 n i).set i (UInt8.ofNat (n/256^(7-i)%256))=part8 n (i+1):=by
 have hl:i<(be 8 n).length:=by rw [be_length];exact h
 unfold part8
 rw [List.take_succ_eq_append_getElem hl,be_get hl]
 have e:List.replicate (8-i) (0:UInt8)=0 :: List.replicate (8-(i+1)) 0:=by
  rw [show 8-i=(8-(i+1))+1 by omega,List.replicate_succ]
 rw [e,List.set_append_right _ _ (by simp;omega)]
 have e2:i-(List.take i (be 8 n)).length=0:=by simp [be_length];omega
 rw [e2]
 simp
theorem zero8:(∀ w,(zeroValue 315).run Tryz.prog w=.ok (.agg (Lib.byteCells (List.replicate 8 0)).toArray) w)∧(Tryz.prog.info? 315).map (·.size)=some 8:=zero_of_info (by kernel_rfl)
def ByRel (w:World) (n b g:Nat) (s5:Value) (wx:World):Prop:=∃ i:Nat,i+g=8∧s5=.int .i64 (i:Int)∧RowB wx b 315 (part8 n i)∧Below w.heap.size w wx
theorem by_next {w wr:World} {n b i g:Nat} {x:Int} (hi:i+g=8) (hg:0<g) (hb:w.heap.size≤b) (h:RowB wr b 315 (part8 n i)) (k:Below w.heap.size w wr) (e:x=((n/256^(7-i)%256:Nat):Int)) (i':Int) (ei:i'=((i+1:Nat):Int)) :
 ByRel w n b (g-1) (.int .i64 i') (wr.setCell ⟨b,i,none⟩ (.int .u8 x)):=by
 subst ei
 refine ⟨i+1,by omega,rfl,?_,k.setCell hb _⟩
 rw [← part8_set n (by omega)]
 exact h.set (by rw [e,UInt8.toNat_ofNat'];omega)
theorem arr8:Tryz.prog.arrayLen 315=8:=by kernel_rfl
theorem arr8u:Tryz.prog.underlying 315=some (.array (Tryz.prog.arrayLen 315) (Tryz.prog.elem 315)):=by kernel_rfl
theorem arr8e (w:World):(sizeOf (Tryz.prog.elem 315)).run Tryz.prog w=.ok 1 w:=by kernel_rfl
theorem slice8 (b:Nat) (w:World):(Instr.sliceAt 315 (.pointer (some ⟨b,0,none⟩)) none none none).run Tryz.prog w=.ok (.slice (some ⟨b,0,none⟩) 8 8) w:=by
 rw [run_sliceAt_array_all w _ _ arr8u,arr8e]
 simp only [Result.andThen,slicedAt,arr8]
 simp [Addr.add]
theorem bytes8 (n:Nat) (w:World) (hn:n<18446744073709551616) :
 Calls Tryz.prog 209 #[.int .u64 (n:Int)] w fun e w'=>e=.returned (.string (mkB (be 8 n)))∧Below w.heap.size w w':=by
 have z:=zero8.1
 have r0:=Lib.hid (rowB_new w (List.replicate 8 0) 315)
 have b0:=Lib.hid ((Below.refl w.heap.size w).alloc (Nat.le_refl _) (.cells (Lib.byteCells (List.replicate 8 0)).toArray 315))
 have s8:=slice8
 have lw:w.heap.size<(w.alloc (.cells (Lib.byteCells (List.replicate 8 0)).toArray 315)).heap.size:=by simp
 generalize (Lib.byteCells (List.replicate 8 0)).toArray=M at *
 go_enter Tryz.func209,Tryz.ntmps209
 go_wp2
 go_loopg [5] 8 (ByRel w n w.heap.size)
 case atStart=>exact ⟨0,rfl,rfl,r0.out,b0.out⟩
 case round=>
  clear r0 b0 z
  obtain ⟨i,hk,rfl,hr,hB⟩:=hrel
  have HR:=Lib.hid hr
  have HB:=Lib.hid hB
  rcases Nat.lt_or_ge i 8 with hlt|hge
  ·have hl:i<(part8 n i).length:=by simp [part8,be_length];omega
   have c:=hr.cell hl
   have f:=hr.frozen i
   generalize ((part8 n i)[i].toNat:Int)=old at *
   clear hr hB s8
   have:i=0∨i=1∨i=2∨i=3∨i=4∨i=5∨i=6∨i=7:=by omega
   rcases this with rfl|rfl|rfl|rfl|rfl|rfl|rfl|rfl
   all_goals
    go_wp2
    go_roundg (gk-1)
    case measure=>omega
    case rel=>exact by_next hk (by omega) (Nat.le_refl _) HR.out HB.out (by first|(simp;done)|(simp;omega)) _ rfl
  ·obtain rfl:i=8:=by omega
   rw [part8_all] at hr
   have hcv:=hr.text 0 8 8 (by rw [be_length];omega)
   rw [List.drop_zero,List.take_of_length_le (by rw [be_length];omega)] at hcv
   clear hr hB
   go_wp2
   go_ret
   exact ⟨rfl,HB.out⟩
def PartsAt (w:World) (q:Nat) (ps:List (List UInt8)):Prop:=∀ i (h:i<ps.length),w.cell? ⟨q,i,none⟩=some (.string (mkB ps[i]))
def lenTo (ps:List (List UInt8)) (i:Nat):Nat:=(ps.take i).flatten.length
theorem flat_succ (ps:List (List UInt8)) {i:Nat} (h:i<ps.length):(ps.take (i+1)).flatten=(ps.take i).flatten++ps[i]:=by
 rw [List.take_succ_eq_append_getElem h,List.flatten_append,List.flatten_cons,List.flatten_nil,List.append_nil]
theorem lenTo_succ (ps:List (List UInt8)) {i:Nat} (h:i<ps.length):lenTo ps (i+1)=lenTo ps i+ps[i].length:=by
 unfold lenTo;rw [flat_succ ps h];simp
def putTo (l:List UInt8) (off:Nat) (ps:List (List UInt8)) (i:Nat):List UInt8:=l.take off++(ps.take i).flatten++l.drop (off+lenTo ps i)
theorem putTo_zero (l:List UInt8) (off:Nat) (ps:List (List UInt8)):putTo l off ps 0=l:=by simp [putTo,lenTo]
theorem putTo_length {l:List UInt8} {off:Nat} {ps:List (List UInt8)} {i:Nat} (h:off+lenTo ps i≤l.length):(putTo l off ps i).length=l.length:=by
 unfold putTo lenTo at *
 simp only [List.length_append,List.length_take,List.length_drop]
 omega
theorem putTo_succ {l:List UInt8} {off:Nat} {ps:List (List UInt8)} {i:Nat} (h:i<ps.length) (hf:off+lenTo ps (i+1)≤l.length) :
 (putTo l off ps i).take (off+lenTo ps i)++ps[i]++(putTo l off ps i).drop (off+lenTo ps i+ps[i].length)=putTo l off ps (i+1):=by
 have e:=lenTo_succ ps h
 have hh:(l.take off++(ps.take i).flatten).length=off+lenTo ps i:=by
  unfold lenTo at *
  simp only [List.length_append,List.length_take];omega
 unfold putTo
 rw [List.take_left' hh,← hh,List.drop_append,hh,List.drop_eq_nil_of_le (by omega),List.nil_append,List.drop_drop,flat_succ ps h,e]
 simp only [List.append_assoc]
 congr 4
 omega
def Left (g off L d:Nat) (v:Value):Prop:=∃ ao,v=.slice ao (L-d) (L-d)∧(d<L→ao=some ⟨g,off+d,none⟩)
theorem elemB:Tryz.prog.underlying 84=some (.slice (Tryz.prog.elem 84)):=by kernel_rfl
theorem elemBs (w:World):(sizeOf (Tryz.prog.elem 84)).run Tryz.prog w=.ok 1 w:=by kernel_rfl
theorem left_cut {g off L d:Nat} (k:Nat) (hk:d+k≤L) (hd:d<L) :
 ∃ v',Left g off L (d+k) v'∧∀ w:World,(Instr.sliceAt 84 (.slice (some ⟨g,off+d,none⟩) (L-d) (L-d)) (some (.int .i64 (k:Int))) none none).run Tryz.prog w=.ok v' w:=by
 refine ⟨sliced (some ⟨g,off+d,none⟩) k (L-d) (L-d) 1,?_,fun w=>?_⟩
 ·unfold sliced
  refine ⟨_,by rw [show L-d-k=L-(d+k) by omega],fun h=>?_⟩
  rw [if_neg (by omega),Option.map_some,addr_add]
  simp [Nat.add_assoc]
 ·rw [run_sliceAt_slice w _ _ _ _ _ elemB,run_slice_l w _ _ _ _ elemB _ _ (by omega) (by omega),elemBs]
  rfl
def PutRel (w:World) (g off L:Nat) (T:TypeId) (l:List UInt8) (ps:List (List UInt8)) (k:Nat) (s0 s8:Value) (wx:World):Prop:=
 ∃ i:Nat,i+k=ps.length∧s8=.int .i64 (i:Int)∧Left g off L (lenTo ps i) s0∧RowB wx g T (putTo l off ps i)∧Apart g w wx
theorem put_next {w wr:World} {g off L:Nat} {T:TypeId} {l:List UInt8} {ps:List (List UInt8)} {i k:Nat} {v':Value} (h:i<ps.length) (hk:i+k=ps.length) (hf:off+lenTo ps (i+1)≤l.length) (hl:Left g off L (lenTo ps i+ps[i].length) v') (hr:RowB wr g T (putTo l off ps i)) (ha:Apart g w wr) :
 PutRel w g off L T l ps (k-1) v' (.int .i64 ((i:Int)+1)) (wr.setRow g (Lib.byteCells (putTo l off ps (i+1))).toArray):=
 ⟨i+1,by omega,rfl,by rw [lenTo_succ ps h];exact hl,hr.put _,ha.trans (hr.apart_put _)⟩
theorem put_any (g off L q:Nat) (T:TypeId) (l:List UInt8) (ps:List (List UInt8)) (w:World) (hr:RowB w g T l) (hp:PartsAt w q ps) (hq:q≠g) (hlen:ps.length≤1000) (hfit:∀ i,i<ps.length→lenTo ps i<L) (htot:∀ i,i≤ps.length→lenTo ps i≤L) (hL:off+L≤l.length) (hL2:L≤1000) (h0:0<L) (hqz:q<w.heap.size) :
 Calls Tryz.prog 212 #[.slice (some ⟨g,off,none⟩) L L,.slice (some ⟨q,0,none⟩) ps.length ps.length] w fun e w'=>e=.returned (.tuple #[])∧RowB w' g T (putTo l off ps ps.length)∧Apart g w w':=by
 have R0:=Lib.hid hr
 have HP:=Lib.hid hp
 have HF:=Lib.hid hfit
 have HT:=Lib.hid htot
 clear hr hp hfit htot
 have lz:lenTo ps 0=0:=rfl
 go_enter Tryz.func212,Tryz.ntmps212
 go_wp2
 go_loopg [0,8] (ps.length) (PutRel w g off L T l ps)
 case atStart=>exact ⟨0,by omega,rfl,⟨_,rfl,fun _=>rfl⟩,by rw [putTo_zero];exact R0.out,Apart.refl _ _⟩
 case round=>
  clear R0
  obtain ⟨i,hk,rfl,⟨ao,rfl,hao⟩,hr,ha⟩:=hrel
  have HR:=Lib.hid hr
  have HA:=Lib.hid ha
  rcases Nat.lt_or_ge i ps.length with hlt|hge
  ·obtain rfl:=hao (HF.out i hlt)
   have hd:=HF.out i hlt
   have ht:=HT.out (i+1) (by omega)
   have e:=lenTo_succ ps hlt
   have c:wr.cell? ⟨q,i,none⟩=some (.string (mkB ps[i])):=by rw [ha.cell (p:=⟨q,i,none⟩) hqz hq];exact HP.out i hlt
   have ok:off+lenTo ps i≤l.length:=by omega
   have cp:=hr.copy (mkB ps[i]) (off+lenTo ps i) (L-lenTo ps i) (L-lenTo ps i) (by rw [mkB_size];omega) (by rw [mkB_size,putTo_length ok];omega)
   rw [mkB_data,mkB_size,putTo_succ hlt (by omega)] at cp
   obtain ⟨v',hv,hc⟩:=left_cut (g:=g) (off:=off) (L:=L) (d:=lenTo ps i) ps[i].length (by omega) hd
   have NX:=Lib.hid (fun (k:Nat) (hk:i+k=ps.length)=>put_next (w:=w) (k:=k) hlt hk (by omega) hv HR.out HA.out)
   have il:(i:Int)<(ps.length:Int):=by omega
   generalize mkB ps[i]=p at *
   generalize ps[i].length=pl at *
   generalize lenTo ps i=d at *
   generalize (Lib.byteCells (putTo l off ps (i+1))).toArray=M at *
   clear hr ha hv HF HT e ht HP ok hao
   go_wp2
   go_roundg (gk-1)
   case measure=>omega
   case rel=>exact NX.out gk hk
  ·obtain rfl:i=ps.length:=by omega
   clear hr ha hao HF HT HP
   go_wp2
   go_end0
   exact ⟨rfl,HR.out,HA.out⟩
end Go.Proofs.YteempfoajgblaaaGreat
namespace Go.Proofs.YteempfoajgblaaaGreat
theorem h3_call {w0 w w':World} {b:Nat} {x y z:Value} (h:w.cell? ⟨b,0,none⟩=some x∧w.cell? ⟨b,1,none⟩=some y∧w.cell? ⟨b,2,none⟩=some z∧Below w0.heap.size w0 w) (hb:Below w.heap.size w w') :
 w'.cell? ⟨b,0,none⟩=some x∧w'.cell? ⟨b,1,none⟩=some y∧w'.cell? ⟨b,2,none⟩=some z∧Below w0.heap.size w0 w' :=
 ⟨carry hb h.1,carry hb h.2.1,carry hb h.2.2.1,h.2.2.2.trans (hb.mono h.2.2.2.size)⟩
theorem h3_apart {w0 w w':World} {b t:Nat} {x y z:Value} (h:w.cell? ⟨b,0,none⟩=some x∧w.cell? ⟨b,1,none⟩=some y∧w.cell? ⟨b,2,none⟩=some z∧Below w0.heap.size w0 w) (ha:Apart t w w') (hn:b≠t) (ht:w0.heap.size≤t) :
 w'.cell? ⟨b,0,none⟩=some x∧w'.cell? ⟨b,1,none⟩=some y∧w'.cell? ⟨b,2,none⟩=some z∧Below w0.heap.size w0 w':=by
 have hl:=lt_of_cell h.1
 exact ⟨by rw [ha.cell (p:=⟨b,0,none⟩) hl hn];exact h.1,by rw [ha.cell (p:=⟨b,1,none⟩) hl hn];exact h.2.1,by rw [ha.cell (p:=⟨b,2,none⟩) hl hn];exact h.2.2.1,h.2.2.2.trans (ha.below ht h.2.2.2.size)⟩
theorem h3_drew {w0 w:World} {b:Nat} {x y z:Value} (h:w.cell? ⟨b,0,none⟩=some x∧w.cell? ⟨b,1,none⟩=some y∧w.cell? ⟨b,2,none⟩=some z∧Below w0.heap.size w0 w) :
 w.drew.cell? ⟨b,0,none⟩=some x∧w.drew.cell? ⟨b,1,none⟩=some y∧w.drew.cell? ⟨b,2,none⟩=some z∧Below w0.heap.size w0 w.drew:=⟨h.1,h.2.1,h.2.2.1,h.2.2.2.drew⟩
theorem one_byte (g:Nat) (x:Nat) (hx:x<256) (w:World) (h:w.cell? ⟨g,0,none⟩=some (.int .u8 (x:Int))) (cap:Nat) :
 (convert 84 9 (.slice (some ⟨g,0,none⟩) 1 cap)).run Tryz.prog w=.ok (.string (mkB [UInt8.ofNat x])) w:=by
 have:=run_convert_bytes_back (P:=Tryz.prog) w 84 9 5 ⟨g,0,none⟩ cap [UInt8.ofNat x] Tryz.underlying84 Tryz.underlying5 Tryz.underlying9 (fun j hj=>by
  obtain rfl:j=0:=by simpa using hj
  rw [addr_add]
  simp only [List.getElem_cons_zero,UInt8.toNat_ofNat']
  rw [Nat.mod_eq_of_lt hx]
  exact h)
 exact this
theorem zero64:(∀ w,(zeroValue 98).run Tryz.prog w=.ok (.agg (Lib.byteCells (List.replicate 64 0)).toArray) w)∧(Tryz.prog.info? 98).map (·.size)=some 64:=zero_of_info (by kernel_rfl)
theorem arr64:Tryz.prog.arrayLen 98=64:=by kernel_rfl
theorem arr64u:Tryz.prog.underlying 98=some (.array (Tryz.prog.arrayLen 98) (Tryz.prog.elem 98)):=by kernel_rfl
theorem arr64e (w:World):(sizeOf (Tryz.prog.elem 98)).run Tryz.prog w=.ok 1 w:=by kernel_rfl
theorem slice64 (b:Nat) (w:World):(Instr.sliceAt 98 (.pointer (some ⟨b,0,none⟩)) none none none).run Tryz.prog w=.ok (.slice (some ⟨b,0,none⟩) 64 64) w:=by
 rw [run_sliceAt_array_all w _ _ arr64u,arr64e]
 simp only [Result.andThen,slicedAt,arr64]
 simp [Addr.add]
theorem slice48 (b:Nat) (w:World):(Instr.sliceAt 98 (.pointer (some ⟨b,0,none⟩)) (some (.int .i64 48)) none none).run Tryz.prog w=.ok (.slice (some ⟨b,48,none⟩) 16 16) w:=by
 rw [run_sliceAt_array_l w _ _ arr64u .i64 48 (by omega) (by rw [arr64];omega),arr64e]
 simp only [Result.andThen,slicedAt,arr64]
 simp [Addr.add]
theorem bytes4 (x:Nat) (w:World) (h:Is32 x) :
 Calls Tryz.prog 213 #[.int .u32 (x:Int)] w fun e w'=>e=.returned (.string (mkB (be 4 x)))∧Below w.heap.size w w':=by
 have:=bytes_any x w h
 rw [bytesOf_be h] at this
 exact this
def front (p:List UInt8) (e n:Nat):List (List UInt8):=[[UInt8.ofNat p.length],be 4 (sumOf p e n),p]
def tail (e n:Nat):List (List UInt8):=[be 8 e,be 8 n]
theorem front_len {p:List UInt8} (h:p.length≤43) (e n:Nat) (i:Nat):lenTo (front p e n) i≤48:=by
 unfold lenTo front
 rcases i with _|_|_|i <;> simp [be_length] <;> omega
theorem tail_len (e n:Nat) (i:Nat):lenTo (tail e n) i≤16:=by
 unfold lenTo tail
 rcases i with _|_|i <;> simp [be_length]
theorem tail_less (e n:Nat) {i:Nat} (h:i<2):lenTo (tail e n) i<16:=by
 unfold lenTo tail
 rcases i with _|_|i <;> first|(simp [be_length];done)|omega
def half (p:List UInt8) (e n:Nat):List UInt8:=putTo (List.replicate 64 0) 0 (front p e n) 3
theorem half_eq {p:List UInt8} (h:p.length≤43) (e n:Nat):half p e n=[UInt8.ofNat p.length]++be 4 (sumOf p e n)++p++List.replicate (59-p.length) 0:=by
 have e1:lenTo (front p e n) 3=5+p.length:=by unfold lenTo front;simp [be_length];omega
 have e2:((front p e n).take 3).flatten=[UInt8.ofNat p.length]++be 4 (sumOf p e n)++p:=by unfold front;simp
 unfold half putTo
 rw [e1,e2,List.take_zero,List.nil_append,List.drop_replicate]
 congr 2
 omega
theorem half_length {p:List UInt8} (h:p.length≤43) (e n:Nat):(half p e n).length=64:=by
 rw [half_eq h];simp [be_length];omega
theorem half_sec {p:List UInt8} (h:p.length≤43) (e n:Nat):putTo (half p e n) 48 (tail e n) 2=sec p e n:=by
 have h1:(half p e n).take 48=[UInt8.ofNat p.length]++be 4 (sumOf p e n)++p++List.replicate (43-p.length) 0:=by
  rw [half_eq h,show 59-p.length=(43-p.length)+16 by omega,← List.replicate_append_replicate,← List.append_assoc,List.take_left' (by simp [be_length];omega)]
 unfold putTo
 rw [h1,List.drop_eq_nil_of_le (by rw [half_length h];simp [lenTo,tail,be_length])]
 unfold sec tail
 simp
theorem put_front (g q:Nat) (p:List UInt8) (e n:Nat) (h:p.length≤43) (w:World) (hr:RowB w g 98 (List.replicate 64 0)) (hp:PartsAt w q (front p e n)) (hq:q≠g) (hz:q<w.heap.size) :
 Calls Tryz.prog 212 #[.slice (some ⟨g,0,none⟩) 64 64,.slice (some ⟨q,0,none⟩) 3 3] w fun r w'=>r=.returned (.tuple #[])∧RowB w' g 98 (half p e n)∧Apart g w w' :=
 put_any g 0 64 q _ _ (front p e n) w hr hp hq (by simp [front]) (fun i _=>by have:=front_len h e n i;omega) (fun i _=>by have:=front_len h e n i;omega) (by simp) (by omega) (by omega) hz
theorem put_tail (g q:Nat) (p:List UInt8) (e n:Nat) (h:p.length≤43) (w:World) (hr:RowB w g 98 (half p e n)) (hp:PartsAt w q (tail e n)) (hq:q≠g) (hz:q<w.heap.size) :
 Calls Tryz.prog 212 #[.slice (some ⟨g,48,none⟩) 16 16,.slice (some ⟨q,0,none⟩) 2 2] w fun r w'=>r=.returned (.tuple #[])∧RowB w' g 98 (sec p e n)∧Apart g w w':=by
 have:=put_any g 48 16 q _ _ (tail e n) w hr hp hq (by simp [tail]) (fun i hi=>tail_less e n hi) (fun i _=>tail_len e n i) (by rw [half_length h];omega) (by omega) (by omega) hz
 have e2:putTo (half p e n) 48 (tail e n) (tail e n).length=sec p e n:=half_sec h e n
 rw [e2] at this
 exact this
theorem add_mk (a b:List UInt8) (h:a.length+b.length≤1000000) (w:World):(Op.stringOp .add (mkB a) (mkB b)).run Tryz.prog w=.ok (.string (mkB (a++b))) w:=by
 rw [run_string_add_sum (a:=mkB a) (b:=mkB b) (h:=by rw [mkB_size,mkB_size];omega),mkB_append]
theorem add_of (p:ByteArray) (b:List UInt8) (h:p.size+b.length≤1000000) (w:World):(Op.stringOp .add p (mkB b)).run Tryz.prog w=.ok (.string (mkB (p.data.toList++b))) w:=by
 have:=add_mk p.data.toList b (by rw [← size_list];exact h) w
 rwa [mkB_of] at this
theorem sum_cell {p:ByteArray} {e n:Nat} (h:p.size≤43) (b:Nat) (w:World) (ht:Tbl w b) :
 Calls Tryz.prog 211 #[.pointer (some ⟨b,0,none⟩),.string (mkB (content p.data.toList e n))] w fun r w'=>r=.returned (.int .u32 (sumOf p.data.toList e n:Int))∧Full w' b∧Apart b w w' :=
 sum_any b _ w ht (by rw [mkB_size];unfold content;simp [be_length];omega)
theorem partsAt_new (w:World) (ps:List (List UInt8)) (C:Array Value) (T:TypeId) (h:C=(ps.map fun l=>Value.string (mkB l)).toArray):PartsAt (w.alloc (.cells C T)) w.heap.size ps:=by
 subst h
 intro i hi
 simp [go_sem,hi]
theorem front_cells (p:ByteArray) (e n:Nat):(#[.string (mkB [UInt8.ofNat p.size]),.string (mkB (be 4 (sumOf p.data.toList e n))),.string p]:Array Value)=((front p.data.toList e n).map fun l=>Value.string (mkB l)).toArray:=by
 unfold front
 rw [← size_list]
 simp [mkB_of]
theorem tail_cells (e n:Nat):(#[.string (mkB (be 8 e)),.string (mkB (be 8 n))]:Array Value)=((tail e n).map fun l=>Value.string (mkB l)).toArray:=by simp [tail]
theorem make_no (p:ByteArray) (e n:Int) (w:World) (hp:43<p.size) :
 Calls Tryz.prog 187 #[.agg #[.string p,.int .u64 e,.int .u64 n]] w fun r w'=>r=.returned (.tuple #[.string ⟨#[]⟩,.int .i64 1])∧Below w.heap.size w w':=by
 go_enter Tryz.func187,Tryz.ntmps187
 go_wp2
 refine bodyPost_ret (v:=.tuple #[.string ⟨#[]⟩,.int .i64 1]) (by simp [results,Tryz.results187,go_sem]) rfl ⟨rfl,(Below.refl _ _).alloc (Nat.le_refl _) _⟩
theorem make_yes (p:ByteArray) (e n:Nat) (w:World) (hp:p.size≤43) (he:e<18446744073709551616) (hn:n<18446744073709551616) :
 Calls Tryz.prog 187 #[.agg #[.string p,.int .u64 (e:Int),.int .u64 (n:Int)]] w fun r w'=>r=.returned (.tuple #[.string (mkB (sec p.data.toList e n)),.int .i64 0])∧Below w.heap.size w w':=by
 have B1:=Lib.hid (fun w=>bytes8 e w he)
 have B2:=Lib.hid (fun w=>bytes8 n w hn)
 have ob:=one_byte (w.heap.size+1) p.size (by omega) ((w.alloc (.cells #[.string p,.int .u64 (e:Int),.int .u64 (n:Int)] 204)).alloc (.cells #[.int .u8 (p.size:Int)] 5)) (by simp [go_sem]) 1
 have hm:(p.size:Int)%256=(p.size:Int):=by omega
 go_enter Tryz.func187,Tryz.ntmps187
 have K0:Hid ((fun w'=>w'.cell? ⟨w.heap.size,0,none⟩=some (.string p)∧w'.cell? ⟨w.heap.size,1,none⟩=some (.int .u64 (e:Int))∧w'.cell? ⟨w.heap.size,2,none⟩=some (.int .u64 (n:Int))∧Below w.heap.size w w') ((w.alloc (.cells #[.string p,.int .u64 (e:Int),.int .u64 (n:Int)] 204)).alloc (.cells #[.int .u8 (p.size:Int)] 5))):=Lib.hid ⟨by simp [go_sem],by simp [go_sem],by simp [go_sem],((Below.refl _ _).alloc (Nat.le_refl _) _).alloc (by simp) _⟩
 simp only at K0
 go_wp2_with fail
 go_region_held3 (fun w'=>w'.cell? ⟨w.heap.size,0,none⟩=some (.string p)∧w'.cell? ⟨w.heap.size,1,none⟩=some (.int .u64 (e:Int))∧w'.cell? ⟨w.heap.size,2,none⟩=some (.int .u64 (n:Int))∧Below w.heap.size w w') (first|exact K0.out|exact h3_drew K0.out|assumption)
  (first
   | (go_at_call 209;(with_reducible refine (B1.out _).mono ?_);rintro r w1 ⟨rfl,b1⟩;(have k1:=h3_call (w0:=w) (b:=w.heap.size) (x:=.string p) (y:=.int .u64 (e:Int)) (z:=.int .u64 (n:Int)) (by first|exact h3_drew K0.out|exact K0.out|assumption) b1))
   | (go_at_call 209;(with_reducible refine (B2.out _).mono ?_);rintro r w2 ⟨rfl,b2⟩;(have k2:=h3_call k1 b2))
   | fail)
 clear K0 B1 B2 b1 b2 k1 ob hm
 have K2:=Lib.hid k2
 have lt2:w.heap.size<w2.heap.size:=lt_of_cell k2.1
 clear k2
 have d1:=add_of p (be 8 e) (by rw [be_length];omega)
 have d2:=add_mk (p.data.toList++be 8 e) (be 8 n) (by rw [List.length_append,← size_list,be_length,be_length];omega)
 rw [show p.data.toList++be 8 e++be 8 n=content p.data.toList e n by unfold content;rw [List.append_assoc]] at d2
 have SM:=Lib.hid (fun (b:Nat) (W:World) (ht:Tbl W b)=>sum_cell (e:=e) (n:=n) hp b W ht)
 go_wp2_with fail
 go_region_held3 (fun w'=>w'.cell? ⟨w.heap.size,0,none⟩=some (.string p)∧w'.cell? ⟨w.heap.size,1,none⟩=some (.int .u64 (e:Int))∧w'.cell? ⟨w.heap.size,2,none⟩=some (.int .u64 (n:Int))∧Below w.heap.size w w') (first|exact K2.out|exact h3_drew K2.out|assumption)
  (first
   | (go_at_call 210;(with_reducible refine (new_any _).mono ?_);rintro r w3 ⟨rfl,hw3⟩;(have k3:=h3_call (w0:=w) (b:=w.heap.size) (x:=.string p) (y:=.int .u64 (e:Int)) (z:=.int .u64 (n:Int)) (by first|exact h3_drew K2.out|exact K2.out) (show Below _ _ w3 from by rw [hw3];exact (Below.refl _ _).alloc (Nat.le_refl _) _));(have t3:Tbl w3 w2.heap.size:=by rw [hw3];exact (fresh_new _ _).tbl);(clear hw3))
   | (go_at_call 211;(with_reducible refine (SM.out _ _ t3).mono ?_);rintro r w4 ⟨rfl,f4,a4⟩;(have k4:=h3_apart k3 a4 (by omega) (by omega)))
   | fail)
 clear SM K2 k3 t3 f4 a4 d1 d2 lt2
 have z:=zero64.1
 have s64:=slice64
 have s48:=slice48
 have BY:=Lib.hid (fun w=>bytes4 (sumOf p.data.toList e n) w (sumOf_is32 _ _ _))
 have R4:=Lib.hid (rowB_new w4 (List.replicate 64 0) 98)
 have K4:=Lib.hid (h3_call k4 ((Below.refl _ _).alloc (Nat.le_refl _) (.cells (Lib.byteCells (List.replicate 64 0)).toArray 98)))
 have lt4:w.heap.size<w4.heap.size:=lt_of_cell k4.1
 have hl:p.data.toList.length≤43:=by rw [← size_list];exact hp
 have PF:=Lib.hid (fun (q:Nat) (W:World) (hr:RowB W w4.heap.size 98 (List.replicate 64 0)) (hp:PartsAt W q (front p.data.toList e n)) (hq:q≠w4.heap.size) (hz:q<W.heap.size)=>put_front w4.heap.size q p.data.toList e n hl W hr hp hq hz)
 have PT:=Lib.hid (fun (q:Nat) (W:World) (hr:RowB W w4.heap.size 98 (half p.data.toList e n)) (hp:PartsAt W q (tail e n)) (hq:q≠w4.heap.size) (hz:q<W.heap.size)=>put_tail w4.heap.size q p.data.toList e n hl W hr hp hq hz)
 clear k4
 generalize (Lib.byteCells (List.replicate 64 0)).toArray=M at *
 go_wp2_with fail
 go_region_held3 (fun w'=>w'.cell? ⟨w.heap.size,0,none⟩=some (.string p)∧w'.cell? ⟨w.heap.size,1,none⟩=some (.int .u64 (e:Int))∧w'.cell? ⟨w.heap.size,2,none⟩=some (.int .u64 (n:Int))∧Below w.heap.size w w') (first|exact K4.out|exact h3_drew K4.out|assumption|exact h3_call k5 ((Below.refl _ _).alloc (Nat.le_refl _) _))
  (first
   | (go_at_call 213;(with_reducible refine (BY.out _).mono ?_);rintro r w5 ⟨rfl,b5⟩;(have k5:=h3_call (w0:=w) (b:=w.heap.size) (x:=.string p) (y:=.int .u64 (e:Int)) (z:=.int .u64 (n:Int)) (by first|exact h3_drew K4.out|exact K4.out) b5);(have r5:=R4.out.drew.call b5);(have lt5:=r5.lt))
   | (go_at_call 212;(with_reducible refine (PF.out w5.heap.size _ (r5.alloc _) (partsAt_new _ _ _ _ (front_cells p e n)) (by omega) (by simp)).mono ?_);rintro r w6 ⟨rfl,r6,a6⟩;(have k6:=h3_apart (h3_call k5 ((Below.refl _ _).alloc (Nat.le_refl _) _)) a6 (by omega) (by omega)))
   | fail)
 have lt6:=r6.lt
 have b6:=k6.2.2.2
 clear k6 k5 a6 b5 r5 lt5 R4 K4 PF BY z
 go_wp2_with fail
 (with_reducible refine (PT.out w6.heap.size _ (r6.alloc _) (partsAt_new _ _ _ _ (tail_cells e n)) (by omega) (by simp)).mono ?_)
 rintro r w7 ⟨rfl,r7,a7⟩
 have B7:=Lib.hid ((b6.alloc b6.size _).trans (a7.below (by omega) (by have:=b6.size;simp;omega)))
 have hcv:=r7.text 0 64 64 (by rw [sec_length hl];omega)
 rw [List.drop_zero,List.take_of_length_le (by rw [sec_length hl];omega)] at hcv
 clear r7 a7 r6 b6 PT
 go_wp2
 refine bodyPost_ret (v:=.tuple #[.string (mkB (sec p.data.toList e n)),.int .i64 0]) (by simp [results,Tryz.results187,go_sem]) rfl ⟨rfl,B7.out⟩
end Go.Proofs.YteempfoajgblaaaGreat
namespace Go.Proofs.YteempfoajgblaaaGreat
theorem ext_list (s:ByteArray) (a c:Nat):(s.extract a c).data.toList=(s.data.toList.drop a).take (c-a):=by
 rw [ByteArray.data_extract];simp [List.take_drop]
def tagE (l:List UInt8):Nat:=if l.length=64 then epochOf l else 0
def tagN (l:List UInt8):Nat:=if l.length=64 then numberOf l else 0
theorem tag_no (s:ByteArray) (w:World) (h:s.size≠64) :
 Calls Tryz.prog 150 #[.string s] w fun r w'=>r=.returned (.tuple #[.int .u64 0,.int .u64 0,.bool false])∧Below w.heap.size w w':=by
 have h1:((s.size:Int) != 64)=true:=by simp;omega
 have h2:¬(s.size:Int)=64:=by omega
 go_enter Tryz.func150,Tryz.ntmps150
 go_wp2
 refine bodyPost_ret (v:=.tuple #[.int .u64 0,.int .u64 0,.bool false]) (by simp [results,Tryz.results150,go_sem]) rfl ⟨rfl,Below.refl _ _⟩
theorem tag_yes (s:ByteArray) (w:World) (h:s.size=64) :
 Calls Tryz.prog 150 #[.string s] w fun r w'=>r=.returned (.tuple #[.int .u64 (epochOf s.data.toList:Int),.int .u64 (numberOf s.data.toList:Int),.bool true])∧Below w.heap.size w w':=by
 have hi:(s.size:Int)=64:=by omega
 obtain ⟨T,hT⟩:∃ T,T=s.extract 48 64:=⟨_,rfl⟩
 obtain ⟨U,hU⟩:∃ U,U=T.extract 8 16:=⟨_,rfl⟩
 have zT:T.size=16:=by rw [hT,ByteArray.size_extract];omega
 have zU:U.size=8:=by rw [hU,ByteArray.size_extract];omega
 have eA:val (T.extract 0 8).data.toList=epochOf s.data.toList:=by
  rw [ext_list,hT,ext_list];unfold epochOf;simp [List.take_take]
 have eB:val (U.extract 0 8).data.toList=numberOf s.data.toList:=by
  rw [ext_list,hU,ext_list,hT,ext_list];unfold numberOf;simp [List.take_take,List.drop_take,List.drop_drop]
 have zA:(T.extract 0 8).size≤8:=by rw [ByteArray.size_extract];omega
 have zB:(U.extract 0 8).size≤8:=by rw [ByteArray.size_extract];omega
 have NA:=Lib.hid (fun w=>num_any (T.extract 0 8) w zA)
 have NB:=Lib.hid (fun w=>num_any (U.extract 0 8) w zB)
 rw [eA] at NA
 rw [eB] at NB
 have N1:=Lib.hid (fun (b:Nat) (W:World) h=>next_of w b 8 8 rfl T W (by omega) h)
 rw [zT,← hU] at N1
 have N2:=Lib.hid (fun (b:Nat) (W:World) h=>next_of w b 8 8 rfl U W (by omega) h)
 rw [zU] at N2
 have x1:s.extract 48 64=T:=hT.symm
 clear eA eB zA zB hT hU
 generalize T.extract 0 8=A at *
 generalize U.extract 0 8=B at *
 generalize U.extract 8 8=V at *
 generalize epochOf s.data.toList=E at *
 generalize numberOf s.data.toList=M at *
 go_enter Tryz.func150,Tryz.ntmps150
 go_wp2_with fail
 (with_reducible refine (parts_of w T _ (Below.refl _ _)).mono ?_)
 rintro r w1 ⟨rfl,p1,-⟩
 go_wp2_with fail
 (with_reducible refine (N1.out _ _ p1).mono ?_)
 rintro r w2 ⟨rfl,p2,-⟩
 go_wp2_with fail
 (with_reducible refine (NA.out _).mono ?_)
 rintro r w3 ⟨rfl,rfl⟩
 go_wp2_with fail
 (with_reducible refine (N2.out _ _ p2).mono ?_)
 rintro r w4 ⟨rfl,p4,-⟩
 go_wp2_with fail
 (with_reducible refine (NB.out _).mono ?_)
 rintro r w5 ⟨rfl,rfl⟩
 have bl:=Lib.hid p4.bel
 clear p4 p2 p1 N1 N2 NA NB
 go_wp2
 refine bodyPost_ret (v:=.tuple #[.int .u64 (E:Int),.int .u64 (M:Int),.bool true]) (by simp [results,Tryz.results150,go_sem]) rfl ⟨rfl,bl.out⟩
theorem tag_any (s:ByteArray) (w:World) :
 Calls Tryz.prog 150 #[.string s] w fun r w'=>r=.returned (.tuple #[.int .u64 (tagE s.data.toList:Int),.int .u64 (tagN s.data.toList:Int),.bool (decide (s.size=64))])∧Below w.heap.size w w':=by
 unfold tagE tagN
 by_cases h:s.size=64
 · rw [if_pos (by rw [← size_list];exact h),if_pos (by rw [← size_list];exact h),decide_eq_true h];exact tag_yes s w h
 · rw [if_neg (by rw [← size_list];exact h),if_neg (by rw [← size_list];exact h),decide_eq_false h];exact tag_no s w h
def cellOf (o:Option Cl):Value:=match o with|some c=>.agg #[.string (mkB c.1),.int .u64 (c.2.1:Int),.int .u64 (c.2.2:Int)]|none=>.agg #[.string ⟨#[]⟩,.int .u64 0,.int .u64 0]
theorem toList_mkB (l:List UInt8):(mkB l).toList=l:=by rw [ByteArray.toList_eq,mkB_data]
theorem toList_of (s:ByteArray):s.toList=s.data.toList:=ByteArray.toList_eq s
theorem rdc_size {l:List UInt8} (h:l.length≠64):rdc l=none:=by unfold rdc;rw [if_neg (fun c=>h c.1)]
theorem rdc_first {l:List UInt8} (h:43<(l.headD 0).toNat):rdc l=none:=by unfold rdc;rw [if_neg (fun c=>by have:=c.2.1;omega)]
theorem head_byte {s:ByteArray} (h:0<s.size):(s.data.toList.headD 0).toNat=byteAt s 0:=by
 unfold byteAt
 rw [dif_pos h,ByteArray.getElem_eq_getElem_data]
 have h':0<s.data.toList.length:=by simpa using h
 cases hs:s.data.toList with
 | nil=>rw [hs] at h';simp at h'
 | cons a r=>
  have:s.data[0]'h=s.data.toList[0]'h':=rfl
  rw [this]
  simp [hs]
structure Res (w0 w:World):Prop where
 c0:w.cell? ⟨w0.heap.size,0,none⟩=some (.string ⟨#[]⟩)
 c1:w.cell? ⟨w0.heap.size,1,none⟩=some (.int .u64 0)
 c2:w.cell? ⟨w0.heap.size,2,none⟩=some (.int .u64 0)
 f0:w.frozen? ⟨w0.heap.size,0,none⟩=false
 f1:w.frozen? ⟨w0.heap.size,1,none⟩=false
 f2:w.frozen? ⟨w0.heap.size,2,none⟩=false
 bel:Below w0.heap.size w0 w
theorem res_new (w:World):Res w (w.alloc (.cells #[.string ⟨#[]⟩,.int .u64 0,.int .u64 0] 204)):=
 ⟨by simp [go_sem],by simp [go_sem],by simp [go_sem],by simp [go_sem],by simp [go_sem],by simp [go_sem],(Below.refl _ _).alloc (Nat.le_refl _) _⟩
theorem Res.lt {w0 w:World} (h:Res w0 w):w0.heap.size<w.heap.size:=lt_of_cell h.c0
theorem Res.block {w0 w w':World} (h:Res w0 w) (e:w'.heap[w0.heap.size]?=w.heap[w0.heap.size]?) (hb:Below w0.heap.size w0 w'):Res w0 w' :=
 ⟨(World.cell?_of_block (w:=w) e).trans h.c0,(World.cell?_of_block (w:=w) e).trans h.c1,(World.cell?_of_block (w:=w) e).trans h.c2,(World.frozen?_of_block (w:=w) e).trans h.f0,(World.frozen?_of_block (w:=w) e).trans h.f1,(World.frozen?_of_block (w:=w) e).trans h.f2,hb⟩
theorem Res.call {w0 w w':World} (h:Res w0 w) (hb:Below w.heap.size w w'):Res w0 w':=h.block (hb.block _ h.lt) (h.bel.trans (hb.mono h.bel.size))
theorem Res.apart {w0 w w':World} {b:Nat} (h:Res w0 w) (ha:Apart b w w') (hb:w0.heap.size<b):Res w0 w':=h.block (ha.block _ h.lt (by omega)) (h.bel.trans (ha.below (by omega) h.bel.size))
theorem Res.set {w0 w:World} (h:Res w0 w) (x y z:Value):Below w0.heap.size w0 (((w.setCell ⟨w0.heap.size,0,none⟩ x).setCell ⟨w0.heap.size,1,none⟩ y).setCell ⟨w0.heap.size,2,none⟩ z):=
 ((h.bel.setCell (Nat.le_refl _) _).setCell (Nat.le_refl _) _).setCell (Nat.le_refl _) _
theorem read_size (s:ByteArray) (w:World) (h:s.size≠64) :
 Calls Tryz.prog 151 #[.string s] w fun r w'=>r=.returned (.tuple #[cellOf (rdc s.data.toList),.bool (rdc s.data.toList).isSome])∧Below w.heap.size w w':=by
 rw [rdc_size (by rw [← size_list];exact h)]
 have T:=Lib.hid (fun w=>tag_no s w h)
 go_enter Tryz.func151,Tryz.ntmps151
 go_wp2_with fail
 (with_reducible refine (T.out _).mono ?_)
 rintro r w1 ⟨rfl,b1⟩
 have R1:=Lib.hid ((res_new w).call b1)
 have c0:=R1.out.c0
 have c1:=R1.out.c1
 have c2:=R1.out.c2
 have f0:=R1.out.f0
 have f1:=R1.out.f1
 have f2:=R1.out.f2
 clear b1
 go_wp2
 refine bodyPost_ret (v:=.tuple #[.agg #[.string ⟨#[]⟩,.int .u64 0,.int .u64 0],.bool false]) (by simp [results,Tryz.results151,go_sem,c0,c1,c2]) rfl ⟨rfl,R1.out.set _ _ _⟩
theorem read_64 (s:ByteArray) (w:World) (h:s.size=64) :
 Calls Tryz.prog 151 #[.string s] w fun r w'=>r=.returned (.tuple #[cellOf (rdc s.data.toList),.bool (rdc s.data.toList).isSome])∧Below w.heap.size w w':=by
 have T:=Lib.hid (fun w=>tag_yes s w h)
 have hi:(s.size:Int)=64:=by omega
 have hb:=byteAt_eq (s:=s) (i:=0) (by omega)
 have hk:=head_byte (s:=s) (by omega)
 have hlt:=byteAt_lt s 0
 by_cases h43:43<byteAt s 0
 ·rw [rdc_first (by rw [hk];exact h43)]
  generalize epochOf s.data.toList=E at *
  generalize numberOf s.data.toList=M at *
  generalize byteAt s 0=k at *
  have hk3:decide ((43:Int)<(k:Int))=true:=by simp;omega
  clear hk
  go_enter Tryz.func151,Tryz.ntmps151
  go_wp2_with fail
  (with_reducible refine (T.out _).mono ?_)
  rintro r w1 ⟨rfl,b1⟩
  have R1:=Lib.hid ((res_new w).call b1)
  have c0:=R1.out.c0
  have c1:=R1.out.c1
  have c2:=R1.out.c2
  have f0:=R1.out.f0
  have f1:=R1.out.f1
  have f2:=R1.out.f2
  clear b1
  go_wp2
  refine bodyPost_ret (v:=.tuple #[.agg #[.string ⟨#[]⟩,.int .u64 0,.int .u64 0],.bool false]) (by simp [results,Tryz.results151,go_sem,c0,c1,c2]) rfl ⟨rfl,R1.out.set _ _ _⟩
 ·have h43':byteAt s 0≤43:=by omega
  have hE:=epochOf_lt s.data.toList
  have hM:=numberOf_lt s.data.toList
  have hP:payOf s.data.toList=((s.extract 5 64).extract 0 (byteAt s 0)).data.toList:=by
   unfold payOf;rw [hk,ext_list,ext_list,List.drop_zero,List.take_take]
   congr 1
   omega
  have l64:s.data.toList.length=64:=by rw [← size_list];exact h
  have RD:Hid (rdc s.data.toList=if mkB (sec (payOf s.data.toList) (epochOf s.data.toList) (numberOf s.data.toList))=s then some (payOf s.data.toList,epochOf s.data.toList,numberOf s.data.toList) else none):=Lib.hid (by
   unfold rdc
   by_cases hc:sec (payOf s.data.toList) (epochOf s.data.toList) (numberOf s.data.toList)=s.data.toList
   · rw [if_pos ⟨l64,by rw [hk];exact h43',hc⟩,if_pos (by rw [hc,mkB_of])]
   · rw [if_neg (fun c=>hc c.2.2),if_neg (fun c=>hc (by rw [← mkB_data (sec _ _ _),c]))])
  have zP:((s.extract 5 64).extract 0 (byteAt s 0)).size≤43:=by rw [ByteArray.size_extract];omega
  have MK:=Lib.hid (fun w=>make_yes ((s.extract 5 64).extract 0 (byteAt s 0)) _ _ w zP hE hM)
  have CL:=Lib.hid (fun w=>clone_any ((s.extract 5 64).extract 0 (byteAt s 0)) w (by omega))
  rw [hP] at RD
  have N1:=Lib.hid (fun (b:Nat) (W:World) h=>next_of w b 1 1 rfl s W (by omega) h)
  have N2:=Lib.hid (fun (b:Nat) (W:World) h=>next_of w b 4 4 rfl (s.extract 1 64) W (by rw [ByteArray.size_extract];omega) h)
  have N3:=Lib.hid (fun (b:Nat) (W:World) h=>next_of w b (byteAt s 0) _ rfl (s.extract 5 64) W (by rw [ByteArray.size_extract];omega) h)
  have y1:(s.extract 1 64).size=63:=by rw [ByteArray.size_extract];omega
  have y2:(s.extract 1 64).extract 4 63=s.extract 5 64:=by
   rw [← mkB_of ((s.extract 1 64).extract 4 63),← mkB_of (s.extract 5 64)]
   rw [ext_list,ext_list,ext_list,List.drop_take,List.drop_drop,List.take_take]
   simp
  rw [h] at N1
  rw [y1,y2] at N2
  have z1:(s.extract 0 1).size=1:=by rw [ByteArray.size_extract];omega
  have b1':byteAt (s.extract 0 1) 0=byteAt s 0:=by
   rw [← head_byte (s:=s.extract 0 1) (by omega),← hk,ext_list]
   cases s.data.toList <;> rfl
  generalize s.extract 0 1=A1 at *
  have z1i:(A1.size:Int)=1:=by omega
  have b1:=byteAt_eq (s:=A1) (i:=0) (by omega)
  rw [b1'] at b1
  generalize (s.extract 5 64).extract 0 (byteAt s 0)=P at *
  generalize epochOf s.data.toList=E at *
  generalize numberOf s.data.toList=M at *
  generalize (s.extract 5 64).extract (byteAt s 0) (s.extract 5 64).size=V at *
  generalize byteAt s 0=k at *
  have hk3:decide ((43:Int)<(k:Int))=false:=by simp;omega
  have hm:(k:Int)%18446744073709551616=(k:Int):=by omega
  clear hk hP l64 y1 y2 b1' zP hE hM
  go_enter Tryz.func151,Tryz.ntmps151
  go_wp2_with fail
  (with_reducible refine (T.out _).mono ?_)
  rintro r w1 ⟨rfl,b1⟩
  have R1:=(res_new w).call b1
  clear b1
  go_wp2_with fail
  (with_reducible refine (parts_of w s _ R1.bel).mono ?_)
  rintro r w2 ⟨rfl,p2,b2⟩
  have R2:=R1.call b2
  have lt1:=R1.lt
  generalize w1.heap.size=g at *
  clear b2 R1
  go_wp2_with fail
  (with_reducible refine (N1.out _ _ p2).mono ?_)
  rintro r w3 ⟨rfl,p3,a3⟩
  have R3:=R2.apart a3 lt1
  clear R2 a3 p2
  go_wp2_with fail
  (with_reducible refine (N2.out _ _ p3).mono ?_)
  rintro r w4 ⟨rfl,p4,a4⟩
  have R4:=R3.apart a4 lt1
  clear R3 a4 p3
  go_wp2_with fail
  (with_reducible refine (N3.out _ _ p4).mono ?_)
  rintro r w5 ⟨rfl,p5,a5⟩
  have R5:=R4.apart a5 lt1
  clear R4 a5 p4 p5
  go_wp2_with fail
  (with_reducible refine (CL.out _).mono ?_)
  rintro r w6 ⟨rfl,b6⟩
  have R6:=R5.call b6
  clear R5 b6 N1 N2 N3 CL
  go_wp2_with fail
  (with_reducible refine (MK.out _).mono ?_)
  rintro r w7 ⟨rfl,b7⟩
  have R7:=Lib.hid ((R6.call ((Below.refl _ _).alloc (Nat.le_refl _) _)).call b7)
  have q0:=carry b7 (p:=⟨w6.heap.size,0,none⟩) (v:=.string P) (by simp [go_sem])
  have q1:=carry b7 (p:=⟨w6.heap.size,1,none⟩) (v:=.int .u64 (E:Int)) (by simp [go_sem])
  have q2:=carry b7 (p:=⟨w6.heap.size,2,none⟩) (v:=.int .u64 (M:Int)) (by simp [go_sem])
  have c0:=R7.out.c0
  have c1:=R7.out.c1
  have c2:=R7.out.c2
  have f0:=R7.out.f0
  have f1:=R7.out.f1
  have f2:=R7.out.f2
  have ne:¬w6.heap.size=w.heap.size:=by have:=R6.lt;omega
  have ne2:¬w.heap.size=w6.heap.size:=by omega
  clear b7 R6 MK T lt1
  by_cases hc:mkB (sec P.data.toList E M)=s
  ·have HR:Hid (rdc s.data.toList=some (P.data.toList,E,M)):=Lib.hid (by rw [RD.out,if_pos hc])
   rw [hc]
   have t1:(s.toList != s.toList)=false:=by simp
   have e:(Value.agg #[.string P,.int .u64 (E:Int),.int .u64 (M:Int)])=cellOf (some (P.data.toList,E,M)):=by
    show _=Value.agg #[.string (mkB P.data.toList),.int .u64 (E:Int),.int .u64 (M:Int)]
    rw [mkB_of]
   have Q:=Lib.hid e
   clear RD hc e
   go_wp2
   refine bodyPost_ret (v:=.tuple #[.agg #[.string P,.int .u64 (E:Int),.int .u64 (M:Int)],.bool true]) (by simp [results,Tryz.results151,go_sem,c0,c1,c2]) rfl ⟨by rw [Q.out,HR.out];rfl,R7.out.set _ _ _⟩
  ·have HR:Hid (rdc s.data.toList=none):=Lib.hid (by rw [RD.out,if_neg hc])
   have t1:((mkB (sec P.data.toList E M)).toList != s.toList)=true:=by
    rw [toList_mkB,toList_of]
    simp
    intro e
    exact hc (by rw [e,mkB_of])
   have t2:((mkB (sec P.data.toList E M)).toList==s.toList)=false:=by simpa [bne] using t1
   generalize mkB (sec P.data.toList E M)=X at *
   clear RD hc
   go_wp2
   refine bodyPost_ret (v:=.tuple #[.agg #[.string ⟨#[]⟩,.int .u64 0,.int .u64 0],.bool false]) (by simp [results,Tryz.results151,go_sem,c0,c1,c2]) rfl ⟨by rw [HR.out];rfl,R7.out.set _ _ _⟩
theorem read_any (s:ByteArray) (w:World) :
 Calls Tryz.prog 151 #[.string s] w fun r w'=>r=.returned (.tuple #[cellOf (rdc s.data.toList),.bool (rdc s.data.toList).isSome])∧Below w.heap.size w w':=by
 by_cases h:s.size=64
 · exact read_64 s w h
 · exact read_size s w h
end Go.Proofs.YteempfoajgblaaaGreat
namespace Go.Proofs.YteempfoajgblaaaGreat
theorem chunks_len (l:List UInt8):(chunks l).length≤l.length+1:=by
 induction h:l.length using Nat.strongRecOn generalizing l with
 | _ n ih=>
  by_cases c:43<l.length
  ·rw [chunks_long c,List.length_cons]
   have:=ih (l.drop 43).length (by simp;omega) (l.drop 43) rfl
   simp at this
   omega
  · rw [chunks_short (by omega)];simp
theorem chunks_ne (l:List UInt8):chunks l≠[]:=by
 by_cases c:43<l.length
 · rw [chunks_long c];simp
 · rw [chunks_short (by omega)];simp
theorem ext_head (s:ByteArray) (n:Nat):s.extract 0 n=mkB (s.data.toList.take n):=mkB_ext (by rw [ext_list];simp)
theorem ext_tail (s:ByteArray) (n:Nat):s.extract n s.size=mkB (s.data.toList.drop n):=mkB_ext (by rw [ext_list,List.take_of_length_le (by simp)])
def ChRel (w:World) (l:List UInt8) (g:Nat) (s0 s3:Value) (wx:World):Prop:=
 ∃ ds r,g=r.length∧s0=.string (mkB r)∧chunks l=ds++chunks r∧Strs w.heap.size wx s3 ds∧Below w.heap.size w wx
theorem chunks_any (s:ByteArray) (w:World) (hs:s.size≤1000) :
 Calls Tryz.prog 188 #[.string s] w fun r w'=>(∃ v,r=.returned v∧Strs w.heap.size w' v (chunks s.data.toList))∧Below w.heap.size w w':=by
 obtain ⟨wm,hmk,sm,bm⟩:=make_strs w.heap.size (s.size/43+1) ((s.size:Int)/43+1) (by omega) (by omega) w (Nat.le_refl _)
 have SM:=Lib.hid sm
 have BM:=Lib.hid bm
 have cl:=chunks_len s.data.toList
 rw [← size_list] at cl
 have hS:=Lib.hid (mkB_of s).symm
 have zz:=Lib.hid (size_list s)
 generalize s.data.toList=l at *
 clear sm bm
 have t1:(s.size:Int).tdiv 43=(s.size:Int)/43:=Int.tdiv_eq_ediv_of_nonneg (by omega)
 go_enter Tryz.func188,Tryz.ntmps188
 go_wp2_with fail
 go_step3
 go_wp2_with fail
 go_step3
 go_wp2_with fail
 go_loopg [0,3] (s.size) (ChRel w l)
 case atStart=>exact ⟨[],l,by rw [zz.out],by rw [hS.out],rfl,SM.out,BM.out⟩
 case round=>
  clear SM BM hmk
  obtain ⟨ds,r,rfl,rfl,hc,st,bl⟩:=hrel
  have dl:ds.length≤1001:=by have:=congrArg List.length hc;rw [List.length_append] at this;omega
  have zr:=mkB_size r
  have ST:=Lib.hid st
  have BL:=Lib.hid bl
  clear st bl
  have e1:=ext_head (mkB r) 43
  have e2:=ext_tail (mkB r) 43
  rw [mkB_data] at e1
  rw [mkB_data,mkB_size] at e2
  have CC:=Lib.hid hc
  clear hc
  rcases Nat.lt_or_ge 43 r.length with hlt|hge
  ·have CL:=Lib.hid (fun w=>clone_any (mkB (r.take 43)) w (by rw [mkB_size];simp;omega))
   have zr':43<(mkB r).size:=by omega
   have zi:(43:Int)<((mkB r).size:Int):=by omega
   have nx:Hid (chunks l=(ds++[r.take 43])++chunks (r.drop 43)):=Lib.hid (by rw [CC.out,chunks_long hlt];simp)
   have dr:(r.drop 43).length=r.length-43:=by simp
   generalize mkB r=R at *
   generalize hX:mkB (r.take 43)=X at *
   generalize hY:mkB (r.drop 43)=Y at *
   go_wp2_with fail
   (with_reducible refine (CL.out _).mono ?_)
   rintro e w1 ⟨rfl,b1⟩
   have s1:=ST.out.call b1
   have b01:=BL.out.trans (b1.mono BL.out.size)
   obtain ⟨v',w',hap,s2,b2⟩:=strs_append w.heap.size w1 _ ds (r.take 43) s1 b01.size (by omega)
   rw [hX] at hap
   have N:=Lib.hid (show ChRel w l (r.drop 43).length (.string (mkB (r.drop 43))) v' w' from ⟨_,_,rfl,rfl,nx.out,s2,b01.trans b2⟩)
   rw [hY] at N
   clear s1 b01 s2 b2 b1 CL nx hX hY ST BL CC
   go_wp2_with (at_builtin;refine Lib.wpList_append_run _ rfl _ _ _ _ rfl _ _ rfl rfl _ _ hap ?_)
   go_roundg (r.drop 43).length
   case measure=>omega
   case rel=>exact N.out
  ·have CL:=Lib.hid (fun w=>clone_any (mkB r) w (by rw [mkB_size];omega))
   have zi:((mkB r).size:Int)≤43:=by omega
   generalize hX:mkB r=X at *
   go_wp2_with fail
   (with_reducible refine (CL.out _).mono ?_)
   rintro e w1 ⟨rfl,b1⟩
   have s1:=ST.out.call b1
   have b01:=BL.out.trans (b1.mono BL.out.size)
   obtain ⟨v',w',hap,s2,b2⟩:=strs_append w.heap.size w1 _ ds r s1 b01.size (by omega)
   rw [hX] at hap
   have N:=Lib.hid (show Strs w.heap.size w' v' (chunks l) from by rw [CC.out,chunks_short hge];exact s2)
   have BN:=Lib.hid (b01.trans b2)
   clear s1 b01 s2 b2 b1 CL hX ST BL CC
   go_wp2_with (at_builtin;refine Lib.wpList_append_run _ rfl _ _ _ _ rfl _ _ rfl rfl _ _ hap ?_)
   simp only [Exit.noGoto]
   go_ret
   exact ⟨⟨_,rfl,N.out⟩,BN.out⟩
end Go.Proofs.YteempfoajgblaaaGreat
