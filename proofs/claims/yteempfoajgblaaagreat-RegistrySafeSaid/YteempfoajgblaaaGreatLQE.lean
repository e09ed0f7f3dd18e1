/- Package table's own and with; the library's Clone over rows. Package table's with, admit, remove, .. -/
import Derived.Test.YteempfoajgblaaaGreatLGnH
import Derived.Test.YteempfoajgblaaaGreatLMTb
import Derived.Laws.Cover3
import Derived.Test.YteempfoajgblaaaGreatLMOp
set_option maxRecDepth 100000
set_option linter.unusedVariables false
set_option linter.unusedSimpArgs false
open Go.ChangeShapes Go.WideShapes Go.ChangeAt Go.RowKit Go.Joins
set_option maxHeartbeats 16000000
namespace Go.Proofs.YteempfoajgblaaaGreat.Tb
open Pm (Tk chk chk_iff below_drewN)
open Ge (El Seen Row)
structure Sl (v:Value) (l:List Rw) (w:World) (ao:Option Addr) (cap:Nat):Prop where
 eq:v=.slice ao l.length cap
 le:l.length≤cap
 nil:ao=none→cap=0
 seen:Seen Rw.cs 6 ao l w
 typ:0<l.length→∀ b off,ao=some ⟨b,off,none⟩→∃ cs fz,w.heap[b]?=some (.cells cs 123 fz)
theorem Sl.call {v:Value} {l:List Rw} {w w':World} {ao:Option Addr} {cap:Nat} (h:Sl v l w ao cap) (hb:Below w.heap.size w w'):Sl v l w' ao cap:=⟨h.eq,h.le,h.nil,h.seen.call hb,fun h0 b off e=>by
 obtain ⟨cs,fz,hc⟩:=h.typ h0 b off e
 exact ⟨cs,fz,(hb.block b (Array.getElem?_eq_some_iff.1 hc).1).trans hc⟩⟩
theorem seen_set {ao:Option Addr} {l:List Rw} {L:List (Nat×Array Value×Nat)} {w W:World} (hS:Seen Rw.cs 6 ao l W) (hB:Bos L w W) {p:Nat} {cs:Array Value} {T:Nat} (i:Nat) (hi:L[i]?=some (p,cs,T)) (hz:cs.size≤5) (o:Nat) (v:Value):Seen Rw.cs 6 ao l (W.setCell ⟨p,o,none⟩ v):=fun h0=>by
 obtain ⟨b,off,rfl,hb,hat⟩:=hS h0
 have hp:=(hB.at_ _ (List.mem_of_getElem? hi)).1
 have hne:b≠p:=fun e=>by
  subst e
  have h5:=(row_cells hat (List.getElem?_eq_getElem h0)).2.2.2.2.2
  rw [Lib.cell_of_heap hp] at h5
  have:=(Array.getElem?_eq_some_iff.1 h5).1
  simp only at this
  omega
 have e:=Below.heap_setCell W ⟨p,o,none⟩ v b hne
 exact ⟨b,off,rfl,by have:=(Array.getElem?_eq_some_iff.1 (e.trans (Array.getElem?_eq_getElem hb))).1;exact this,fun i x hi j u hj=>(World.cell?_of_block (w:=W) (a:=⟨b,off+i*6+j,none⟩) e).trans (hat i x hi j u hj)⟩
theorem Sl.set {v:Value} {l:List Rw} {w W:World} {ao:Option Addr} {cap:Nat} (h:Sl v l W ao cap) {L:List (Nat×Array Value×Nat)} (hB:Bos L w W) {p:Nat} {cs:Array Value} {T:Nat} (i:Nat) (hi:L[i]?=some (p,cs,T)) (hz:cs.size≤5) (o:Nat) (x:Value):Sl v l (W.setCell ⟨p,o,none⟩ x) ao cap:=⟨h.eq,h.le,h.nil,seen_set h.seen hB i hi hz o x,fun h0 b off e=>by
 obtain ⟨cs,fz,hc⟩:=h.typ h0 b off e
 by_cases hne:b=p
 ·subst hne
  exact ⟨cs.setIfInBounds o x,fz,by simp [World.setCell,Array.getElem?_modify,hc]⟩
 · exact ⟨cs,fz,(Below.heap_setCell W ⟨p,o,none⟩ x b hne).trans hc⟩⟩
theorem row_sl {B:Nat} {w:World} {v:Value} {l:List Rw} (h:Row Rw.cs 6 123 B w v l):∃ ao cap,Sl v l w ao cap:=by
 rcases h.2 with ⟨rfl,h0⟩|⟨g,c,cur,hv,hB,hg,hcap,hm,hsz,ht⟩
 ·have e:l=[]:=List.eq_nil_of_length_eq_zero h0
  subst e
  exact ⟨none,0,rfl,Nat.le_refl _,fun _=>rfl,Ge.seen_nil _ _,fun h0=>by simp at h0⟩
 ·obtain ⟨ao,cap,e,hle,hs,-⟩:=Row.form cs_len h
  refine ⟨ao,cap,e,hle,(fun hn=>?_),hs,(fun h0 b off eb=>?_)⟩
  · rw [e,hn] at hv;cases hv
  ·rw [e,eb] at hv
   cases hv
   exact ⟨cur,_,hg⟩
theorem run_eql_none {P:Program} (w:World) (t e:TypeId) (a:Option Addr) (l c:Nat) (h:P.underlying t=some (.slice e)):(binOp .eql t (.slice a l c) (.slice none 0 0)).run P w=.ok (.bool a.isNone) w:=by
 simp only [binOp]
 simp [run_equal_slice_nil w t e a l c h]
theorem clone_any (l:List Rw) (ao:Option Addr) (cap:Nat) (w:World) (hS:Seen Rw.cs 6 ao l w) (hl:l.length≤1000) :
 Calls Tryz.prog 56 #[.slice ao l.length cap] w fun e w'=>∃ ao' cap',e=.returned (.slice ao' l.length cap')∧Sl (.slice ao' l.length cap') l w' ao' cap'∧Below w.heap.size w w':=by
 cases ao with
 | none=>
  have h0:l.length=0:=by
   rcases Nat.eq_zero_or_pos l.length with h0|h0
   · exact h0
   · obtain ⟨g,o,e,-⟩:=hS h0;cases e
  obtain rfl:l=[]:=List.eq_nil_of_length_eq_zero h0
  clear hS h0 hl
  have q:(binOp .eql 50 (.slice none 0 cap) (.slice none 0 0)).run Tryz.prog w=.ok (.bool true) w:=run_eql_none w _ _ _ _ _ Tryz.underlying50
  show Calls Tryz.prog 56 #[.slice none 0 cap] w _
  go_enter Tryz.func56,Tryz.ntmps56
  go_wp2
  go_ret
  exact ⟨none,0,rfl,⟨rfl,Nat.le_refl _,fun _=>rfl,Ge.seen_nil _ _,(fun h0=>by simp at h0)⟩,Below.refl _ _⟩
 | some a=>
  have b0:Row Rw.cs 6 123 w.heap.size (w.alloc (.cells #[] 123)) (.slice (some ⟨w.heap.size,0,none⟩) 0 0) []:=
   ⟨rfl,.inr ⟨w.heap.size,0,#[],rfl,Nat.le_refl _,heap_alloc_new _ _,Nat.le_refl _,by simp [maxLen],rfl,rfl⟩⟩
  obtain ⟨v2,w2,hap,t2,bb,-⟩:=Ge.row_all el (c:=cap) (ty:=50) b0 (hS.call ((Below.refl _ _).alloc (Nat.le_refl _) _)) (by simp) (by simp;omega)
  rw [List.nil_append] at t2
  obtain ⟨ao',cap',hsl⟩:=row_sl t2
  obtain rfl:=hsl.eq
  have T2:=Lib.hid hsl
  have BB:=Lib.hid (((Below.refl w.heap.size w).alloc (Nat.le_refl _) _).trans bb)
  clear hS t2 bb b0 hsl
  have q:(binOp .eql 50 (.slice (some a) l.length cap) (.slice none 0 0)).run Tryz.prog w=.ok (.bool false) w:=run_eql_none w _ _ _ _ _ Tryz.underlying50
  go_enter Tryz.func56,Tryz.ntmps56
  go_wp2_with (at_builtin;refine Lib.wpList_append_run _ rfl _ _ _ _ rfl _ _ rfl rfl _ _ hap ?_)
  go_ret
  exact ⟨ao',cap',rfl,T2.out,BB.out⟩
abbrev TB (w:World) (a b:Value) (m n:Int):List (Nat×Array Value×Nat):=[(w.heap.size+1,#[b,.int .i64 n],52),(w.heap.size,#[a,.int .i64 m],52)]
theorem tb_new (w:World) (a:Value) (m:Int):Bos (TB w a (.slice none 0 0) m 0) w ((w.alloc (.cells #[a,.int .i64 m] 52)).alloc (.cells #[.slice none 0 0,.int .i64 0] 52)):=by
 have:=((bos_nil w).new #[a,.int .i64 m] 52).new #[.slice none 0 0,.int .i64 0] 52
 rw [World.size_alloc] at this
 exact this
theorem own_any (l:List Rw) (ao:Option Addr) (cap:Nat) (m:Int) (w:World) (hS:Seen Rw.cs 6 ao l w) (hl:l.length≤1000) :
 Calls Tryz.prog 130 #[tv ao l.length cap m] w fun e w'=>∃ ao' cap',e=.returned (tv ao' l.length cap' m)∧Sl (.slice ao' l.length cap') l w' ao' cap'∧Below w.heap.size w w':=by
 have CL:Hid (∀ W,Below w.heap.size w W→Calls Tryz.prog 56 #[.slice ao l.length cap] W fun e w'=>∃ ao' cap',e=.returned (.slice ao' l.length cap')∧Sl (.slice ao' l.length cap') l w' ao' cap'∧Below W.heap.size W w'):=Lib.hid (fun W hb=>clone_any l ao cap W (hS.below hb (Nat.le_refl _)) hl)
 have H0:=Lib.hid (tb_new w (.slice ao l.length cap) m)
 have KEEP:Hid (∀ W',Bos (TB w (.slice ao l.length cap) (.slice none 0 0) m 0) w W'→(W'.cell? ⟨w.heap.size,0,none⟩=some (.slice ao l.length cap)∧W'.cell? ⟨w.heap.size,1,none⟩=some (.int .i64 m))):=Lib.hid (fun W' h=>cell2 (h.cell 1 rfl))
 unfold tv
 generalize l.length=k at *
 clear hS hl
 go_enter Tryz.func130,Tryz.ntmps130
 go_wp2_with fail
 refine wp_region_held_drew (S:=(fun W'=>W'.cell? ⟨w.heap.size,0,none⟩=some (.slice ao k cap)∧W'.cell? ⟨w.heap.size,1,none⟩=some (.int .i64 m))) (by kernel_rfl) (KEEP.out _ H0.out.drew) (fun hHeld=>?_)
 refine Gh.tk 0 ?_
 refine Gh.tk 1 ?_
 refine Gh.tk 3 ?_
 refine Gh.tk 4 ?_
 refine Gh.rd 2 (fun K hK=>?_)
 go_simp
 (with_reducible refine (CL.out _ H0.out.drew.bl).mono ?_)
 rintro e w1 ⟨ao',cap',rfl,sl1,b1⟩
 have H1:=Lib.hid (H0.out.drew.call b1)
 have SL:=Lib.hid sl1
 clear b1 sl1 CL
 go_simp
 refine hK.out _ _ (KEEP.out _ H1.out) (fun hHeld=>?_)
 clear hK K
 refine Gh.pt ?_
 refine Gh.tk 5 ?_
 refine Gh.rd 6 (fun K hK=>?_)
 have f0:=H1.out.fz 0 rfl
 obtain ⟨y0,y1⟩:=cell2 (H1.out.cell 0 rfl)
 have H2:=Lib.hid ((H1.out.set 0 rfl 0 (.slice ao' k cap')).set 0 rfl 1 (.int .i64 m))
 go_simp
 refine hK.out _ _ (cell2 (H2.out.cell 1 rfl)) (fun hHeld=>?_)
 clear hK K
 refine Gh.pt ?_
 refine wpAnyH_done (by kernel_rfl) ?_ _
 obtain ⟨z0,z1⟩:=cell2 (H2.out.cell 0 rfl)
 have Z:=Lib.hid H2.out.bl
 have SF:=Lib.hid ((SL.out.set H1.out 0 rfl (by decide) 0 (.slice ao' k cap')).set (H1.out.set 0 rfl 0 (.slice ao' k cap')) 0 rfl (by simp) 1 (.int .i64 m))
 go_wp2
 refine bodyPost_ret (v:=.agg #[.slice ao' k cap',.int .i64 m]) (by simp [results,Tryz.results130,go_sem,z0,z1]) rfl ⟨ao',cap',rfl,SF.out,Z.out⟩
abbrev tail (ao:Option Addr) (j n cap:Nat):Value:=sliced ao j n cap 6
theorem tail_sl {l:List Rw} {w:World} {ao:Option Addr} {cap j:Nat} (h:Sl (.slice ao l.length cap) l w ao cap) (hj:j≤l.length):∃ at',tail ao j l.length cap=.slice at' (l.drop j).length (cap-j)∧Seen Rw.cs 6 at' (l.drop j) w∧(at'=none→(l.drop j).length=0):=by
 refine ⟨_,by unfold tail sliced;rw [List.length_drop],?_,?_⟩
 ·intro h0
  rw [List.length_drop] at h0
  have hlt:cap≠j:=by have:=h.le;omega
  rw [if_neg hlt]
  obtain ⟨b,off,rfl,hb,hat⟩:=h.seen (by omega)
  have hs:Seen Rw.cs 6 (some ⟨b,off,none⟩) l w:=fun _=>⟨b,off,rfl,hb,hat⟩
  rw [Option.map_some,Ge.addr_add]
  exact (hs.drop j) (by rw [List.length_drop];omega)
 ·intro hn
  rw [List.length_drop]
  by_cases e:cap=j
  · have:=h.le;omega
  ·rw [if_neg e] at hn
   have:=h.nil (by cases ao <;> simp_all)
   have:=h.le
   omega
theorem two_appends {l rs:List Rw} {W:World} {ao:Option Addr} {cap j k:Nat} (h:Sl (.slice ao l.length cap) l W ao cap) (hk:k≤l.length) (hj:j≤l.length) (hl:l.length≤1000) {ro:Option Addr} {rc:Nat} (hr:Seen Rw.cs 6 ro rs W) (hrs:rs.length≤1) (hro:ro=none→rs=[]) :
 ∃ h1 W1 ao' cap' W2,(Builtin.append_ #[50,50] 50 #[.slice ao k k,.slice ro rs.length rc]).run Tryz.prog W=.ok h1 W1∧(Builtin.append_ #[50,50] 50 #[h1,tail ao j l.length cap]).run Tryz.prog W1=.ok (.slice ao' (l.take k++rs++l.drop j).length cap') W2∧Sl (.slice ao' (l.take k++rs++l.drop j).length cap') (l.take k++rs++l.drop j) W2 ao' cap'∧Below W.heap.size W W1∧Below W.heap.size W W2:=by
 obtain ⟨at',et,ht,hn⟩:=tail_sl h hj
 rw [et]
 have hkl:(l.take k).length=k:=by rw [List.length_take];omega
 have hnk:ao=none→k=0:=fun e=>by have:=h.nil e;have:=h.le;omega
 have hdl:(l.drop j).length≤1000:=by rw [List.length_drop];omega
 by_cases h0:rs=[]
 ·subst h0
  have r1:=Ge.all_none el W 50 ao ro k k rc (Nat.le_refl _)
  refine ⟨.slice ao k k,W,?_⟩
  rw [List.append_nil]
  by_cases hd:(l.drop j).length=0
  ·have r2:=Ge.all_none el W 50 ao at' k k (cap-j) (Nat.le_refl _)
   have e0:l.drop j=[]:=List.eq_nil_of_length_eq_zero hd
   rw [e0,List.append_nil,hkl]
   refine ⟨ao,k,W,r1,r2,⟨by rw [hkl],by omega,hnk,h.seen.take k,(fun h0 b off e=>h.typ (by rw [hkl] at h0;omega) b off e)⟩,Below.refl _ _,Below.refl _ _⟩
  ·obtain ⟨ad,rfl⟩:∃ ad,at'=some ad:=by
    cases at' with
    | none=>exact absurd (hn rfl) hd
    | some ad=>exact ⟨ad,rfl⟩
   obtain ⟨v',w',hr2,hrow,hb⟩:=Ge.full_all el (cl:=k) (c:=cap-j) (ty:=50) (h.seen.take k) hnk (by omega) ht (by omega) (by omega)
   rw [hkl] at hr2
   obtain ⟨ao',cap',hsl⟩:=row_sl hrow
   obtain rfl:=hsl.eq
   exact ⟨ao',cap',w',r1,hr2,hsl,Below.refl _ _,hb⟩
 ·obtain ⟨ra,rfl⟩:∃ ra,ro=some ra:=by
   cases ro with
   | none=>exact absurd (hro rfl) h0
   | some ra=>exact ⟨ra,rfl⟩
  have hpos:0<rs.length:=List.length_pos_iff.2 h0
  obtain ⟨v1,w1,hr1,hrow1,hb1⟩:=Ge.full_all el (cl:=k) (c:=rc) (ty:=50) (h.seen.take k) hnk (by omega) hr (by omega) (by omega)
  rw [hkl] at hr1
  have hlen1:(l.take k++rs).length≤2000:=by rw [List.length_append,hkl];omega
  cases at' with
  | none=>
   have e0:l.drop j=[]:=List.eq_nil_of_length_eq_zero (hn rfl)
   rw [e0,List.append_nil]
   obtain ⟨ao',cap',hsl⟩:=row_sl hrow1
   obtain rfl:=hsl.eq
   have r2:=Ge.all_none el w1 50 ao' none (l.take k++rs).length cap' (cap-j) hsl.le
   exact ⟨_,w1,ao',cap',w1,hr1,r2,hsl,hb1,hb1⟩
  | some ad=>
   obtain ⟨v2,w2,hr2,hrow2,hb2,-⟩:=Ge.row_all el (c:=cap-j) (ty:=50) hrow1 (ht.call hb1) hb1.size (by omega)
   obtain ⟨ao',cap',hsl⟩:=row_sl hrow2
   obtain rfl:=hsl.eq
   exact ⟨v1,w1,ao',cap',w2,hr1,hr2,hsl,hb1,hb1.trans hb2⟩
end Go.Proofs.YteempfoajgblaaaGreat.Tb
namespace Go.Proofs.YteempfoajgblaaaGreat.Tb
open Pm (Tk chk chk_iff below_drewN)
open Ge (El Seen Row)
theorem slice_hh (ao:Option Addr) (n cap k:Nat) (hk:k≤cap) (w:World):(Instr.sliceAt 50 (.slice ao n cap) none (some (.int .i64 (k:Int))) (some (.int .i64 (k:Int)))).run Tryz.prog w=.ok (.slice ao k k) w:=by
 have e:(sizeOf (Tryz.prog.elem 50)).run Tryz.prog w=.ok 6 w:=by kernel_rfl
 rw [run_sliceAt_slice w _ _ _ _ _ (by kernel_rfl),run_slice_hm w _ _ _ _ (by kernel_rfl) _ _ _ _ (by omega) (by omega) (by omega),e]
 simp only [Result.andThen,sliced]
 have:ao.map (fun x=>x.add (0*6))=ao:=by cases ao <;> simp [Addr.add]
 rw [this]
 simp
theorem slice_l (ao:Option Addr) (n cap j:Nat) (hj:j≤n) (w:World):(Instr.sliceAt 50 (.slice ao n cap) (some (.int .i64 (j:Int))) none none).run Tryz.prog w=.ok (tail ao j n cap) w:=by
 have e:(sizeOf (Tryz.prog.elem 50)).run Tryz.prog w=.ok 6 w:=by kernel_rfl
 rw [run_sliceAt_slice w _ _ _ _ _ (by kernel_rfl),run_slice_l w _ _ _ _ (by kernel_rfl) _ _ (by omega) (by omega),e]
 simp only [Result.andThen,Int.toNat_natCast]
theorem with_any (l rs:List Rw) (ao ro:Option Addr) (cap rc:Nat) (m:Int) (k j:Nat) (w:World) (hS:Seen Rw.cs 6 ao l w) (hl:l.length≤1000) (hk:k≤l.length) (hj:j≤l.length) (hr:Seen Rw.cs 6 ro rs w) (hrs:rs.length≤1) (hro:ro=none→rs=[]) :
 Calls Tryz.prog 199 #[tv ao l.length cap m,.int .i64 (k:Int),.int .i64 (j:Int),.slice ro rs.length rc] w fun e w'=>∃ ao' cap',e=.returned (tv ao' (l.take k++rs++l.drop j).length cap' m)∧Sl (.slice ao' (l.take k++rs++l.drop j).length cap') (l.take k++rs++l.drop j) w' ao' cap'∧Below w.heap.size w w':=by
 have H0:=Lib.hid (tb_new w (.slice ao l.length cap) m)
 have OW:Hid (∀ W,Below w.heap.size w W→Calls Tryz.prog 130 #[tv ao l.length cap m] W fun e w'=>∃ ao' cap',e=.returned (tv ao' l.length cap' m)∧Sl (.slice ao' l.length cap') l w' ao' cap'∧Below W.heap.size W w'):=Lib.hid (fun W hb=>own_any l ao cap m W (hS.below hb (Nat.le_refl _)) hl)
 have RS:=Lib.hid hr
 have TA:Hid (∀ W ao cap,Sl (.slice ao l.length cap) l W ao cap→Seen Rw.cs 6 ro rs W→_):=Lib.hid (fun W ao cap h hr=>two_appends (W:=W) (ao:=ao) (cap:=cap) (j:=j) (k:=k) (rc:=rc) h hk hj hl hr hrs hro)
 have S1:Hid (∀ (ao:Option Addr) (cap:Nat),l.length≤cap→∀ w,(Instr.sliceAt 50 (.slice ao l.length cap) none (some (.int .i64 (k:Int))) (some (.int .i64 (k:Int)))).run Tryz.prog w=.ok (.slice ao k k) w):=Lib.hid (fun ao cap h=>slice_hh ao l.length cap k (by omega))
 have S2:Hid (∀ (ao:Option Addr) (cap:Nat),∀ w,(Instr.sliceAt 50 (.slice ao l.length cap) (some (.int .i64 (j:Int))) none none).run Tryz.prog w=.ok (tail ao j l.length cap) w):=Lib.hid (fun ao cap=>slice_l ao l.length cap j hj)
 obtain ⟨N,hN⟩:∃ N,N=l.take k++rs++l.drop j:=⟨_,rfl⟩
 rw [← hN]
 simp only [← hN] at TA
 unfold tv at *
 obtain ⟨t0,t1⟩:=cell2 (H0.out.cell 1 rfl)
 clear hS hr hrs hro hN hk hj
 go_enter Tryz.func199,Tryz.ntmps199
 go_wp2_with fail
 (with_reducible refine (OW.out _ H0.out.bl).mono ?_)
 rintro e w1 ⟨ao',cap',rfl,sl1,b1⟩
 have H1:=Lib.hid (H0.out.call b1)
 have H2:=Lib.hid (H1.out.new #[.slice ao' l.length cap',.int .i64 m] 52)
 have H3:=Lib.hid H2.out.drew
 have bd:Below w1.heap.size w1 (w1.alloc (.cells #[.slice ao' l.length cap',.int .i64 m] 52)).drew:=((Below.refl _ _).alloc (Nat.le_refl _) _).drew
 obtain ⟨hv,W1,ao2,cap2,W2,ap1,ap2,sl2,hb1,hb2⟩:=TA.out _ ao' cap' (sl1.call bd) (RS.out.below H3.out.bl (Nat.le_refl _))
 have H4:=Lib.hid (H3.out.call hb1)
 have H5:=Lib.hid (H3.out.call hb2)
 have s1:=S1.out ao' cap' sl1.le
 have s2:=S2.out ao' cap'
 have SL2:=Lib.hid sl2
 generalize tail ao' j l.length cap'=TL at *
 clear b1 OW TA S1 S2 RS H0 H1 bd sl1 sl2 hb1 hb2 t0 t1
 generalize l.length=n at *
 have F3:=Lib.hid (cell2 (H3.out.cell 0 rfl))
 have F4:=Lib.hid (cell2 (H4.out.cell 0 rfl))
 obtain ⟨y0,y1⟩:=cell2 (H5.out.cell 0 rfl)
 have yf:=H5.out.fz 0 rfl 0
 have H6:=Lib.hid (H5.out.set 0 rfl 0 (.slice ao2 N.length cap2))
 have SL3:=Lib.hid (SL2.out.set H5.out 0 rfl (by simp) 0 (.slice ao2 N.length cap2))
 go_wp2_with fail
 refine wp_region_any (by kernel_rfl) ?_
 (try (change wpAny _ _ _ _ _ _ _ (World.drew _)))
 refine Gh.tka 0 ?_
 refine Gh.tka 2 ?_
 refine Gh.tka 3 ?_
 refine Gh.tka 5 ?_
 refine Gh.tka 7 ?_
 refine Gh.tka 9 ?_
 refine wpAny_ready (rs:=[1,8]) (by kernel_rfl) (by simp) ?_
 refine AllReady.cons rfl (fun K hK=>?_) ?_
 ·rw [if_pos (by rfl)]
  obtain ⟨x0,x1⟩:=F3.out
  go_simp
  clear x0 x1
  refine hK _ _ ?_
  clear hK K
  refine Gh.pta ?_
  refine Gh.tka 4 ?_
  refine wpAny_ready (rs:=[6,8]) (by kernel_rfl) (by simp) ?_
  refine AllReady.cons rfl (fun K hK=>?_) ?_
  ·rw [if_pos (by rfl)]
   refine Lib.wp_append_run _ _ _ _ _ rfl _ _ rfl rfl _ _ ap1 (hK _ _ ?_)
   clear hK K
   refine Gh.pta ?_
   refine Gh.rda 8 (fun K hK=>?_)
   rw [if_pos (by rfl)]
   obtain ⟨x0,x1⟩:=F4.out
   go_simp
   clear x0 x1
   refine hK _ _ ?_
   clear hK K
   refine Gh.pta ?_
   refine Gh.tka 10 ?_
   refine Gh.rda 11 (fun K hK=>?_)
   rw [if_pos (by rfl)]
   refine Lib.wp_append_run _ _ _ _ _ rfl _ _ rfl rfl _ _ ap2 (hK _ _ ?_)
   clear hK K
   refine Gh.pta ?_
   refine Gh.tka 12 ?_
   refine Gh.rda 13 (fun K hK=>?_)
   rw [if_pos (by rfl)]
   go_simp
   refine hK _ _ ?_
   clear hK K
   refine Gh.pta ?_
   refine wpAny_done (by kernel_rfl) ?_ _
   obtain ⟨u0,u1⟩:=cell2 (H6.out.cell 0 rfl)
   obtain ⟨v0,v1⟩:=cell2 (H6.out.cell 1 rfl)
   have vf:=H6.out.fz 1 rfl
   have H7:=Lib.hid ((H6.out.set 1 rfl 0 (.slice ao2 N.length cap2)).set 1 rfl 1 (.int .i64 m))
   obtain ⟨z0,z1⟩:=cell2 (H7.out.cell 1 rfl)
   have SL4:=Lib.hid ((SL3.out.set H6.out 1 rfl (by simp) 0 (.slice ao2 N.length cap2)).set (H6.out.set 1 rfl 0 (.slice ao2 N.length cap2)) 1 rfl (by simp) 1 (.int .i64 m))
   go_wp2
   refine bodyPost_ret (v:=.agg #[.slice ao2 N.length cap2,.int .i64 m]) (by simp [results,Tryz.results199,go_sem,z0,z1]) rfl ⟨ao2,cap2,rfl,SL4.out,H7.out.bl⟩
  refine AllReady.cons rfl (fun K hK=>?_) ?_
  ·rw [if_pos (by rfl)]
   obtain ⟨x0,x1⟩:=F3.out
   go_simp
   clear x0 x1
   refine hK _ _ ?_
   clear hK K
   refine Gh.pta ?_
   refine Gh.tka 10 ?_
   refine Gh.rda 6 (fun K hK=>?_)
   rw [if_pos (by rfl)]
   refine Lib.wp_append_run _ _ _ _ _ rfl _ _ rfl rfl _ _ ap1 (hK _ _ ?_)
   clear hK K
   refine Gh.pta ?_
   refine Gh.rda 11 (fun K hK=>?_)
   rw [if_pos (by rfl)]
   refine Lib.wp_append_run _ _ _ _ _ rfl _ _ rfl rfl _ _ ap2 (hK _ _ ?_)
   clear hK K
   refine Gh.pta ?_
   refine Gh.tka 12 ?_
   refine Gh.rda 13 (fun K hK=>?_)
   rw [if_pos (by rfl)]
   go_simp
   refine hK _ _ ?_
   clear hK K
   refine Gh.pta ?_
   refine wpAny_done (by kernel_rfl) ?_ _
   obtain ⟨u0,u1⟩:=cell2 (H6.out.cell 0 rfl)
   obtain ⟨v0,v1⟩:=cell2 (H6.out.cell 1 rfl)
   have vf:=H6.out.fz 1 rfl
   have H7:=Lib.hid ((H6.out.set 1 rfl 0 (.slice ao2 N.length cap2)).set 1 rfl 1 (.int .i64 m))
   obtain ⟨z0,z1⟩:=cell2 (H7.out.cell 1 rfl)
   have SL4:=Lib.hid ((SL3.out.set H6.out 1 rfl (by simp) 0 (.slice ao2 N.length cap2)).set (H6.out.set 1 rfl 0 (.slice ao2 N.length cap2)) 1 rfl (by simp) 1 (.int .i64 m))
   go_wp2
   refine bodyPost_ret (v:=.agg #[.slice ao2 N.length cap2,.int .i64 m]) (by simp [results,Tryz.results199,go_sem,z0,z1]) rfl ⟨ao2,cap2,rfl,SL4.out,H7.out.bl⟩
  exact AllReady.nil
 refine AllReady.cons rfl (fun K hK=>?_) ?_
 ·rw [if_pos (by rfl)]
  obtain ⟨x0,x1⟩:=F3.out
  go_simp
  clear x0 x1
  refine hK _ _ ?_
  clear hK K
  refine Gh.pta ?_
  refine Gh.tka 10 ?_
  refine Gh.rda 1 (fun K hK=>?_)
  rw [if_pos (by rfl)]
  obtain ⟨x0,x1⟩:=F3.out
  go_simp
  clear x0 x1
  refine hK _ _ ?_
  clear hK K
  refine Gh.pta ?_
  refine Gh.tka 4 ?_
  refine Gh.rda 6 (fun K hK=>?_)
  rw [if_pos (by rfl)]
  refine Lib.wp_append_run _ _ _ _ _ rfl _ _ rfl rfl _ _ ap1 (hK _ _ ?_)
  clear hK K
  refine Gh.pta ?_
  refine Gh.rda 11 (fun K hK=>?_)
  rw [if_pos (by rfl)]
  refine Lib.wp_append_run _ _ _ _ _ rfl _ _ rfl rfl _ _ ap2 (hK _ _ ?_)
  clear hK K
  refine Gh.pta ?_
  refine Gh.tka 12 ?_
  refine Gh.rda 13 (fun K hK=>?_)
  rw [if_pos (by rfl)]
  go_simp
  refine hK _ _ ?_
  clear hK K
  refine Gh.pta ?_
  refine wpAny_done (by kernel_rfl) ?_ _
  obtain ⟨u0,u1⟩:=cell2 (H6.out.cell 0 rfl)
  obtain ⟨v0,v1⟩:=cell2 (H6.out.cell 1 rfl)
  have vf:=H6.out.fz 1 rfl
  have H7:=Lib.hid ((H6.out.set 1 rfl 0 (.slice ao2 N.length cap2)).set 1 rfl 1 (.int .i64 m))
  obtain ⟨z0,z1⟩:=cell2 (H7.out.cell 1 rfl)
  have SL4:=Lib.hid ((SL3.out.set H6.out 1 rfl (by simp) 0 (.slice ao2 N.length cap2)).set (H6.out.set 1 rfl 0 (.slice ao2 N.length cap2)) 1 rfl (by simp) 1 (.int .i64 m))
  go_wp2
  refine bodyPost_ret (v:=.agg #[.slice ao2 N.length cap2,.int .i64 m]) (by simp [results,Tryz.results199,go_sem,z0,z1]) rfl ⟨ao2,cap2,rfl,SL4.out,H7.out.bl⟩
 exact AllReady.nil
def Told (v:Value) (t:Tb) (w:World):Prop:=∃ ao cap,v=tv ao t.rows.length cap t.mode∧Sl (.slice ao t.rows.length cap) t.rows w ao cap
theorem told_zero (w:World):Told (tv none 0 0 0) tb0 w:=⟨none,0,rfl,rfl,Nat.le_refl _,fun _=>rfl,Ge.seen_nil _ _,(fun h0=>by simp [tb0] at h0)⟩
def admR (t:Tb) (x:Rw):Tb×Int:=match at_ t.rows x.t.id with
 | some _=>(tb0,14)
 | none=>if 16≤t.rows.length then (tb0,15) else (⟨ins x t.rows,t.mode⟩,0)
def remR (t:Tb) (i:Int):Tb×Int:=match at_ t.rows i with
 | none=>(tb0,12)
 | some k=>(⟨t.rows.take k++t.rows.drop (k+1),t.mode⟩,0)
def resR (t:Tb) (i c:Int):Tb×Int:=match at_ t.rows i with
 | none=>(tb0,12)
 | some k=>match t.rows[k]? with
  | none=>(tb0,12)
  | some r=>if r.t.d<c then (tb0,1) else (⟨t.rows.take k++{ r with t:={ r.t with c:=c } } :: t.rows.drop (k+1),t.mode⟩,0)
theorem seen_one (x:Rw) (w:World):Seen Rw.cs 6 (some ⟨w.heap.size,0,none⟩) [x] (w.alloc (.cells #[.int .i64 x.t.id,.int .i64 x.t.c,.int .i64 x.t.d,.int .i64 x.t.t,.int .i64 x.t.m,.bool x.s] 123)):=fun _=>⟨w.heap.size,0,rfl,by simp,fun i y hi j u hj=>by
 match i,hi with
 | 0,hi=>
  obtain rfl:x=y:=by simpa using hi
  rw [Nat.zero_mul,Nat.zero_add,Lib.cell_of_heap (heap_alloc_new _ _),← hj]
  simp [Rw.cs]
 | i+1,hi=>simp at hi⟩
theorem tb3_new (w:World) (a:Value) (m:Int) (cs:Array Value):Bos [(w.heap.size+2,#[.slice none 0 0,.int .i64 0],52),(w.heap.size+1,cs,123),(w.heap.size,#[a,.int .i64 m],52)] w (((w.alloc (.cells #[a,.int .i64 m] 52)).alloc (.cells cs 123)).alloc (.cells #[.slice none 0 0,.int .i64 0] 52)):=by
 have:=(((bos_nil w).new #[a,.int .i64 m] 52).new cs 123).new #[.slice none 0 0,.int .i64 0] 52
 simp only [World.size_alloc] at this
 exact this
theorem admit_any (t:Tb) (x:Rw) (ao:Option Addr) (cap:Nat) (w:World) (hS:Seen Rw.cs 6 ao t.rows w) (hc:chkT t=true) :
 Calls Tryz.prog 169 #[tv ao t.rows.length cap t.mode,x.v] w fun e w'=>∃ v,e=.returned (.tuple #[v,.int .i64 (admR t x).2])∧Told v (admR t x).1 w'∧Below w.heap.size w w':=by
 obtain ⟨l,m⟩:=t
 simp only at *
 obtain ⟨-,hr,hl,-,-⟩:=chkT_iff.1 hc
 simp only at hr hl
 have PL:Hid (∀ W,Below w.heap.size w W→Calls Tryz.prog 198 #[tv ao l.length cap m,.int .i64 x.t.id] W fun e w'=>∃ k:Nat,e=.returned (.tuple #[.int .i64 (k:Int),.bool (there l x.t.id k)])∧Pl l x.t.id k∧Below W.heap.size W w'):=Lib.hid (fun W hb=>place_any (hS.below hb (Nat.le_refl _)) hr (by omega))
 have WI:Hid (∀ (k:Nat) W ra,Below w.heap.size w W→k≤l.length→Seen Rw.cs 6 (some ra) [x] W→Calls Tryz.prog 199 #[tv ao l.length cap m,.int .i64 (k:Int),.int .i64 (k:Int),.slice (some ra) 1 1] W fun e w'=>∃ ao' cap',e=.returned (tv ao' (l.take k++[x]++l.drop k).length cap' m)∧Sl (.slice ao' (l.take k++[x]++l.drop k).length cap') (l.take k++[x]++l.drop k) w' ao' cap'∧Below W.heap.size W w'):=Lib.hid (fun k W ra hb hk hs=>with_any l [x] ao (some ra) cap 1 m k k W (hS.below hb (Nat.le_refl _)) (by omega) hk hk hs (by simp) (by simp))
 have ONE:=Lib.hid (seen_one x)
 have A1:Hid (∀ k,Pl l x.t.id k→there l x.t.id k=true→admR ⟨l,m⟩ x=(tb0,14)):=Lib.hid (fun k h1 h2=>by unfold admR;rw [(pl_there h1 h2).1])
 have A2:Hid (∀ k,Pl l x.t.id k→there l x.t.id k=false→l.length=16→admR ⟨l,m⟩ x=(tb0,15)):=Lib.hid (fun k h1 h2 h3=>by unfold admR;rw [(pl_not hr h1 h2).1];simp only;rw [if_pos (by omega)])
 have A3:Hid (∀ k,Pl l x.t.id k→there l x.t.id k=false→l.length≠16→admR ⟨l,m⟩ x=(⟨l.take k++[x]++l.drop k,m⟩,0)):=Lib.hid (fun k h1 h2 h3=>by
  unfold admR;rw [(pl_not hr h1 h2).1];simp only;rw [if_neg (by omega),pl_ins h1 (pl_not hr h1 h2).2,List.append_assoc];rfl)
 generalize admR ⟨l,m⟩ x=R at *
 obtain ⟨R1,R2⟩:=R
 simp only [Prod.mk.injEq] at A1 A2 A3 ⊢
 have H0:=Lib.hid (tb3_new w (.slice ao l.length cap) m #[.int .i64 x.t.id,.int .i64 x.t.c,.int .i64 x.t.d,.int .i64 x.t.t,.int .i64 x.t.m,.bool x.s])
 obtain ⟨⟨xi,xc,xd,xt,xm⟩,xs⟩:=x
 unfold tv Rw.v at *
 simp only at *
 have hl16:(l.length:Int)≤16:=by omega
 clear hS hc hr
 have t0:=cell2 (H0.out.cell 2 rfl)
 have r0:=cell6 (H0.out.cell 1 rfl)
 obtain ⟨t0,t1⟩:=t0
 obtain ⟨r0,r1,r2,r3,r4,r5⟩:=r0
 go_enter Tryz.func169,Tryz.ntmps169
 go_wp2_with fail
 (with_reducible refine (PL.out _ H0.out.bl).mono ?_)
 rintro e w1 ⟨k,rfl,hp,b1⟩
 have H1:=Lib.hid (H0.out.call b1)
 have HP:=Lib.hid hp
 clear b1 PL H0 t0 t1 r0 r1 r2 r3 r4 r5 hp
 obtain ⟨t0,t1⟩:=cell2 (H1.out.cell 2 rfl)
 obtain ⟨r0,r1,r2,r3,r4,r5⟩:=cell6 (H1.out.cell 1 rfl)
 obtain ⟨z0,z1⟩:=cell2 (H1.out.cell 0 rfl)
 have zf:=H1.out.fz 0 rfl
 cases hth:there l xi k
 case true=>
  obtain ⟨rfl,rfl⟩:=A1.out k HP.out hth
  have HF:=Lib.hid ((H1.out.set 0 rfl 0 (.slice none 0 0)).set 0 rfl 1 (.int .i64 0))
  obtain ⟨q0,q1⟩:=cell2 (HF.out.cell 0 rfl)
  clear A1 A2 A3 WI ONE hth
  go_wp2
  refine bodyPost_ret (v:=.tuple #[.agg #[.slice none 0 0,.int .i64 0],.int .i64 14]) (by simp [results,Tryz.results169,go_sem,q0,q1]) rfl ⟨_,rfl,told_zero _,HF.out.bl⟩
 case false=>
  by_cases h16:l.length=16
  ·obtain ⟨rfl,rfl⟩:=A2.out k HP.out hth h16
   have HF:=Lib.hid ((H1.out.set 0 rfl 0 (.slice none 0 0)).set 0 rfl 1 (.int .i64 0))
   obtain ⟨q0,q1⟩:=cell2 (HF.out.cell 0 rfl)
   have h16':((l.length:Int)==16)=true:=by rw [h16];rfl
   clear A1 A2 A3 WI ONE hth
   go_wp2
   refine bodyPost_ret (v:=.tuple #[.agg #[.slice none 0 0,.int .i64 0],.int .i64 15]) (by simp [results,Tryz.results169,go_sem,q0,q1]) rfl ⟨_,rfl,told_zero _,HF.out.bl⟩
  ·obtain ⟨rfl,rfl⟩:=A3.out k HP.out hth h16
   have h16':((l.length:Int)==16)=false:=by simp;omega
   have on:=ONE.out w1
   have bn:Below w1.heap.size w1 (w1.alloc (.cells #[.int .i64 xi,.int .i64 xc,.int .i64 xd,.int .i64 xt,.int .i64 xm,.bool xs] 123)):=(Below.refl _ _).alloc (Nat.le_refl _) _
   have H2:=Lib.hid (H1.out.call bn)
   have WC:=Lib.hid (WI.out k _ _ H2.out.bl HP.out.1 on)
   clear A1 A2 A3 WI ONE hth on bn h16
   go_wp2_with fail
   (with_reducible refine WC.out.mono ?_)
   rintro e w2 ⟨ao',cap',rfl,sl,b2⟩
   have H3:=Lib.hid (H2.out.call b2)
   have SL:=Lib.hid sl
   clear b2 sl WC t0 t1 r0 r1 r2 r3 r4 r5 z0 z1 zf
   generalize hn:(l.take k++[(⟨⟨xi,xc,xd,xt,xm⟩,xs⟩:Rw)]++l.drop k)=N at *
   obtain ⟨z0,z1⟩:=cell2 (H3.out.cell 0 rfl)
   have zf:=H3.out.fz 0 rfl
   have HF:=Lib.hid ((H3.out.set 0 rfl 0 (.slice ao' N.length cap')).set 0 rfl 1 (.int .i64 m))
   have SF:=Lib.hid ((SL.out.set H3.out 0 rfl (by simp) 0 (.slice ao' N.length cap')).set (H3.out.set 0 rfl 0 (.slice ao' N.length cap')) 0 rfl (by simp) 1 (.int .i64 m))
   obtain ⟨q0,q1⟩:=cell2 (HF.out.cell 0 rfl)
   go_wp2
   refine bodyPost_ret (v:=.tuple #[.agg #[.slice ao' N.length cap',.int .i64 m],.int .i64 0]) (by simp [results,Tryz.results169,go_sem,q0,q1]) rfl (by subst hn;exact ⟨_,rfl,⟨ao',cap',rfl,SF.out⟩,HF.out.bl⟩)
theorem remove_any (t:Tb) (i:Int) (ao:Option Addr) (cap:Nat) (w:World) (hS:Seen Rw.cs 6 ao t.rows w) (hc:chkT t=true) :
 Calls Tryz.prog 170 #[tv ao t.rows.length cap t.mode,.int .i64 i] w fun e w'=>∃ v,e=.returned (.tuple #[v,.int .i64 (remR t i).2])∧Told v (remR t i).1 w'∧Below w.heap.size w w':=by
 obtain ⟨l,m⟩:=t
 simp only at *
 obtain ⟨-,hr,hl,-,-⟩:=chkT_iff.1 hc
 simp only at hr hl
 have PL:Hid (∀ W,Below w.heap.size w W→Calls Tryz.prog 198 #[tv ao l.length cap m,.int .i64 i] W fun e w'=>∃ k:Nat,e=.returned (.tuple #[.int .i64 (k:Int),.bool (there l i k)])∧Pl l i k∧Below W.heap.size W w'):=Lib.hid (fun W hb=>place_any (hS.below hb (Nat.le_refl _)) hr (by omega))
 have WI:Hid (∀ (k j:Nat) W,Below w.heap.size w W→k≤l.length→j≤l.length→Calls Tryz.prog 199 #[tv ao l.length cap m,.int .i64 (k:Int),.int .i64 (j:Int),.slice none 0 0] W fun e w'=>∃ ao' cap',e=.returned (tv ao' (l.take k++[]++l.drop j).length cap' m)∧Sl (.slice ao' (l.take k++[]++l.drop j).length cap') (l.take k++[]++l.drop j) w' ao' cap'∧Below W.heap.size W w'):=Lib.hid (fun k j W hb hk hj=>with_any l [] ao none cap 0 m k j W (hS.below hb (Nat.le_refl _)) (by omega) hk hj (Ge.seen_nil _ _) (by simp) (by simp))
 have A1:Hid (∀ k,Pl l i k→there l i k=false→remR ⟨l,m⟩ i=(tb0,12)):=Lib.hid (fun k h1 h2=>by unfold remR;rw [(pl_not hr h1 h2).1])
 have A3:Hid (∀ k,Pl l i k→there l i k=true→remR ⟨l,m⟩ i=(⟨l.take k++[]++l.drop (k+1),m⟩,0)):=Lib.hid (fun k h1 h2=>by
  unfold remR;rw [(pl_there h1 h2).1];simp only [List.append_nil])
 have KL:Hid (∀ k,Pl l i k→there l i k=true→k<l.length):=Lib.hid (fun k h1 h2=>by
  obtain ⟨-,r,hr,-⟩:=pl_there h1 h2
  exact (List.getElem?_eq_some_iff.1 hr).1)
 generalize remR ⟨l,m⟩ i=R at *
 obtain ⟨R1,R2⟩:=R
 simp only [Prod.mk.injEq] at A1 A3 ⊢
 have H0:=Lib.hid (tb_new w (.slice ao l.length cap) m)
 unfold tv at *
 have hl16:(l.length:Int)≤16:=by omega
 clear hS hc hr
 obtain ⟨t0,t1⟩:=cell2 (H0.out.cell 1 rfl)
 go_enter Tryz.func170,Tryz.ntmps170
 go_wp2_with fail
 (with_reducible refine (PL.out _ H0.out.bl).mono ?_)
 rintro e w1 ⟨k,rfl,hp,b1⟩
 have H1:=Lib.hid (H0.out.call b1)
 have HP:=Lib.hid hp
 clear b1 PL H0 t0 t1 hp
 obtain ⟨t0,t1⟩:=cell2 (H1.out.cell 1 rfl)
 obtain ⟨z0,z1⟩:=cell2 (H1.out.cell 0 rfl)
 have zf:=H1.out.fz 0 rfl
 cases hth:there l i k
 case false=>
  obtain ⟨rfl,rfl⟩:=A1.out k HP.out hth
  have HF:=Lib.hid ((H1.out.set 0 rfl 0 (.slice none 0 0)).set 0 rfl 1 (.int .i64 0))
  obtain ⟨q0,q1⟩:=cell2 (HF.out.cell 0 rfl)
  clear A1 A3 WI hth
  go_wp2
  refine bodyPost_ret (v:=.tuple #[.agg #[.slice none 0 0,.int .i64 0],.int .i64 12]) (by simp [results,Tryz.results170,go_sem,q0,q1]) rfl ⟨_,rfl,told_zero _,HF.out.bl⟩
 case true=>
  obtain ⟨rfl,rfl⟩:=A3.out k HP.out hth
  have hkl:=KL.out k HP.out hth
  have WC:=Lib.hid (WI.out k (k+1) _ H1.out.bl HP.out.1 hkl)
  have ek:IntKind.i64.wrap ((k:Int)+1)=(k:Int)+1:=IntWalk.i64_in _ (by omega)
  have ec:((k+1:Nat):Int)=(k:Int)+1:=by omega
  rw [ec] at WC
  clear A1 A3 WI hth KL
  go_wp2_with fail
  (with_reducible refine WC.out.mono ?_)
  rintro e w2 ⟨ao',cap',rfl,sl,b2⟩
  have H3:=Lib.hid (H1.out.call b2)
  have SL:=Lib.hid sl
  clear b2 sl WC t0 t1 z0 z1 zf
  generalize hn:(l.take k++[]++l.drop (k+1))=N at *
  obtain ⟨z0,z1⟩:=cell2 (H3.out.cell 0 rfl)
  have zf:=H3.out.fz 0 rfl
  have HF:=Lib.hid ((H3.out.set 0 rfl 0 (.slice ao' N.length cap')).set 0 rfl 1 (.int .i64 m))
  have SF:=Lib.hid ((SL.out.set H3.out 0 rfl (by simp) 0 (.slice ao' N.length cap')).set (H3.out.set 0 rfl 0 (.slice ao' N.length cap')) 0 rfl (by simp) 1 (.int .i64 m))
  obtain ⟨q0,q1⟩:=cell2 (HF.out.cell 0 rfl)
  go_wp2
  refine bodyPost_ret (v:=.tuple #[.agg #[.slice ao' N.length cap',.int .i64 m],.int .i64 0]) (by simp [results,Tryz.results170,go_sem,q0,q1]) rfl (by subst hn;exact ⟨_,rfl,⟨ao',cap',rfl,SF.out⟩,HF.out.bl⟩)
theorem resize_any (t:Tb) (i c:Int) (ao:Option Addr) (cap:Nat) (w:World) (hS:Seen Rw.cs 6 ao t.rows w) (hc:chkT t=true) :
 Calls Tryz.prog 171 #[tv ao t.rows.length cap t.mode,.int .i64 i,.int .i64 c] w fun e w'=>∃ v,e=.returned (.tuple #[v,.int .i64 (resR t i c).2])∧Told v (resR t i c).1 w'∧Below w.heap.size w w':=by
 obtain ⟨l,m⟩:=t
 simp only at *
 obtain ⟨-,hr,hl,-,-⟩:=chkT_iff.1 hc
 simp only at hr hl
 have S:=Lib.hid hS
 have PL:Hid (∀ W,Below w.heap.size w W→Calls Tryz.prog 198 #[tv ao l.length cap m,.int .i64 i] W fun e w'=>∃ k:Nat,e=.returned (.tuple #[.int .i64 (k:Int),.bool (there l i k)])∧Pl l i k∧Below W.heap.size W w'):=Lib.hid (fun W hb=>place_any (hS.below hb (Nat.le_refl _)) hr (by omega))
 have WI:Hid (∀ (x:Rw) (k j:Nat) W ra,Below w.heap.size w W→k≤l.length→j≤l.length→Seen Rw.cs 6 (some ra) [x] W→Calls Tryz.prog 199 #[tv ao l.length cap m,.int .i64 (k:Int),.int .i64 (j:Int),.slice (some ra) 1 1] W fun e w'=>∃ ao' cap',e=.returned (tv ao' (l.take k++[x]++l.drop j).length cap' m)∧Sl (.slice ao' (l.take k++[x]++l.drop j).length cap') (l.take k++[x]++l.drop j) w' ao' cap'∧Below W.heap.size W w'):=Lib.hid (fun x k j W ra hb hk hj hs=>with_any l [x] ao (some ra) cap 1 m k j W (hS.below hb (Nat.le_refl _)) (by omega) hk hj hs (by simp) (by simp))
 have ONE:=Lib.hid (seen_one)
 have A1:Hid (∀ k,Pl l i k→there l i k=false→resR ⟨l,m⟩ i c=(tb0,12)):=Lib.hid (fun k h1 h2=>by unfold resR;rw [(pl_not hr h1 h2).1])
 have A3:Hid (∀ k,Pl l i k→there l i k=true→∃ r,l[k]?=some r∧(r.t.d<c→resR ⟨l,m⟩ i c=(tb0,1))∧(r.t.d≥c→resR ⟨l,m⟩ i c=(⟨l.take k++[⟨⟨r.t.id,c,r.t.d,r.t.t,r.t.m⟩,r.s⟩]++l.drop (k+1),m⟩,0))):=Lib.hid (fun k h1 h2=>by
  obtain ⟨ha,r,hr,-⟩:=pl_there h1 h2
  refine ⟨r,hr,fun h3=>?_,fun h3=>?_⟩
  · unfold resR;simp only;rw [ha];simp only;rw [hr];simp only;rw [if_pos h3]
  · unfold resR;simp only;rw [ha];simp only;rw [hr];simp only;rw [if_neg (by omega),List.append_assoc];rfl)
 generalize resR ⟨l,m⟩ i c=R at *
 obtain ⟨R1,R2⟩:=R
 simp only [Prod.mk.injEq] at A1 A3 ⊢
 have H0:=Lib.hid (tb_new w (.slice ao l.length cap) m)
 unfold tv at *
 have hl16:(l.length:Int)≤16:=by omega
 clear hS hc hr
 obtain ⟨t0,t1⟩:=cell2 (H0.out.cell 1 rfl)
 go_enter Tryz.func171,Tryz.ntmps171
 go_wp2_with fail
 (with_reducible refine (PL.out _ H0.out.bl).mono ?_)
 rintro e w1 ⟨k,rfl,hp,b1⟩
 have H1:=Lib.hid (H0.out.call b1)
 have HP:=Lib.hid hp
 clear b1 PL H0 t0 t1 hp
 obtain ⟨t0,t1⟩:=cell2 (H1.out.cell 1 rfl)
 obtain ⟨z0,z1⟩:=cell2 (H1.out.cell 0 rfl)
 have zf:=H1.out.fz 0 rfl
 cases hth:there l i k
 case false=>
  obtain ⟨rfl,rfl⟩:=A1.out k HP.out hth
  have HF:=Lib.hid ((H1.out.set 0 rfl 0 (.slice none 0 0)).set 0 rfl 1 (.int .i64 0))
  obtain ⟨q0,q1⟩:=cell2 (HF.out.cell 0 rfl)
  clear A1 A3 WI hth S
  go_wp2
  refine bodyPost_ret (v:=.tuple #[.agg #[.slice none 0 0,.int .i64 0],.int .i64 12]) (by simp [results,Tryz.results171,go_sem,q0,q1]) rfl ⟨_,rfl,told_zero _,HF.out.bl⟩
 case true=>
  obtain ⟨r,hrk,B1,B2⟩:=A3.out k HP.out hth
  have hkl:=(List.getElem?_eq_some_iff.1 hrk).1
  have hk':(k:Int)<(l.length:Int):=by omega
  have hk2:IntKind.i64.wrap (k:Int)=(k:Int):=IntWalk.i64_in _ (by omega)
  obtain ⟨b,off,rfl,hb,hat⟩:=S.out.below H1.out.bl (Nat.le_refl _) (by omega)
  obtain ⟨r0,r1,r2,r3,r4,r5⟩:=row_cells hat hrk
  obtain ⟨⟨xi,xc,xd,xt,xm⟩,xs⟩:=r
  simp only at *
  have H2:=Lib.hid (H1.out.new #[.int .i64 xi,.int .i64 xc,.int .i64 xd,.int .i64 xt,.int .i64 xm,.bool xs] 123)
  clear z0 z1 zf t0 t1
  obtain ⟨s0,s1⟩:=cell2 (H1.out.cell 1 rfl)
  obtain ⟨t0,t1⟩:=cell2 (H2.out.cell 2 rfl)
  obtain ⟨z0,z1⟩:=cell2 (H2.out.cell 1 rfl)
  have zf:=H2.out.fz 1 rfl
  by_cases hcd:xd<c
  ·obtain ⟨rfl,rfl⟩:=B1 hcd
   have HF:=Lib.hid ((H2.out.set 1 rfl 0 (.slice none 0 0)).set 1 rfl 1 (.int .i64 0))
   obtain ⟨q0,q1⟩:=cell2 (HF.out.cell 1 rfl)
   clear A1 A3 WI hth S B1 B2 hat hrk ONE
   go_wp2
   refine bodyPost_ret (v:=.tuple #[.agg #[.slice none 0 0,.int .i64 0],.int .i64 1]) (by simp [results,Tryz.results171,go_sem,q0,q1]) rfl ⟨_,rfl,told_zero _,HF.out.bl⟩
  ·obtain ⟨rfl,rfl⟩:=B2 (by omega)
   have hcd':c≤xd:=by omega
   have H3:=Lib.hid (H1.out.new #[.int .i64 xi,.int .i64 c,.int .i64 xd,.int .i64 xt,.int .i64 xm,.bool xs] 123)
   have on:=ONE.out (⟨⟨xi,c,xd,xt,xm⟩,xs⟩:Rw) (w1.alloc (.cells #[.int .i64 xi,.int .i64 c,.int .i64 xd,.int .i64 xt,.int .i64 xm,.bool xs] 123))
   simp only at on
   rw [World.size_alloc] at on
   have H4:=Lib.hid (H3.out.new #[.int .i64 xi,.int .i64 c,.int .i64 xd,.int .i64 xt,.int .i64 xm,.bool xs] 123)
   have ek:IntKind.i64.wrap ((k:Int)+1)=(k:Int)+1:=IntWalk.i64_in _ (by omega)
   have ec:((k+1:Nat):Int)=(k:Int)+1:=by omega
   have WC:=Lib.hid (WI.out (⟨⟨xi,c,xd,xt,xm⟩,xs⟩:Rw) k (k+1) _ _ H4.out.bl HP.out.1 hkl on)
   rw [ec] at WC
   clear A1 A3 WI hth S B1 B2 hat hrk ONE t0 t1 z0 z1 zf on
   have hr0:=cell6 (H2.out.cell 0 rfl)
   obtain ⟨a0,a1,a2,a3,a4,a5⟩:=hr0
   have af:=H2.out.fz 0 rfl
   obtain ⟨u0,u1⟩:=cell2 (H3.out.cell 2 rfl)
   obtain ⟨y0,y1,y2,y3,y4,y5⟩:=cell6 (H3.out.cell 0 rfl)
   go_wp2_with fail
   (with_reducible refine WC.out.mono ?_)
   rintro e w2 ⟨ao',cap',rfl,sl,b2⟩
   have H5:=Lib.hid (H4.out.call b2)
   have SL:=Lib.hid sl
   clear b2 sl WC u0 u1 y0 y1 y2 y3 y4 y5 a0 a1 a2 a3 a4 a5 af
   generalize hn:(l.take k++[(⟨⟨xi,c,xd,xt,xm⟩,xs⟩:Rw)]++l.drop (k+1))=N at *
   obtain ⟨z0,z1⟩:=cell2 (H5.out.cell 2 rfl)
   have zf:=H5.out.fz 2 rfl
   have HF:=Lib.hid ((H5.out.set 2 rfl 0 (.slice ao' N.length cap')).set 2 rfl 1 (.int .i64 m))
   have SF:=Lib.hid ((SL.out.set H5.out 2 rfl (by simp) 0 (.slice ao' N.length cap')).set (H5.out.set 2 rfl 0 (.slice ao' N.length cap')) 2 rfl (by simp) 1 (.int .i64 m))
   obtain ⟨q0,q1⟩:=cell2 (HF.out.cell 2 rfl)
   go_wp2
   refine bodyPost_ret (v:=.tuple #[.agg #[.slice ao' N.length cap',.int .i64 m],.int .i64 0]) (by simp [results,Tryz.results171,go_sem,q0,q1]) rfl (by subst hn;exact ⟨_,rfl,⟨ao',cap',rfl,SF.out⟩,HF.out.bl⟩)
end Go.Proofs.YteempfoajgblaaaGreat.Tb
namespace Go.Proofs.YteempfoajgblaaaGreat.Tb
open Pm (Tk chk chk_iff below_drewN)
open Ge (El Seen Row)
open Ox (Od chkR chkR_iff tk0)
theorem apply_no {t:Tb} {o:Od} (h:chkT t=false∨chkR o=false):applyR t o=(tb0,1):=by unfold applyR;rw [if_pos h]
theorem apply_admit {t:Tb} {x:Tk} {s:Bool} (h:chkT t=true) (k:chkR ⟨1,x,s,0,0,0⟩=true):applyR t ⟨1,x,s,0,0,0⟩=admR t ⟨x,s⟩:=by
 unfold applyR admR
 rw [if_neg (by rw [h,k];simp)]
 simp only [if_true]
 cases at_ t.rows x.id <;> rfl
theorem apply_remove {t:Tb} {i:Int} (h:chkT t=true) (k:chkR ⟨2,tk0,false,i,0,0⟩=true):applyR t ⟨2,tk0,false,i,0,0⟩=remR t i:=by
 unfold applyR remR
 rw [if_neg (by rw [h,k];simp)]
 simp only [show ¬(2:Int)=1 by decide,show ¬(2:Int)=4 by decide,show ¬(2:Int)=3 by decide,if_false]
 cases at_ t.rows i <;> rfl
theorem apply_resize {t:Tb} {i c:Int} (h:chkT t=true) (k:chkR ⟨3,tk0,false,i,c,0⟩=true):applyR t ⟨3,tk0,false,i,c,0⟩=resR t i c:=by
 unfold applyR resR
 rw [if_neg (by rw [h,k];simp)]
 simp only [show ¬(3:Int)=1 by decide,show ¬(3:Int)=4 by decide,if_false,if_true]
 cases at_ t.rows i with
 | none=>rfl
 | some k=>cases t.rows[k]? <;> rfl
theorem apply_mode {t:Tb} {m:Int} (h:chkT t=true) (k:chkR ⟨4,tk0,false,0,0,m⟩=true):applyR t ⟨4,tk0,false,0,0,m⟩=(⟨t.rows,m⟩,0):=by
 unfold applyR
 rw [if_neg (by rw [h,k];simp)]
 simp only [show ¬(4:Int)=1 by decide,if_false,if_true]
theorem to_new (w:World) (a:Value) (m:Int) (cs:Array Value):Bos [(w.heap.size+2,#[.slice none 0 0,.int .i64 0],52),(w.heap.size+1,cs,47),(w.heap.size,#[a,.int .i64 m],52)] w (((w.alloc (.cells #[a,.int .i64 m] 52)).alloc (.cells cs 47)).alloc (.cells #[.slice none 0 0,.int .i64 0] 52)):=by
 have:=(((bos_nil w).new #[a,.int .i64 m] 52).new cs 47).new #[.slice none 0 0,.int .i64 0] 52
 simp only [World.size_alloc] at this
 exact this
theorem apply_any (t:Tb) (o:Od) (ao:Option Addr) (cap:Nat) (w:World) (hS:Seen Rw.cs 6 ao t.rows w) (hl:t.rows.length≤1000) :
 Calls Tryz.prog 132 #[tv ao t.rows.length cap t.mode,o.v] w fun e w'=>∃ v,e=.returned (.tuple #[v,.int .i64 (applyR t o).2])∧Told v (applyR t o).1 w'∧Below w.heap.size w w':=by
 have S:=Lib.hid hS
 have CT:Hid (∀ W,Below w.heap.size w W→Calls Tryz.prog 109 #[tv ao t.rows.length cap t.mode] W fun e w'=>e=.returned (.bool (chkT t))∧Below W.heap.size W w'):=Lib.hid (fun W hb=>check_any t ao cap W (hS.below hb (Nat.le_refl _)) hl)
 have CO:=Lib.hid (Ox.check_any o)
 have H0:=Lib.hid (to_new w (.slice ao t.rows.length cap) t.mode o.cs)
 have NO:Hid (chkT t=false∨chkR o=false→applyR t o=(tb0,1)):=Lib.hid apply_no
 have AD:Hid (chkT t=true→∀ x W,Below w.heap.size w W→Calls Tryz.prog 169 #[tv ao t.rows.length cap t.mode,x.v] W fun e w'=>∃ v,e=.returned (.tuple #[v,.int .i64 (admR t x).2])∧Told v (admR t x).1 w'∧Below W.heap.size W w'):=Lib.hid (fun hc x W hb=>admit_any t x ao cap W (hS.below hb (Nat.le_refl _)) hc)
 have RM:Hid (chkT t=true→∀ i W,Below w.heap.size w W→Calls Tryz.prog 170 #[tv ao t.rows.length cap t.mode,.int .i64 i] W fun e w'=>∃ v,e=.returned (.tuple #[v,.int .i64 (remR t i).2])∧Told v (remR t i).1 w'∧Below W.heap.size W w'):=Lib.hid (fun hc i W hb=>remove_any t i ao cap W (hS.below hb (Nat.le_refl _)) hc)
 have RZ:Hid (chkT t=true→∀ i c W,Below w.heap.size w W→Calls Tryz.prog 171 #[tv ao t.rows.length cap t.mode,.int .i64 i,.int .i64 c] W fun e w'=>∃ v,e=.returned (.tuple #[v,.int .i64 (resR t i c).2])∧Told v (resR t i c).1 w'∧Below W.heap.size W w'):=Lib.hid (fun hc i c W hb=>resize_any t i c ao cap W (hS.below hb (Nat.le_refl _)) hc)
 have OW:Hid (∀ W,Below w.heap.size w W→Calls Tryz.prog 130 #[tv ao t.rows.length cap t.mode] W fun e w'=>∃ ao' cap',e=.returned (tv ao' t.rows.length cap' t.mode)∧Sl (.slice ao' t.rows.length cap') t.rows w' ao' cap'∧Below W.heap.size W w'):=Lib.hid (fun W hb=>own_any t.rows ao cap t.mode W (hS.below hb (Nat.le_refl _)) hl)
 generalize hct:chkT t=ct at *
 generalize hco:chkR o=co at *
 obtain ⟨l,m⟩:=t
 obtain ⟨k,⟨i,c,d,tt,tm⟩,s,oi,oc,om⟩:=o
 unfold tv Od.v Od.cs at *
 simp only at *
 obtain ⟨t0,t1⟩:=cell2 (H0.out.cell 2 rfl)
 obtain ⟨o0,o1,o2,o3,o4,o5,o6,o7,o8,o9⟩:=cell10 (H0.out.cell 1 rfl)
 obtain ⟨z0,z1⟩:=cell2 (H0.out.cell 0 rfl)
 have zf:=H0.out.fz 0 rfl
 cases ct
 case false=>
  have E:=Lib.hid (NO.out (.inl rfl))
  clear AD RM RZ OW NO S hct hco CO
  go_enter Tryz.func132,Tryz.ntmps132
  go_wp2_with fail
  (with_reducible refine (CT.out _ H0.out.bl).mono ?_)
  rintro e w1 ⟨rfl,b1⟩
  have H1:=Lib.hid (H0.out.call b1)
  clear b1 CT H0
  clear t0 t1 o0 o1 o2 o3 o4 o5 o6 o7 o8 o9 z0 z1 zf
  obtain ⟨t0,t1⟩:=cell2 (H1.out.cell 2 rfl)
  obtain ⟨o0,o1,o2,o3,o4,o5,o6,o7,o8,o9⟩:=cell10 (H1.out.cell 1 rfl)
  obtain ⟨z0,z1⟩:=cell2 (H1.out.cell 0 rfl)
  have zf:=H1.out.fz 0 rfl
  have HF:=Lib.hid ((H1.out.set 0 rfl 0 (.slice none 0 0)).set 0 rfl 1 (.int .i64 0))
  obtain ⟨q0,q1⟩:=cell2 (HF.out.cell 0 rfl)
  go_wp2
  refine bodyPost_ret (v:=.tuple #[.agg #[.slice none 0 0,.int .i64 0],.int .i64 1]) (by simp [results,Tryz.results132,go_sem,q0,q1]) rfl ⟨_,by rw [E.out],by rw [E.out];exact told_zero _,HF.out.bl⟩
 case true=>
  cases co
  case false=>
   have E:=Lib.hid (NO.out (.inr rfl))
   clear AD RM RZ OW NO S hct hco
   go_enter Tryz.func132,Tryz.ntmps132
   go_wp2_with fail
   (with_reducible refine (CT.out _ H0.out.bl).mono ?_)
   rintro e w1 ⟨rfl,b1⟩
   have H1:=Lib.hid (H0.out.call b1)
   clear b1 CT H0
   clear t0 t1 o0 o1 o2 o3 o4 o5 o6 o7 o8 o9 z0 z1 zf
   obtain ⟨t0,t1⟩:=cell2 (H1.out.cell 2 rfl)
   obtain ⟨o0,o1,o2,o3,o4,o5,o6,o7,o8,o9⟩:=cell10 (H1.out.cell 1 rfl)
   obtain ⟨z0,z1⟩:=cell2 (H1.out.cell 0 rfl)
   have zf:=H1.out.fz 0 rfl
   go_wp2_with fail
   (with_reducible refine (CO.out _).mono ?_)
   rintro e w2 ⟨rfl,b2⟩
   have H2:=Lib.hid (H1.out.call b2)
   clear b2 CO H1
   clear t0 t1 o0 o1 o2 o3 o4 o5 o6 o7 o8 o9 z0 z1 zf
   obtain ⟨t0,t1⟩:=cell2 (H2.out.cell 2 rfl)
   obtain ⟨o0,o1,o2,o3,o4,o5,o6,o7,o8,o9⟩:=cell10 (H2.out.cell 1 rfl)
   obtain ⟨z0,z1⟩:=cell2 (H2.out.cell 0 rfl)
   have zf:=H2.out.fz 0 rfl
   have HF:=Lib.hid ((H2.out.set 0 rfl 0 (.slice none 0 0)).set 0 rfl 1 (.int .i64 0))
   obtain ⟨q0,q1⟩:=cell2 (HF.out.cell 0 rfl)
   go_wp2
   refine bodyPost_ret (v:=.tuple #[.agg #[.slice none 0 0,.int .i64 0],.int .i64 1]) (by simp [results,Tryz.results132,go_sem,q0,q1]) rfl ⟨_,by rw [E.out],by rw [E.out];exact told_zero _,HF.out.bl⟩
  case true=>
   have AD:=Lib.hid (AD.out rfl)
   have RM:=Lib.hid (RM.out rfl)
   have RZ:=Lib.hid (RZ.out rfl)
   clear NO
   have hco2:=hco
   rcases chkR_iff.1 hco with ⟨x,xs,e,-⟩|⟨xi,e,-⟩|⟨xi,xc,e,-⟩|⟨xm,e,-⟩
   ·cases e
    have E:=Lib.hid (apply_admit hct hco2)
    have CC:=Lib.hid (AD.out ⟨⟨i,c,d,tt,tm⟩,s⟩)
    clear RM RZ AD OW S hct hco hco2
    unfold tk0 at *
    try simp only [Rw.v] at CC
    go_enter Tryz.func132,Tryz.ntmps132
    go_wp2_with fail
    (with_reducible refine (CT.out _ H0.out.bl).mono ?_)
    rintro e w1 ⟨rfl,b1⟩
    have H1:=Lib.hid (H0.out.call b1)
    clear b1 CT H0
    clear t0 t1 o0 o1 o2 o3 o4 o5 o6 o7 o8 o9 z0 z1 zf
    obtain ⟨t0,t1⟩:=cell2 (H1.out.cell 2 rfl)
    obtain ⟨o0,o1,o2,o3,o4,o5,o6,o7,o8,o9⟩:=cell10 (H1.out.cell 1 rfl)
    obtain ⟨z0,z1⟩:=cell2 (H1.out.cell 0 rfl)
    have zf:=H1.out.fz 0 rfl
    go_wp2_with fail
    (with_reducible refine (CO.out _).mono ?_)
    rintro e w2 ⟨rfl,b2⟩
    have H2:=Lib.hid (H1.out.call b2)
    clear b2 CO H1
    clear t0 t1 o0 o1 o2 o3 o4 o5 o6 o7 o8 o9 z0 z1 zf
    obtain ⟨t0,t1⟩:=cell2 (H2.out.cell 2 rfl)
    obtain ⟨o0,o1,o2,o3,o4,o5,o6,o7,o8,o9⟩:=cell10 (H2.out.cell 1 rfl)
    obtain ⟨z0,z1⟩:=cell2 (H2.out.cell 0 rfl)
    have zf:=H2.out.fz 0 rfl
    go_wp2_with fail
    (with_reducible refine (CC.out _ H2.out.bl).mono ?_)
    rintro e w3 ⟨v,rfl,⟨ao',cap',rfl,sl⟩,b3⟩
    have H3:=Lib.hid (H2.out.call b3)
    have SL:=Lib.hid sl
    clear b3 sl t0 t1 o0 o1 o2 o3 o4 o5 o6 o7 o8 o9 z0 z1 zf
    obtain ⟨z0,z1⟩:=cell2 (H3.out.cell 0 rfl)
    have zf:=H3.out.fz 0 rfl
    generalize hR:admR ⟨l,m⟩ ⟨⟨i,c,d,tt,tm⟩,s⟩=R at *
    have HF:=Lib.hid ((H3.out.set 0 rfl 0 (.slice ao' R.1.rows.length cap')).set 0 rfl 1 (.int .i64 R.1.mode))
    have SF:=Lib.hid ((SL.out.set H3.out 0 rfl (by simp) 0 (.slice ao' R.1.rows.length cap')).set (H3.out.set 0 rfl 0 (.slice ao' R.1.rows.length cap')) 0 rfl (by simp) 1 (.int .i64 R.1.mode))
    obtain ⟨q0,q1⟩:=cell2 (HF.out.cell 0 rfl)
    unfold tv
    go_wp2
    refine bodyPost_ret (v:=.tuple #[.agg #[.slice ao' R.1.rows.length cap',.int .i64 R.1.mode],.int .i64 R.2]) (by simp [results,Tryz.results132,go_sem,q0,q1]) rfl ⟨_,by rw [E.out],by rw [E.out];exact ⟨ao',cap',rfl,SF.out⟩,HF.out.bl⟩
   ·cases e
    have E:=Lib.hid (apply_remove hct hco2)
    have CC:=Lib.hid (RM.out oi)
    clear AD RZ RM OW S hct hco hco2
    unfold tk0 at *
    try simp only [Rw.v] at CC
    go_enter Tryz.func132,Tryz.ntmps132
    go_wp2_with fail
    (with_reducible refine (CT.out _ H0.out.bl).mono ?_)
    rintro e w1 ⟨rfl,b1⟩
    have H1:=Lib.hid (H0.out.call b1)
    clear b1 CT H0
    clear t0 t1 o0 o1 o2 o3 o4 o5 o6 o7 o8 o9 z0 z1 zf
    obtain ⟨t0,t1⟩:=cell2 (H1.out.cell 2 rfl)
    obtain ⟨o0,o1,o2,o3,o4,o5,o6,o7,o8,o9⟩:=cell10 (H1.out.cell 1 rfl)
    obtain ⟨z0,z1⟩:=cell2 (H1.out.cell 0 rfl)
    have zf:=H1.out.fz 0 rfl
    go_wp2_with fail
    (with_reducible refine (CO.out _).mono ?_)
    rintro e w2 ⟨rfl,b2⟩
    have H2:=Lib.hid (H1.out.call b2)
    clear b2 CO H1
    clear t0 t1 o0 o1 o2 o3 o4 o5 o6 o7 o8 o9 z0 z1 zf
    obtain ⟨t0,t1⟩:=cell2 (H2.out.cell 2 rfl)
    obtain ⟨o0,o1,o2,o3,o4,o5,o6,o7,o8,o9⟩:=cell10 (H2.out.cell 1 rfl)
    obtain ⟨z0,z1⟩:=cell2 (H2.out.cell 0 rfl)
    have zf:=H2.out.fz 0 rfl
    go_wp2_with fail
    (with_reducible refine (CC.out _ H2.out.bl).mono ?_)
    rintro e w3 ⟨v,rfl,⟨ao',cap',rfl,sl⟩,b3⟩
    have H3:=Lib.hid (H2.out.call b3)
    have SL:=Lib.hid sl
    clear b3 sl t0 t1 o0 o1 o2 o3 o4 o5 o6 o7 o8 o9 z0 z1 zf
    obtain ⟨z0,z1⟩:=cell2 (H3.out.cell 0 rfl)
    have zf:=H3.out.fz 0 rfl
    generalize hR:remR ⟨l,m⟩ oi=R at *
    have HF:=Lib.hid ((H3.out.set 0 rfl 0 (.slice ao' R.1.rows.length cap')).set 0 rfl 1 (.int .i64 R.1.mode))
    have SF:=Lib.hid ((SL.out.set H3.out 0 rfl (by simp) 0 (.slice ao' R.1.rows.length cap')).set (H3.out.set 0 rfl 0 (.slice ao' R.1.rows.length cap')) 0 rfl (by simp) 1 (.int .i64 R.1.mode))
    obtain ⟨q0,q1⟩:=cell2 (HF.out.cell 0 rfl)
    unfold tv
    go_wp2
    refine bodyPost_ret (v:=.tuple #[.agg #[.slice ao' R.1.rows.length cap',.int .i64 R.1.mode],.int .i64 R.2]) (by simp [results,Tryz.results132,go_sem,q0,q1]) rfl ⟨_,by rw [E.out],by rw [E.out];exact ⟨ao',cap',rfl,SF.out⟩,HF.out.bl⟩
   ·cases e
    have E:=Lib.hid (apply_resize hct hco2)
    have CC:=Lib.hid (RZ.out oi oc)
    clear AD RM RZ OW S hct hco hco2
    unfold tk0 at *
    try simp only [Rw.v] at CC
    go_enter Tryz.func132,Tryz.ntmps132
    go_wp2_with fail
    (with_reducible refine (CT.out _ H0.out.bl).mono ?_)
    rintro e w1 ⟨rfl,b1⟩
    have H1:=Lib.hid (H0.out.call b1)
    clear b1 CT H0
    clear t0 t1 o0 o1 o2 o3 o4 o5 o6 o7 o8 o9 z0 z1 zf
    obtain ⟨t0,t1⟩:=cell2 (H1.out.cell 2 rfl)
    obtain ⟨o0,o1,o2,o3,o4,o5,o6,o7,o8,o9⟩:=cell10 (H1.out.cell 1 rfl)
    obtain ⟨z0,z1⟩:=cell2 (H1.out.cell 0 rfl)
    have zf:=H1.out.fz 0 rfl
    go_wp2_with fail
    (with_reducible refine (CO.out _).mono ?_)
    rintro e w2 ⟨rfl,b2⟩
    have H2:=Lib.hid (H1.out.call b2)
    clear b2 CO H1
    clear t0 t1 o0 o1 o2 o3 o4 o5 o6 o7 o8 o9 z0 z1 zf
    obtain ⟨t0,t1⟩:=cell2 (H2.out.cell 2 rfl)
    obtain ⟨o0,o1,o2,o3,o4,o5,o6,o7,o8,o9⟩:=cell10 (H2.out.cell 1 rfl)
    obtain ⟨z0,z1⟩:=cell2 (H2.out.cell 0 rfl)
    have zf:=H2.out.fz 0 rfl
    go_wp2_with fail
    (with_reducible refine (CC.out _ H2.out.bl).mono ?_)
    rintro e w3 ⟨v,rfl,⟨ao',cap',rfl,sl⟩,b3⟩
    have H3:=Lib.hid (H2.out.call b3)
    have SL:=Lib.hid sl
    clear b3 sl t0 t1 o0 o1 o2 o3 o4 o5 o6 o7 o8 o9 z0 z1 zf
    obtain ⟨z0,z1⟩:=cell2 (H3.out.cell 0 rfl)
    have zf:=H3.out.fz 0 rfl
    generalize hR:resR ⟨l,m⟩ oi oc=R at *
    have HF:=Lib.hid ((H3.out.set 0 rfl 0 (.slice ao' R.1.rows.length cap')).set 0 rfl 1 (.int .i64 R.1.mode))
    have SF:=Lib.hid ((SL.out.set H3.out 0 rfl (by simp) 0 (.slice ao' R.1.rows.length cap')).set (H3.out.set 0 rfl 0 (.slice ao' R.1.rows.length cap')) 0 rfl (by simp) 1 (.int .i64 R.1.mode))
    obtain ⟨q0,q1⟩:=cell2 (HF.out.cell 0 rfl)
    unfold tv
    go_wp2
    refine bodyPost_ret (v:=.tuple #[.agg #[.slice ao' R.1.rows.length cap',.int .i64 R.1.mode],.int .i64 R.2]) (by simp [results,Tryz.results132,go_sem,q0,q1]) rfl ⟨_,by rw [E.out],by rw [E.out];exact ⟨ao',cap',rfl,SF.out⟩,HF.out.bl⟩
   ·cases e
    have E:=Lib.hid (apply_mode hct hco2)
    clear AD RM RZ S hct hco hco2
    unfold tk0 at *
    go_enter Tryz.func132,Tryz.ntmps132
    go_wp2_with fail
    (with_reducible refine (CT.out _ H0.out.bl).mono ?_)
    rintro e w1 ⟨rfl,b1⟩
    have H1:=Lib.hid (H0.out.call b1)
    clear b1 CT H0
    clear t0 t1 o0 o1 o2 o3 o4 o5 o6 o7 o8 o9 z0 z1 zf
    obtain ⟨t0,t1⟩:=cell2 (H1.out.cell 2 rfl)
    obtain ⟨o0,o1,o2,o3,o4,o5,o6,o7,o8,o9⟩:=cell10 (H1.out.cell 1 rfl)
    obtain ⟨z0,z1⟩:=cell2 (H1.out.cell 0 rfl)
    have zf:=H1.out.fz 0 rfl
    go_wp2_with fail
    (with_reducible refine (CO.out _).mono ?_)
    rintro e w2 ⟨rfl,b2⟩
    have H2:=Lib.hid (H1.out.call b2)
    clear b2 CO H1
    clear t0 t1 o0 o1 o2 o3 o4 o5 o6 o7 o8 o9 z0 z1 zf
    obtain ⟨t0,t1⟩:=cell2 (H2.out.cell 2 rfl)
    obtain ⟨o0,o1,o2,o3,o4,o5,o6,o7,o8,o9⟩:=cell10 (H2.out.cell 1 rfl)
    obtain ⟨z0,z1⟩:=cell2 (H2.out.cell 0 rfl)
    have zf:=H2.out.fz 0 rfl
    go_wp2_with fail
    (with_reducible refine (OW.out _ H2.out.bl).mono ?_)
    rintro e w3 ⟨ao',cap',rfl,sl,b3⟩
    have H3:=Lib.hid (H2.out.call b3)
    have H4:=Lib.hid (H3.out.new #[.slice ao' l.length cap',.int .i64 m] 52)
    have H5:=Lib.hid (H3.out.new #[.slice ao' l.length cap',.int .i64 om] 52)
    have SL:=Lib.hid (sl.call ((Below.refl _ _).alloc (Nat.le_refl _) (.cells #[.slice ao' l.length cap',.int .i64 om] 52)))
    clear b3 sl t0 t1 o0 o1 o2 o3 o4 o5 o6 o7 o8 o9 z0 z1 zf
    obtain ⟨o0,o1,o2,o3,o4,o5,o6,o7,o8,o9⟩:=cell10 (H4.out.cell 2 rfl)
    obtain ⟨p0,p1⟩:=cell2 (H4.out.cell 0 rfl)
    have pf:=H4.out.fz 0 rfl
    obtain ⟨z0,z1⟩:=cell2 (H5.out.cell 1 rfl)
    obtain ⟨r0,r1⟩:=cell2 (H5.out.cell 0 rfl)
    have zf:=H5.out.fz 1 rfl
    have HF:=Lib.hid ((H5.out.set 1 rfl 0 (.slice ao' l.length cap')).set 1 rfl 1 (.int .i64 om))
    have SF:=Lib.hid ((SL.out.set H5.out 1 rfl (by simp) 0 (.slice ao' l.length cap')).set (H5.out.set 1 rfl 0 (.slice ao' l.length cap')) 1 rfl (by simp) 1 (.int .i64 om))
    obtain ⟨q0,q1⟩:=cell2 (HF.out.cell 1 rfl)
    go_wp2
    refine bodyPost_ret (v:=.tuple #[.agg #[.slice ao' l.length cap',.int .i64 om],.int .i64 0]) (by simp [results,Tryz.results132,go_sem,q0,q1]) rfl ⟨_,by rw [E.out],by rw [E.out];exact ⟨ao',cap',rfl,SF.out⟩,HF.out.bl⟩
end Go.Proofs.YteempfoajgblaaaGreat.Tb
namespace Go.Proofs.YteempfoajgblaaaGreat.Tb
open Pm (Tk chk chk_iff below_drewN)
open Ge (El Seen Row)
def atI (l:List Rw) (id:Int):Int:=match at_ l id with
 | some k=>(k:Int)
 | none=>-1
theorem at_here {l:List Rw} {id:Int} {i:Nat} {x:Rw} (h:∀ j r,j<i→l[j]?=some r→r.t.id≠id) (hx:l[i]?=some x) (hid:x.t.id=id):at_ l id=some i:=by
 obtain ⟨hl,he⟩:=List.getElem?_eq_some_iff.1 hx
 unfold at_
 rw [List.findIdx?_eq_some_iff_getElem]
 refine ⟨hl,by rw [he];simpa using hid,fun j hj=>?_⟩
 have:=h j _ hj (List.getElem?_eq_getElem (by omega))
 simpa using this
theorem at_away {l:List Rw} {id:Int} (h:∀ j r,j<l.length→l[j]?=some r→r.t.id≠id):at_ l id=none:=by
 unfold at_
 rw [List.findIdx?_eq_none_iff]
 intro r hr
 obtain ⟨j,hj,rfl⟩:=List.getElem_of_mem hr
 have:=h j _ hj (List.getElem?_eq_getElem hj)
 simpa using this
def AtRel (l:List Rw) (id:Int) (L:List (Nat×Array Value×Nat)) (w:World) (g:Nat) (s:Value) (wx:World):Prop:=
 ∃ i:Nat,i+g=l.length∧s=.int .i64 (i:Int)∧(∀ j r,j<i→l[j]?=some r→r.t.id≠id)∧Bos L w wx
theorem rat_any (l:List Rw) (ao:Option Addr) (cap:Nat) (m id:Int) (w:World) (hS:Seen Rw.cs 6 ao l w) (hl:l.length≤1000) :
 Calls Tryz.prog 97 #[tv ao l.length cap m,.int .i64 id] w fun e w'=>e=.returned (.int .i64 (atI l id))∧Below w.heap.size w w':=by
 unfold tv
 have S:=Lib.hid hS
 clear hS
 have H0:=Lib.hid ((bos_nil w).new #[.slice ao l.length cap,.int .i64 m] 52)
 have HERE:Hid (∀ (i:Nat) (x:Rw),(∀ (j:Nat) (r:Rw),j<i→l[j]?=some r→r.t.id≠id)→l[i]?=some x→x.t.id=id→atI l id=(i:Int)):=Lib.hid (fun i x h hx hid=>by unfold atI;rw [at_here h hx hid])
 have AWAY:Hid ((∀ (j:Nat) (r:Rw),j<l.length→l[j]?=some r→r.t.id≠id)→atI l id=-1):=Lib.hid (fun h=>by unfold atI;rw [at_away h])
 generalize atI l id=R at *
 go_enter Tryz.func97,Tryz.ntmps97
 go_wp2_with fail
 go_loopg [5] l.length (AtRel l id [(w.heap.size,#[.slice ao l.length cap,.int .i64 m],52)] w)
 case atStart=>exact ⟨0,by omega,rfl,fun j r h=>by omega,H0.out⟩
 case round=>
  obtain ⟨i,hi,rfl,hp,hB⟩:=hrel
  have TW:=S.out.below hB.bl (Nat.le_refl _)
  clear H0
  obtain ⟨t0,t1⟩:=cell2 (hB.cell 0 rfl)
  have HB:=Lib.hid hB
  have HP:=Lib.hid hp
  have HI:=Lib.hid hi
  by_cases hlt:i<l.length
  ·obtain ⟨b,off,rfl,hb,hat⟩:=TW (by omega)
   have hxi:=List.getElem?_eq_getElem hlt
   have c0:=(row_cells hat hxi).1
   have hlt':(i:Int)<(l.length:Int):=by omega
   have hg0:0<gk:=by omega
   have HXI:=Lib.hid hxi
   generalize l[i]=x at *
   obtain ⟨⟨xi,xc,xd,xt,xm⟩,xs⟩:=x
   simp only at c0
   clear hi hp TW hat hxi hB
   by_cases he:xi=id
   ·have E:=Lib.hid (HERE.out i _ HP.out HXI.out he)
    have he':(xi==id)=true:=by simp [he]
    clear HERE AWAY HP HXI
    go_wp2
    go_ret
    exact ⟨by rw [E.out];rfl,HB.out.bl⟩
   ·have he':(xi==id)=false:=by simp [he]
    have NX:Hid (∀ j r,j<i+1→l[j]?=some r→r.t.id≠id):=Lib.hid (fun j r hj hr=>by
     by_cases e:j=i
     · subst e;have:=HXI.out;rw [hr] at this;cases this;exact he
     · exact HP.out j r (by omega) hr)
    clear HERE AWAY HP HXI
    go_wp2
    go_roundg (gk-1)
    case measure=>omega
    case rel=>exact ⟨i+1,by have:=HI.out;omega,by go_num,NX.out,HB.out⟩
  ·have hge:(l.length:Int)≤(i:Int):=by omega
   obtain rfl:i=l.length:=by omega
   have E:=Lib.hid (AWAY.out hp)
   clear hB TW hp hi hlt
   go_wp2
   go_ret
   exact ⟨by rw [E.out];rfl,HB.out.bl⟩
theorem Bos.grow {L:List (Nat×Array Value×Nat)} {w W W':World} {v:Option Nat} (h:Bos L w W) (hv:∀ x∈L,v≠some x.1) (hB:∀ g,v=some g→w.heap.size≤g) (g:W.grownBy W' v):Bos L w W':=by
 refine ⟨fun x hx=>⟨?_,(h.at_ x hx).2⟩,h.nd,⟨g.os.trans h.bl.os,g.tape.trans h.bl.tape,g.output.trans h.bl.output,Nat.le_trans h.bl.size g.size,fun k hk=>?_⟩⟩
 ·rw [g.block x.1 (Array.getElem?_eq_some_iff.1 (h.at_ x hx).1).1 (fun e=>hv x hx e.symm)]
  exact (h.at_ x hx).1
 ·rw [g.block k (Nat.lt_of_lt_of_le hk h.bl.size) (fun e=>by have:=hB k e.symm;omega)]
  exact h.bl.block k hk
theorem row_ne {B:Nat} {W:World} {v:Value} {l:List Rw} {p:Nat} {cs:Array Value} {T:Nat} {fz:Nat×Nat} (h:Row Rw.cs 6 123 B W v l) (hp:W.heap[p]?=some (.cells cs T fz)) (hT:T≠123):v.ownBlock≠some p:=fun e=>by
 rcases h.2 with ⟨rfl,h0⟩|⟨g,c,cur,rfl,hB,hg,-⟩
 · cases e
 ·have:g=p:=by simpa [Value.ownBlock] using e
  subst this
  rw [hg] at hp
  cases hp
  exact hT rfl
def NoRow (L:List (Nat×Array Value×Nat)):Prop:=∀ x∈L,x.2.2≠123
theorem app_any {L:List (Nat×Array Value×Nat)} {w W:World} {v:Value} {l m:List Rw} {ao:Option Addr} {c:Nat} (h:Bos L w W) (hn:NoRow L) (hr:Row Rw.cs 6 123 w.heap.size W v l) (hs:Seen Rw.cs 6 ao m W) (hl:l.length+m.length≤100000) :
 ∃ v' W',(Builtin.append_ #[50,50] 50 #[v,.slice ao m.length c]).run Tryz.prog W=.ok v' W'∧Row Rw.cs 6 123 w.heap.size W' v' (l++m)∧Bos L w W':=by
 cases ao with
 | none=>
  have h0:m=[]:=by
   rcases Nat.eq_zero_or_pos m.length with e|e
   · exact List.eq_nil_of_length_eq_zero e
   · obtain ⟨b,off,e,-⟩:=hs e;cases e
  subst h0
  obtain ⟨ao,cap,rfl,hle,-,-⟩:=Row.form cs_len hr
  exact ⟨_,W,Ge.all_none el W _ ao none l.length cap c hle,by rw [List.append_nil];exact hr,h⟩
 | some ad=>
  obtain ⟨v',W',h1,h2,h3,h4⟩:=Ge.row_all el (c:=c) (ty:=50) hr hs h.bl.size hl
  exact ⟨v',W',h1,h2,h.grow (fun x hx=>row_ne hr (h.at_ x hx).1 (hn x hx)) (fun g e=>(hr.lt g e).1) h4⟩
theorem app_new {L:List (Nat×Array Value×Nat)} {w W:World} {v:Value} {l:List Rw} (x:Rw) (h:Bos L w W) (hn:NoRow L) (hr:Row Rw.cs 6 123 w.heap.size W v l) (hl:l.length≤90000) :
 ∃ v' W',(Builtin.append_ #[50,50] 50 #[v,.slice (some ⟨W.heap.size,0,none⟩) 1 1]).run Tryz.prog (W.alloc (.cells #[.int .i64 x.t.id,.int .i64 x.t.c,.int .i64 x.t.d,.int .i64 x.t.t,.int .i64 x.t.m,.bool x.s] 123))=.ok v' W'∧Row Rw.cs 6 123 w.heap.size W' v' (l++[x])∧Bos L w W' :=
 app_any (m:=[x]) (c:=1) (h.call ((Below.refl _ _).alloc (Nat.le_refl _) _)) hn (hr.call ((Below.refl _ _).alloc (Nat.le_refl _) _)) (seen_one x W) (by simp;omega)
theorem row_set {L:List (Nat×Array Value×Nat)} {w W:World} {B:Nat} {v:Value} {l:List Rw} (hr:Row Rw.cs 6 123 B W v l) (h:Bos L w W) {p:Nat} {cs:Array Value} {T:Nat} (i:Nat) (hi:L[i]?=some (p,cs,T)) (hT:T≠123) (o:Nat) (x:Value):Row Rw.cs 6 123 B (W.setCell ⟨p,o,none⟩ x) v l:=
 hr.of_blocks fun k hk=>Below.heap_setCell _ _ _ _ (fun e=>row_ne hr (h.at_ _ (List.mem_of_getElem? hi)).1 hT (by rw [hk];simp only at e;rw [e]))
theorem row_told {B:Nat} {W:World} {v:Value} {t:Tb} {l:List Rw} {m:Int} (h:Row Rw.cs 6 123 B W v l) (hl:t.rows=l) (hm:t.mode=m):Told (.agg #[v,.int .i64 m]) t W:=by
 obtain ⟨ao,cap,hs⟩:=row_sl h
 obtain rfl:=hs.eq
 subst hl hm
 exact ⟨ao,cap,rfl,hs⟩
theorem ins_last {x:Rw} {m:List Rw} (h:∀ r∈m,¬x.t.id<r.t.id):ins x m=m++[x]:=by
 induction m with
 | nil=>rfl
 | cons r m ih=>
  unfold ins
  rw [if_neg (h r (by simp)),ih (fun q hq=>h q (by simp [hq]))];rfl
theorem ins_here {x y:Rw} {m:List Rw} (h:∀ r∈m,¬x.t.id<r.t.id) (hy:x.t.id<y.t.id):ins x (m++[y])=m++[x]++[y]:=by
 induction m with
 | nil=>unfold ins;rw [List.nil_append];simp only;rw [if_pos hy];rfl
 | cons r m ih=>
  rw [List.cons_append]
  unfold ins
  rw [if_neg (h r (by simp)),ih (fun q hq=>h q (by simp [hq]))];rfl
theorem ins_snoc {x y:Rw} {m:List Rw} (h:∃ r∈m,x.t.id<r.t.id):ins x (m++[y])=ins x m++[y]:=by
 induction m with
 | nil=>obtain ⟨r,hr,-⟩:=h;cases hr
 | cons r m ih=>
  rw [List.cons_append]
  unfold ins
  by_cases hx:x.t.id<r.t.id
  · rw [if_pos hx,if_pos hx];rfl
  · rw [if_neg hx,if_neg hx,ih (by
   obtain ⟨q,hq,hlt⟩:=h
   rcases List.mem_cons.1 hq with rfl|hq
   · exact absurd hlt hx
   · exact ⟨q,hq,hlt⟩)];rfl
end Go.Proofs.YteempfoajgblaaaGreat.Tb
namespace Go.Proofs.YteempfoajgblaaaGreat.Tb
open Pm (Tk chk chk_iff below_drewN)
open Ge (El Seen Row)
open Ox (Od chkR chkR_iff tk0)
theorem slice_h (ao:Option Addr) (n cap k:Nat) (hk:k≤cap) (w:World):(Instr.sliceAt 50 (.slice ao n cap) none (some (.int .i64 (k:Int))) none).run Tryz.prog w=.ok (.slice ao k cap) w:=by
 have e:(sizeOf (Tryz.prog.elem 50)).run Tryz.prog w=.ok 6 w:=by kernel_rfl
 rw [run_sliceAt_slice w _ _ _ _ _ (by kernel_rfl),run_slice_h w _ _ _ _ (by kernel_rfl) _ _ (by omega) (by omega),e]
 simp only [Result.andThen,sliced]
 have:ao.map (fun x=>x.add (0*6))=ao:=by cases ao <;> simp [Addr.add]
 rw [this]
 simp
def insP (x:Rw) (put:Bool) (l:List Rw):List Rw:=if put then ins x l else l
def InRel (l:List Rw) (x:Rw) (p:Nat) (m:Int) (L:List (Nat×Array Value×Nat)) (w:World) (g:Nat) (s9 s10:Value) (wx:World):Prop:=
 ∃ (i:Nat) (put:Bool) (v:Value),i+g=l.length∧s9=.bool put∧s10=.int .i64 (i:Int)∧Bos ((p,#[v,.int .i64 m],52) :: L) w wx∧Row Rw.cs 6 123 w.heap.size wx v (insP x put (l.take i))∧(put=true→∃ r∈l.take i,x.t.id<r.t.id)∧(put=false→∀ r∈l.take i,r.t.id≤x.t.id)
theorem insP_len (x:Rw) (put:Bool) (l:List Rw):(insP x put l).length≤l.length+1:=by
 unfold insP
 cases put with
 | true=>rw [if_pos rfl,ins_len];omega
 | false=>rw [if_neg (by decide)];omega
theorem insP_put {x:Rw} {l:List Rw} {i:Nat} (hi:i<l.length) (h:∃ r∈l.take i,x.t.id<r.t.id):insP x true (l.take i)++[l[i]]=insP x true (l.take (i+1))∧∃ r∈l.take (i+1),x.t.id<r.t.id:=by
 unfold insP
 rw [if_pos rfl,if_pos rfl,List.take_succ_eq_append_getElem hi,ins_snoc h]
 obtain ⟨r,hr,hl⟩:=h
 exact ⟨rfl,r,List.mem_append_left _ hr,hl⟩
theorem insP_not {x:Rw} {l:List Rw} {i:Nat} (hi:i<l.length) (h:∀ r∈l.take i,r.t.id≤x.t.id) (hx:l[i].t.id≤x.t.id):insP x false (l.take i)++[l[i]]=insP x false (l.take (i+1))∧∀ r∈l.take (i+1),r.t.id≤x.t.id:=by
 unfold insP
 rw [if_neg (by decide),if_neg (by decide),List.take_succ_eq_append_getElem hi]
 refine ⟨rfl,fun r hr=>?_⟩
 rcases List.mem_append.1 hr with hr|hr
 · exact h r hr
 · rw [List.mem_singleton.1 hr];exact hx
theorem insP_here {x:Rw} {l:List Rw} {i:Nat} (hi:i<l.length) (h:∀ r∈l.take i,r.t.id≤x.t.id) (hx:x.t.id<l[i].t.id):insP x false (l.take i)++[x]++[l[i]]=insP x true (l.take (i+1))∧∃ r∈l.take (i+1),x.t.id<r.t.id:=by
 unfold insP
 rw [if_neg (by decide),if_pos rfl]
 exact ⟨by rw [List.take_succ_eq_append_getElem hi,ins_here (fun r hr=>Int.not_lt.2 (h r hr)) hx],l[i],by rw [List.take_succ_eq_append_getElem hi];exact List.mem_append_right _ (List.mem_singleton.2 rfl),hx⟩
theorem seen_row {l:List Rw} {b off cap:Nat} {w W:World} {L:List (Nat×Array Value×Nat)} {v:Value} (hS:Sl v l w (some ⟨b,off,none⟩) cap) (h:Bos L w W) {j:Nat} {x:Rw} (hx:l[j]?=some x) :
 W.cell? ⟨b,off+j*6,none⟩=some (.int .i64 x.t.id)∧W.cell? ⟨b,off+j*6+1,none⟩=some (.int .i64 x.t.c)∧W.cell? ⟨b,off+j*6+2,none⟩=some (.int .i64 x.t.d)∧W.cell? ⟨b,off+j*6+3,none⟩=some (.int .i64 x.t.t)∧W.cell? ⟨b,off+j*6+4,none⟩=some (.int .i64 x.t.m)∧W.cell? ⟨b,off+j*6+5,none⟩=some (.bool x.s):=by
 obtain ⟨b',off',e,hb',hat'⟩:=(hS.seen.below h.bl (Nat.le_refl _)) (by have:=(List.getElem?_eq_some_iff.1 hx).1;omega)
 cases e
 exact row_cells hat' hx
theorem name_world {P:Program} {c:Code} {Q:Exit→Act→World→Prop} {a:Act} {w:World} (R:World→Prop) (h:R w) (k:∀ W,R W→c.wp P Q a W):c.wp P Q a w:=k w h
theorem noRow4 (p q r s:Nat) (a b c d:Array Value):NoRow [(p,a,52),(q,b,52),(r,c,47),(s,d,52)]:=by
 intro x hx
 simp only [List.mem_cons,List.not_mem_nil,or_false] at hx
 rcases hx with rfl|rfl|rfl|rfl <;> first|exact (by decide:(52:Nat)≠123)|exact (by decide:(47:Nat)≠123)
theorem rapply_no (t:Tb) (o:Od) (ao:Option Addr) (cap:Nat) (w:World) (hS:Sl (.slice ao t.rows.length cap) t.rows w ao cap) (hl:t.rows.length≤1000) (hno:chkT t=false∨chkR o=false) :
 Calls Tryz.prog 60 #[tv ao t.rows.length cap t.mode,o.v] w fun e w'=>∃ v,e=.returned (.tuple #[v,.int .i64 (applyR t o).2])∧Told v (applyR t o).1 w'∧Below w.heap.size w w':=by
 have S:=Lib.hid hS
 have CT:Hid (∀ W,Below w.heap.size w W→Calls Tryz.prog 67 #[tv ao t.rows.length cap t.mode] W fun e w'=>e=.returned (.bool (chkT t))∧Below W.heap.size W w'):=Lib.hid (fun W hb=>rcheck_any t ao cap W (hS.seen.below hb (Nat.le_refl _)) hl)
 have CO:=Lib.hid (Ox.rcheck_any o)
 have AT:Hid (∀ i W,Below w.heap.size w W→Calls Tryz.prog 97 #[tv ao t.rows.length cap t.mode,.int .i64 i] W fun e w'=>e=.returned (.int .i64 (atI t.rows i))∧Below W.heap.size W w'):=Lib.hid (fun i W hb=>rat_any t.rows ao cap t.mode i W (hS.seen.below hb (Nat.le_refl _)) hl)
 have H0:=Lib.hid (to_new w (.slice ao t.rows.length cap) t.mode o.cs)
 have NO:Hid (chkT t=false∨chkR o=false→applyR t o=(tb0,1)):=Lib.hid apply_no
 generalize hct:chkT t=ct at *
 generalize hco:chkR o=co at *
 obtain ⟨l,m⟩:=t
 obtain ⟨k,⟨i,c,d,tt,tm⟩,s,oi,oc,om⟩:=o
 unfold tv Od.v Od.cs at *
 simp only at *
 obtain ⟨t0,t1⟩:=cell2 (H0.out.cell 2 rfl)
 obtain ⟨o0,o1,o2,o3,o4,o5,o6,o7,o8,o9⟩:=cell10 (H0.out.cell 1 rfl)
 obtain ⟨z0,z1⟩:=cell2 (H0.out.cell 0 rfl)
 have zf:=H0.out.fz 0 rfl
 go_enter Tryz.func60,Tryz.ntmps60
 go_wp2_with fail
 (with_reducible refine (CT.out _ H0.out.bl).mono ?_)
 rintro e w1 ⟨rfl,b1⟩
 have H1:=Lib.hid (H0.out.call b1)
 clear b1 CT H0 t0 t1 o0 o1 o2 o3 o4 o5 o6 o7 o8 o9 z0 z1 zf
 obtain ⟨t0,t1⟩:=cell2 (H1.out.cell 2 rfl)
 obtain ⟨o0,o1,o2,o3,o4,o5,o6,o7,o8,o9⟩:=cell10 (H1.out.cell 1 rfl)
 obtain ⟨z0,z1⟩:=cell2 (H1.out.cell 0 rfl)
 have zf:=H1.out.fz 0 rfl
 go_wp2_with fail
 (with_reducible refine (CO.out _).mono ?_)
 rintro e w2 ⟨rfl,b2⟩
 have H2:=Lib.hid (H1.out.call b2)
 clear b2 CO H1 t0 t1 o0 o1 o2 o3 o4 o5 o6 o7 o8 o9 z0 z1 zf
 obtain ⟨t0,t1⟩:=cell2 (H2.out.cell 2 rfl)
 obtain ⟨o0,o1,o2,o3,o4,o5,o6,o7,o8,o9⟩:=cell10 (H2.out.cell 1 rfl)
 obtain ⟨z0,z1⟩:=cell2 (H2.out.cell 0 rfl)
 have zf:=H2.out.fz 0 rfl
 have E:=Lib.hid (NO.out hno)
 clear AT NO S hct hco
 cases ct
 case false=>
  have HF:=Lib.hid ((H2.out.set 0 rfl 0 (.slice none 0 0)).set 0 rfl 1 (.int .i64 0))
  obtain ⟨q0,q1⟩:=cell2 (HF.out.cell 0 rfl)
  go_wp2
  refine bodyPost_ret (v:=.tuple #[.agg #[.slice none 0 0,.int .i64 0],.int .i64 1]) (by simp [results,Tryz.results60,go_sem,q0,q1]) rfl ⟨_,by rw [E.out],by rw [E.out];exact told_zero _,HF.out.bl⟩
 case true=>
  obtain rfl:co=false:=by rcases hno with h|h;cases h;exact h
  have HF:=Lib.hid ((H2.out.set 0 rfl 0 (.slice none 0 0)).set 0 rfl 1 (.int .i64 0))
  obtain ⟨q0,q1⟩:=cell2 (HF.out.cell 0 rfl)
  go_wp2
  refine bodyPost_ret (v:=.tuple #[.agg #[.slice none 0 0,.int .i64 0],.int .i64 1]) (by simp [results,Tryz.results60,go_sem,q0,q1]) rfl ⟨_,by rw [E.out],by rw [E.out];exact told_zero _,HF.out.bl⟩
theorem rapply_mode (t:Tb) (o:Od) (ao:Option Addr) (cap:Nat) (w:World) (hS:Sl (.slice ao t.rows.length cap) t.rows w ao cap) (hl:t.rows.length≤1000) (hT:chkT t=true) {om:Int} (hk:o=⟨4,tk0,false,0,0,om⟩) (hO:chkR o=true) :
 Calls Tryz.prog 60 #[tv ao t.rows.length cap t.mode,o.v] w fun e w'=>∃ v,e=.returned (.tuple #[v,.int .i64 (applyR t o).2])∧Told v (applyR t o).1 w'∧Below w.heap.size w w':=by
 have S:=Lib.hid hS
 have CT:Hid (∀ W,Below w.heap.size w W→Calls Tryz.prog 67 #[tv ao t.rows.length cap t.mode] W fun e w'=>e=.returned (.bool (chkT t))∧Below W.heap.size W w'):=Lib.hid (fun W hb=>rcheck_any t ao cap W (hS.seen.below hb (Nat.le_refl _)) hl)
 have CO:=Lib.hid (Ox.rcheck_any o)
 have AT:Hid (∀ i W,Below w.heap.size w W→Calls Tryz.prog 97 #[tv ao t.rows.length cap t.mode,.int .i64 i] W fun e w'=>e=.returned (.int .i64 (atI t.rows i))∧Below W.heap.size W w'):=Lib.hid (fun i W hb=>rat_any t.rows ao cap t.mode i W (hS.seen.below hb (Nat.le_refl _)) hl)
 have H0:=Lib.hid (to_new w (.slice ao t.rows.length cap) t.mode o.cs)
 have NO:Hid (chkT t=false∨chkR o=false→applyR t o=(tb0,1)):=Lib.hid apply_no
 clear NO
 have hct:=hT
 have hco2:=hO
 rw [hT] at CT
 rw [hO] at CO
 subst hk
 clear hT hO
 obtain ⟨l,m⟩:=t
 unfold tv Od.v Od.cs at *
 try unfold tk0 at *
 simp only at *
 obtain ⟨t0,t1⟩:=cell2 (H0.out.cell 2 rfl)
 obtain ⟨o0,o1,o2,o3,o4,o5,o6,o7,o8,o9⟩:=cell10 (H0.out.cell 1 rfl)
 obtain ⟨z0,z1⟩:=cell2 (H0.out.cell 0 rfl)
 have zf:=H0.out.fz 0 rfl
 go_enter Tryz.func60,Tryz.ntmps60
 go_wp2_with fail
 (with_reducible refine (CT.out _ H0.out.bl).mono ?_)
 rintro e w1 ⟨rfl,b1⟩
 have H1:=Lib.hid (H0.out.call b1)
 clear b1 CT H0 t0 t1 o0 o1 o2 o3 o4 o5 o6 o7 o8 o9 z0 z1 zf
 obtain ⟨t0,t1⟩:=cell2 (H1.out.cell 2 rfl)
 obtain ⟨o0,o1,o2,o3,o4,o5,o6,o7,o8,o9⟩:=cell10 (H1.out.cell 1 rfl)
 obtain ⟨z0,z1⟩:=cell2 (H1.out.cell 0 rfl)
 have zf:=H1.out.fz 0 rfl
 go_wp2_with fail
 (with_reducible refine (CO.out _).mono ?_)
 rintro e w2 ⟨rfl,b2⟩
 have H2:=Lib.hid (H1.out.call b2)
 clear b2 CO H1 t0 t1 o0 o1 o2 o3 o4 o5 o6 o7 o8 o9 z0 z1 zf
 obtain ⟨t0,t1⟩:=cell2 (H2.out.cell 2 rfl)
 obtain ⟨o0,o1,o2,o3,o4,o5,o6,o7,o8,o9⟩:=cell10 (H2.out.cell 1 rfl)
 obtain ⟨z0,z1⟩:=cell2 (H2.out.cell 0 rfl)
 have zf:=H2.out.fz 0 rfl
 have E:=Lib.hid (apply_mode hct hco2)
 unfold tk0 at E
 clear hct hco2 AT
 have H3:=Lib.hid (H2.out.new #[.slice none 0 0,.int .i64 m] 52)
 have NR:Hid (NoRow [(w2.heap.size,#[.slice none 0 0,.int .i64 m],52),(w.heap.size+2,#[.slice none 0 0,.int .i64 0],52),(w.heap.size+1,#[.int .i64 4,.int .i64 0,.int .i64 0,.int .i64 0,.int .i64 0,.int .i64 0,.bool false,.int .i64 0,.int .i64 0,.int .i64 om],47),(w.heap.size,#[.slice ao l.length cap,.int .i64 m],52)]):=Lib.hid (noRow4 _ _ _ _ _ _ _ _)
 obtain ⟨t0,t1⟩:=cell2 (H3.out.cell 3 rfl)
 obtain ⟨o0,o1,o2,o3,o4,o5,o6,o7,o8,o9⟩:=cell10 (H3.out.cell 2 rfl)
 obtain ⟨z0,z1⟩:=cell2 (H3.out.cell 1 rfl)
 have zf:=H3.out.fz 1 rfl
 obtain ⟨p0,p1⟩:=cell2 (H3.out.cell 0 rfl)
 obtain ⟨v5,w5,ap5,r5,h5⟩:=app_any (c:=cap) H3.out NR.out (Ge.row_nil _ _) (S.out.seen.below H3.out.bl (Nat.le_refl _)) (by simp;omega)
 rw [List.nil_append] at r5
 have H5:=Lib.hid h5
 have R5:=Lib.hid r5
 clear r5 h5 NR S
 obtain ⟨va5,vk5,vc5,rfl⟩:∃ va vk vc,v5=.slice va vk vc:=by obtain ⟨ao,cap,e,-⟩:=Row.form cs_len R5.out;exact ⟨_,_,_,e⟩
 obtain ⟨x0,x1⟩:=cell2 (H5.out.cell 0 rfl)
 have xf:=H5.out.fz 0 rfl
 have H6:=Lib.hid ((H5.out.set 0 rfl 0 (.slice va5 vk5 vc5)).set 0 rfl 1 (.int .i64 om))
 have R6:=Lib.hid (row_set (row_set R5.out H5.out 0 rfl (by decide) 0 (.slice va5 vk5 vc5)) (H5.out.set 0 rfl 0 (.slice va5 vk5 vc5)) 0 rfl (by decide) 1 (.int .i64 om))
 have H5a:=Lib.hid (H5.out.set 0 rfl 0 (.slice va5 vk5 vc5))
 obtain ⟨u0,u1⟩:=cell2 (H5a.out.cell 0 rfl)
 have uf:=H5a.out.fz 0 rfl
 have uo:=(cell10 (H5a.out.cell 2 rfl)).2.2.2.2.2.2.2.2.2
 obtain ⟨g0,g1⟩:=cell2 (H6.out.cell 0 rfl)
 obtain ⟨z0,z1⟩:=cell2 (H6.out.cell 1 rfl)
 have zf:=H6.out.fz 1 rfl
 have HF:=Lib.hid ((H6.out.set 1 rfl 0 (.slice va5 vk5 vc5)).set 1 rfl 1 (.int .i64 om))
 have RF:=Lib.hid (row_set (row_set R6.out H6.out 1 rfl (by decide) 0 (.slice va5 vk5 vc5)) (H6.out.set 1 rfl 0 (.slice va5 vk5 vc5)) 1 rfl (by decide) 1 (.int .i64 om))
 obtain ⟨q0,q1⟩:=cell2 (HF.out.cell 1 rfl)
 go_wp2_with (at_builtin;refine Lib.wpList_append_run _ rfl _ _ _ _ rfl _ _ rfl rfl _ _ ap5 ?_)
 refine bodyPost_ret (v:=.tuple #[.agg #[(.slice va5 vk5 vc5),.int .i64 om],.int .i64 0]) (by simp [results,Tryz.results60,go_sem,q0,q1]) rfl ⟨_,by rw [E.out],by rw [E.out];exact row_told RF.out rfl rfl,HF.out.bl⟩
end Go.Proofs.YteempfoajgblaaaGreat.Tb
