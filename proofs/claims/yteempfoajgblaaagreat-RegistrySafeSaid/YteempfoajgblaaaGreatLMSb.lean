/- Contracts of package slots' newestOf and snapOf. Contract of package slots' snapOf. -/
import Derived.Test.YteempfoajgblaaaGreatLSlA
import Derived.Test.YteempfoajgblaaaGreatLMSm
import Derived.BigRegion
import Derived.Deep.CutBlock
import Derived.Deep.DeepCutAuto
set_option maxRecDepth 100000
set_option linter.unusedVariables false
set_option linter.unusedSimpArgs false
open Go.ChangeShapes Go.WideShapes Go.ChangeAt Go.RowKit Go.Joins
set_option maxHeartbeats 2000000
namespace Go.Proofs.YteempfoajgblaaaGreat.Sl
open Dk (Dk DS Own Moved ptr)
def Row (v:Value) (L:List (List UInt8)) (w:World):Prop:=∃ g cap,v=.slice (some ⟨g,0,none⟩) L.length cap∧g<w.heap.size∧∀ j (hj:j<L.length),w.cell? ⟨g,j,none⟩=some (.string (mkB L[j]))
theorem Row.call {v:Value} {L:List (List UInt8)} {w w':World} (h:Row v L w) (hb:Below w.heap.size w w'):Row v L w':=by
 obtain ⟨g,cap,e,hg,hc⟩:=h
 exact ⟨g,cap,e,Nat.lt_of_lt_of_le hg hb.size,fun j hj=>by rw [hb.cell (p:=⟨g,j,none⟩) hg];exact hc j hj⟩
theorem max_u64 (a b:Nat) (w:World):(Builtin.max_ #[132,132] 132 #[.int .u64 (a:Int),.int .u64 (b:Int)]).run Tryz.prog w=.ok (.int .u64 ((max a b:Nat):Int)) w:=by
 simp [Builtin.max_,Builtin.max2]
 repeat' split
 all_goals first|(simp;omega)|omega|simp_all
def NwRel (L:List (List UInt8)) (w:World) (g:Nat) (s3 s11:Value) (wx:World):Prop:=
 ∃ i,i+g=L.length∧s11=.int .i64 (i:Int)∧s3=.int .u64 (newestTo L i:Int)∧Below w.heap.size w wx
theorem newestOf_any (v:Value) (L:List (List UInt8)) (w:World) (h:Row v L w) (hn:L.length≤1000) :
 Calls Tryz.prog 104 #[v] w fun e w'=>e=.returned (.int .u64 (newestL L:Int))∧Below w.heap.size w w':=by
 obtain ⟨p,cap,rfl,hp,hc⟩:=h
 have HC:=Lib.hid hc
 have HP:=Lib.hid hp
 clear hc hp
 have NL:newestTo L L.length=newestL L:=rfl
 have mx:=max_u64
 go_enter Tryz.func104,Tryz.ntmps104
 go_wp2
 go_loopg [3,11] L.length (NwRel L w)
 case atStart=>exact ⟨0,by omega,rfl,by rw [newestTo_zero];rfl,Below.refl _ _⟩
 case round=>
  obtain ⟨i,hi,rfl,rfl,bl⟩:=hrel
  rcases Nat.lt_or_ge i L.length with hlt|hge
  ·have hcell:wr.cell? ⟨p,i,none⟩=some (.string (mkB L[i])):=by rw [bl.cell (p:=⟨p,i,none⟩) HP.out];exact HC.out i hlt
   have TG:=Lib.hid (tag_any (mkB L[i]) wr)
   rw [mkB_data] at TG
   have N:=Lib.hid (newestTo_succ hlt)
   have BL:=Lib.hid bl
   have HI:=Lib.hid hi
   have hg0:0<gk:=by omega
   have il:(i:Int)<(L.length:Int):=by omega
   have il2:i<L.length:=hlt
   clear bl
   generalize mkB L[i]=X at *
   generalize newestTo L i=M at *
   go_wp2_with fail
   (with_reducible refine TG.out.mono ?_)
   rintro e w1 ⟨rfl,b1⟩
   have B1:=Lib.hid (BL.out.trans (b1.mono BL.out.size))
   clear TG b1 BL hcell
   go_wp2
   go_roundg (gk-1)
   case measure=>omega
   case rel=>exact ⟨i+1,by have:=HI.out;omega,by go_num,by rw [N.out],B1.out⟩
  ·obtain rfl:i=L.length:=by omega
   have BL:=Lib.hid bl
   clear bl
   go_wp2
   go_ret
   rw [NL]
   exact ⟨rfl,BL.out⟩
def SnAt (w:World) (p:Nat) (e:Nat) (d:List UInt8):Prop:=w.heap[p]?=some (.cells #[.int .u64 (e:Int),.string (mkB d)] 134 (0,0))
theorem SnAt.lt {w:World} {p e:Nat} {d:List UInt8} (h:SnAt w p e d):p<w.heap.size:=Dk.lt_of_heap h
theorem SnAt.call {w w':World} {p e:Nat} {d:List UInt8} (h:SnAt w p e d) (hb:Below w.heap.size w w'):SnAt w' p e d:=by unfold SnAt at *;rw [hb.block p (Dk.lt_of_heap h)];exact h
theorem SnAt.of_block {w w':World} {p e:Nat} {d:List UInt8} (h:SnAt w p e d) (hb:w'.heap[p]?=w.heap[p]?):SnAt w' p e d:=by unfold SnAt at *;rw [hb];exact h
theorem SnAt.c0 {w:World} {p e:Nat} {d:List UInt8} (h:SnAt w p e d):w.cell? ⟨p,0,none⟩=some (.int .u64 (e:Int)):=by rw [Lib.cell_of_heap h];rfl
theorem SnAt.c1 {w:World} {p e:Nat} {d:List UInt8} (h:SnAt w p e d):w.cell? ⟨p,1,none⟩=some (.string (mkB d)):=by rw [Lib.cell_of_heap h];rfl
theorem SnAt.fz {w:World} {p e:Nat} {d:List UInt8} (h:SnAt w p e d) (o:Nat):w.frozen? ⟨p,o,none⟩=false:=Lib.frozen_of_heap h o
theorem SnAt.setE {w:World} {p e:Nat} {d:List UInt8} (h:SnAt w p e d) {x:Int} {m:Nat} (hx:x=(m:Int)):SnAt (w.setCell ⟨p,0,none⟩ (.int .u64 x)) p m d:=by
 subst hx;unfold SnAt at *;simp [World.setCell,Array.getElem?_modify,h]
theorem SnAt.setD {w:World} {p e:Nat} {d:List UInt8} (h:SnAt w p e d) {x:ByteArray} {m:List UInt8} (hx:x=mkB m):SnAt (w.setCell ⟨p,1,none⟩ (.string x)) p e m:=by
 subst hx;unfold SnAt at *;simp [World.setCell,Array.getElem?_modify,h]
theorem snAt_new (w:World):SnAt (w.alloc (.cells #[.int .u64 0,.string ⟨#[]⟩] 134)) w.heap.size 0 []:=heap_alloc_new _ _
end Go.Proofs.YteempfoajgblaaaGreat.Sl
namespace Go.Proofs.YteempfoajgblaaaGreat.Sl
open Dk (Dk DS Own Moved ptr)
def SpIn (L:List (List UInt8)) (w:World) (i:Nat) (wx:World):Prop:=
 SnAt wx w.heap.size 0 []∧SnAt wx (w.heap.size+1) (if i=0 then 0 else first L) (paysTo L i)∧Below w.heap.size w wx
def SpRel (L:List (List UInt8)) (w:World) (g:Nat) (s13:Value) (wx:World):Prop:=
 ∃ i,i+g=L.length∧s13=.int .i64 (i:Int)∧allTo L i∧SpIn L w i wx
def ClAt (w:World) (p:Nat) (c:List UInt8×Nat×Nat):Prop:=w.heap[p]?=some (.cells #[.string (mkB c.1),.int .u64 (c.2.1:Int),.int .u64 (c.2.2:Int)] 204 (0,0))
theorem ClAt.c0 {w:World} {p:Nat} {c:List UInt8×Nat×Nat} (h:ClAt w p c):w.cell? ⟨p,0,none⟩=some (.string (mkB c.1)):=by rw [Lib.cell_of_heap h];rfl
theorem ClAt.c1 {w:World} {p:Nat} {c:List UInt8×Nat×Nat} (h:ClAt w p c):w.cell? ⟨p,1,none⟩=some (.int .u64 (c.2.1:Int)):=by rw [Lib.cell_of_heap h];rfl
theorem ClAt.c2 {w:World} {p:Nat} {c:List UInt8×Nat×Nat} (h:ClAt w p c):w.cell? ⟨p,2,none⟩=some (.int .u64 (c.2.2:Int)):=by rw [Lib.cell_of_heap h];rfl
theorem ClAt.of_block {w w':World} {p:Nat} {c:List UInt8×Nat×Nat} (h:ClAt w p c) (e:w'.heap[p]?=w.heap[p]?):ClAt w' p c:=by unfold ClAt at *;rw [e];exact h
def TgAt (w:World) (p:Nat) (e n:Nat):Prop:=w.heap[p]?=some (.cells #[.int .u64 (e:Int),.int .u64 (n:Int)] 240 (0,0))
def CaRel (w:World) (q:Nat) (c:List UInt8×Nat×Nat) (E:Nat) (D:List UInt8) (s7:Value) (wx:World):Prop:=
 s7=ptr q∧ClAt wx q c∧SnAt wx w.heap.size 0 []∧SnAt wx (w.heap.size+1) E D∧Below w.heap.size w wx
def CbRel (w:World) (p4 q:Nat) (c:List UInt8×Nat×Nat) (E:Nat) (D:List UInt8) (i:Nat) (s9 s10:Value) (wx:World):Prop:=
 ∃ a b,s9=ptr a∧s10=ptr b∧TgAt wx a c.2.1 c.2.2∧TgAt wx b E i∧ClAt wx q c∧SnAt wx w.heap.size 0 []∧SnAt wx p4 E D∧Below w.heap.size w wx
theorem cb_end {w wc:World} {p4 q i E:Nat} {c:List UInt8×Nat×Nat} {D:List UInt8} (h:ClAt wc q c∧SnAt wc w.heap.size 0 []∧SnAt wc p4 E D∧Below w.heap.size w wc) (x y z u:Value) :
 ClAt ((wc.alloc (.cells #[x,y] 240)).alloc (.cells #[z,u] 240)).drew q c∧SnAt ((wc.alloc (.cells #[x,y] 240)).alloc (.cells #[z,u] 240)).drew w.heap.size 0 []∧SnAt ((wc.alloc (.cells #[x,y] 240)).alloc (.cells #[z,u] 240)).drew p4 E D∧Below w.heap.size w ((wc.alloc (.cells #[x,y] 240)).alloc (.cells #[z,u] 240)).drew:=by
 have b:Below wc.heap.size wc ((wc.alloc (.cells #[x,y] 240)).alloc (.cells #[z,u] 240)).drew:=(((Below.refl _ _).alloc (Nat.le_refl _) _).alloc (by simp) _).drew
 exact ⟨h.1.of_block (b.block _ (Dk.lt_of_heap h.1)),h.2.1.call b,h.2.2.1.call b,h.2.2.2.trans (b.mono h.2.2.2.size)⟩
theorem tags_new (w:World) (x y z u:Value) :
 (((w.alloc (.cells #[x,y] 240)).alloc (.cells #[z,u] 240)).drew).heap[w.heap.size]?=some (.cells #[x,y] 240 (0,0))∧(((w.alloc (.cells #[x,y] 240)).alloc (.cells #[z,u] 240)).drew).heap[w.heap.size+1]?=some (.cells #[z,u] 240 (0,0)):=by
 constructor
 ·have:=((Below.refl (w.alloc (.cells #[x,y] 240)).heap.size (w.alloc (.cells #[x,y] 240))).alloc (Nat.le_refl _) (.cells #[z,u] 240)).block w.heap.size (by simp)
  exact this.trans (heap_alloc_new _ _)
 ·have:=heap_alloc_new (w.alloc (.cells #[x,y] 240)) (.cells #[z,u] 240)
  rw [World.size_alloc] at this
  exact this
theorem TgAt.c0 {w:World} {p e n:Nat} (h:TgAt w p e n):w.cell? ⟨p,0,none⟩=some (.int .u64 (e:Int)):=by rw [Lib.cell_of_heap h];rfl
theorem TgAt.c1 {w:World} {p e n:Nat} (h:TgAt w p e n):w.cell? ⟨p,1,none⟩=some (.int .u64 (n:Int)):=by rw [Lib.cell_of_heap h];rfl
theorem snapOf_any (v:Value) (L:List (List UInt8)) (w:World) (h:Row v L w) (h0:0<L.length) (hn:L.length≤64) :
 Calls Tryz.prog 105 #[v] w fun e w'=>e=.returned (.tuple #[.agg #[.int .u64 ((snapL L).1.1:Int),.string (mkB (snapL L).1.2)],.bool (snapL L).2])∧Below w.heap.size w w':=by
 obtain ⟨p,cap,rfl,hp,hc⟩:=h
 have HC:=Lib.hid hc
 have HP:=Lib.hid hp
 have pn0:p≠w.heap.size:=by omega
 clear hc hp
 have S0:Hid (SpIn L w 0 ((w.alloc (.cells #[.int .u64 0,.string ⟨#[]⟩] 134)).alloc (.cells #[.int .u64 0,.string ⟨#[]⟩] 134))):=Lib.hid ⟨(snAt_new w).call ((Below.refl _ _).alloc (Nat.le_refl _) _),by
  have:=snAt_new (w.alloc (.cells #[.int .u64 0,.string ⟨#[]⟩] 134))
  rw [paysTo_zero];simpa using this,((Below.refl _ _).alloc (Nat.le_refl _) _).alloc (by simp) _⟩
 go_enter Tryz.func105,Tryz.ntmps105
 go_wp2
 go_loopg [13] L.length (SpRel L w)
 case atStart=>exact ⟨0,by omega,rfl,allTo_zero L,S0.out⟩
 case round=>
  clear S0
  obtain ⟨i,hi,rfl,hall,hin⟩:=hrel
  rcases Nat.lt_or_ge i L.length with hlt|hge
  ·have hcell:wr.cell? ⟨p,i,none⟩=some (.string (mkB L[i])):=by rw [hin.2.2.cell (p:=⟨p,i,none⟩) HP.out];exact HC.out i hlt
   have RD:=Lib.hid (read_any (mkB L[i]) wr)
   rw [mkB_data] at RD
   have IN:=Lib.hid hin
   have HI:=Lib.hid hi
   have AL:=Lib.hid hall
   have il:(i:Int)<(L.length:Int):=by omega
   have il2:i<L.length:=hlt
   obtain ⟨c,ok,hco⟩:∃ (c:List UInt8×Nat×Nat) (ok:Bool),cellOf (rdc L[i])=.agg #[.string (mkB c.1),.int .u64 (c.2.1:Int),.int .u64 (c.2.2:Int)]∧ok=(rdc L[i]).isSome∧(∀ d,rdc L[i]=some d→d=c):=by
    cases rdc L[i] with
    | none=>exact ⟨([],0,0),false,rfl,rfl,fun d h=>by cases h⟩
    | some c=>exact ⟨c,true,rfl,rfl,fun d h=>by cases h;rfl⟩
   rw [hco.1,← hco.2.1] at RD
   have HCO:=Lib.hid hco
   clear hin hall hco
   go_wp2_with fail
   (with_reducible refine RD.out.mono ?_)
   rintro e w1 ⟨rfl,b1⟩
   have K1:=Lib.hid (show ClAt (w1.alloc (.cells #[.string (mkB c.1),.int .u64 (c.2.1:Int),.int .u64 (c.2.2:Int)] 204)) w1.heap.size c∧SnAt (w1.alloc (.cells #[.string (mkB c.1),.int .u64 (c.2.1:Int),.int .u64 (c.2.2:Int)] 204)) w.heap.size 0 []∧SnAt (w1.alloc (.cells #[.string (mkB c.1),.int .u64 (c.2.1:Int),.int .u64 (c.2.2:Int)] 204)) (w.heap.size+1) (if i=0 then 0 else first L) (paysTo L i)∧Below w.heap.size w (w1.alloc (.cells #[.string (mkB c.1),.int .u64 (c.2.1:Int),.int .u64 (c.2.2:Int)] 204)) from by
    have ba:=(Below.refl w1.heap.size w1).alloc (Nat.le_refl _) (.cells #[.string (mkB c.1),.int .u64 (c.2.1:Int),.int .u64 (c.2.2:Int)] 204)
    have b01:=IN.out.2.2.trans (b1.mono IN.out.2.2.size)
    exact ⟨heap_alloc_new _ _,(IN.out.1.call b1).call ba,(IN.out.2.1.call b1).call ba,b01.trans (ba.mono b01.size)⟩)
   have q1:w.heap.size+1<w1.heap.size:=(IN.out.2.1.call b1).lt
   clear RD b1 IN hcell
   go_upto_if 24 with (fail)
   go_cut [7] (CaRel w w1.heap.size c (if i=0 then c.2.1 else first L) (paysTo L i))
   case first=>
    clear HC HP HI AL HCO
    generalize hW:(w1.alloc (.cells #[.string (mkB c.1),.int .u64 (c.2.1:Int),.int .u64 (c.2.2:Int)] 204))=W at *
    have c1:=K1.out.1.c1
    have s0:=K1.out.2.2.1.c0
    have f0:=K1.out.2.2.1.fz 0
    rcases Nat.eq_zero_or_pos i with rfl|hp
    ·go_wp2_with fail
     go_meet
     refine ⟨rfl,K1.out.1.of_block (Below.heap_setCell _ _ _ _ (by show w1.heap.size≠w.heap.size+1;omega)),K1.out.2.1.of_block (Below.heap_setCell _ _ _ _ (by show w.heap.size≠w.heap.size+1;omega)),K1.out.2.2.1.setE rfl,K1.out.2.2.2.setCell (by show w.heap.size≤w.heap.size+1;omega) _⟩
    ·have ne:((i:Int)==0)=false:=by simp;omega
     have hne:i≠0:=by omega
     rw [if_neg hne] at K1
     go_wp2_with fail
     go_meet
     exact ⟨rfl,K1.out.1,K1.out.2.1,by rw [if_neg hne];exact K1.out.2.2.1,K1.out.2.2.2⟩
   case rest=>
    obtain ⟨rfl,hcl,hs2,hs4,hbl⟩:=hcut
    clear K1
    obtain ⟨p4,hp4⟩:∃ p4,p4=w.heap.size+1:=⟨_,rfl⟩
    have p4n:w.heap.size<p4:=by omega
    have HP4:=Lib.hid hp4
    rw [← hp4] at hs4 q1 ⊢
    clear hp4
    obtain ⟨E,hE⟩:∃ E,E=(if i=0 then c.2.1 else first L):=⟨_,rfl⟩
    obtain ⟨q,hq⟩:∃ q,q=w1.heap.size:=⟨_,rfl⟩
    rw [← hE] at hs4
    rw [← hq] at hcl q1 ⊢
    have c1:=hcl.c1
    have c2:=hcl.c2
    have s0:=hs4.c0
    have l4:p4<wc.heap.size:=hs4.lt
    have lq:q<wc.heap.size:=Dk.lt_of_heap hcl
    have K2:=Lib.hid (And.intro hcl (And.intro hs2 (And.intro hs4 hbl)))
    have HE:=Lib.hid hE
    clear hcl hs2 hs4 hbl hE hq
    go_upto_region 8 with (fail)
    go_cut [9,10] (CbRel w p4 q c E (paysTo L i) i)
    case first=>
     clear HC HP HI AL HCO HE
     go_wp2_with fail
     go_region
     ·go_wp2_with fail
      go_meet
      exact ⟨_,_,rfl,rfl,(tags_new wc _ _ _ _).1,(tags_new wc _ _ _ _).2,cb_end (i:=i) K2.out _ _ _ _⟩
     ·go_wp2_with fail
      go_meet
      exact ⟨_,_,rfl,rfl,(tags_new wc _ _ _ _).2,(tags_new wc _ _ _ _).1,cb_end (i:=i) K2.out _ _ _ _⟩
    case rest=>
     obtain ⟨a,b,rfl,rfl,ta,tb,hcl,hs2,hs4,hbl⟩:=hcut
     clear K2 c1 c2 s0 l4 lq
     have a0:=ta.c0
     have a1:=ta.c1
     have b0:=tb.c0
     have b1:=tb.c1
     have d0:=hcl.c0
     have s0:=hs2.c0
     have s1:=hs2.c1
     have f0:=hs2.fz 0
     have f1:=hs2.fz 1
     have v1:=hs4.c1
     have v2:=hs4.fz 1
     have KB:=Lib.hid (And.intro hs2 (And.intro hs4 hbl))
     clear ta tb hcl hs2 hs4 hbl
     have HCO2:=HCO.out
     cases hr:rdc L[i] with
     | none=>
      obtain rfl:ok=false:=by rw [HCO2.2.1,hr];rfl
      have SN:=Lib.hid (snapL_no (not_allTo hlt (rdc_none_whole hr (first L) i)))
      have BE:=Lib.hid ((KB.out.2.2.setCell (p:=⟨w.heap.size,0,none⟩) (Nat.le_refl _) (.int .u64 0)).setCell (p:=⟨w.heap.size,1,none⟩) (Nat.le_refl _) (.string ⟨#[]⟩))
      clear HCO2 HCO KB HE AL HC HP HI hr
      go_wp2
      refine bodyPost_ret (v:=.tuple #[.agg #[.int .u64 0,.string ⟨#[]⟩],.bool false]) (by simp [results,Tryz.results105,go_sem,s0,s1]) rfl ⟨?_,BE.out⟩
      rw [SN.out]
      rfl
     | some d=>
      obtain rfl:=HCO2.2.2 d hr
      obtain rfl:ok=true:=by rw [HCO2.2.1,hr];rfl
      obtain ⟨pp,e,n⟩:=d
      have EF:E=first L:=by
       rw [HE.out]
       split
       ·rename_i h00
        subst h00
        obtain ⟨h1,h2,h3,h4⟩:=rdc_some hr
        rw [first_get h0]
        have:=epochOf_sec h2 h3 n
        rw [← h1] at this
        exact this.symm
       · rfl
      subst EF
      have WH:=rdc_whole hr (first L) i
      have hg0:0<gk:=by omega
      by_cases hf:e=first L∧n=i
      ·obtain ⟨rfl,rfl⟩:=hf
       have WT:whole L[n] (first L) n=true:=by rw [WH];simp
       have PW:=whole_rdc WT
       rw [hr] at PW
       have PE:pp=payOf L[n]:=by simpa using PW
       have A1:=Lib.hid (allTo_succ hlt AL.out WT)
       have LP:=paysTo_len (L:=L) (i:=n) (by omega) AL.out
       have LQ:pp.length≤43:=by rw [PE];exact (whole_epoch WT).2.2.2
       have AD:=add_mk (paysTo L n) pp (by omega)
       have N:Hid (SpIn L w (n+1) (wc.setCell ⟨p4,1,none⟩ (.string (mkB (paysTo L n++pp))))):=Lib.hid ⟨KB.out.1.of_block (Below.heap_setCell _ _ _ _ (by show w.heap.size≠p4;omega)),by
        have:=KB.out.2.1.setD (x:=mkB (paysTo L n++pp)) (m:=paysTo L n++pp) rfl
        rw [if_neg (by omega),paysTo_succ hlt,← PE,← HP4.out];exact this,KB.out.2.2.setCell (by show w.heap.size≤p4;omega) _⟩
       clear HCO2 HCO KB HE AL HC HP WH WT PW LP LQ PE hr f0 f1 s0 s1
       go_wp2
       have e4:=HP4.out
       subst e4
       go_roundg (gk-1)
       case measure=>omega
       case rel=>exact ⟨n+1,by have:=HI.out;omega,by go_num,A1.out,N.out⟩
      ·have WT:whole L[i] (first L) i=false:=by
        rw [WH]
        by_cases h1:e=first L
        ·have:n≠i:=fun h2=>hf ⟨h1,h2⟩
         simp [this]
        · simp [h1]
       have SN:=Lib.hid (snapL_no (not_allTo hlt WT))
       have BE:=Lib.hid ((KB.out.2.2.setCell (p:=⟨w.heap.size,0,none⟩) (Nat.le_refl _) (.int .u64 0)).setCell (p:=⟨w.heap.size,1,none⟩) (Nat.le_refl _) (.string ⟨#[]⟩))
       have NE:¬((e:Int)=(first L:Int)∧(n:Int)=(i:Int)):=by omega
       clear HCO2 HCO KB HE AL HC HP HI hr WH WT hf
       go_wp2
       all_goals refine bodyPost_ret (v:=.tuple #[.agg #[.int .u64 0,.string ⟨#[]⟩],.bool false]) (by simp [results,Tryz.results105,go_sem,s0,s1]) rfl ⟨?_,BE.out⟩
       all_goals rw [SN.out]
       all_goals rfl
  ·obtain rfl:i=L.length:=by omega
   have SN:=Lib.hid (snapL_yes hall)
   obtain ⟨h2,h4,hb⟩:=hin
   rw [if_neg (by omega)] at h4
   have s0:=h2.c0
   have s1:=h2.c1
   have f0:=h2.fz 0
   have f1:=h2.fz 1
   have v0:=h4.c0
   have v1:=h4.c1
   have BE:=Lib.hid (fun x y=>((hb.setCell (p:=⟨w.heap.size,0,none⟩) (Nat.le_refl _) x).setCell (p:=⟨w.heap.size,1,none⟩) (Nat.le_refl _) y))
   have p4n:w.heap.size≠w.heap.size+1:=by omega
   clear h2 h4 hb hall HC HP
   generalize paysTo L L.length=D at *
   generalize first L=E at *
   go_wp2
   go_region
   go_wp2
   refine bodyPost_ret (v:=.tuple #[.agg #[.int .u64 (E:Int),.string (mkB D)],.bool (decide (0<E))]) (by simp [results,Tryz.results105,go_sem,s0,s1]) rfl ⟨?_,(BE.out _ _).drew⟩
   rw [SN.out]
end Go.Proofs.YteempfoajgblaaaGreat.Sl
