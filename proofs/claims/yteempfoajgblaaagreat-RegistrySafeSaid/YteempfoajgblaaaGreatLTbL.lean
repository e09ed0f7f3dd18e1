/- Tables compared, rows found: package table's Same and Find, the document's, the library's Equal .. -/
import Derived.Test.YteempfoajgblaaaGreatLGnH
import Derived.Test.YteempfoajgblaaaGreatLQE
set_option maxRecDepth 100000
set_option linter.unusedVariables false
set_option linter.unusedSimpArgs false
open Go.ChangeShapes Go.WideShapes Go.ChangeAt Go.RowKit Go.Joins
set_option maxHeartbeats 4000000
namespace Go.Proofs.YteempfoajgblaaaGreat.Tb
open Pm (Tk chk chk_iff below_drewN)
open Ge (El Seen Row)
theorem eq_next {l k:List Rw} {i:Nat} (h:i<l.length) (h2:i<k.length) (hp:l.take i=k.take i) (e:l[i]=k[i]):l.take (i+1)=k.take (i+1):=by
 rw [List.take_succ_eq_append_getElem h,List.take_succ_eq_append_getElem h2,hp,e]
theorem eq_not {l k:List Rw} {i:Nat} (h:i<l.length) (h2:i<k.length) (e:l[i]≠k[i]):l≠k:=fun q=>by
 subst q;exact e rfl
def sameT (a b:Tb):Bool:=decide (a.rows=b.rows)&&decide (a.mode=b.mode)
theorem tt_new (w:World) (a b:Value) (m n:Int):Bos (TB w a b m n) w ((w.alloc (.cells #[a,.int .i64 m] 52)).alloc (.cells #[b,.int .i64 n] 52)):=by
 have:=((bos_nil w).new #[a,.int .i64 m] 52).new #[b,.int .i64 n] 52
 rw [World.size_alloc] at this
 exact this
def EsRel (l k:List Rw) (L:List (Nat×Array Value×Nat)) (w:World) (g:Nat) (s:Value) (wx:World):Prop:=∃ i:Nat,i+g=l.length∧s=.int .i64 (i:Int)∧l.take i=k.take i∧Bos L w wx
theorem rsame_any (a b:Tb) (ao bo:Option Addr) (cl ck:Nat) (w:World) (ha:Seen Rw.cs 6 ao a.rows w) (hb:Seen Rw.cs 6 bo b.rows w) (h1:a.rows.length≤1000) (h2:b.rows.length≤1000) :
 Calls Tryz.prog 24 #[tv ao a.rows.length cl a.mode,tv bo b.rows.length ck b.mode] w fun e w'=>e=.returned (.bool (sameT a b))∧Below w.heap.size w w':=by
 have H0:=Lib.hid (tt_new w (.slice ao a.rows.length cl) (.slice bo b.rows.length ck) a.mode b.mode)
 obtain ⟨l,m⟩:=a
 obtain ⟨k,n⟩:=b
 unfold tv sameT at *
 simp only at *
 have SL:=Lib.hid ha
 have SK:=Lib.hid hb
 obtain ⟨t0,t1⟩:=cell2 (H0.out.cell 1 rfl)
 obtain ⟨u0,u1⟩:=cell2 (H0.out.cell 0 rfl)
 clear ha hb
 by_cases hlen:l.length=k.length
 case neg=>
  have E:decide (l=k)=false:=decide_eq_false (fun e=>hlen (by rw [e]))
  rw [E,Bool.false_and]
  have h4:((l.length:Int) != (k.length:Int))=true:=by simp;omega
  clear SL SK hlen E
  go_enter Tryz.func24,Tryz.ntmps24
  go_wp2
  go_ret
  exact ⟨rfl,H0.out.bl⟩
 have h3:((l.length:Int) != (k.length:Int))=false:=by simp;omega
 by_cases hm:m=n
 case neg=>
  have E:decide (m=n)=false:=decide_eq_false hm
  rw [E,Bool.and_false]
  have h4:(m != n)=true:=by simp [hm]
  clear SL SK hlen E
  go_enter Tryz.func24,Tryz.ntmps24
  go_wp2
  go_ret
  exact ⟨rfl,H0.out.bl⟩
 have hm2:(m != n)=false:=by simp [hm]
 rw [decide_eq_true hm,Bool.and_true]
 have TRUE:Hid (l=k→decide (l=k)=true):=Lib.hid (fun h=>decide_eq_true h)
 have FALSE:Hid (l≠k→decide (l=k)=false):=Lib.hid (fun h=>decide_eq_false h)
 generalize decide (l=k)=R at *
 have HLEN:=Lib.hid hlen
 clear hm hlen
 go_enter Tryz.func24,Tryz.ntmps24
 go_wp2_with fail
 go_loopg [5] l.length (EsRel l k (TB w (.slice ao l.length cl) (.slice bo k.length ck) m n) w)
 case atStart=>exact ⟨0,by omega,rfl,rfl,H0.out⟩
 case round=>
  obtain ⟨i,hi,rfl,hp,hB⟩:=hrel
  have HB:=Lib.hid hB
  clear hB H0 t0 t1 u0 u1
  obtain ⟨t0,t1⟩:=cell2 (HB.out.cell 1 rfl)
  obtain ⟨u0,u1⟩:=cell2 (HB.out.cell 0 rfl)
  by_cases hlt:i<l.length
  ·have hlt2:i<k.length:=by have:=HLEN.out;omega
   obtain ⟨b,off,rfl,hb,hat⟩:=(SL.out.below HB.out.bl (Nat.le_refl _)) (by omega)
   obtain ⟨b2,off2,rfl,hb2,hat2⟩:=(SK.out.below HB.out.bl (Nat.le_refl _)) (by omega)
   have hx:=List.getElem?_eq_getElem hlt
   have hy:=List.getElem?_eq_getElem hlt2
   have KD:=Lib.hid (And.intro (row_cells hat hx) (row_cells hat2 hy))
   have hi1:(i:Int)<(l.length:Int):=by omega
   have hi2:(i:Int)<(k.length:Int):=by omega
   have hi3:IntKind.i64.wrap (i:Int)=(i:Int):=IntWalk.i64_in _ (by omega)
   have hg0:0<gk:=by omega
   have HI:=Lib.hid hi
   have NX:=Lib.hid (fun e=>eq_next hlt hlt2 hp e)
   have NE:=Lib.hid (fun e=>eq_not hlt hlt2 e)
   have EQ:=neq_row l[i] k[i]
   generalize l[i]=x at *
   generalize k[i]=y at *
   clear hat hat2 hx hy hp hi hlt hlt2 hb hb2
   by_cases hxy:x=y
   ·rw [decide_eq_true hxy] at EQ
    have NX2:=Lib.hid (NX.out hxy)
    clear hxy NE NX
    obtain ⟨⟨xi,xc,xd,xt,xm⟩,xs⟩:=x
    obtain ⟨⟨yi,yc,yd,yt,ym⟩,ys⟩:=y
    simp only [Rw.v,Bool.not_true] at *
    have KE:=Lib.hid (And.intro KD.out (And.intro t0 u0))
    try simp only at KE
    go_wp2_with fail
    refine wp_region_held_drew (S:=(fun W'=>((W'.cell? ⟨b,off+i*6,none⟩=some (.int .i64 xi)∧W'.cell? ⟨b,off+i*6+1,none⟩=some (.int .i64 xc)∧W'.cell? ⟨b,off+i*6+2,none⟩=some (.int .i64 xd)∧W'.cell? ⟨b,off+i*6+3,none⟩=some (.int .i64 xt)∧W'.cell? ⟨b,off+i*6+4,none⟩=some (.int .i64 xm)∧W'.cell? ⟨b,off+i*6+5,none⟩=some (.bool xs))∧(W'.cell? ⟨b2,off2+i*6,none⟩=some (.int .i64 yi)∧W'.cell? ⟨b2,off2+i*6+1,none⟩=some (.int .i64 yc)∧W'.cell? ⟨b2,off2+i*6+2,none⟩=some (.int .i64 yd)∧W'.cell? ⟨b2,off2+i*6+3,none⟩=some (.int .i64 yt)∧W'.cell? ⟨b2,off2+i*6+4,none⟩=some (.int .i64 ym)∧W'.cell? ⟨b2,off2+i*6+5,none⟩=some (.bool ys)))∧W'.cell? ⟨w.heap.size,0,none⟩=some (.slice (some ⟨b,off,none⟩) l.length cl)∧W'.cell? ⟨w.heap.size+1,0,none⟩=some (.slice (some ⟨b2,off2,none⟩) k.length ck))) (by kernel_rfl) (KE.out) (fun hHeld=>?_)
    refine Gh.tk 0 ?_
    refine Gh.tk 1 ?_
    refine Gh.tk 2 ?_
    refine Gh.tk 3 ?_
    refine Gh.tk 4 ?_
    refine Gh.tk 5 ?_
    refine Gh.tk 6 ?_
    refine Gh.tk 7 ?_
    refine Gh.tk 8 ?_
    refine Gh.tk 9 ?_
    refine Gh.tk 10 ?_
    refine wpAnyH_done (by kernel_rfl) ?_ _
    go_wp2
    go_roundg (gk-1)
    case measure=>omega
    case rel=>exact ⟨i+1,by have:=HI.out;omega,by go_num,NX2.out,HB.out.drew⟩
   ·rw [decide_eq_false hxy] at EQ
    have E:=Lib.hid (FALSE.out (NE.out hxy))
    clear hxy NX NE
    obtain ⟨⟨xi,xc,xd,xt,xm⟩,xs⟩:=x
    obtain ⟨⟨yi,yc,yd,yt,ym⟩,ys⟩:=y
    simp only [Rw.v,Bool.not_false] at *
    have KE:=Lib.hid (And.intro KD.out (And.intro t0 u0))
    try simp only at KE
    go_wp2_with fail
    refine wp_region_held_drew (S:=(fun W'=>((W'.cell? ⟨b,off+i*6,none⟩=some (.int .i64 xi)∧W'.cell? ⟨b,off+i*6+1,none⟩=some (.int .i64 xc)∧W'.cell? ⟨b,off+i*6+2,none⟩=some (.int .i64 xd)∧W'.cell? ⟨b,off+i*6+3,none⟩=some (.int .i64 xt)∧W'.cell? ⟨b,off+i*6+4,none⟩=some (.int .i64 xm)∧W'.cell? ⟨b,off+i*6+5,none⟩=some (.bool xs))∧(W'.cell? ⟨b2,off2+i*6,none⟩=some (.int .i64 yi)∧W'.cell? ⟨b2,off2+i*6+1,none⟩=some (.int .i64 yc)∧W'.cell? ⟨b2,off2+i*6+2,none⟩=some (.int .i64 yd)∧W'.cell? ⟨b2,off2+i*6+3,none⟩=some (.int .i64 yt)∧W'.cell? ⟨b2,off2+i*6+4,none⟩=some (.int .i64 ym)∧W'.cell? ⟨b2,off2+i*6+5,none⟩=some (.bool ys)))∧W'.cell? ⟨w.heap.size,0,none⟩=some (.slice (some ⟨b,off,none⟩) l.length cl)∧W'.cell? ⟨w.heap.size+1,0,none⟩=some (.slice (some ⟨b2,off2,none⟩) k.length ck))) (by kernel_rfl) (KE.out) (fun hHeld=>?_)
    refine Gh.tk 0 ?_
    refine Gh.tk 1 ?_
    refine Gh.tk 2 ?_
    refine Gh.tk 3 ?_
    refine Gh.tk 4 ?_
    refine Gh.tk 5 ?_
    refine Gh.tk 6 ?_
    refine Gh.tk 7 ?_
    refine Gh.tk 8 ?_
    refine Gh.tk 9 ?_
    refine Gh.tk 10 ?_
    refine wpAnyH_done (by kernel_rfl) ?_ _
    go_wp2
    go_ret
    exact ⟨by rw [E.out];rfl,HB.out.drew.bl⟩
  ·have hge:(l.length:Int)≤(i:Int):=by omega
   obtain rfl:i=l.length:=by omega
   have E:=Lib.hid (TRUE.out (by rw [List.take_length,HLEN.out,List.take_length] at hp;exact hp))
   clear hp hi hlt
   go_wp2
   go_ret
   exact ⟨by rw [E.out];rfl,HB.out.bl⟩
end Go.Proofs.YteempfoajgblaaaGreat.Tb
