/- Package table's Check. The document's Check of a table. Where a row stands: the library's search, .. -/
import Derived.Test.YteempfoajgblaaaGreatLGnH
import Derived.Test.YteempfoajgblaaaGreatLMTa
import Derived.BigQuiet
set_option maxRecDepth 100000
set_option linter.unusedVariables false
set_option linter.unusedSimpArgs false
open Go.ChangeShapes Go.WideShapes Go.ChangeAt Go.RowKit Go.Joins
set_option maxHeartbeats 8000000
namespace Go.Proofs.YteempfoajgblaaaGreat.Tb
open Pm (Tk chk chk_iff below_drewN)
open Ge (El Seen Row)
theorem rise_adj {l:List Rw} {a:Int}:rise a l=true↔(∀ x,l[0]?=some x→a<x.t.id)∧∀ j x y,l[j]?=some x→l[j+1]?=some y→x.t.id<y.t.id:=by
 induction l generalizing a with
 | nil=>simp [rise]
 | cons q l ih=>
  unfold rise
  simp only [Bool.and_eq_true,decide_eq_true_eq,ih]
  constructor
  ·rintro ⟨h1,h2,h3⟩
   refine ⟨fun x hx=>by simp at hx;subst hx;exact h1,fun j x y hx hy=>?_⟩
   cases j with
   | zero=>
    simp at hx hy;subst hx
    exact h2 y (by simpa using hy)
   | succ j=>exact h3 j x y (by simpa using hx) (by simpa using hy)
  ·rintro ⟨h1,h2⟩
   exact ⟨h1 q (by simp),fun x hx=>h2 0 q x (by simp) (by simpa using hx),fun j x y hx hy=>h2 (j+1) x y (by simpa using hx) (by simpa using hy)⟩
def Pre (l:List Rw) (i:Nat):Prop:=(∀ j x,j<i→l[j]?=some x→okW x=true)∧∀ j x y,j+1<i→l[j]?=some x→l[j+1]?=some y→x.t.id<y.t.id
theorem pre_zero (l:List Rw):Pre l 0:=⟨fun _ _ h=>by omega,fun _ _ _ h=>by omega⟩
theorem pre_one {l:List Rw} {x:Rw} (h:l[0]?=some x) (hx:okW x=true):Pre l 1:=
 ⟨fun j y hj hy=>by obtain rfl:j=0:=by omega
                    rw [h] at hy;cases hy;exact hx,fun _ _ _ h=>by omega⟩
theorem pre_succ {l:List Rw} {i:Nat} {x y:Rw} (hp:Pre l (i+1)) (hx:l[i]?=some x) (hy:l[i+1]?=some y) (ho:okW y=true) (hl:x.t.id<y.t.id):Pre l (i+2):=by
 refine ⟨fun j z hj hz=>?_,fun j a b hj ha hb=>?_⟩
 ·by_cases e:j=i+1
  · subst e;rw [hy] at hz;cases hz;exact ho
  · exact hp.1 j z (by omega) hz
 ·by_cases e:j=i
  · subst e;rw [hx] at ha;rw [hy] at hb;cases ha;cases hb;exact hl
  · exact hp.2 j a b (by omega) ha hb
theorem chk_pre {l:List Rw} {m:Int} (hp:Pre l l.length) (hl:l.length≤16) (hm:0≤m∧m≤3):chkT ⟨l,m⟩=true:=by
 have ok:∀ r∈l,okW r=true:=fun r hr=>by
  obtain ⟨j,hj,rfl⟩:=List.getElem_of_mem hr
  exact hp.1 j _ hj (List.getElem?_eq_getElem hj)
 rw [chkT_iff]
 refine ⟨ok,rise_adj.2 ⟨fun x hx=>?_,fun j x y hx hy=>hp.2 j x y (List.getElem?_eq_some_iff.1 hy).1 hx hy⟩,hl,hm⟩
 have:=chk_iff.1 (okW_iff.1 (ok x (List.mem_of_getElem? hx))).1
 omega
theorem chk_bad {l:List Rw} {m:Int} {i:Nat} {x:Rw} (hx:l[i]?=some x) (ho:okW x=false):chkT ⟨l,m⟩=false:=by
 cases h:chkT ⟨l,m⟩ with
 | false=>rfl
 | true=>rw [(chkT_iff.1 h).1 x (List.mem_of_getElem? hx)] at ho;cases ho
theorem chk_fall {l:List Rw} {m:Int} {i:Nat} {x y:Rw} (hx:l[i]?=some x) (hy:l[i+1]?=some y) (h0:y.t.id≤x.t.id):chkT ⟨l,m⟩=false:=by
 cases h:chkT ⟨l,m⟩ with
 | false=>rfl
 | true=>have:=(rise_adj.1 (chkT_iff.1 h).2.1).2 i x y hx hy;omega
theorem chk_long {l:List Rw} {m:Int} (h:16<l.length):chkT ⟨l,m⟩=false:=by
 cases e:chkT ⟨l,m⟩ with
 | false=>rfl
 | true=>have:=(chkT_iff.1 e).2.2.1;simp only at this;omega
theorem chk_mode {l:List Rw} {m:Int} (h:¬(0≤m∧m≤3)):chkT ⟨l,m⟩=false:=by
 cases e:chkT ⟨l,m⟩ with
 | false=>rfl
 | true=>exact absurd (chkT_iff.1 e).2.2.2 h
def tv (ao:Option Addr) (k cap:Nat) (m:Int):Value:=.agg #[.slice ao k cap,.int .i64 m]
def ChRel (l:List Rw) (p:Nat) (cs:Array Value) (w:World) (g:Nat) (s:Value) (wx:World):Prop:=
 ∃ i:Nat,i+g=l.length∧s=.int .i64 (i:Int)∧Pre l i∧Bos [(p,cs,52)] w wx
theorem check_any (t:Tb) (ao:Option Addr) (cap:Nat) (w:World) (hS:Seen Rw.cs 6 ao t.rows w) (hl:t.rows.length≤1000) :
 Calls Tryz.prog 109 #[tv ao t.rows.length cap t.mode] w fun e w'=>e=.returned (.bool (chkT t))∧Below w.heap.size w w':=by
 obtain ⟨l,m⟩:=t
 simp only [tv] at *
 have S:=Lib.hid hS
 clear hS
 have H0:=Lib.hid ((bos_nil w).new #[.slice ao l.length cap,.int .i64 m] 52)
 by_cases h16:16<l.length
 ·have E:=Lib.hid (chk_long (m:=m) h16)
  have Z:=Lib.hid H0.out.bl
  have h16':(16:Int)<(l.length:Int):=by omega
  clear h16 H0
  go_enter Tryz.func109,Tryz.ntmps109
  go_wp2
  go_ret
  exact ⟨by rw [E.out];rfl,Z.out⟩
 have h16':(l.length:Int)≤16:=by omega
 have MO:=Lib.hid (mode_any m)
 by_cases hm:0≤m∧m≤3
 case neg=>
  have E:=Lib.hid (chk_mode (l:=l) hm)
  have Z:=Lib.hid H0.out.bl
  rw [decide_eq_false hm] at MO
  clear h16 hm H0
  go_enter Tryz.func109,Tryz.ntmps109
  go_wp2_with fail
  (with_reducible refine (MO.out _).mono ?_)
  rintro e w1 ⟨rfl,rfl⟩
  go_wp2
  go_ret
  exact ⟨by rw [E.out];rfl,Z.out⟩
 rw [decide_eq_true hm] at MO
 have YES:Hid (Pre l l.length→chkT ⟨l,m⟩=true):=Lib.hid (fun h=>chk_pre h (by omega) hm)
 have BAD:Hid (∀ i x,l[i]?=some x→okW x=false→chkT ⟨l,m⟩=false):=Lib.hid (fun i x h k=>chk_bad h k)
 have FALL:Hid (∀ i x y,l[i]?=some x→l[i+1]?=some y→y.t.id≤x.t.id→chkT ⟨l,m⟩=false):=Lib.hid (fun i x y h k q=>chk_fall h k q)
 generalize chkT ⟨l,m⟩=R at *
 clear hm h16
 go_enter Tryz.func109,Tryz.ntmps109
 go_wp2_with fail
 (with_reducible refine (MO.out _).mono ?_)
 rintro e w1 ⟨rfl,rfl⟩
 clear MO
 obtain ⟨c0,c1⟩:=cell2 (H0.out.cell 0 rfl)
 go_wp2_with fail
 go_loopg [18] l.length (ChRel l w.heap.size #[.slice ao l.length cap,.int .i64 m] w)
 case atStart=>exact ⟨0,by omega,rfl,pre_zero l,H0.out⟩
 case round=>
  obtain ⟨i,hi,rfl,hp,hB⟩:=hrel
  have TW:=S.out.below hB.bl (Nat.le_refl _)
  clear H0
  by_cases hlt:i<l.length
  ·obtain ⟨b,off,rfl,hb,hat⟩:=TW (by omega)
   have hxi:=List.getElem?_eq_getElem hlt
   have hx:=row_cells hat hxi
   have HI:=Lib.hid hi
   have hlt':(i:Int)<(l.length:Int):=by omega
   have hg0:0<gk:=by omega
   have MB:=Lib.hid (may_any l[i])
   have HP:=Lib.hid hp
   have HXI:=Lib.hid hxi
   clear hi hp TW
   generalize l[i]=x at *
   have HB:=Lib.hid (hB.new #[.int .i64 x.t.id,.int .i64 x.t.c,.int .i64 x.t.d,.int .i64 x.t.t,.int .i64 x.t.m,.bool x.s] 123)
   have BADX:=Lib.hid (BAD.out i x hxi)
   have SB:=Lib.hid hB.bl
   clear hxi hB
   obtain ⟨c0,c1,c2,c3,c4,c5⟩:=hx
   obtain ⟨⟨xi,xc,xd,xt,xm⟩,xs⟩:=x
   simp only [Rw.v] at *
   have KEEP:Hid (∀ W',Bos [(wr.heap.size,#[.int .i64 xi,.int .i64 xc,.int .i64 xd,.int .i64 xt,.int .i64 xm,.bool xs],123),(w.heap.size,#[.slice (some ⟨b,off,none⟩) l.length cap,.int .i64 m],52)] w W'→(W'.cell? ⟨wr.heap.size,0,none⟩=some (.int .i64 xi)∧W'.cell? ⟨wr.heap.size,1,none⟩=some (.int .i64 xc)∧W'.cell? ⟨wr.heap.size,2,none⟩=some (.int .i64 xd)∧W'.cell? ⟨wr.heap.size,3,none⟩=some (.int .i64 xt)∧W'.cell? ⟨wr.heap.size,4,none⟩=some (.int .i64 xm)∧W'.cell? ⟨wr.heap.size,5,none⟩=some (.bool xs))∧W'.cell? ⟨w.heap.size,0,none⟩=some (.slice (some ⟨b,off,none⟩) l.length cap)):=Lib.hid (fun W' h=>⟨cell6 (h.cell 0 rfl),(h.cell 1 rfl 0).trans rfl⟩)
   simp only [and_assoc] at KEEP
   cases hok:okW ⟨⟨xi,xc,xd,xt,xm⟩,xs⟩
   case false=>
    rw [hok] at MB
    have E:=Lib.hid (BADX.out hok)
    clear BAD BADX FALL YES hat hok HP HXI SB
    go_wp2_with fail
    -- (FALSE)
    refine wp_region_held_drew (S:=(fun W'=>W'.cell? ⟨wr.heap.size,0,none⟩=some (.int .i64 xi)∧W'.cell? ⟨wr.heap.size,1,none⟩=some (.int .i64 xc)∧W'.cell? ⟨wr.heap.size,2,none⟩=some (.int .i64 xd)∧W'.cell? ⟨wr.heap.size,3,none⟩=some (.int .i64 xt)∧W'.cell? ⟨wr.heap.size,4,none⟩=some (.int .i64 xm)∧W'.cell? ⟨wr.heap.size,5,none⟩=some (.bool xs)∧W'.cell? ⟨w.heap.size,0,none⟩=some (.slice (some ⟨b,off,none⟩) l.length cap))) (by kernel_rfl) (KEEP.out _ HB.out.drew) (fun hHeld=>?_)
    refine Gh.tk 0 ?_
    refine Gh.rd 1 (fun K hK=>?_)
    go_simp
    (with_reducible refine (MB.out _).mono ?_)
    rintro e w1 ⟨rfl,b1⟩
    have H1:=Lib.hid (HB.out.drew.call b1)
    clear b1
    go_simp
    refine hK.out _ _ (KEEP.out _ H1.out) (fun hHeld=>?_)
    clear hK K
    refine Gh.pt ?_
    refine Gh.tk 2 ?_
    refine Gh.tk 3 ?_
    refine Gh.tn 4 ?_
    refine Gh.tn 5 ?_
    refine Gh.tn 6 ?_
    refine Gh.tn 7 ?_
    refine Gh.tn 8 ?_
    refine Gh.tn 9 ?_
    refine Gh.tn 10 ?_
    refine Gh.tn 11 ?_
    refine Gh.tn 12 ?_
    refine Gh.tn 13 ?_
    refine Gh.tn 14 ?_
    refine Gh.tn 15 ?_
    refine Gh.tn 16 ?_
    refine Gh.tn 17 ?_
    refine Gh.tn 18 ?_
    refine Gh.tn 19 ?_
    refine Gh.tk 20 ?_
    refine wpAnyH_done (by kernel_rfl) ?_ _
    go_wp2
    go_ret
    exact ⟨by rw [E.out];rfl,H1.out.bl⟩
    -- (/FALSE)
   case true=>
    rw [hok] at MB
    have OKX:=Lib.hid hok
    clear BAD BADX hok
    cases i with
    | zero=>
     have NX:=Lib.hid (pre_one HXI.out OKX.out)
     simp only [Nat.zero_mul,Nat.add_zero] at c0 c1 c2 c3 c4 c5
     clear FALL YES hat HP HXI OKX SB
     go_wp2_with fail
     -- (ZERO)
     refine wp_region_held_drew (S:=(fun W'=>W'.cell? ⟨wr.heap.size,0,none⟩=some (.int .i64 xi)∧W'.cell? ⟨wr.heap.size,1,none⟩=some (.int .i64 xc)∧W'.cell? ⟨wr.heap.size,2,none⟩=some (.int .i64 xd)∧W'.cell? ⟨wr.heap.size,3,none⟩=some (.int .i64 xt)∧W'.cell? ⟨wr.heap.size,4,none⟩=some (.int .i64 xm)∧W'.cell? ⟨wr.heap.size,5,none⟩=some (.bool xs)∧W'.cell? ⟨w.heap.size,0,none⟩=some (.slice (some ⟨b,off,none⟩) l.length cap))) (by kernel_rfl) (KEEP.out _ HB.out.drew) (fun hHeld=>?_)
     refine Gh.tk 0 ?_
     refine Gh.rd 1 (fun K hK=>?_)
     go_simp
     (with_reducible refine (MB.out _).mono ?_)
     rintro e w1 ⟨rfl,b1⟩
     have H1:=Lib.hid (HB.out.drew.call b1)
     clear b1
     go_simp
     refine hK.out _ _ (KEEP.out _ H1.out) (fun hHeld=>?_)
     clear hK K
     refine Gh.pt ?_
     refine Gh.tk 2 ?_
     refine Gh.tk 3 ?_
     refine Gh.tk 4 ?_
     refine Gh.tk 5 ?_
     refine Gh.tk 6 ?_
     refine Gh.tn 7 ?_
     refine Gh.tn 8 ?_
     refine Gh.tn 9 ?_
     refine Gh.tn 10 ?_
     refine Gh.tn 11 ?_
     refine Gh.tn 12 ?_
     refine Gh.tn 13 ?_
     refine Gh.tn 14 ?_
     refine Gh.tn 15 ?_
     refine Gh.tn 16 ?_
     refine Gh.tn 17 ?_
     refine Gh.tn 18 ?_
     refine Gh.tk 19 ?_
     refine Gh.tk 20 ?_
     refine wpAnyH_done (by kernel_rfl) ?_ _
     go_wp2
     go_roundg (gk-1)
     case measure=>omega
     case rel=>exact ⟨1,by have:=HI.out;omega,by go_num,NX.out,H1.out.sub (by simp)⟩
     -- (/ZERO)
    | succ j=>
     have hj:j<l.length:=by omega
     have PJ:=List.getElem?_eq_getElem hj
     have pc:=(row_cells hat PJ).1
     have HPJ:=Lib.hid PJ
     generalize l[j]=y at *
     have FALLX:=Lib.hid (fun q=>FALL.out j y _ PJ HXI.out q)
     have NX:=Lib.hid (fun q=>pre_succ HP.out PJ HXI.out OKX.out q)
     clear PJ
     obtain ⟨⟨pi,yc,yd,yt,ym⟩,ys⟩:=y
     simp only at pc FALLX NX
     have e1:((j+1:Nat):Int)-1=(j:Int):=by omega
     have e2:(j:Int)<(l.length:Int):=by omega
     have e3:IntKind.i64.wrap (j:Int)=(j:Int):=IntWalk.i64_in _ (by omega)
     have KEEP:Hid (∀ W',Bos [(wr.heap.size,#[.int .i64 xi,.int .i64 xc,.int .i64 xd,.int .i64 xt,.int .i64 xm,.bool xs],123),(w.heap.size,#[.slice (some ⟨b,off,none⟩) l.length cap,.int .i64 m],52)] w W'→(W'.cell? ⟨wr.heap.size,0,none⟩=some (.int .i64 xi)∧W'.cell? ⟨wr.heap.size,1,none⟩=some (.int .i64 xc)∧W'.cell? ⟨wr.heap.size,2,none⟩=some (.int .i64 xd)∧W'.cell? ⟨wr.heap.size,3,none⟩=some (.int .i64 xt)∧W'.cell? ⟨wr.heap.size,4,none⟩=some (.int .i64 xm)∧W'.cell? ⟨wr.heap.size,5,none⟩=some (.bool xs)∧W'.cell? ⟨w.heap.size,0,none⟩=some (.slice (some ⟨b,off,none⟩) l.length cap))∧W'.cell? ⟨b,off+j*6,none⟩=some (.int .i64 pi)):=Lib.hid (fun W' h=>⟨KEEP.out W' h,by
      obtain ⟨b',off',e,hl',hat'⟩:=S.out.below h.bl (Nat.le_refl _) (by omega)
      cases e
      exact (row_cells hat' HPJ.out).1⟩)
     simp only [and_assoc] at KEEP
     clear FALL YES hat HP HXI OKX SB HPJ hj
     by_cases hfall:xi≤pi
     ·have hd:decide (xi≤pi)=true:=decide_eq_true hfall
      have E:=Lib.hid (FALLX.out hfall)
      clear FALLX NX hfall
      go_wp2_with fail
     -- (FALL)
      refine wp_region_held_drew (S:=(fun W'=>W'.cell? ⟨wr.heap.size,0,none⟩=some (.int .i64 xi)∧W'.cell? ⟨wr.heap.size,1,none⟩=some (.int .i64 xc)∧W'.cell? ⟨wr.heap.size,2,none⟩=some (.int .i64 xd)∧W'.cell? ⟨wr.heap.size,3,none⟩=some (.int .i64 xt)∧W'.cell? ⟨wr.heap.size,4,none⟩=some (.int .i64 xm)∧W'.cell? ⟨wr.heap.size,5,none⟩=some (.bool xs)∧W'.cell? ⟨w.heap.size,0,none⟩=some (.slice (some ⟨b,off,none⟩) l.length cap)∧W'.cell? ⟨b,off+j*6,none⟩=some (.int .i64 pi))) (by kernel_rfl) (KEEP.out _ HB.out.drew) (fun hHeld=>?_)
      refine Gh.tk 0 ?_
      refine Gh.rd 1 (fun K hK=>?_)
      go_simp
      (with_reducible refine (MB.out _).mono ?_)
      rintro e w1 ⟨rfl,b1⟩
      have H1:=Lib.hid (HB.out.drew.call b1)
      clear b1
      go_simp
      refine hK.out _ _ (KEEP.out _ H1.out) (fun hHeld=>?_)
      clear hK K
      refine Gh.pt ?_
      refine Gh.tk 2 ?_
      refine Gh.tk 3 ?_
      refine Gh.tk 4 ?_
      refine Gh.tk 5 ?_
      refine Gh.tk 6 ?_
      refine Gh.tk 7 ?_
      refine Gh.tk 8 ?_
      refine Gh.tk 9 ?_
      refine Gh.tk 10 ?_
      refine Gh.tk 11 ?_
      refine Gh.tk 12 ?_
      refine Gh.tk 13 ?_
      refine Gh.tk 14 ?_
      refine Gh.tk 15 ?_
      refine Gh.tk 16 ?_
      refine Gh.tk 17 ?_
      refine Gh.tk 18 ?_
      refine Gh.tk 19 ?_
      refine Gh.tk 20 ?_
      refine wpAnyH_done (by kernel_rfl) ?_ _
      go_wp2
      go_ret
      exact ⟨by rw [E.out];rfl,H1.out.bl⟩
     -- (/FALL)
     ·have hd:decide (xi≤pi)=false:=decide_eq_false hfall
      have NX:=Lib.hid (NX.out (by omega))
      clear FALLX hfall
      go_wp2_with fail
     -- (SUCC)
      refine wp_region_held_drew (S:=(fun W'=>W'.cell? ⟨wr.heap.size,0,none⟩=some (.int .i64 xi)∧W'.cell? ⟨wr.heap.size,1,none⟩=some (.int .i64 xc)∧W'.cell? ⟨wr.heap.size,2,none⟩=some (.int .i64 xd)∧W'.cell? ⟨wr.heap.size,3,none⟩=some (.int .i64 xt)∧W'.cell? ⟨wr.heap.size,4,none⟩=some (.int .i64 xm)∧W'.cell? ⟨wr.heap.size,5,none⟩=some (.bool xs)∧W'.cell? ⟨w.heap.size,0,none⟩=some (.slice (some ⟨b,off,none⟩) l.length cap)∧W'.cell? ⟨b,off+j*6,none⟩=some (.int .i64 pi))) (by kernel_rfl) (KEEP.out _ HB.out.drew) (fun hHeld=>?_)
      refine Gh.tk 0 ?_
      refine Gh.rd 1 (fun K hK=>?_)
      go_simp
      (with_reducible refine (MB.out _).mono ?_)
      rintro e w1 ⟨rfl,b1⟩
      have H1:=Lib.hid (HB.out.drew.call b1)
      clear b1
      go_simp
      refine hK.out _ _ (KEEP.out _ H1.out) (fun hHeld=>?_)
      clear hK K
      refine Gh.pt ?_
      refine Gh.tk 2 ?_
      refine Gh.tk 3 ?_
      refine Gh.tk 4 ?_
      refine Gh.tk 5 ?_
      refine Gh.tk 6 ?_
      refine Gh.tk 7 ?_
      refine Gh.tk 8 ?_
      refine Gh.tk 9 ?_
      refine Gh.tk 10 ?_
      refine Gh.tk 11 ?_
      refine Gh.tk 12 ?_
      refine Gh.tk 13 ?_
      refine Gh.tk 14 ?_
      refine Gh.tk 15 ?_
      refine Gh.tk 16 ?_
      refine Gh.tk 17 ?_
      refine Gh.tk 18 ?_
      refine Gh.tk 19 ?_
      refine Gh.tk 20 ?_
      refine wpAnyH_done (by kernel_rfl) ?_ _
      go_wp2
      go_roundg (gk-1)
      case measure=>omega
      case rel=>exact ⟨j+2,by have:=HI.out;omega,by go_num,NX.out,H1.out.sub (by simp)⟩
     -- (/SUCC)
  ·have hge:(l.length:Int)≤(i:Int):=by omega
   obtain rfl:i=l.length:=by omega
   have E:=Lib.hid (YES.out hp)
   have K:=Lib.hid hB.bl
   clear hB TW hp hi hlt
   go_wp2
   go_ret
   exact ⟨by rw [E.out];rfl,K.out⟩
end Go.Proofs.YteempfoajgblaaaGreat.Tb
namespace Go.Proofs.YteempfoajgblaaaGreat.Tb
open Pm (Tk chk chk_iff below_drewN)
open Ge (El Seen Row)
theorem okW_eq (i c d t m:Int) (s:Bool):okW ⟨⟨i,c,d,t,m⟩,s⟩=(chk ⟨i,c,d,t,m⟩&&(!s||d==t)):=rfl
theorem rcheck_any (t:Tb) (ao:Option Addr) (cap:Nat) (w:World) (hS:Seen Rw.cs 6 ao t.rows w) (hl:t.rows.length≤1000) :
 Calls Tryz.prog 67 #[tv ao t.rows.length cap t.mode] w fun e w'=>e=.returned (.bool (chkT t))∧Below w.heap.size w w':=by
 obtain ⟨l,m⟩:=t
 simp only [tv] at *
 have S:=Lib.hid hS
 clear hS
 have H0:=Lib.hid ((bos_nil w).new #[.slice ao l.length cap,.int .i64 m] 52)
 have YES:Hid (Pre l l.length→chkT ⟨l,m⟩=(decide (l.length≤16)&&decide (0≤m)&&decide (m≤3))):=Lib.hid (fun h=>by
  by_cases h16:l.length≤16
  ·by_cases hm:0≤m∧m≤3
   · rw [chk_pre h h16 hm];simp [h16,hm]
   · rw [chk_mode hm];simp [h16];omega
  · rw [chk_long (by omega)];simp [h16])
 have BAD:Hid (∀ i x,l[i]?=some x→okW x=false→chkT ⟨l,m⟩=false):=Lib.hid (fun i x h k=>chk_bad h k)
 have FALL:Hid (∀ i x y,l[i]?=some x→l[i+1]?=some y→y.t.id≤x.t.id→chkT ⟨l,m⟩=false):=Lib.hid (fun i x y h k q=>chk_fall h k q)
 generalize chkT ⟨l,m⟩=R at *
 go_enter Tryz.func67,Tryz.ntmps67
 go_wp2_with fail
 go_loopg [3] l.length (ChRel l w.heap.size #[.slice ao l.length cap,.int .i64 m] w)
 case atStart=>exact ⟨0,by omega,rfl,pre_zero l,H0.out⟩
 case round=>
  obtain ⟨i,hi,rfl,hp,hB⟩:=hrel
  have TW:=S.out.below hB.bl (Nat.le_refl _)
  clear H0
  obtain ⟨t0,t1⟩:=cell2 (hB.cell 0 rfl)
  by_cases hlt:i<l.length
  ·obtain ⟨b,off,rfl,hb,hat⟩:=TW (by omega)
   have hxi:=List.getElem?_eq_getElem hlt
   have hx:=row_cells hat hxi
   have HI:=Lib.hid hi
   have hlt':(i:Int)<(l.length:Int):=by omega
   have hg0:0<gk:=by omega
   have CK:=Lib.hid (Pm.rchk_any l[i].t)
   have HP:=Lib.hid hp
   have HXI:=Lib.hid hxi
   clear hi hp TW
   generalize l[i]=x at *
   have HB:=Lib.hid (hB.new #[.int .i64 x.t.id,.int .i64 x.t.c,.int .i64 x.t.d,.int .i64 x.t.t,.int .i64 x.t.m,.bool x.s] 123)
   have BADX:=Lib.hid (BAD.out i x hxi)
   clear hxi hB
   obtain ⟨c0,c1,c2,c3,c4,c5⟩:=hx
   obtain ⟨⟨xi,xc,xd,xt,xm⟩,xs⟩:=x
   simp only [Rw.v,Tk.v] at *
   have OK:=Lib.hid (okW_eq xi xc xd xt xm xs)
   generalize chk ⟨xi,xc,xd,xt,xm⟩=q at *
   go_wp2_with fail
   (with_reducible refine (CK.out _).mono ?_)
   rintro e w1 ⟨rfl,b1⟩
   have H1:=Lib.hid (HB.out.call b1)
   clear b1 CK HB t0 t1 c0 c1 c2 c3 c4 c5
   have KEEP:Hid (∀ W',Bos [(wr.heap.size,#[.int .i64 xi,.int .i64 xc,.int .i64 xd,.int .i64 xt,.int .i64 xm,.bool xs],123),(w.heap.size,#[.slice (some ⟨b,off,none⟩) l.length cap,.int .i64 m],52)] w W'→(W'.cell? ⟨wr.heap.size,0,none⟩=some (.int .i64 xi)∧W'.cell? ⟨wr.heap.size,1,none⟩=some (.int .i64 xc)∧W'.cell? ⟨wr.heap.size,2,none⟩=some (.int .i64 xd)∧W'.cell? ⟨wr.heap.size,3,none⟩=some (.int .i64 xt)∧W'.cell? ⟨wr.heap.size,4,none⟩=some (.int .i64 xm)∧W'.cell? ⟨wr.heap.size,5,none⟩=some (.bool xs))∧W'.cell? ⟨w.heap.size,0,none⟩=some (.slice (some ⟨b,off,none⟩) l.length cap)):=Lib.hid (fun W' h=>⟨cell6 (h.cell 0 rfl),(h.cell 1 rfl 0).trans rfl⟩)
   simp only [and_assoc] at KEEP
   cases q
   case false=>
    have E:=Lib.hid (BADX.out (by rw [OK.out];rfl))
    clear BAD BADX FALL YES hat HP HXI OK
    go_wp2_with fail
    refine wp_region_held_drew (S:=(fun W'=>W'.cell? ⟨wr.heap.size,0,none⟩=some (.int .i64 xi)∧W'.cell? ⟨wr.heap.size,1,none⟩=some (.int .i64 xc)∧W'.cell? ⟨wr.heap.size,2,none⟩=some (.int .i64 xd)∧W'.cell? ⟨wr.heap.size,3,none⟩=some (.int .i64 xt)∧W'.cell? ⟨wr.heap.size,4,none⟩=some (.int .i64 xm)∧W'.cell? ⟨wr.heap.size,5,none⟩=some (.bool xs)∧W'.cell? ⟨w.heap.size,0,none⟩=some (.slice (some ⟨b,off,none⟩) l.length cap))) (by kernel_rfl) (KEEP.out _ H1.out.drew) (fun hHeld=>?_)
    refine Gh.tk 0 ?_
    refine Gh.tk 1 ?_
    refine Gh.tk 2 ?_
    refine Gh.tn 3 ?_
    refine Gh.tn 4 ?_
    refine Gh.tn 5 ?_
    refine Gh.tn 6 ?_
    refine Gh.tn 7 ?_
    refine Gh.tn 8 ?_
    refine Gh.tn 9 ?_
    refine Gh.tn 10 ?_
    refine Gh.tn 11 ?_
    refine Gh.tn 12 ?_
    refine Gh.tn 13 ?_
    refine Gh.tk 14 ?_
    refine Gh.tk 15 ?_
    refine Gh.tn 16 ?_
    refine Gh.tn 17 ?_
    refine Gh.tn 18 ?_
    refine Gh.tn 19 ?_
    refine Gh.tn 20 ?_
    refine Gh.tn 21 ?_
    refine Gh.tn 22 ?_
    refine Gh.tn 23 ?_
    refine Gh.tn 24 ?_
    refine Gh.tn 25 ?_
    refine Gh.tn 26 ?_
    refine Gh.tn 27 ?_
    refine Gh.tn 28 ?_
    refine Gh.tn 29 ?_
    refine Gh.tn 30 ?_
    refine Gh.tn 31 ?_
    refine Gh.tk 32 ?_
    refine wpAnyH_done (by kernel_rfl) ?_ _
    go_wp2
    go_ret
    exact ⟨by rw [E.out];rfl,H1.out.bl.drew⟩
   case true=>
    by_cases hs:xs=true∧¬xd=xt
    ·obtain ⟨rfl,hdt⟩:=hs
     have E:=Lib.hid (BADX.out (by rw [OK.out];simp [hdt]))
     have hd1:(xd==xt)=false:=by simp [hdt]
     have hd2:(xd != xt)=true:=by simp [hdt]
     clear BAD BADX FALL YES hat HP HXI OK
     go_wp2_with fail
     refine wp_region_held_drew (S:=(fun W'=>W'.cell? ⟨wr.heap.size,0,none⟩=some (.int .i64 xi)∧W'.cell? ⟨wr.heap.size,1,none⟩=some (.int .i64 xc)∧W'.cell? ⟨wr.heap.size,2,none⟩=some (.int .i64 xd)∧W'.cell? ⟨wr.heap.size,3,none⟩=some (.int .i64 xt)∧W'.cell? ⟨wr.heap.size,4,none⟩=some (.int .i64 xm)∧W'.cell? ⟨wr.heap.size,5,none⟩=some (.bool true)∧W'.cell? ⟨w.heap.size,0,none⟩=some (.slice (some ⟨b,off,none⟩) l.length cap))) (by kernel_rfl) (KEEP.out _ H1.out.drew) (fun hHeld=>?_)
     refine Gh.tk 0 ?_
     refine Gh.tk 1 ?_
     refine Gh.tk 2 ?_
     refine Gh.tk 3 ?_
     refine Gh.tk 4 ?_
     refine Gh.tk 5 ?_
     refine Gh.tk 6 ?_
     refine Gh.tk 7 ?_
     refine Gh.tk 8 ?_
     refine Gh.tk 9 ?_
     refine Gh.tk 10 ?_
     refine Gh.tk 11 ?_
     refine Gh.tk 12 ?_
     refine Gh.tk 13 ?_
     refine Gh.tk 14 ?_
     refine Gh.tk 15 ?_
     refine Gh.tn 16 ?_
     refine Gh.tn 17 ?_
     refine Gh.tn 18 ?_
     refine Gh.tn 19 ?_
     refine Gh.tn 20 ?_
     refine Gh.tn 21 ?_
     refine Gh.tn 22 ?_
     refine Gh.tn 23 ?_
     refine Gh.tn 24 ?_
     refine Gh.tn 25 ?_
     refine Gh.tn 26 ?_
     refine Gh.tn 27 ?_
     refine Gh.tn 28 ?_
     refine Gh.tn 29 ?_
     refine Gh.tn 30 ?_
     refine Gh.tn 31 ?_
     refine Gh.tk 32 ?_
     refine wpAnyH_done (by kernel_rfl) ?_ _
     go_wp2
     go_ret
     exact ⟨by rw [E.out];rfl,H1.out.bl.drew⟩
    have OKX:Hid (okW ⟨⟨xi,xc,xd,xt,xm⟩,xs⟩=true):=Lib.hid (by
     rw [OK.out]
     cases xs with
     | false=>rfl
     | true=>simpa using hs)
    have hss:(xs=true∧(xd != xt)=false)∨xs=false:=by
     cases xs with
     | false=>exact .inr rfl
     | true=>exact .inl ⟨rfl,by simpa using hs⟩
    clear BAD BADX OK hs
    cases i with
    | zero=>
     have NX:=Lib.hid (pre_one HXI.out OKX.out)
     clear FALL YES hat HP HXI OKX
     rcases hss with ⟨rfl,hdt⟩|rfl
     ·go_wp2_with fail
      refine wp_region_held_drew (S:=(fun W'=>W'.cell? ⟨wr.heap.size,0,none⟩=some (.int .i64 xi)∧W'.cell? ⟨wr.heap.size,1,none⟩=some (.int .i64 xc)∧W'.cell? ⟨wr.heap.size,2,none⟩=some (.int .i64 xd)∧W'.cell? ⟨wr.heap.size,3,none⟩=some (.int .i64 xt)∧W'.cell? ⟨wr.heap.size,4,none⟩=some (.int .i64 xm)∧W'.cell? ⟨wr.heap.size,5,none⟩=some (.bool true)∧W'.cell? ⟨w.heap.size,0,none⟩=some (.slice (some ⟨b,off,none⟩) l.length cap))) (by kernel_rfl) (KEEP.out _ H1.out.drew) (fun hHeld=>?_)
      refine Gh.tk 0 ?_
      refine Gh.tk 1 ?_
      refine Gh.tk 2 ?_
      refine Gh.tk 3 ?_
      refine Gh.tk 4 ?_
      refine Gh.tk 5 ?_
      refine Gh.tk 6 ?_
      refine Gh.tk 7 ?_
      refine Gh.tk 8 ?_
      refine Gh.tk 9 ?_
      refine Gh.tk 10 ?_
      refine Gh.tk 11 ?_
      refine Gh.tk 12 ?_
      refine Gh.tk 13 ?_
      refine Gh.tk 14 ?_
      refine Gh.tk 15 ?_
      refine Gh.tk 16 ?_
      refine Gh.tk 17 ?_
      refine Gh.tk 18 ?_
      refine Gh.tn 19 ?_
      refine Gh.tn 20 ?_
      refine Gh.tn 21 ?_
      refine Gh.tn 22 ?_
      refine Gh.tn 23 ?_
      refine Gh.tn 24 ?_
      refine Gh.tn 25 ?_
      refine Gh.tn 26 ?_
      refine Gh.tn 27 ?_
      refine Gh.tn 28 ?_
      refine Gh.tn 29 ?_
      refine Gh.tn 30 ?_
      refine Gh.tk 31 ?_
      refine Gh.tk 32 ?_
      refine wpAnyH_done (by kernel_rfl) ?_ _
      go_wp2
      go_roundg (gk-1)
      case measure=>omega
      case rel=>exact ⟨1,by have:=HI.out;omega,by go_num,NX.out,H1.out.drew.sub (by simp)⟩
     ·go_wp2_with fail
      refine wp_region_held_drew (S:=(fun W'=>W'.cell? ⟨wr.heap.size,0,none⟩=some (.int .i64 xi)∧W'.cell? ⟨wr.heap.size,1,none⟩=some (.int .i64 xc)∧W'.cell? ⟨wr.heap.size,2,none⟩=some (.int .i64 xd)∧W'.cell? ⟨wr.heap.size,3,none⟩=some (.int .i64 xt)∧W'.cell? ⟨wr.heap.size,4,none⟩=some (.int .i64 xm)∧W'.cell? ⟨wr.heap.size,5,none⟩=some (.bool false)∧W'.cell? ⟨w.heap.size,0,none⟩=some (.slice (some ⟨b,off,none⟩) l.length cap))) (by kernel_rfl) (KEEP.out _ H1.out.drew) (fun hHeld=>?_)
      refine Gh.tk 0 ?_
      refine Gh.tk 1 ?_
      refine Gh.tk 2 ?_
      refine Gh.tk 3 ?_
      refine Gh.tk 4 ?_
      refine Gh.tk 5 ?_
      refine Gh.tn 6 ?_
      refine Gh.tn 7 ?_
      refine Gh.tn 8 ?_
      refine Gh.tn 9 ?_
      refine Gh.tn 10 ?_
      refine Gh.tn 11 ?_
      refine Gh.tn 12 ?_
      refine Gh.tk 13 ?_
      refine Gh.tk 14 ?_
      refine Gh.tk 15 ?_
      refine Gh.tk 16 ?_
      refine Gh.tk 17 ?_
      refine Gh.tk 18 ?_
      refine Gh.tn 19 ?_
      refine Gh.tn 20 ?_
      refine Gh.tn 21 ?_
      refine Gh.tn 22 ?_
      refine Gh.tn 23 ?_
      refine Gh.tn 24 ?_
      refine Gh.tn 25 ?_
      refine Gh.tn 26 ?_
      refine Gh.tn 27 ?_
      refine Gh.tn 28 ?_
      refine Gh.tn 29 ?_
      refine Gh.tn 30 ?_
      refine Gh.tk 31 ?_
      refine Gh.tk 32 ?_
      refine wpAnyH_done (by kernel_rfl) ?_ _
      go_wp2
      go_roundg (gk-1)
      case measure=>omega
      case rel=>exact ⟨1,by have:=HI.out;omega,by go_num,NX.out,H1.out.drew.sub (by simp)⟩
    | succ j=>
     have hj:j<l.length:=by omega
     have PJ:=List.getElem?_eq_getElem hj
     have HPJ:=Lib.hid PJ
     generalize l[j]=y at *
     have FALLX:=Lib.hid (fun q=>FALL.out j y _ PJ HXI.out q)
     have NX:=Lib.hid (fun q=>pre_succ HP.out PJ HXI.out OKX.out q)
     clear PJ
     obtain ⟨⟨pi,yc,yd,yt,ym⟩,ys⟩:=y
     simp only at FALLX NX
     have e1:((j+1:Nat):Int)-1=(j:Int):=by omega
     have e2:(j:Int)<(l.length:Int):=by omega
     have e3:IntKind.i64.wrap (j:Int)=(j:Int):=IntWalk.i64_in _ (by omega)
     have KEEP:Hid (∀ W',Bos [(wr.heap.size,#[.int .i64 xi,.int .i64 xc,.int .i64 xd,.int .i64 xt,.int .i64 xm,.bool xs],123),(w.heap.size,#[.slice (some ⟨b,off,none⟩) l.length cap,.int .i64 m],52)] w W'→(W'.cell? ⟨wr.heap.size,0,none⟩=some (.int .i64 xi)∧W'.cell? ⟨wr.heap.size,1,none⟩=some (.int .i64 xc)∧W'.cell? ⟨wr.heap.size,2,none⟩=some (.int .i64 xd)∧W'.cell? ⟨wr.heap.size,3,none⟩=some (.int .i64 xt)∧W'.cell? ⟨wr.heap.size,4,none⟩=some (.int .i64 xm)∧W'.cell? ⟨wr.heap.size,5,none⟩=some (.bool xs)∧W'.cell? ⟨w.heap.size,0,none⟩=some (.slice (some ⟨b,off,none⟩) l.length cap))∧W'.cell? ⟨b,off+j*6,none⟩=some (.int .i64 pi)):=Lib.hid (fun W' h=>⟨KEEP.out W' h,by
      obtain ⟨b',off',e,hl',hat'⟩:=S.out.below h.bl (Nat.le_refl _) (by omega)
      cases e
      exact (row_cells hat' HPJ.out).1⟩)
     simp only [and_assoc] at KEEP
     clear FALL YES hat HP HXI OKX hj HPJ
     by_cases hfall:xi≤pi
     ·have hd:decide (xi≤pi)=true:=decide_eq_true hfall
      have E:=Lib.hid (FALLX.out hfall)
      clear FALLX NX
      rcases hss with ⟨rfl,hdt⟩|rfl
      ·go_wp2_with fail
       refine wp_region_held_drew (S:=(fun W'=>W'.cell? ⟨wr.heap.size,0,none⟩=some (.int .i64 xi)∧W'.cell? ⟨wr.heap.size,1,none⟩=some (.int .i64 xc)∧W'.cell? ⟨wr.heap.size,2,none⟩=some (.int .i64 xd)∧W'.cell? ⟨wr.heap.size,3,none⟩=some (.int .i64 xt)∧W'.cell? ⟨wr.heap.size,4,none⟩=some (.int .i64 xm)∧W'.cell? ⟨wr.heap.size,5,none⟩=some (.bool true)∧W'.cell? ⟨w.heap.size,0,none⟩=some (.slice (some ⟨b,off,none⟩) l.length cap)∧W'.cell? ⟨b,off+j*6,none⟩=some (.int .i64 pi))) (by kernel_rfl) (KEEP.out _ H1.out.drew) (fun hHeld=>?_)
       refine Gh.tk 0 ?_
       refine Gh.tk 1 ?_
       refine Gh.tk 2 ?_
       refine Gh.tk 3 ?_
       refine Gh.tk 4 ?_
       refine Gh.tk 5 ?_
       refine Gh.tk 6 ?_
       refine Gh.tk 7 ?_
       refine Gh.tk 8 ?_
       refine Gh.tk 9 ?_
       refine Gh.tk 10 ?_
       refine Gh.tk 11 ?_
       refine Gh.tk 12 ?_
       refine Gh.tk 13 ?_
       refine Gh.tk 14 ?_
       refine Gh.tk 15 ?_
       refine Gh.tk 16 ?_
       refine Gh.tk 17 ?_
       refine Gh.tk 18 ?_
       refine Gh.tk 19 ?_
       refine Gh.tk 20 ?_
       refine Gh.tk 21 ?_
       refine Gh.tk 22 ?_
       refine Gh.tk 23 ?_
       refine Gh.tk 24 ?_
       refine Gh.tk 25 ?_
       refine Gh.tk 26 ?_
       refine Gh.tk 27 ?_
       refine Gh.tk 28 ?_
       refine Gh.tk 29 ?_
       refine Gh.tk 30 ?_
       refine Gh.tk 31 ?_
       refine Gh.tk 32 ?_
       refine wpAnyH_done (by kernel_rfl) ?_ _
       go_wp2
       go_ret
       exact ⟨by rw [E.out];rfl,H1.out.bl.drew⟩
      ·go_wp2_with fail
       refine wp_region_held_drew (S:=(fun W'=>W'.cell? ⟨wr.heap.size,0,none⟩=some (.int .i64 xi)∧W'.cell? ⟨wr.heap.size,1,none⟩=some (.int .i64 xc)∧W'.cell? ⟨wr.heap.size,2,none⟩=some (.int .i64 xd)∧W'.cell? ⟨wr.heap.size,3,none⟩=some (.int .i64 xt)∧W'.cell? ⟨wr.heap.size,4,none⟩=some (.int .i64 xm)∧W'.cell? ⟨wr.heap.size,5,none⟩=some (.bool false)∧W'.cell? ⟨w.heap.size,0,none⟩=some (.slice (some ⟨b,off,none⟩) l.length cap)∧W'.cell? ⟨b,off+j*6,none⟩=some (.int .i64 pi))) (by kernel_rfl) (KEEP.out _ H1.out.drew) (fun hHeld=>?_)
       refine Gh.tk 0 ?_
       refine Gh.tk 1 ?_
       refine Gh.tk 2 ?_
       refine Gh.tk 3 ?_
       refine Gh.tk 4 ?_
       refine Gh.tk 5 ?_
       refine Gh.tn 6 ?_
       refine Gh.tn 7 ?_
       refine Gh.tn 8 ?_
       refine Gh.tn 9 ?_
       refine Gh.tn 10 ?_
       refine Gh.tn 11 ?_
       refine Gh.tn 12 ?_
       refine Gh.tk 13 ?_
       refine Gh.tk 14 ?_
       refine Gh.tk 15 ?_
       refine Gh.tk 16 ?_
       refine Gh.tk 17 ?_
       refine Gh.tk 18 ?_
       refine Gh.tk 19 ?_
       refine Gh.tk 20 ?_
       refine Gh.tk 21 ?_
       refine Gh.tk 22 ?_
       refine Gh.tk 23 ?_
       refine Gh.tk 24 ?_
       refine Gh.tk 25 ?_
       refine Gh.tk 26 ?_
       refine Gh.tk 27 ?_
       refine Gh.tk 28 ?_
       refine Gh.tk 29 ?_
       refine Gh.tk 30 ?_
       refine Gh.tk 31 ?_
       refine Gh.tk 32 ?_
       refine wpAnyH_done (by kernel_rfl) ?_ _
       go_wp2
       go_ret
       exact ⟨by rw [E.out];rfl,H1.out.bl.drew⟩
     ·have hd:decide (xi≤pi)=false:=decide_eq_false hfall
      have NX:=Lib.hid (NX.out (by omega))
      have hf2:pi<xi:=by omega
      clear FALLX hfall
      rcases hss with ⟨rfl,hdt⟩|rfl
      ·go_wp2_with fail
       refine wp_region_held_drew (S:=(fun W'=>W'.cell? ⟨wr.heap.size,0,none⟩=some (.int .i64 xi)∧W'.cell? ⟨wr.heap.size,1,none⟩=some (.int .i64 xc)∧W'.cell? ⟨wr.heap.size,2,none⟩=some (.int .i64 xd)∧W'.cell? ⟨wr.heap.size,3,none⟩=some (.int .i64 xt)∧W'.cell? ⟨wr.heap.size,4,none⟩=some (.int .i64 xm)∧W'.cell? ⟨wr.heap.size,5,none⟩=some (.bool true)∧W'.cell? ⟨w.heap.size,0,none⟩=some (.slice (some ⟨b,off,none⟩) l.length cap)∧W'.cell? ⟨b,off+j*6,none⟩=some (.int .i64 pi))) (by kernel_rfl) (KEEP.out _ H1.out.drew) (fun hHeld=>?_)
       refine Gh.tk 0 ?_
       refine Gh.tk 1 ?_
       refine Gh.tk 2 ?_
       refine Gh.tk 3 ?_
       refine Gh.tk 4 ?_
       refine Gh.tk 5 ?_
       refine Gh.tk 6 ?_
       refine Gh.tk 7 ?_
       refine Gh.tk 8 ?_
       refine Gh.tk 9 ?_
       refine Gh.tk 10 ?_
       refine Gh.tk 11 ?_
       refine Gh.tk 12 ?_
       refine Gh.tk 13 ?_
       refine Gh.tk 14 ?_
       refine Gh.tk 15 ?_
       refine Gh.tk 16 ?_
       refine Gh.tk 17 ?_
       refine Gh.tk 18 ?_
       refine Gh.tk 19 ?_
       refine Gh.tk 20 ?_
       refine Gh.tk 21 ?_
       refine Gh.tk 22 ?_
       refine Gh.tk 23 ?_
       refine Gh.tk 24 ?_
       refine Gh.tk 25 ?_
       refine Gh.tk 26 ?_
       refine Gh.tk 27 ?_
       refine Gh.tk 28 ?_
       refine Gh.tk 29 ?_
       refine Gh.tk 30 ?_
       refine Gh.tk 31 ?_
       refine Gh.tk 32 ?_
       refine wpAnyH_done (by kernel_rfl) ?_ _
       go_wp2
       go_roundg (gk-1)
       case measure=>omega
       case rel=>exact ⟨j+2,by have:=HI.out;omega,by go_num,NX.out,H1.out.drew.sub (by simp)⟩
      ·go_wp2_with fail
       refine wp_region_held_drew (S:=(fun W'=>W'.cell? ⟨wr.heap.size,0,none⟩=some (.int .i64 xi)∧W'.cell? ⟨wr.heap.size,1,none⟩=some (.int .i64 xc)∧W'.cell? ⟨wr.heap.size,2,none⟩=some (.int .i64 xd)∧W'.cell? ⟨wr.heap.size,3,none⟩=some (.int .i64 xt)∧W'.cell? ⟨wr.heap.size,4,none⟩=some (.int .i64 xm)∧W'.cell? ⟨wr.heap.size,5,none⟩=some (.bool false)∧W'.cell? ⟨w.heap.size,0,none⟩=some (.slice (some ⟨b,off,none⟩) l.length cap)∧W'.cell? ⟨b,off+j*6,none⟩=some (.int .i64 pi))) (by kernel_rfl) (KEEP.out _ H1.out.drew) (fun hHeld=>?_)
       refine Gh.tk 0 ?_
       refine Gh.tk 1 ?_
       refine Gh.tk 2 ?_
       refine Gh.tk 3 ?_
       refine Gh.tk 4 ?_
       refine Gh.tk 5 ?_
       refine Gh.tn 6 ?_
       refine Gh.tn 7 ?_
       refine Gh.tn 8 ?_
       refine Gh.tn 9 ?_
       refine Gh.tn 10 ?_
       refine Gh.tn 11 ?_
       refine Gh.tn 12 ?_
       refine Gh.tk 13 ?_
       refine Gh.tk 14 ?_
       refine Gh.tk 15 ?_
       refine Gh.tk 16 ?_
       refine Gh.tk 17 ?_
       refine Gh.tk 18 ?_
       refine Gh.tk 19 ?_
       refine Gh.tk 20 ?_
       refine Gh.tk 21 ?_
       refine Gh.tk 22 ?_
       refine Gh.tk 23 ?_
       refine Gh.tk 24 ?_
       refine Gh.tk 25 ?_
       refine Gh.tk 26 ?_
       refine Gh.tk 27 ?_
       refine Gh.tk 28 ?_
       refine Gh.tk 29 ?_
       refine Gh.tk 30 ?_
       refine Gh.tk 31 ?_
       refine Gh.tk 32 ?_
       refine wpAnyH_done (by kernel_rfl) ?_ _
       go_wp2
       go_roundg (gk-1)
       case measure=>omega
       case rel=>exact ⟨j+2,by have:=HI.out;omega,by go_num,NX.out,H1.out.drew.sub (by simp)⟩
  ·have hge:(l.length:Int)≤(i:Int):=by omega
   obtain rfl:i=l.length:=by omega
   have E:=Lib.hid (YES.out hp)
   have K:=Lib.hid hB.bl
   clear hB TW hp hi hlt
   have eN:decide (l.length≤16)=decide ((l.length:Int)≤16):=decide_eq_decide.2 (by omega)
   rw [eN] at E
   clear eN
   by_cases h1:(l.length:Int)≤16
   ·by_cases h2:0≤m
    ·go_wp2
     go_ret
     exact ⟨by rw [E.out];simp [h1];omega,K.out⟩
    ·have h2':m<0:=by omega
     go_wp2
     go_ret
     exact ⟨by rw [E.out];simp [h1];omega,K.out⟩
   ·have h1':(16:Int)<(l.length:Int):=by omega
    go_wp2
    go_ret
    exact ⟨by rw [E.out];simp;omega,K.out⟩
end Go.Proofs.YteempfoajgblaaaGreat.Tb
namespace Go.Proofs.YteempfoajgblaaaGreat.Tb
open Pm (Tk chk chk_iff below_drewN)
open Ge (El Seen Row)
def Pl (l:List Rw) (id:Int) (k:Nat):Prop:=k≤l.length∧(∀ j r,j<k→l[j]?=some r→r.t.id<id)∧∀ j r,k≤j→l[j]?=some r→id≤r.t.id
theorem beq_eq_dec (a b:Int):(a==b)=decide (a=b):=by by_cases h:a=b <;> simp [h]
def there (l:List Rw) (id:Int) (k:Nat):Bool:=match l[k]? with
 | some r=>decide (r.t.id=id)
 | none=>false
theorem pl_there {l:List Rw} {id:Int} {k:Nat} (h:Pl l id k) (ht:there l id k=true):at_ l id=some k∧∃ r,l[k]?=some r∧r.t.id=id:=by
 unfold there at ht
 cases hk:l[k]? with
 | none=>rw [hk] at ht;cases ht
 | some r=>
  rw [hk] at ht
  have hid:r.t.id=id:=by simpa using ht
  refine ⟨?_,r,rfl,hid⟩
  obtain ⟨hkl,hke⟩:=List.getElem?_eq_some_iff.1 hk
  unfold at_
  rw [List.findIdx?_eq_some_iff_getElem]
  refine ⟨hkl,by rw [hke];simpa using hid,fun j hj=>?_⟩
  have:=h.2.1 j _ hj (List.getElem?_eq_getElem (by omega))
  simp;omega
theorem pl_not {l:List Rw} {id:Int} {k:Nat} {a:Int} (hr:rise a l=true) (h:Pl l id k) (ht:there l id k=false):at_ l id=none∧∀ r∈l,r.t.id≠id:=by
 have key:∀ r∈l,r.t.id≠id:=fun r hrm=>by
  obtain ⟨j,hj,rfl⟩:=List.getElem_of_mem hrm
  by_cases h1:j<k
  · have:=h.2.1 j _ h1 (List.getElem?_eq_getElem hj);omega
  ·have hk:k<l.length:=by omega
   have h2:=h.2.2 k _ (Nat.le_refl _) (List.getElem?_eq_getElem hk)
   have h3:l[k].t.id≠id:=by
    unfold there at ht
    rw [List.getElem?_eq_getElem hk] at ht
    simpa using ht
   by_cases h4:j=k
   · subst h4;exact h3
   ·have:=List.pairwise_iff_getElem.1 (rise_pair.1 hr).2 k j hk hj (by omega)
    omega
 refine ⟨?_,key⟩
 unfold at_
 rw [List.findIdx?_eq_none_iff]
 intro r hr
 simpa using key r hr
theorem pl_ins {x:Rw}:∀ {l:List Rw} {k:Nat},Pl l x.t.id k→(∀ r∈l,r.t.id≠x.t.id)→ins x l=l.take k++x :: l.drop k:=by
 intro l
 induction l with
 | nil=>intro k _ _;simp [ins]
 | cons r l ih=>
  intro k h hn
  have hne:=hn r (by simp)
  cases k with
  | zero=>
   have:=h.2.2 0 r (Nat.le_refl _) rfl
   unfold ins
   rw [if_pos (by omega)];rfl
  | succ k=>
   have:=h.2.1 0 r (by omega) rfl
   unfold ins
   rw [if_neg (by omega),ih (k:=k) ⟨by have:=h.1;simp at this;omega,fun j q hj hq=>h.2.1 (j+1) q (by omega) (by simpa using hq),fun j q hj hq=>h.2.2 (j+1) q (by omega) (by simpa using hq)⟩ (fun q hq=>hn q (by simp [hq]))]
   rfl
theorem rise_le {l:List Rw} {a:Int} (hr:rise a l=true) {i j:Nat} {x y:Rw} (hij:i≤j) (hx:l[i]?=some x) (hy:l[j]?=some y):x.t.id≤y.t.id:=by
 obtain ⟨i1,rfl⟩:=List.getElem?_eq_some_iff.1 hx
 obtain ⟨j1,rfl⟩:=List.getElem?_eq_some_iff.1 hy
 by_cases e:i=j
 · subst e;exact Int.le_refl _
 ·have:=List.pairwise_iff_getElem.1 (rise_pair.1 hr).2 i j i1 j1 (by omega)
  omega
abbrev PB (w:World) (ao:Option Addr) (k cap:Nat) (m id:Int):List (Nat×Array Value×Nat):=[(w.heap.size+1,#[.int .i64 id],3),(w.heap.size,#[.slice ao k cap,.int .i64 m],52)]
theorem place1_any {l:List Rw} {ao:Option Addr} {cap:Nat} {m id:Int} {w W:World} {i:Nat} {x:Rw} (hS:Seen Rw.cs 6 ao l w) (hx:l[i]?=some x) (hl:l.length≤1000) (hB:Bos (PB w ao l.length cap m id) w W) :
 Calls Tryz.prog 220 #[.int .i64 (i:Int),.pointer (some ⟨w.heap.size,0,none⟩),.pointer (some ⟨w.heap.size+1,0,none⟩)] W fun e w'=>e=.returned (.bool (decide (id≤x.t.id)))∧Bos (PB w ao l.length cap m id) w w':=by
 obtain ⟨b,off,rfl,hb,hat⟩:=hS.below hB.bl (Nat.le_refl _) (by have:=(List.getElem?_eq_some_iff.1 hx).1;omega)
 have hil:=(List.getElem?_eq_some_iff.1 hx).1
 have c0:=(row_cells hat hx).1
 have t0:=(cell2 (hB.cell 1 rfl)).1
 have i0:W.cell? ⟨w.heap.size+1,0,none⟩=some (.int .i64 id):=(hB.cell 0 rfl 0).trans rfl
 have HB:=Lib.hid hB.drew
 have KD:=Lib.hid (And.intro c0 (And.intro t0 i0))
 have hi1:(i:Int)<(l.length:Int):=by omega
 have hi2:IntKind.i64.wrap (i:Int)=(i:Int):=IntWalk.i64_in _ (by omega)
 obtain ⟨⟨xi,xc,xd,xt,xm⟩,xs⟩:=x
 simp only at *
 clear hat hx hS hB hil hb
 go_enter Tryz.func220,Tryz.ntmps220
 go_wp2_with fail
 refine wp_region_held_drew (S:=(fun W'=>W'.cell? ⟨b,off+i*6,none⟩=some (.int .i64 xi)∧W'.cell? ⟨w.heap.size,0,none⟩=some (.slice (some ⟨b,off,none⟩) l.length cap)∧W'.cell? ⟨w.heap.size+1,0,none⟩=some (.int .i64 id))) (by kernel_rfl) (KD.out) (fun hHeld=>?_)
 refine Gh.tk 0 ?_
 refine Gh.tk 1 ?_
 refine Gh.tk 2 ?_
 refine Gh.tk 3 ?_
 refine Gh.tk 4 ?_
 refine Gh.tk 5 ?_
 refine Gh.tk 6 ?_
 refine Gh.tk 7 ?_
 refine Gh.tk 8 ?_
 refine Gh.tk 9 ?_
 refine wpAnyH_done (by kernel_rfl) ?_ _
 go_wp2
 go_ret
 exact ⟨rfl,HB.out⟩
def SeRel (l:List Rw) (id:Int) (L:List (Nat×Array Value×Nat)) (w:World) (g:Nat) (s5 s6:Value) (wx:World):Prop:=
 ∃ i j:Nat,i+g=j∧j≤l.length∧s5=.int .i64 (i:Int)∧s6=.int .i64 (j:Int)∧(∀ k r,k<i→l[k]?=some r→r.t.id<id)∧(∀ k r,j≤k→l[k]?=some r→id≤r.t.id)∧Bos L w wx
theorem search_any {l:List Rw} {ao:Option Addr} {cap:Nat} {m id a:Int} {w W:World} (hS:Seen Rw.cs 6 ao l w) (hr:rise a l=true) (hl:l.length≤1000) (hB:Bos (PB w ao l.length cap m id) w W) :
 Calls Tryz.prog 219 #[.int .i64 (l.length:Int),.func (.func 220) #[] #[.pointer (some ⟨w.heap.size,0,none⟩),.pointer (some ⟨w.heap.size+1,0,none⟩)]] W fun e w'=>∃ k:Nat,e=.returned (.int .i64 (k:Int))∧Pl l id k∧Bos (PB w ao l.length cap m id) w w':=by
 have PC:Hid (∀ (i:Nat) (x:Rw) (W:World),l[i]?=some x→Bos (PB w ao l.length cap m id) w W→Calls Tryz.prog 220 #[.int .i64 (i:Int),.pointer (some ⟨w.heap.size,0,none⟩),.pointer (some ⟨w.heap.size+1,0,none⟩)] W fun e w'=>e=.returned (.bool (decide (id≤x.t.id)))∧Bos (PB w ao l.length cap m id) w w'):=Lib.hid (fun i x W hx hB=>place1_any hS hx hl hB)
 have LE:Hid (∀ (i j:Nat) (x y:Rw),i≤j→l[i]?=some x→l[j]?=some y→x.t.id≤y.t.id):=Lib.hid (fun i j x y hij hx hy=>rise_le hr hij hx hy)
 have HB:=Lib.hid hB
 clear hS hr hB
 generalize PB w ao l.length cap m id=L at *
 go_enter Tryz.func219,Tryz.ntmps219
 go_wp2_with fail
 go_loopg [5,6] l.length (SeRel l id L w)
 case atStart=>exact ⟨0,l.length,by omega,Nat.le_refl _,rfl,rfl,fun k r h=>by omega,fun k r h hk=>by have:=(List.getElem?_eq_some_iff.1 hk).1;omega,HB.out⟩
 case round=>
  obtain ⟨i,j,hg,hj,rfl,rfl,h1,h2,hB⟩:=hrel
  have H1:=Lib.hid h1
  have H2:=Lib.hid h2
  have HBB:=Lib.hid hB
  clear h1 h2 hB HB
  by_cases hlt:i<j
  ·obtain ⟨h,hh⟩:∃ h:Nat,h=(i+j)/2:=⟨_,rfl⟩
   have hhl:h<l.length:=by omega
   have hx:=List.getElem?_eq_getElem hhl
   have C:=Lib.hid (PC.out h _ wr hx HBB.out)
   have HX:=Lib.hid hx
   generalize l[h]=x at *
   clear hx
   obtain ⟨⟨xi,xc,xd,xt,xm⟩,xs⟩:=x
   simp only at *
   have hij:(i:Int)<(j:Int):=by omega
   have a1:IntKind.i64.wrap ((i:Int)+(j:Int))=(i:Int)+(j:Int):=IntWalk.i64_in _ (by omega)
   have a2:IntKind.u64.wrap ((i:Int)+(j:Int))=(i:Int)+(j:Int):=IntWalk.u64_in _ (by omega)
   have a2':((i:Int)+(j:Int))%18446744073709551616=(i:Int)+(j:Int):=by omega
   have a3:((i:Int)+(j:Int))/2=(h:Int):=by omega
   have a4:IntKind.i64.wrap (h:Int)=(h:Int):=IntWalk.i64_in _ (by omega)
   have a4':IntKind.u64.wrap (h:Int)=(h:Int):=IntWalk.u64_in _ (by omega)
   have a5:IntKind.i64.wrap ((h:Int)+1)=(h:Int)+1:=IntWalk.i64_in _ (by omega)
   have HI:Hid (i≤h∧h<j∧i+gk=j∧j≤l.length):=Lib.hid (by omega)
   by_cases hd:id≤xi
   ·rw [decide_eq_true hd] at C
    have N2:Hid (∀ k r,h≤k→l[k]?=some r→id≤r.t.id):=Lib.hid (fun k r hk hr=>by have:=LE.out h k _ r hk HX.out hr;simp only at this;omega)
    clear hd PC LE H2 HX hg hj hlt hh hhl
    go_wp2_with fail
    (with_reducible refine C.out.mono ?_)
    rintro e w1 ⟨rfl,b1⟩
    have B1:=Lib.hid b1
    clear b1 C
    go_wp2
    go_roundg (h-i)
    case measure=>have:=HI.out;omega
    case rel=>exact ⟨i,h,by have:=HI.out;omega,by have:=HI.out;omega,rfl,rfl,H1.out,N2.out,B1.out⟩
   ·rw [decide_eq_false hd] at C
    have N1:Hid (∀ k r,k<h+1→l[k]?=some r→r.t.id<id):=Lib.hid (fun k r hk hr=>by have:=LE.out k h r _ (by omega) hr HX.out;simp only at this;omega)
    clear hd PC LE H1 HX hg hj hlt hh hhl
    go_wp2_with fail
    (with_reducible refine C.out.mono ?_)
    rintro e w1 ⟨rfl,b1⟩
    have B1:=Lib.hid b1
    clear b1 C
    go_wp2
    go_roundg (j-(h+1))
    case measure=>have:=HI.out;omega
    case rel=>exact ⟨h+1,j,by have:=HI.out;omega,by have:=HI.out;omega,by go_num,rfl,N1.out,H2.out,B1.out⟩
  ·have hge:(j:Int)≤(i:Int):=by omega
   obtain rfl:i=j:=by omega
   have P:Hid (Pl l id i):=Lib.hid ⟨hj,H1.out,H2.out⟩
   clear hlt hg hj PC LE H1 H2
   go_wp2
   go_ret
   exact ⟨i,rfl,P.out,HBB.out⟩
theorem place_any {l:List Rw} {ao:Option Addr} {cap:Nat} {m id a:Int} {w:World} (hS:Seen Rw.cs 6 ao l w) (hr:rise a l=true) (hl:l.length≤1000) :
 Calls Tryz.prog 198 #[tv ao l.length cap m,.int .i64 id] w fun e w'=>∃ k:Nat,e=.returned (.tuple #[.int .i64 (k:Int),.bool (there l id k)])∧Pl l id k∧Below w.heap.size w w':=by
 have hmf:∀ (fn:Fn) (first cap:Array Value) (w:World),(Instr.makeFunc fn first cap).run Tryz.prog w=.ok (.func fn first cap) w:=fun _ _ _ _=>rfl
 have SE:Hid (∀ W,Bos (PB w ao l.length cap m id) w W→Calls Tryz.prog 219 #[.int .i64 (l.length:Int),.func (.func 220) #[] #[.pointer (some ⟨w.heap.size,0,none⟩),.pointer (some ⟨w.heap.size+1,0,none⟩)]] W fun e w'=>∃ k:Nat,e=.returned (.int .i64 (k:Int))∧Pl l id k∧Bos (PB w ao l.length cap m id) w w'):=Lib.hid (fun W hB=>search_any hS hr hl hB)
 have S:=Lib.hid hS
 have H0:Hid (Bos (PB w ao l.length cap m id) w ((w.alloc (.cells #[.slice ao l.length cap,.int .i64 m] 52)).alloc (.cells #[.int .i64 id] 3))):=Lib.hid (by
  have:=((bos_nil w).new #[.slice ao l.length cap,.int .i64 m] 52).new #[.int .i64 id] 3
  rw [World.size_alloc] at this
  exact this)
 have t0:=(cell2 (H0.out.cell 1 rfl)).1
 unfold tv
 clear hS hr
 go_enter Tryz.func198,Tryz.ntmps198
 go_wp2_with fail
 (with_reducible refine (SE.out _ H0.out).mono ?_)
 rintro e w1 ⟨k,rfl,hp,b1⟩
 have H1:=Lib.hid b1
 have HP:=Lib.hid hp
 clear b1 SE H0 t0
 have t0:=(cell2 (H1.out.cell 1 rfl)).1
 have i0:w1.cell? ⟨w.heap.size+1,0,none⟩=some (.int .i64 id):=(H1.out.cell 0 rfl 0).trans rfl
 by_cases hk:k<l.length
 ·have hx:=List.getElem?_eq_getElem hk
  obtain ⟨b,off,rfl,hb,hat⟩:=S.out.below H1.out.bl (Nat.le_refl _) (by omega)
  have c0:=(row_cells hat hx).1
  have E:there l id k=(l[k].t.id==id):=by unfold there;rw [hx];exact (beq_eq_dec _ _).symm
  have hk':(k:Int)<(l.length:Int):=by omega
  have hk2:IntKind.i64.wrap (k:Int)=(k:Int):=IntWalk.i64_in _ (by omega)
  have EH:=Lib.hid E
  generalize l[k]=x at *
  obtain ⟨⟨xi,xc,xd,xt,xm⟩,xs⟩:=x
  simp only at *
  have KD:=Lib.hid (And.intro c0 (And.intro t0 i0))
  clear hx hat E S hp hb c0 t0 i0
  go_wp2_with fail
  refine wp_region_held_drew (S:=(fun W'=>W'.cell? ⟨b,off+k*6,none⟩=some (.int .i64 xi)∧W'.cell? ⟨w.heap.size,0,none⟩=some (.slice (some ⟨b,off,none⟩) l.length cap)∧W'.cell? ⟨w.heap.size+1,0,none⟩=some (.int .i64 id))) (by kernel_rfl) (KD.out) (fun hHeld=>?_)
  refine Gh.tk 0 ?_
  refine Gh.tk 1 ?_
  refine Gh.tk 2 ?_
  refine Gh.tk 3 ?_
  refine Gh.tk 4 ?_
  refine Gh.tk 5 ?_
  refine Gh.tk 6 ?_
  refine Gh.tk 7 ?_
  refine Gh.tk 8 ?_
  refine Gh.tk 9 ?_
  refine Gh.tk 10 ?_
  refine Gh.tk 11 ?_
  refine Gh.tk 12 ?_
  refine Gh.tk 13 ?_
  refine Gh.tk 14 ?_
  refine Gh.tk 15 ?_
  refine Gh.tk 16 ?_
  refine Gh.tk 17 ?_
  refine Gh.tk 18 ?_
  refine wpAnyH_done (by kernel_rfl) ?_ _
  go_wp2
  go_ret2
  exact ⟨k,by rw [EH.out];rfl,HP.out,H1.out.bl.drew⟩
 ·have E:there l id k=false:=by unfold there;rw [List.getElem?_eq_none (by omega)]
  have EH:=Lib.hid E
  have hk':(l.length:Int)≤(k:Int):=by omega
  have hd:decide (k<l.length)=false:=decide_eq_false (by omega)
  have KD:=Lib.hid (And.intro t0 i0)
  clear E S hp hk
  go_wp2_with fail
  refine wp_region_held_drew (S:=(fun W'=>W'.cell? ⟨w.heap.size,0,none⟩=some (.slice ao l.length cap)∧W'.cell? ⟨w.heap.size+1,0,none⟩=some (.int .i64 id))) (by kernel_rfl) (KD.out) (fun hHeld=>?_)
  refine Gh.tk 0 ?_
  refine Gh.tk 1 ?_
  refine Gh.tk 2 ?_
  refine Gh.tk 3 ?_
  refine Gh.tk 4 ?_
  refine Gh.tk 5 ?_
  refine Gh.tk 6 ?_
  refine Gh.tn 7 ?_
  refine Gh.tn 8 ?_
  refine Gh.tn 9 ?_
  refine Gh.tn 10 ?_
  refine Gh.tn 11 ?_
  refine Gh.tn 12 ?_
  refine Gh.tn 13 ?_
  refine Gh.tn 14 ?_
  refine Gh.tn 15 ?_
  refine Gh.tk 16 ?_
  refine Gh.tk 17 ?_
  refine Gh.tk 18 ?_
  refine wpAnyH_done (by kernel_rfl) ?_ _
  go_wp2
  go_ret2
  exact ⟨k,by rw [EH.out];rfl,HP.out,H1.out.bl.drew⟩
end Go.Proofs.YteempfoajgblaaaGreat.Tb
