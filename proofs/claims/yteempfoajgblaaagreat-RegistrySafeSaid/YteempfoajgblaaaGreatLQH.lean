/- A disk behind a try of a registry: of whatever a crash, or a flush, makes of it, the table is the .. -/
import Derived.Test.YteempfoajgblaaaGreatLQB
import Derived.Test.YteempfoajgblaaaGreatLQD
import Derived.Test.YteempfoajgblaaaGreatLQG
set_option maxRecDepth 100000
set_option linter.unusedVariables false
set_option linter.unusedSimpArgs false
open Go.ChangeShapes Go.WideShapes Go.ChangeAt Go.RowKit Go.Joins
namespace Go.Proofs.YteempfoajgblaaaGreat.Rg
open Dk (Dk DS Moved ptr Fats Off)
open Jn (JL JI Jt Jd Kp Since)
def Okt (c:Int) (T T' T2:Tb.Tb):Prop:=(c=0∧T2=T')∨(c=18∧(T2=T∨T2=T'))∨(c≠0∧c≠18∧T2=T)
structure Ot (n M:Nat) (c:Int) (T T':Tb.Tb) (s:DS):Prop where
 any:∀ fs,∃ (nx N E:Nat) (d:List UInt8) (ops:List (List UInt8)) (T2:Tb.Tb),N≤M∧JI (Dk.crashedS s fs) 9 n nx N E d ops∧Rep d ops T2∧Okt c T T' T2
 opn:s.opn.length≤64
section
variable {B b n M F R:Nat} {c:Int} {T T':Tb.Tb} {s:DS} {w0 w w':World}
theorem Ot.with (h:Ot n M c T T' s) (f r:Nat):Ot n M c T T' ⟨s.sec,s.opn,f,r⟩:=⟨h.any,h.opn⟩
theorem Ot.mono {M':Nat} (h:Ot n M c T T' s) (hM:M≤M'):Ot n M' c T T' s:=⟨fun fs=>by
 obtain ⟨nx,N,E,d,ops,T2,h1,h2⟩:=h.any fs
 exact ⟨nx,N,E,d,ops,T2,by omega,h2⟩,h.opn⟩
theorem Ot.len (h:Ot n M c T T' s):s.sec.length=2*9+n:=by
 obtain ⟨nx,N,E,d,ops,T2,-,hj,-⟩:=h.any []
 have:=hj.jb.len
 unfold Dk.crashedS at this
 rw [Dk.laid_length] at this
 exact this
theorem Ot.plain (h:Ot n M c T T' s) (fs:List (Int×Int)) (f r:Nat):Ot n M c T T' ⟨Dk.crashedS s fs,[],f,r⟩:=⟨fun gs=>by
 rw [Jn.crashed_plain]
 exact h.any fs,by show 0≤64;omega⟩
theorem Ot.flush (h:Ot n M c T T' s) (f r:Nat):Ot n M c T T' ⟨Dk.flushedS s,[],f,r⟩:=by
 rw [Jn.flush_crash]
 exact h.plain _ f r
theorem ot_of {err:Nat} {d2 d:List UInt8} {ops2 ops:List (List UInt8)} (h:Oc 9 n M err d2 ops2 d ops s) (r2:Rep d2 ops2 T) (r1:err≠22→Rep d ops T') (he:err=0∨err=18∨err=22):Ot n M (err:Int) T T' s:=⟨fun fs=>by
 rcases h.any fs with ⟨nx,N,E,h1,h2,h3⟩|⟨nx,N,E,h1,h2,h3⟩
 ·refine ⟨nx,N,E,d,ops,T',h1,h2,r1 h3,?_⟩
  rcases he with rfl|rfl|rfl
  · exact .inl ⟨rfl,rfl⟩
  · exact .inr (.inl ⟨rfl,.inr rfl⟩)
  · exact absurd rfl h3
 ·refine ⟨nx,N,E,d2,ops2,T,h1,h2,r2,?_⟩
  rcases he with rfl|rfl|rfl
  · exact absurd rfl h3
  · exact .inr (.inl ⟨rfl,.inl rfl⟩)
  · exact .inr (.inr ⟨by decide,by decide,rfl⟩),h.opn⟩
def Ou (B b n M:Nat) (c:Int) (T T':Tb.Tb) (F R:Nat) (w0 w:World):Prop:=∃ s,Dk B b s w∧Below B w0 w∧Ot n M c T T' s∧s.fail=F∧s.reads≤R
theorem ou_fail (h:Ou B b n M c T T' F R w0 w) (x:Int) (hx:x<9223372036854775808) :
 Calls Tryz.prog 15 #[ptr b,.int .i64 x] w fun e w'=>e=.returned (.tuple #[])∧Ou B b n M c T T' x.toNat R w0 w'∧Kr w w'∧Since w w':=by
 obtain ⟨s,h1,h2,h3,h4,h5⟩:=h
 refine (Dk.fail_any B b s x w h1 hx).mono ?_
 rintro e w1 ⟨rfl,d1,m1⟩
 have o1:=(Since.refl w).moved h1 m1
 exact ⟨rfl,⟨_,d1,h2.trans (h1.below m1),h3.with _ _,rfl,h5⟩,.since o1,o1⟩
theorem ou_crash (h:Ou B b n M c T T' F R w0 w) (ao:Option Addr) (fs:List (Int×Int)) (fc:Nat) (hF:Fats ao fs w) (ho:0<fs.length→Off ao b w) (hfl:fs.length≤9223372036854775807) :
 Calls Tryz.prog 17 #[ptr b,.slice ao fs.length fc] w fun e w'=>∃ v,e=.returned (.int .i64 v)∧Ou B b n M c T T' 0 0 w0 w'∧Kr w w'∧Since w w':=by
 obtain ⟨s,h1,h2,h3,h4,h5⟩:=h
 refine (Dk.crash_any B b s ao fs fc w h1 hF ho (by have:=h3.opn;omega) hfl).mono ?_
 rintro e w1 ⟨rfl,d1,m1⟩
 have o1:=(Since.refl w).moved h1 m1
 exact ⟨_,rfl,⟨_,d1,h2.trans (h1.below m1),h3.plain fs 0 0,rfl,by show 0≤0;omega⟩,.since o1,o1⟩
end
def Rf (B b g n m:Nat) (T:Tb.Tb) (M R f:Nat) (w0 w:World):Prop:=
 ∃ (j l q nx N E:Nat) (d:List UInt8) (ops:List (List UInt8)) (S:List (List UInt8)) (r:Nat),JL B b j l q 9 n nx N E d ops S f r w0 w∧Rep d ops T∧RM w g j T∧(B≤g∧w0.heap.size≤g)∧ops.length=m∧N≤M∧r≤R
def GB (w:World) (g:Nat) (gd:Bool):Prop:=∃ (j l q e:Nat) (v:Value) (x:Int),RAt w g j v x∧Jn.JAt w j l q e gd
theorem GB.call {w w':World} {g:Nat} {gd:Bool} (h:GB w g gd) (hb:Below w.heap.size w w'):GB w' g gd:=by
 obtain ⟨j,l,q,e,v,x,h1,h2⟩:=h
 exact ⟨j,l,q,e,v,x,(hb.block g (Dk.lt_of_heap h1)).trans h1,h2.of_block (hb.block j h2.lt)⟩
theorem GB.since {w w':World} {g:Nat} {gd:Bool} (h:GB w g gd) (k:Since w w'):GB w' g gd:=by
 obtain ⟨j,l,q,e,v,x,h1,h2⟩:=h
 exact ⟨j,l,q,e,v,x,k g _ _ _ h1 (by decide),k j _ _ _ h2 (by decide)⟩
theorem rc_fail {B b g n m:Nat} {T:Tb.Tb} {M R:Nat} {w0 w:World} (h:Rc B b g n m T M R w0 w) (x:Int) (hx:x<9223372036854775808) :
 Calls Tryz.prog 15 #[ptr b,.int .i64 x] w fun e w'=>e=.returned (.tuple #[])∧Rf B b g n m T M R x.toNat w0 w'∧Kr w w'∧Since w w':=by
 obtain ⟨j,l,q,nx,N,E,d,ops,S,r,h1,h2,h3,h4⟩:=h
 refine (Dk.fail_any B b ⟨S,[],0,r⟩ x w h1.jn.dk hx).mono ?_
 rintro e w1 ⟨rfl,d1,m1⟩
 have o1:=(Since.refl w).moved h1.jn.dk m1
 exact ⟨rfl,⟨j,l,q,nx,N,E,d,ops,S,r,JL.reread h1 o1 d1 (h1.jn.bel.trans (h1.jn.dk.below m1)),h2,h3.since o1,h4⟩,.since o1,o1⟩
end Go.Proofs.YteempfoajgblaaaGreat.Rg
namespace Go.Proofs.YteempfoajgblaaaGreat.Rg
open Dk (Dk DS Own Moved ptr)
open Jn (JL JI Jn Jt Jd Kp Since)
open Ox (Od encO)
open Pm (Tk)
open Ju (mayR fitsR withR firstR firstF)
open Qp (testR)
open Tb (encT applyR)
open Ge (Seen)
open Wl (WS)
open Sl (SS)
theorem per_ne (l:List Tk):(Pm.periodR l).2≠18:=by
 unfold Pm.periodR
 split
 ·split
  · show (0:Int)≠18;decide
  · decide
 · decide
theorem test_ne (l:List Tk):testR l≠18:=by
 have key:(Pm.loadR l).e≠18:=by
  unfold Pm.loadR
  split
  · show (0:Int)≠18;decide
  · exact per_ne l
 unfold testR
 split
 · exact key
 · split <;> decide
theorem first_ne (l:List Tb.Rw):∀ (n:Nat) (m:Int),(firstF l n m).2≠18:=by
 intro n
 induction n with
 | zero=>intro m;show (0:Int)≠18;decide
 | succ n ih=>
  intro m
  unfold firstF
  split
  · exact test_ne _
  · exact ih _
theorem may_ne (T:Tb.Tb) (o:Od) (ex:List Tk):(mayR T o ex).2≠18:=by
 have ka:(applyR T o).2≠18:=by
  unfold applyR
  repeat' split
  all_goals first|decide|(show (0:Int)≠18;decide)
 have kf:∀ t,fitsR t≠18:=fun t=>by
  unfold fitsR firstR
  split
  · exact first_ne _ _ _
  · decide
 have kw:∀ t,withR t ex≠18:=fun t=>by
  unfold withR
  split
  · exact kf _
  ·split
   · decide
   · exact test_ne _
 unfold mayR
 split
 · exact ka
 ·split
  · exact kw _
  · exact fun e=>absurd e (by show (0:Int)≠18;decide)
section
variable {B b j l q n nx N E f r:Nat} {d:List UInt8} {ops S:List (List UInt8)} {w0 w w':World}
theorem ou_same {c:Int} {T T':Tb.Tb} {M R:Nat} (h:JL B b j l q 9 n nx N E d ops S f r w0 w) (h2:Rep d ops T) (hN:N≤M) (hr:r≤R) (hc:Okt c T T' T):Ou B b n M c T T' f R w0 w:=
 ⟨⟨S,[],f,r⟩,h.jn.dk,h.jn.bel,⟨fun fs=>⟨nx,N,E,d,ops,T,hN,h.ji,h2,hc⟩,by show 0≤64;omega⟩,rfl,hr⟩
end
theorem do_f (B b g n m:Nat) (T:Tb.Tb) (M R f:Nat) (w0 w:World) (o:Od) (h:Rf B b g n m T M R f w0 w) (hM:M<256) (hf:f<1000) :
 Calls Tryz.prog 21 #[ptr g,o.v,.slice none 0 0] w fun x w'=>∃ c F,x=.returned (.int .i64 c)∧Ou B b n M c T (mayR T o []).1 F R w0 w'∧GB w' g (c != 18)∧Kr w w'∧((mayR T o []).2≠0→c=(mayR T o []).2∧c≠18)∧(c=0→(mayR T o []).2=0):=by
 obtain ⟨j,l,q,nx,N,E,d,ops,S,r,h1,h2,h3,hg,rfl,hN,hr⟩:=h
 have hl:=(Tb.chkT_iff.1 h2.chk).2.2.1
 have h18:=may_ne T o []
 refine (do_gen g j T o [] none 0 w true (fun c u=>∃ (err:Nat) (s':DS) (tl:WS),c=(err:Int)∧Jn B b j l q tl ⟨0,9,true,N,nx⟩ E ((err:Int) != 18) s' w0 u∧s'.reads=r∧(err=0∨err=18∨err=22)∧Oc 9 n N err d ops d (ops++[encO o]) s') h3 (Ge.seen_nil _ _) (by simp) (by omega) (fun W hW=>(Jn.good_any W (h1.call hW).jn.jn).mono fun x w' ⟨hx,e⟩=>⟨hx,e▸Below.refl _ _⟩) (fun _ hm W hW=>?_) (fun u v hu hb=>?_) (fun u o' x cs hu hp=>?_)).mono ?_
 ·refine (append_g B b j l q 9 n nx N E f r d (encO o) ops S w0 W (h1.call hW) (by omega) (may_len hm) (by omega)).mono ?_
  rintro x w' ⟨err,s',tl,rfl,k1,k2,k3,k4,-,-,k5⟩
  exact ⟨_,rfl,⟨err,s',tl,rfl,k1,k3,k4,k5⟩,k2⟩
 ·obtain ⟨err,s',tl,e,k1,k2⟩:=hu
  exact ⟨err,s',tl,e,k1.call hb,k2⟩
 ·obtain ⟨err,s',tl,e,k1,k2⟩:=hu
  exact ⟨err,s',tl,e,k1.setNew hp (by decide) hg.1 hg.2 o' x,k2⟩
 ·rintro x w' ⟨c,rfl,hk,⟨h0,-⟩|⟨-,hm,rfl,hb⟩|⟨-,hm,⟨err,s',tl,rfl,k1,k2,k3,k4⟩,hR⟩⟩
  · cases h0
  ·obtain ⟨a,k,h5,-⟩:=h3.call hb
   refine ⟨_,f,rfl,ou_same (h1.call hb) h2 hN hr (.inr (.inr ⟨hm,h18,rfl⟩)),?_,hk,fun _=>⟨rfl,h18⟩,fun e=>e⟩
   have e:((mayR T o []).2 != 18)=true:=by simp [h18]
   rw [e]
   exact ⟨j,l,q,E,_,_,h5,(h1.call hb).jn.jn⟩
  ·obtain ⟨a,k,h5,-⟩:=hR
   refine ⟨_,s'.fail,rfl,⟨s',k1.dk,k1.bel,(ot_of k4 h2 (fun _=>?_) k3).mono hN,rfl,by omega⟩,⟨j,l,q,E,_,_,h5,k1.jn⟩,hk,fun e=>absurd hm e,fun _=>hm⟩
   rw [(may_chk hm).2]
   exact h2.push hm
theorem snap_f (B b g n m:Nat) (T:Tb.Tb) (M R f:Nat) (w0 w:World) (h:Rf B b g n m T M R f w0 w) (hM:M+1<256) (hf:f<1000) :
 Calls Tryz.prog 13 #[ptr g] w fun x w'=>∃ c F,x=.returned (.int .i64 c)∧Ou B b n (M+1) c T T F R w0 w'∧GB w' g (c != 18)∧Kr w w':=by
 obtain ⟨j,l,q,nx,N,E,d,ops,S,r,h1,h2,h3,hg,rfl,hN,hr⟩:=h
 have hl:=h2.len
 refine (snap_gen g j T w (fun c u=>∃ (err:Nat) (s':DS) (tl:WS) (ts:SS) (e:Nat),c=(err:Int)∧Jn B b j l q tl ts e ((err:Int) != 18) s' w0 u∧s'.reads=r∧(err=0∨err=18)∧Oc 9 n (N+1) err d ops (encT T) [] s') h3 h2.chk (fun W hW=>?_)).mono ?_
 ·refine (snapshot_g B b j l q 9 n nx N E f r d (encT T) ops S w0 W (h1.call hW) (by omega) (by omega) (by omega) (by omega)).mono ?_
  rintro x w' ⟨err,s',tl,ts,e,rfl,k1,k2,k3,k4,k5⟩
  exact ⟨_,rfl,⟨err,s',tl,ts,e,rfl,k1,k3,k4,k5⟩,k2⟩
 ·rintro x w' ⟨c,rfl,⟨err,s',tl,ts,e,rfl,k1,k2,k3,k4⟩,hk,⟨a,k,h5,-⟩⟩
  exact ⟨_,s'.fail,rfl,⟨s',k1.dk,k1.bel,(ot_of k4 h2 (fun _=>Rep.snap h2.2.2) (by omega)).mono (by omega),rfl,by omega⟩,⟨j,l,q,e,_,_,h5,k1.jn⟩,hk⟩
theorem good_x (w:World) (g:Nat) (gd:Bool) (h:GB w g gd) :
 Calls Tryz.prog 26 #[ptr g] w fun x w'=>x=.returned (.bool gd)∧Below w.heap.size w w':=by
 obtain ⟨j,l,q,e,v,x,h1,h2⟩:=h
 exact (rgood_any g j w gd h1.c0 (Jn.good_any w h2)).mono fun x w' ⟨hx,e⟩=>⟨hx,e▸Below.refl _ _⟩
theorem jopen_x (B b n M:Nat) (c:Int) (T T':Tb.Tb) (F R:Nat) (W:World) (s:DS) (hd:Dk B b s W) (ho:Ot n M c T T' s) (hfl:s.fail=F) (hrd:s.reads≤R) (hM:M<256) (hR:R≤100000) (hF:F<1000) (n1:1≤n) (n2:n<256) :
 Calls Tryz.prog 80 #[ptr b,.int .i64 ((9:Nat):Int)] W fun x w' =>
  (F≠0∧x=.returned (.tuple #[.pointer none,Jn.noFound,.int .i64 18])∧Since W w'∧W.heap.size≤w'.heap.size∧∃ s',Dk B b s' w'∧Below B W w'∧Ot n M c T T' s'∧s'.reads≤R+19+n) ∨
  (∃ j v d ops T2,x=.returned (.tuple #[ptr j,.agg #[.string (mkB d),v],.int .i64 0])∧Strs W.heap.size w' v ops∧Rep d ops T2∧Okt c T T' T2∧∃ l q nx N E S F' r,N≤M∧r≤R+19+n∧(F=0→F'=0)∧Ot n M c T T' ⟨S,[],F',r⟩∧JL B b j l q 9 n nx N E d ops S F' r W w'):=by
 have hlen:=ho.len
 have hop:=ho.opn
 rcases Nat.lt_or_ge F 2 with h2|h2
 ·rcases (by omega:F=0∨F=1) with rfl|rfl
  ·-- nothing fails
   obtain ⟨nx,N,E,d,ops,T2,hN,hj,hrep,hok⟩:=ho.any (List.replicate s.opn.length (1,0))
   rw [← Jn.flush_crash] at hj
   have few:=hj.few
   have hrn:=Wl.readsN_le few
   have hs:Dk.flushR s=(⟨Dk.flushedS s,[],0,s.reads⟩,0):=by unfold Dk.flushR;rw [if_neg (by omega),hfl]
   refine (Jn.open_t B b 9 n nx N E 0 s.reads d ops (Dk.flushedS s) s W W hd (Below.refl _ _) (Since.refl _) hj (by omega) (by omega) (by omega) hs hlen (by omega) (by omega) (.inl rfl)).mono ?_
   rintro x w' ⟨j,l,q,v,N',rfl,st,hN',k1,k2⟩
   refine .inr ⟨j,v,d,ops,T2,rfl,st,hrep,hok,l,q,nx,N',E,_,_,_,by omega,by omega,fun _=>by omega,?_,k1⟩
   exact ho.flush _ _
  ·-- the flush fails
   refine (Jn.open_fl B b 9 n s W W hd (Below.refl _ _) (Since.refl _) (by omega) (by omega) n1 hlen hfl).mono ?_
   rintro x w' ⟨rfl,k1,k2,k3,k4⟩
   exact .inl ⟨by decide,rfl,k4,k2.size,_,k1,k2,ho.with _ _,by show s.reads≤_;omega⟩
 ·obtain ⟨nx,N,E,d,ops,T2,hN,hj,hrep,hok⟩:=ho.any (List.replicate s.opn.length (1,0))
  rw [← Jn.flush_crash] at hj
  have few:=hj.few
  have hrn:=Wl.readsN_le few
  have hlS:=hj.jb.len
  have hs:Dk.flushR s=(⟨Dk.flushedS s,[],F-1,s.reads⟩,0):=by unfold Dk.flushR;rw [if_neg (by omega),hfl]
  obtain ⟨hi2,hN2⟩:=hj.reads false 0 0 (F-1) s.reads
  rcases (by omega:F-1≤2*9∨(2*9<F-1∧F-1≤2*9+Wl.readsN ops.length n)∨2*9+Wl.readsN ops.length n<F-1) with h3|h3|h3
  ·refine (Jn.open_err B b 9 n s _ _ 18 _ _ _ _ W W hd (Below.refl _ _) (Since.refl _) (by omega) (by omega) n1 hlen (by omega) (by omega) hs (by decide) (fun j l q w1 h1'=>Jn.find_rd B b j l q ⟨2*9,n,none⟩ ⟨0,9,false,0,0⟩ 0 false ⟨Dk.flushedS s,[],F-1,s.reads⟩ W w1 h1' (by show 1≤9;omega) (by show 9≤64;omega) (by show 0+2*9≤(Dk.flushedS s).length;omega) (by show s.reads≤_;omega) (by show 0≤900000;omega) (by show 1≤F-1;omega) (by show F-1≤2*9;omega))).mono ?_
   rintro x w' ⟨rfl,k1,k2,k3,k4⟩
   exact .inl ⟨by omega,rfl,k4,k2.size,_,k1,k2,ho.flush _ _,by show s.reads+(F-1)≤_;omega⟩
  ·refine (Jn.open_err B b 9 n s _ _ 18 _ _ _ _ W W hd (Below.refl _ _) (Since.refl _) (by omega) (by omega) n1 hlen (by omega) (by omega) hs (by decide) (fun j l q w1 h1'=>(Jn.find_scan B b j l q ⟨2*9,n,none⟩ ⟨0,9,false,0,0⟩ 0 false ⟨Dk.flushedS s,[],F-1,s.reads⟩ E d nx W w1 h1' (by show 1≤9;omega) (by show 9≤64;omega) (by show 0+2*9≤(Dk.flushedS s).length;omega) (by show s.reads≤_;omega) (by show 0≤900000;omega) (by show F-1<_;omega) (by show F-1=0∨2*9<F-1;omega) (hj.jb.tells false 0 0 (F-1) s.reads) hj.e_le.1 n1 (by show 2*9+n≤(Dk.flushedS s).length;omega) 18 [] _ (by
    show Wl.scanR ⟨Dk.flushedS s,[],F-1-2*9,s.reads+2*9⟩ (2*9) n E=_
    rw [hj.scans (by omega),if_pos (by omega)])).1 rfl)).mono ?_
   rintro x w' ⟨rfl,k1,k2,k3,k4⟩
   exact .inl ⟨by omega,rfl,k4,k2.size,_,k1,k2,ho.flush _ _,by show s.reads+2*9+(F-1-2*9)≤_;omega⟩
  ·refine (Jn.open_t B b 9 n nx N E (F-1) s.reads d ops (Dk.flushedS s) s W W hd (Below.refl _ _) (Since.refl _) hj (by omega) (by omega) (by omega) hs hlen (by omega) (by omega) (.inr h3)).mono ?_
   rintro x w' ⟨j,l,q,v,N',rfl,st,hN',k1,k2⟩
   exact .inr ⟨j,v,d,ops,T2,rfl,st,hrep,hok,l,q,nx,N',E,_,_,_,by omega,by omega,fun h=>by omega,ho.flush _ _,k1⟩
theorem ropen_x (B b n M:Nat) (c:Int) (T T':Tb.Tb) (F R:Nat) (w0 w:World) (h:Ou B b n M c T T' F R w0 w) (hM:M<256) (hR:R≤100000) (hF:F<1000) (hWB:w0.heap.size≤B) :
 Calls Tryz.prog 19 #[ptr b,.int .i64 9] w fun x w'=>Since w w'∧((F≠0∧x=.returned (.tuple #[.pointer none,.int .i64 18])∧∃ F',Ou B b n M c T T' F' (R+19+n) w0 w')∨(∃ g j l q nx N E d ops S F' r T2,x=.returned (.tuple #[ptr g,.int .i64 0])∧Rep d ops T2∧Okt c T T' T2∧N≤M∧r≤R+19+n∧(F=0→F'=0)∧Ot n M c T T' ⟨S,[],F',r⟩∧JL B b j l q 9 n nx N E d ops S F' r w0 w'∧RM w' g j T2∧B≤g∧w0.heap.size≤g)):=by
 obtain ⟨s,hd,hb,ho,hfl,hrd⟩:=h
 have hB:=hd.le
 have hW:=hb.size
 obtain ⟨_,_,_,_,_,_,_,hj0,_⟩:=ho.any []
 have n1:=hj0.jb.n1
 have n2:=hj0.jb.n2
 clear hj0
 refine (open_gen b 9 w (fun c' u=>F≠0∧c'=18∧∃ s',(Dk B b s' u∧Below B w0 u)∧Ot n M c T T' s'∧s'.reads≤R+19+n) (fun j d ops u=>∃ T2,Rep d ops T2∧Okt c T T' T2∧∃ l q nx N E S F' r,(N≤M∧r≤R+19+n∧(F=0→F'=0)∧Ot n M c T T' ⟨S,[],F',r⟩)∧JL B b j l q 9 n nx N E d ops S F' r w0 u) (fun c'=>stay_and (stay_const _) (stay_and (stay_const _) (stay_ex fun s'=>stay_and (stay_dk hB) (stay_const _)))) (fun j d ops=>stay_ex fun T2=>stay_and (stay_const _) (stay_and (stay_const _) (stay_ex fun l=>stay_ex fun q=>stay_ex fun nx=>stay_ex fun N=>stay_ex fun E=>stay_ex fun S=>stay_ex fun F'=>stay_ex fun r=>stay_and (stay_const _) (stay_jl hB hW)))) (fun W hbW=>?_)).mono ?_
 ·refine (jopen_x B b n M c T T' F R W s (hd.call hbW) ho hfl hrd hM hR hF n1 n2).mono ?_
  have hbB:=hb.trans (hbW.mono hB)
  rintro x w' (⟨h0,rfl,k1,k2,s',k3,k4,k5,k6⟩|⟨j,v,d,ops,T2,rfl,st,hrep,hok,l,q,nx,N,E,S,F',r,k1,k2,k3,k4,k5⟩)
  · exact ⟨k1,k2,.inl ⟨18,by decide,rfl,h0,rfl,s',⟨k3,hbB.trans k4⟩,k5,k6⟩⟩
  ·have hdl:=k5.ji.dlen
   have few:=k5.ji.few
   refine ⟨k5.jn.old,Nat.le_of_lt (Nat.lt_of_le_of_lt k5.jn.nj k5.jn.jn.lt),.inr ⟨j,v,d,ops,rfl,st,by omega,by omega,fun y hy=>by have:=k5.ji.oplen y hy;omega,T2,hrep,hok,l,q,nx,N,E,S,F',r,⟨k1,k2,k3,k4⟩,JL.since k5 hbB (Since.below hWB hbB)⟩⟩
 ·rintro x w' ⟨s',z',⟨c',hc,rfl,⟨h0,rfl,s1,⟨k3,k4⟩,k5,k6⟩|⟨j,d,ops,⟨T2,hrep,-⟩,h0⟩⟩|⟨j,d,ops,g,⟨T2,hrep,hok,l,q,nx,N,E,S,F',r,⟨k1,k2,k3,k4⟩,k5⟩,h0,rfl,hg,hR'⟩⟩
  · exact ⟨s',.inl ⟨h0,rfl,s1.fail,s1,k3,k4,k5,rfl,k6⟩⟩
  ·rw [opR_rep hrep] at h0
   exact absurd h0.symm hc
  ·rw [opR_rep hrep] at hR'
   exact ⟨s',.inr ⟨g,j,l,q,nx,N,E,d,ops,S,F',r,T2,rfl,hrep,hok,k1,k2,k3,k4,k5,hR',by omega,by omega⟩⟩
theorem open_x (B b n M:Nat) (c:Int) (T T':Tb.Tb) (F R:Nat) (w0 w:World) (h:Ou B b n M c T T' F R w0 w) (hM:M<256) (hR:R≤100000) (hF:F<1000) (hWB:w0.heap.size≤B) :
 Calls Tryz.prog 19 #[ptr b,.int .i64 9] w fun x w'=>∃ F',Ou B b n M c T T' F' (R+19+n) w0 w'∧Kr w w'∧Since w w'∧((∃ g',x=.returned (.tuple #[ptr g',.int .i64 0]))∨x=.returned (.tuple #[.pointer none,.int .i64 18])):=by
 refine (ropen_x B b n M c T T' F R w0 w h hM hR hF hWB).mono ?_
 rintro x w' ⟨s',⟨-,rfl,F',k⟩|⟨g,j,l,q,nx,N,E,d,ops,S,F',r,T2,rfl,hrep,hok,k1,k2,k3,k4,k5,-⟩⟩
 · exact ⟨F',k,.since s',s',.inr rfl⟩
 · exact ⟨F',⟨_,k5.jn.dk,k5.jn.bel,k4,rfl,k2⟩,.since s',s',.inl ⟨g,rfl⟩⟩
theorem open_o (B b n M:Nat) (c:Int) (T T':Tb.Tb) (R:Nat) (w0 w:World) (h:Ou B b n M c T T' 0 R w0 w) (hM:M<256) (hR:R≤100000) (hWB:w0.heap.size≤B) :
 Calls Tryz.prog 19 #[ptr b,.int .i64 9] w fun x w'=>∃ g' m T2,x=.returned (.tuple #[ptr g',.int .i64 0])∧Okt c T T' T2∧Rc B b g' n m T2 M (R+19+n) w0 w'∧Kr w w'∧Since w w':=by
 refine (ropen_x B b n M c T T' 0 R w0 w h hM hR (by omega) hWB).mono ?_
 rintro x w' ⟨s',⟨h0,-⟩|⟨g,j,l,q,nx,N,E,d,ops,S,F',r,T2,rfl,hrep,hok,k1,k2,k3,k4,k5,k6,k7⟩⟩
 · exact absurd rfl h0
 ·have e:=k3 rfl
  subst e
  exact ⟨g,ops.length,T2,rfl,hok,⟨j,l,q,nx,N,E,d,ops,S,r,k5,hrep,k6,k7,rfl,k1,k2⟩,.since s',s'⟩
end Go.Proofs.YteempfoajgblaaaGreat.Rg
