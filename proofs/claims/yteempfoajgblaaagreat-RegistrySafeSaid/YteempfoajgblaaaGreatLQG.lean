/- Package registry's exported calls, by what the journal's calls do. Package registry's calls on a .. -/
import Derived.Test.YteempfoajgblaaaGreatLRgC
import Derived.Test.YteempfoajgblaaaGreatLQB
set_option maxRecDepth 100000
set_option linter.unusedVariables false
set_option linter.unusedSimpArgs false
open Go.ChangeShapes Go.WideShapes Go.ChangeAt Go.RowKit Go.Joins
set_option maxHeartbeats 4000000
namespace Go.Proofs.YteempfoajgblaaaGreat.Rg
open Dk (Dk DS Own Moved ptr)
open Jn (JL Jt Jd Kp Since)
open Ox (Od chkR encO)
open Pm (Tk)
open Ju (mayR fitsR)
open Tb (Rw tb0 applyR Bos bos_nil cell2 readT replayR encT chkT xcs tv)
open Ge (Seen)
/-- Open: the journal's error; that of what was found; or a registry of its table -/
theorem open_gen (b:Nat) (k:Int) (w:World) (QE:Int→World→Prop) (Q:Nat→List UInt8→List (List UInt8)→World→Prop) (sE:∀ c,Stay w.heap.size (QE c)) (sQ:∀ j d ops,Stay w.heap.size (Q j d ops))
 (hJ:∀ W,Below w.heap.size w W→Calls Tryz.prog 80 #[ptr b,.int .i64 k] W (JoQ QE Q W)) :
 Calls Tryz.prog 19 #[ptr b,.int .i64 k] w fun x w'=>Since w w'∧w.heap.size≤w'.heap.size∧((∃ c,c≠0∧x=.returned (.tuple #[.pointer none,.int .i64 c])∧(QE c w'∨∃ j d ops,Q j d ops w'∧(opR d ops).1=c))∨(∃ j d ops g,Q j d ops w'∧(opR d ops).1=0∧x=.returned (.tuple #[ptr g,.int .i64 0])∧w.heap.size≤g∧RM w' g j (opR d ops).2)):=by
 have hmf:∀ (fn:Fn) (first cap:Array Value) (w:World),(Instr.makeFunc fn first cap).run Tryz.prog w=.ok (.func fn first cap) w:=fun _ _ _ _=>rfl
 have hmf':=Lib.hid hmf
 have IT:Hid (Calls Tryz.prog 42 #[.slice (some ⟨w.heap.size+1,0,none⟩) 4 4] ((w.alloc (.cells #[.pointer none,.slice none 0 0,.int .i64 0,ptr b,.int .i64 k,.string ⟨#[]⟩,.slice none 0 0] 111)).alloc (.cells #[.func (.func (opF 0)) #[ptr w.heap.size] #[],.func (.func (opF 1)) #[ptr w.heap.size] #[],.func (.func (opF 2)) #[ptr w.heap.size] #[],.func (.func (opF 3)) #[ptr w.heap.size] #[]] 40)) fun e w'=>∃ c,e=.returned (.int .i64 c)∧(c≠0→OpE w QE Q c w')∧(c=0→OpJ w.heap.size (w.heap.size+1) (ptr b) (.int .i64 k) w Q 4 w')):=Lib.hid (by
  have b1:=(Below.refl w.heap.size w).alloc (Nat.le_refl _) (.cells #[.pointer none,.slice none 0 0,.int .i64 0,ptr b,.int .i64 k,.string ⟨#[]⟩,.slice none 0 0] 111)
  have sz:(w.alloc (.cells #[.pointer none,.slice none 0 0,.int .i64 0,ptr b,.int .i64 k,.string ⟨#[]⟩,.slice none 0 0] 111)).heap.size=w.heap.size+1:=by simp
  have b2:=b1.alloc (by rw [sz];omega) (.cells #[.func (.func (opF 0)) #[ptr w.heap.size] #[],.func (.func (opF 1)) #[ptr w.heap.size] #[],.func (.func (opF 2)) #[ptr w.heap.size] #[],.func (.func (opF 3)) #[ptr w.heap.size] #[]] 40)
  have n1:=heap_alloc_new w (.cells #[.pointer none,.slice none 0 0,.int .i64 0,ptr b,.int .i64 k,.string ⟨#[]⟩,.slice none 0 0] 111)
  have n2:=heap_alloc_new (w.alloc (.cells #[.pointer none,.slice none 0 0,.int .i64 0,ptr b,.int .i64 k,.string ⟨#[]⟩,.slice none 0 0] 111)) (.cells #[.func (.func (opF 0)) #[ptr w.heap.size] #[],.func (.func (opF 1)) #[ptr w.heap.size] #[],.func (.func (opF 2)) #[ptr w.heap.size] #[],.func (.func (opF 3)) #[ptr w.heap.size] #[]] 40)
  have b3:=(Below.refl (w.heap.size+1) (w.alloc (.cells #[.pointer none,.slice none 0 0,.int .i64 0,ptr b,.int .i64 k,.string ⟨#[]⟩,.slice none 0 0] 111))).alloc (by rw [sz];exact Nat.le_refl _) (.cells #[.func (.func (opF 0)) #[ptr w.heap.size] #[],.func (.func (opF 1)) #[ptr w.heap.size] #[],.func (.func (opF 2)) #[ptr w.heap.size] #[],.func (.func (opF 3)) #[ptr w.heap.size] #[]] 40)
  rw [sz] at n2
  refine inturn_any (w.heap.size+1) (ptr w.heap.size) opF (OpJ w.heap.size (w.heap.size+1) (ptr b) (.int .i64 k) w Q) (OpE w QE Q) _ (.inl ⟨rfl,b2,(b3.block w.heap.size (by omega)).trans n1,n2⟩) (fun i _ args w=>op_enter i args w) (fun i hi u hu=>?_) (fun i hi u hu=>?_)
  ·have hr:RowF u (w.heap.size+1) opF (ptr w.heap.size):=by
    rcases hu with ⟨-,-,-,h⟩|⟨-,j,d,ops,v,H,-⟩|⟨-,j,d,ops,v,ao,cap,H,-⟩|⟨-,j,d,ops,v,ao,cap,H,-⟩
    · exact h
    · exact H.row
    · exact H.row
    · exact H.row
   exact hr.cell hi
  ·match i,hi,hu with
   | 0,_,hu=>exact st_find rfl rfl sE sQ hJ u hu
   | 1,_,hu=>exact st_read rfl rfl sQ u hu
   | 2,_,hu=>exact st_replay rfl rfl sQ u hu
   | 3,_,hu=>exact st_fits sQ u hu)
 have SQ:=Lib.hid sQ
 have SE:=Lib.hid sE
 have HW:Hid (w.heap.size=w.heap.size):=Lib.hid rfl
 clear hJ sQ sE
 unfold opF at IT
 clear hmf
 go_enter Tryz.func19,Tryz.ntmps19
 have hmf2:=hmf'.out
 go_wp2_with fail
 (with_reducible refine IT.out.mono ?_)
 rintro e w2 ⟨c,rfl,h1,h2⟩
 have H1:=Lib.hid h1
 have H2:=Lib.hid h2
 clear IT h1 h2 hmf2 hmf'
 by_cases hc:c=0
 ·subst hc
  obtain ⟨h0,-⟩|⟨h0,-⟩|⟨h0,-⟩|⟨-,j,d,ops,v,ao,cap,H,hq,hr,hge,hsl,hf⟩:=H2.out rfl
  · omega
  · omega
  · omega
  have c0:=H.st.c0
  have c1:=H.st.c1
  have c2:=H.st.c2
  have hf0:=hf rfl
  have b3:=(Below.refl w2.heap.size w2).alloc (Nat.le_refl _) (.cells #[ptr j,.slice ao (replayR (readT d).1 ops).1.rows.length cap,.int .i64 (replayR (readT d).1 ops).1.mode] 92)
  have e0:opR d ops=(0,(replayR (readT d).1 ops).1):=by
   unfold opR
   rw [if_neg (by simpa using hr),if_neg hge,hf0]
  have FIN:=Lib.hid (show Since w (w2.alloc (.cells #[ptr j,.slice ao (replayR (readT d).1 ops).1.rows.length cap,.int .i64 (replayR (readT d).1 ops).1.mode] 92))∧w.heap.size≤(w2.alloc (.cells #[ptr j,.slice ao (replayR (readT d).1 ops).1.rows.length cap,.int .i64 (replayR (readT d).1 ops).1.mode] 92)).heap.size∧Q j d ops (w2.alloc (.cells #[ptr j,.slice ao (replayR (readT d).1 ops).1.rows.length cap,.int .i64 (replayR (readT d).1 ops).1.mode] 92))∧(opR d ops).1=0∧w.heap.size≤w2.heap.size∧RM (w2.alloc (.cells #[ptr j,.slice ao (replayR (readT d).1 ops).1.rows.length cap,.int .i64 (replayR (readT d).1 ops).1.mode] 92)) w2.heap.size j (opR d ops).2 from
   ⟨H.sn.call b3,Nat.le_trans H.sz b3.size,(SQ.out j d ops).call _ _ hq b3,by rw [e0],H.sz,by rw [e0];exact ⟨ao,cap,heap_alloc_new w2 _,hsl.call b3⟩⟩)
  clear H hq hr hge hsl hf hf0 b3 e0 H1 H2 SQ SE
  go_wp2
  go_ret2
  exact ⟨FIN.out.1,FIN.out.2.1,.inr ⟨j,d,ops,_,FIN.out.2.2.1,FIN.out.2.2.2.1,rfl,FIN.out.2.2.2.2.1,FIN.out.2.2.2.2.2⟩⟩
 ·have hx':(c != 0)=true:=by simp [hc]
  have FIN:=Lib.hid (H1.out hc)
  have HC:=Lib.hid hc
  clear H1 H2 hc
  go_wp2
  go_ret2
  exact ⟨FIN.out.1,FIN.out.2.1,.inl ⟨c,HC.out,rfl,FIN.out.2.2⟩⟩
theorem RM.chk_bytes {T:Tb.Tb} (hc:chkT T=true):Tb.bytesT T=(mkB (encT T),0):=by unfold Tb.bytesT;rw [if_pos hc];all_goals rfl
theorem rbytes_any (g:Nat) (T:Tb.Tb) (ao:Option Addr) (cap:Nat) (w:World) (c1:w.cell? ⟨g,1,none⟩=some (.slice ao T.rows.length cap)) (c2:w.cell? ⟨g,2,none⟩=some (.int .i64 T.mode)) (hS:Seen Rw.cs 6 ao T.rows w) (hc:chkT T=true) :
 Calls Tryz.prog 34 #[ptr g] w fun e w'=>e=.returned (.string (mkB (encT T)))∧Below w.heap.size w w':=by
 have hl:=(Tb.chkT_iff.1 hc).2.2.1
 refine (bytes_in g _ _ w c1 c2 (fun v w'=>v=.string (mkB (encT T))∧Below w.heap.size w w') (fun W hW=>?_)).mono ?_
 ·refine (Tb.bytes_any T ao cap W (hS.below hW (Nat.le_refl _)) (by omega)).mono ?_
  rintro x w' ⟨rfl,hb⟩
  rw [RM.chk_bytes hc]
  exact ⟨_,_,rfl,rfl,hW.trans (hb.mono hW.size)⟩
 ·rintro e w' ⟨t,rfl,rfl,hb⟩
  exact ⟨rfl,hb⟩
/-- Do -/
theorem do_gen (g j:Nat) (T:Tb.Tb) (o:Od) (ex:List Tk) (eo:Option Addr) (ec:Nat) (w:World) (gd:Bool) (Q:Int→World→Prop) (hR:RM w g j T) (hE:Seen Tb.tcs 5 eo ex w) (he:ex.length≤1000) (hl:T.rows.length≤1000)
 (hG:∀ W,Below w.heap.size w W→Calls Tryz.prog 57 #[ptr j] W fun x w'=>x=.returned (.bool gd)∧Below W.heap.size W w')
 (hA:gd=true→(mayR T o ex).2=0→∀ W,Below w.heap.size w W→Calls Tryz.prog 93 #[ptr j,.string (mkB (encO o))] W fun x w'=>∃ c,x=.returned (.int .i64 c)∧Q c w'∧Kp W w')
 (sQb:∀ u v,Q 0 u→Below u.heap.size u v→Q 0 v) (sQ0:∀ u o x cs,Q 0 u→u.heap[g]?=some (.cells cs 92 (0,0))→Q 0 (u.setCell ⟨g,o,none⟩ x)) :
 Calls Tryz.prog 21 #[ptr g,o.v,.slice eo ex.length ec] w fun x w'=>∃ c,x=.returned (.int .i64 c)∧Kr w w'∧((gd=false∧c=18∧Below w.heap.size w w')∨(gd=true∧(mayR T o ex).2≠0∧c=(mayR T o ex).2∧Below w.heap.size w w')∨(gd=true∧(mayR T o ex).2=0∧Q c w'∧RM w' g j (if c=0 then (mayR T o ex).1 else T))):=by
 have hmf':=Lib.hid (show ∀ (fn:Fn) (first cap:Array Value) (w:World),(Instr.makeFunc fn first cap).run Tryz.prog w=.ok (.func fn first cap) w from fun _ _ _ _=>rfl)
 have DT:=Lib.hid (fun (s:Nat) (W:World) (hs:w.heap.size≤s) (hsW:s<W.heap.size) (hbW:Below w.heap.size w W) (hch:ChO W s g o (.slice eo ex.length ec) (.slice none 0 0) (.int .i64 0))=>do_turn (s:=s) W hs hsW hbW hch hR hE he hl hG hA sQb sQ0)
 have H0:=Lib.hid ((bos_nil w).new o.cs 47)
 have RC:Hid (∀ W,Below w.heap.size w W→W.cell? ⟨g,0,none⟩=some (ptr j)):=Lib.hid (fun W hb=>by
  obtain ⟨a,k,h,-⟩:=hR.call hb
  exact h.c0)
 have NO:=Lib.hid (fun W (hb:Below w.heap.size w W)=>rnone_any W (RC.out W hb))
 clear hR hE he hl hG hA sQb sQ0
 unfold ChO doF at DT
 generalize (mayR T o ex).2=MC at *
 generalize (mayR T o ex).1=T2 at *
 generalize ex.length=exl at *
 obtain ⟨ok,⟨oi,oc,od,ot,om⟩,os,oid,occ,omo⟩:=o
 unfold Od.v Od.cs at *
 simp only at *
 go_enter Tryz.func21,Tryz.ntmps21
 go_wp2_with fail
 (with_reducible refine (NO.out _ H0.out.bl).mono ?_)
 rintro e w1 ⟨rfl,rfl⟩
 have hmf2:=hmf'.out
 go_wp2_with fail
 have CH3:Hid (ChAt (((w.alloc (.cells #[.int .i64 ok,.int .i64 oi,.int .i64 oc,.int .i64 od,.int .i64 ot,.int .i64 om,.bool os,.int .i64 oid,.int .i64 occ,.int .i64 omo] 47)).alloc (.cells #[ptr g,.int .i64 ok,.int .i64 oi,.int .i64 oc,.int .i64 od,.int .i64 ot,.int .i64 om,.bool os,.int .i64 oid,.int .i64 occ,.int .i64 omo,.slice eo exl ec,.slice none 0 0,.int .i64 0] 120)).drew) (w.heap.size+1) (ptr g) (.int .i64 ok) (.int .i64 oi) (.int .i64 oc) (.int .i64 od) (.int .i64 ot) (.int .i64 om) (.bool os) (.int .i64 oid) (.int .i64 occ) (.int .i64 omo) (.slice eo exl ec) (.slice none 0 0) (.int .i64 0)∧Below w.heap.size w (((w.alloc (.cells #[.int .i64 ok,.int .i64 oi,.int .i64 oc,.int .i64 od,.int .i64 ot,.int .i64 om,.bool os,.int .i64 oid,.int .i64 occ,.int .i64 omo] 47)).alloc (.cells #[ptr g,.int .i64 ok,.int .i64 oi,.int .i64 oc,.int .i64 od,.int .i64 ot,.int .i64 om,.bool os,.int .i64 oid,.int .i64 occ,.int .i64 omo,.slice eo exl ec,.slice none 0 0,.int .i64 0] 120)).drew)∧w.heap.size+1<(((w.alloc (.cells #[.int .i64 ok,.int .i64 oi,.int .i64 oc,.int .i64 od,.int .i64 ot,.int .i64 om,.bool os,.int .i64 oid,.int .i64 occ,.int .i64 omo] 47)).alloc (.cells #[ptr g,.int .i64 ok,.int .i64 oi,.int .i64 oc,.int .i64 od,.int .i64 ot,.int .i64 om,.bool os,.int .i64 oid,.int .i64 occ,.int .i64 omo,.slice eo exl ec,.slice none 0 0,.int .i64 0] 120)).drew).heap.size):=Lib.hid (by
  have n2:=heap_alloc_new (w.alloc (.cells #[.int .i64 ok,.int .i64 oi,.int .i64 oc,.int .i64 od,.int .i64 ot,.int .i64 om,.bool os,.int .i64 oid,.int .i64 occ,.int .i64 omo] 47)) (.cells #[ptr g,.int .i64 ok,.int .i64 oi,.int .i64 oc,.int .i64 od,.int .i64 ot,.int .i64 om,.bool os,.int .i64 oid,.int .i64 occ,.int .i64 omo,.slice eo exl ec,.slice none 0 0,.int .i64 0] 120)
  have sz:(w.alloc (.cells #[.int .i64 ok,.int .i64 oi,.int .i64 oc,.int .i64 od,.int .i64 ot,.int .i64 om,.bool os,.int .i64 oid,.int .i64 occ,.int .i64 omo] 47)).heap.size=w.heap.size+1:=by simp
  rw [sz] at n2
  have b1:=(Below.refl w.heap.size w).alloc (Nat.le_refl _) (.cells #[.int .i64 ok,.int .i64 oi,.int .i64 oc,.int .i64 od,.int .i64 ot,.int .i64 om,.bool os,.int .i64 oid,.int .i64 occ,.int .i64 omo] 47)
  have b2:=b1.alloc (by rw [sz];omega) (.cells #[ptr g,.int .i64 ok,.int .i64 oi,.int .i64 oc,.int .i64 od,.int .i64 ot,.int .i64 om,.bool os,.int .i64 oid,.int .i64 occ,.int .i64 omo,.slice eo exl ec,.slice none 0 0,.int .i64 0] 120)
  exact ⟨n2,b2.drew,by show _<((w.alloc (.cells #[.int .i64 ok,.int .i64 oi,.int .i64 oc,.int .i64 od,.int .i64 ot,.int .i64 om,.bool os,.int .i64 oid,.int .i64 occ,.int .i64 omo] 47)).alloc (.cells #[ptr g,.int .i64 ok,.int .i64 oi,.int .i64 oc,.int .i64 od,.int .i64 ot,.int .i64 om,.bool os,.int .i64 oid,.int .i64 occ,.int .i64 omo,.slice eo exl ec,.slice none 0 0,.int .i64 0] 120)).heap.size;rw [World.size_alloc,sz];omega⟩)
 go_region
 generalize hW:((w.alloc (.cells #[.int .i64 ok,.int .i64 oi,.int .i64 oc,.int .i64 od,.int .i64 ot,.int .i64 om,.bool os,.int .i64 oid,.int .i64 occ,.int .i64 omo] 47)).alloc (.cells #[ptr g,.int .i64 ok,.int .i64 oi,.int .i64 oc,.int .i64 od,.int .i64 ot,.int .i64 om,.bool os,.int .i64 oid,.int .i64 occ,.int .i64 omo,.slice eo exl ec,.slice none 0 0,.int .i64 0] 120)).drew=W3 at *
 clear H0 NO RC
 go_wp2_with fail
 (try rw [hW])
 (with_reducible refine (DT.out (w.heap.size+1) W3 (by omega) CH3.out.2.2 CH3.out.2.1 CH3.out.1).mono ?_)
 rintro e w4 ⟨c,rfl,hk,h⟩
 have FIN:=Lib.hid (And.intro hk h)
 clear hk h DT CH3 hW
 go_wp2
 go_ret
 exact ⟨c,rfl,FIN.out.1,FIN.out.2⟩
/-- Snapshot -/
theorem snap_gen (g j:Nat) (T:Tb.Tb) (w:World) (Q:Int→World→Prop) (hR:RM w g j T) (hc:chkT T=true)
 (hS:∀ W,Below w.heap.size w W→Calls Tryz.prog 38 #[ptr j,.string (mkB (encT T))] W fun x w'=>∃ c,x=.returned (.int .i64 c)∧Q c w'∧Kp W w') :
 Calls Tryz.prog 13 #[ptr g] w fun x w'=>∃ c,x=.returned (.int .i64 c)∧Q c w'∧Kr w w'∧RM w' g j T:=by
 have RX:=Lib.hid hR
 have RC:Hid (∀ W,Below w.heap.size w W→W.cell? ⟨g,0,none⟩=some (ptr j)):=Lib.hid (fun W hb=>by
  obtain ⟨a,k,h,-⟩:=hR.call hb
  exact h.c0)
 have NO:=Lib.hid (fun W (hb:Below w.heap.size w W)=>rnone_any W (RC.out W hb))
 have BY:Hid (∀ W,Below w.heap.size w W→Calls Tryz.prog 34 #[ptr g] W fun e w'=>e=.returned (.string (mkB (encT T)))∧Below W.heap.size W w'):=Lib.hid (fun W hb=>by
  obtain ⟨a,k,h,h2⟩:=hR.call hb
  exact rbytes_any g T a k W h.c1 h.c2 h2.seen hc)
 have SN:=Lib.hid hS
 have BB:=Lib.hid (Below.refl w.heap.size w)
 clear hR hS hc
 generalize mkB (encT T)=TX at *
 go_enter Tryz.func13,Tryz.ntmps13
 go_wp2_with fail
 (with_reducible refine (NO.out _ BB.out).mono ?_)
 rintro e w1 ⟨rfl,rfl⟩
 have BB:=Lib.hid BB.out.drew
 go_wp2_with fail
 refine wp_region_held_drew (S:=(fun W'=>W'.cell? ⟨g,0,none⟩=some (ptr j))) (by kernel_rfl) (RC.out _ BB.out) (fun hHeld=>?_)
 refine Gh.tk 0 ?_
 refine Gh.tk 1 ?_
 refine Gh.tk 2 ?_
 refine Gh.tk 3 ?_
 refine Gh.tk 4 ?_
 refine Gh.tk 5 ?_
 refine Gh.tk 6 ?_
 refine Gh.tk 7 ?_
 refine Gh.rd 8 (fun K hK=>?_)
 go_simp
 (with_reducible refine (BY.out _ BB.out).mono ?_)
 rintro e w2 ⟨rfl,b2⟩
 have BB:=Lib.hid (BB.out.trans (b2.mono BB.out.size))
 clear b2
 go_simp
 refine hK.out _ _ (RC.out _ BB.out) (fun hHeld=>?_)
 clear hK K
 refine Gh.pt ?_
 refine Gh.rd 9 (fun K hK=>?_)
 go_simp
 (with_reducible refine (SN.out _ BB.out).mono ?_)
 rintro e w3 ⟨c,rfl,hq,hk⟩
 have FIN:=Lib.hid (And.intro hq (And.intro ((Kr.below BB.out).trans (.kp hk)) ((RX.out.call BB.out).kp hk)))
 clear hq hk
 go_simp
 refine hK.out _ _ (by (obtain ⟨a,k,h,-⟩:=FIN.out.2.2;exact h.c0)) (fun hHeld=>?_)
 clear hK K
 refine Gh.pt ?_
 refine Gh.tk 10 ?_
 refine wpAnyH_done (by kernel_rfl) ?_ _
 go_wp2
 go_ret
 exact ⟨c,rfl,FIN.out⟩
/-- Table -/
theorem table_any (g j:Nat) (T:Tb.Tb) (w:World) (hR:RM w g j T) (hl:T.rows.length≤1000) :
 Calls Tryz.prog 25 #[ptr g] w fun x w'=>∃ v,x=.returned v∧Tb.Told v T w'∧Below w.heap.size w w':=by
 obtain ⟨ao,cap,hr,hs⟩:=hR
 have CL:Hid (∀ W,Below w.heap.size w W→Calls Tryz.prog 56 #[.slice ao T.rows.length cap] W fun e w'=>∃ ao' cap',e=.returned (.slice ao' T.rows.length cap')∧Tb.Sl (.slice ao' T.rows.length cap') T.rows w' ao' cap'∧Below W.heap.size W w'):=Lib.hid (fun W hb=>Tb.clone_any T.rows ao cap W (hs.seen.below hb (Nat.le_refl _)) hl)
 have RC:Hid (∀ W,Below w.heap.size w W→W.cell? ⟨g,0,none⟩=some (ptr j)∧W.cell? ⟨g,1,none⟩=some (.slice ao T.rows.length cap)∧W.cell? ⟨g,2,none⟩=some (.int .i64 T.mode)):=Lib.hid (fun W hb=>by
  have h:RAt W g j _ _:=(hb.block g (Dk.lt_of_heap hr)).trans hr
  exact ⟨h.c0,h.c1,h.c2⟩)
 have NO:=Lib.hid (fun W (hb:Below w.heap.size w W)=>rnone_any W (RC.out W hb).1)
 have H0:=Lib.hid ((bos_nil w).new #[.slice none 0 0,.int .i64 0] 52)
 have H1:Hid (Bos [(w.heap.size+1,#[.slice ao T.rows.length cap,.int .i64 T.mode],52),(w.heap.size,#[.slice none 0 0,.int .i64 0],52)] w ((w.alloc (.cells #[.slice none 0 0,.int .i64 0] 52)).alloc (.cells #[.slice ao T.rows.length cap,.int .i64 T.mode] 52))):=Lib.hid (by
  have:=H0.out.new #[.slice ao T.rows.length cap,.int .i64 T.mode] 52
  rw [World.size_alloc] at this
  exact this)
 clear hr hs hl
 unfold Tb.Told tv
 generalize T.mode=m at *
 generalize hk:T.rows.length=k at *
 clear hk
 go_enter Tryz.func25,Tryz.ntmps25
 go_wp2_with fail
 (with_reducible refine (NO.out _ H0.out.bl).mono ?_)
 rintro e w1 ⟨rfl,rfl⟩
 obtain ⟨c0,c1,c2⟩:=RC.out _ H0.out.bl
 go_wp2_with fail
 clear c0 c1 c2 NO RC
 refine wp_region_held_drew (S:=(fun W'=>W'.cell? ⟨w.heap.size+1,0,none⟩=some (.slice ao k cap)∧W'.cell? ⟨w.heap.size+1,1,none⟩=some (.int .i64 m))) (by kernel_rfl) (cell2 (H1.out.drew.cell 0 rfl)) (fun hHeld=>?_)
 refine Gh.tk 0 ?_
 refine Gh.tk 1 ?_
 refine Gh.tk 3 ?_
 refine Gh.tk 4 ?_
 refine Gh.rd 2 (fun K hK=>?_)
 go_simp
 (with_reducible refine (CL.out _ H1.out.drew.bl).mono ?_)
 rintro e w1 ⟨ao',cap',rfl,sl1,b1⟩
 have H2:=Lib.hid (H1.out.drew.call b1)
 have SL:=Lib.hid sl1
 clear b1 sl1 CL
 go_simp
 refine hK.out _ _ (cell2 (H2.out.cell 0 rfl)) (fun hHeld=>?_)
 clear hK K
 refine Gh.pt ?_
 refine Gh.tk 5 ?_
 refine Gh.rd 6 (fun K hK=>?_)
 have f0:=H2.out.fz 1 rfl
 obtain ⟨y0,y1⟩:=cell2 (H2.out.cell 1 rfl)
 have H3:=Lib.hid ((H2.out.set 1 rfl 0 (.slice ao' k cap')).set 1 rfl 1 (.int .i64 m))
 go_simp
 refine hK.out _ _ (cell2 (H3.out.cell 0 rfl)) (fun hHeld=>?_)
 clear hK K
 refine Gh.pt ?_
 refine wpAnyH_done (by kernel_rfl) ?_ _
 obtain ⟨z0,z1⟩:=cell2 (H3.out.cell 1 rfl)
 have Z:=Lib.hid H3.out.bl
 have SF:=Lib.hid ((SL.out.set H2.out 1 rfl (by decide) 0 (.slice ao' k cap')).set (H2.out.set 1 rfl 0 (.slice ao' k cap')) 1 rfl (by simp) 1 (.int .i64 m))
 go_wp2
 refine bodyPost_ret (v:=.agg #[.slice ao' k cap',.int .i64 m]) (by simp [results,Tryz.results25,go_sem,z0,z1]) rfl ⟨_,rfl,⟨ao',cap',rfl,SF.out⟩,Z.out⟩
theorem rgood_any (g j:Nat) (w:World) (gd:Bool) (c0:w.cell? ⟨g,0,none⟩=some (ptr j)) (hG:Calls Tryz.prog 57 #[ptr j] w fun x w'=>x=.returned (.bool gd)∧w'=w) :
 Calls Tryz.prog 26 #[ptr g] w fun x w'=>x=.returned (.bool gd)∧w'=w:=by
 have NO:=Lib.hid (rnone_any w c0)
 have GO:=Lib.hid hG
 clear hG
 go_enter Tryz.func26,Tryz.ntmps26
 go_wp2_with fail
 (with_reducible refine NO.out.mono ?_)
 rintro e w1 ⟨rfl,rfl⟩
 go_wp2_with fail
 (with_reducible refine GO.out.mono ?_)
 rintro e w1 ⟨rfl,rfl⟩
 clear GO NO
 go_wp2
 go_ret
 exact ⟨rfl,rfl⟩
def PaAt (w:World) (s:Nat) (pj rv mv:Value):Prop:=w.heap[s]?=some (.cells #[pj,rv,mv] 87 (0,0))
section
variable {w w':World} {s:Nat} {pj rv mv:Value}
theorem PaAt.c0 (h:PaAt w s pj rv mv):w.cell? ⟨s,0,none⟩=some pj:=by rw [Lib.cell_of_heap h];rfl
theorem PaAt.c1 (h:PaAt w s pj rv mv):w.cell? ⟨s,1,none⟩=some rv:=by rw [Lib.cell_of_heap h];rfl
theorem PaAt.c2 (h:PaAt w s pj rv mv):w.cell? ⟨s,2,none⟩=some mv:=by rw [Lib.cell_of_heap h];rfl
theorem PaAt.fz (h:PaAt w s pj rv mv) (o:Nat):w.frozen? ⟨s,o,none⟩=false:=Lib.frozen_of_heap h o
theorem PaAt.lt (h:PaAt w s pj rv mv):s<w.heap.size:=Dk.lt_of_heap h
theorem PaAt.of (h:PaAt w s pj rv mv) (k:w'.heap[s]?=w.heap[s]?):PaAt w' s pj rv mv:=by unfold PaAt at *;rw [k];exact h
theorem PaAt.call (h:PaAt w s pj rv mv) (hb:Below w.heap.size w w'):PaAt w' s pj rv mv:=h.of (hb.block s h.lt)
theorem PaAt.s0 (h:PaAt w s pj rv mv) (x:Value):PaAt (w.setCell ⟨s,0,none⟩ x) s x rv mv:=by unfold PaAt at *;simp [World.setCell,Array.getElem?_modify,h]
end
/-- Format -/
theorem format_gen (b:Nat) (k:Int) (w:World) (QE:Int→World→Prop) (Q:Nat→World→Prop) (sQ:∀ j,Stay w.heap.size (Q j))
 (hJ:∀ W,Below w.heap.size w W→Calls Tryz.prog 33 #[ptr b,.int .i64 k,.string (mkB (encT tb0))] W fun x w'=>Since W w'∧W.heap.size≤w'.heap.size∧((∃ c,c≠0∧x=.returned (.tuple #[.pointer none,.int .i64 c])∧QE c w')∨(∃ j,x=.returned (.tuple #[ptr j,.int .i64 0])∧Q j w'))) :
 Calls Tryz.prog 11 #[ptr b,.int .i64 k] w fun x w'=>Since w w'∧w.heap.size≤w'.heap.size∧((∃ c,c≠0∧x=.returned (.tuple #[.pointer none,.int .i64 c])∧QE c w')∨(∃ j g,x=.returned (.tuple #[ptr g,.int .i64 0])∧Q j w'∧w.heap.size≤g∧RM w' g j tb0)):=by
 have b1:=(Below.refl w.heap.size w).alloc (Nat.le_refl _) (.cells #[.pointer none,.slice none 0 0,.int .i64 0] 87)
 have n1:=heap_alloc_new w (.cells #[.pointer none,.slice none 0 0,.int .i64 0] 87)
 have P1:Hid (PaAt (w.alloc (.cells #[.pointer none,.slice none 0 0,.int .i64 0] 87)) w.heap.size (.pointer none) (.slice none 0 0) (.int .i64 0)∧Below w.heap.size w (w.alloc (.cells #[.pointer none,.slice none 0 0,.int .i64 0] 87))):=Lib.hid ⟨n1,b1⟩
 have BY:=Lib.hid (rbytes_any w.heap.size tb0 none 0 _ P1.out.1.c1 P1.out.1.c2 (Ge.seen_nil _ _) (by decide))
 have JF:=Lib.hid (fun W hb=>hJ W hb)
 have SQ:=Lib.hid sQ
 clear hJ sQ b1 n1
 generalize mkB (encT tb0)=TX at *
 go_enter Tryz.func11,Tryz.ntmps11
 go_wp2_with fail
 (with_reducible refine BY.out.mono ?_)
 rintro e w2 ⟨rfl,b2⟩
 have P2:Hid (PaAt w2 w.heap.size (.pointer none) (.slice none 0 0) (.int .i64 0)∧Below w.heap.size w w2):=Lib.hid ⟨P1.out.1.call b2,P1.out.2.trans (b2.mono (by simp))⟩
 have JF2:=Lib.hid (JF.out w2 P2.out.2)
 clear BY JF P1 b2
 go_wp2_with fail
 (with_reducible refine JF2.out.mono ?_)
 rintro e w3 ⟨k1,k2,hx⟩
 have hs0:Since w w2:=.below (Nat.le_refl _) P2.out.2
 have z2:=P2.out.2.size
 rcases hx with ⟨c,hc,rfl,hq⟩|⟨j,rfl,hq⟩
 ·have hx':(c != 0)=true:=by simp [hc]
  have FIN:=Lib.hid (show Since w w3∧w.heap.size≤w3.heap.size∧c≠0∧QE c w3 from ⟨hs0.trans k1,by omega,hc,hq⟩)
  clear JF2 P2 k1 k2 hq hc hs0
  go_wp2
  go_ret2
  exact ⟨FIN.out.1,FIN.out.2.1,.inl ⟨c,FIN.out.2.2.1,rfl,FIN.out.2.2.2⟩⟩
 ·have h3:PaAt w3 w.heap.size (.pointer none) (.slice none 0 0) (.int .i64 0):=k1 _ _ _ _ P2.out.1 (by decide)
  have h4:=h3.s0 (ptr j)
  have q4:=(SQ.out j).set _ 0 (ptr j) _ _ hq h3 (by decide)
  have s4:=(hs0.trans k1).set (Nat.le_refl w.heap.size) 0 (ptr j)
  have z4:w.heap.size≤(w3.setCell ⟨w.heap.size,0,none⟩ (ptr j)).heap.size:=by simp [World.setCell];omega
  have b5:=(Below.refl (w3.setCell ⟨w.heap.size,0,none⟩ (ptr j)).heap.size (w3.setCell ⟨w.heap.size,0,none⟩ (ptr j))).alloc (Nat.le_refl _) (.cells #[ptr j,.slice none 0 0,.int .i64 0] 92)
  have FIN:Hid (Since w ((w3.setCell ⟨w.heap.size,0,none⟩ (ptr j)).alloc (.cells #[ptr j,.slice none 0 0,.int .i64 0] 92))∧w.heap.size≤((w3.setCell ⟨w.heap.size,0,none⟩ (ptr j)).alloc (.cells #[ptr j,.slice none 0 0,.int .i64 0] 92)).heap.size∧Q j ((w3.setCell ⟨w.heap.size,0,none⟩ (ptr j)).alloc (.cells #[ptr j,.slice none 0 0,.int .i64 0] 92))∧w.heap.size≤(w3.setCell ⟨w.heap.size,0,none⟩ (ptr j)).heap.size∧RM ((w3.setCell ⟨w.heap.size,0,none⟩ (ptr j)).alloc (.cells #[ptr j,.slice none 0 0,.int .i64 0] 92)) (w3.setCell ⟨w.heap.size,0,none⟩ (ptr j)).heap.size j tb0):=Lib.hid
   ⟨s4.call b5,Nat.le_trans z4 b5.size,(SQ.out j).call _ _ q4 b5,z4,none,0,heap_alloc_new _ _,rfl,Nat.le_refl _,fun _=>rfl,Ge.seen_nil _ _,(fun h0=>by simp [tb0] at h0)⟩
  have ZS:Hid ((w3.setCell ⟨w.heap.size,0,none⟩ (ptr j)).heap.size=w3.heap.size):=Lib.hid (by simp [World.setCell])
  have c0:=h3.c0
  have c1:=h3.c1
  have c2:=h3.c2
  have f0:=h3.fz 0
  clear JF2 P2 k1 k2 hq h3 h4 q4 s4 z4 b5 hs0 SQ z2
  go_wp2
  go_ret2
  exact ⟨FIN.out.1,FIN.out.2.1,.inr ⟨j,_,rfl,FIN.out.2.2.1,by have h:=FIN.out.2.2.2;rw [ZS.out] at h;exact h⟩⟩
end Go.Proofs.YteempfoajgblaaaGreat.Rg
namespace Go.Proofs.YteempfoajgblaaaGreat.Rg
open Dk (Dk DS Own Moved ptr)
open Jn (JL JI Jt Jd Kp Since)
open Ox (Od encO)
open Pm (Tk)
open Ju (mayR fitsR)
open Tb (Rw tb0 applyR encT)
open Ge (Seen)
def zs (n:Nat):List (List UInt8):=List.replicate n (List.replicate 64 0)
theorem JL.since {B b j l q k n nx N E f r:Nat} {d:List UInt8} {ops S:List (List UInt8)} {w0 W u:World} (h:JL B b j l q k n nx N E d ops S f r W u) (hb:Below B w0 W) (ho:Since w0 W):JL B b j l q k n nx N E d ops S f r w0 u:=
 ⟨⟨h.jn.dk,h.jn.wl,h.jn.sl,h.jn.jn,hb.trans h.jn.bel,h.jn.hj,h.jn.hl,h.jn.hq,Nat.le_trans hb.size h.jn.nj,Nat.le_trans hb.size h.jn.nl,Nat.le_trans hb.size h.jn.nq,ho.trans h.jn.old⟩,h.ji⟩
theorem enc0:(encT tb0).length≤18:=by
 have:=Oc.enc_len9 (n:=0) (by omega)
 show (Oc.encInt 0++Oc.encInt 0++[]).length≤18
 rw [List.append_nil,List.length_append]
 show (Oc.enc 0).length+(Oc.enc 0).length≤18
 omega
theorem format_any (B b k n r:Nat) (w0 w:World) (h:Dk B b ⟨zs (2*k+n),[],0,r⟩ w) (hb:Below B w0 w) (ho:Since w0 w) (k1:1≤k) (k2:k≤64) (n1:1≤n) (n2:n<256) (hr:r≤1000) :
 Calls Tryz.prog 11 #[ptr b,.int .i64 (k:Int)] w fun x w'=>∃ g j l q S,x=.returned (.tuple #[ptr g,.int .i64 0])∧JL B b j l q k n 1 1 1 (encT tb0) [] S 0 (r+2*k) w0 w'∧RM w' g j tb0∧(B≤g∧w0.heap.size≤g)∧Kr w w':=by
 have hB:=h.le
 have hW:=hb.size
 refine (format_gen b k w (fun _ _=>False) (fun j u=>∃ l q S,JL B b j l q k n 1 1 1 (encT tb0) [] S 0 (r+2*k) w0 u) (fun j=>stay_ex fun l=>stay_ex fun q=>stay_ex fun S=>stay_jl hB hW) (fun W hbW=>?_)).mono ?_
 ·refine (Jn.format_t B b k n r (encT tb0) W W (h.call hbW) (Below.refl _ _) (Since.refl _) (by omega) k2 n1 n2 (by omega) (by have:=enc0;omega) (by have:=enc0;omega)).mono ?_
  rintro x w' ⟨j,l,q,S,rfl,h1,h2⟩
  exact ⟨h1.jn.old,Nat.le_of_lt (Nat.lt_of_le_of_lt h1.jn.nj h1.jn.jn.lt),.inr ⟨j,rfl,l,q,S,JL.since h1 (hb.trans (hbW.mono hB)) (ho.call hbW)⟩⟩
 ·rintro x w' ⟨k1',k2',⟨c,-,-,h0⟩|⟨j,g,rfl,⟨l,q,S,h1⟩,hg,hR⟩⟩
  · exact absurd h0 id
  · exact ⟨g,j,l,q,S,rfl,h1,hR,⟨by omega,by omega⟩,.since k1'⟩
theorem format_c (B b n r:Nat) (w0 w:World) (h:Dk B b ⟨zs (18+n),[],0,r⟩ w) (hb:Below B w0 w) (ho:Since w0 w) (n1:1≤n) (n2:n<256) (hr:r≤1000) :
 Calls Tryz.prog 11 #[ptr b,.int .i64 9] w fun x w'=>∃ g,x=.returned (.tuple #[ptr g,.int .i64 0])∧Rc B b g n 0 tb0 1 (r+18) w0 w'∧Kr w w':=by
 refine (format_any B b 9 n r w0 w h hb ho (by omega) (by omega) n1 n2 hr).mono ?_
 rintro x w' ⟨g,j,l,q,S,rfl,h1,hR,hg,hk⟩
 exact ⟨g,rfl,⟨j,l,q,1,1,1,_,[],S,_,h1,Rep.new,hR,hg,rfl,Nat.le_refl _,Nat.le_refl _⟩,hk⟩
section
variable (B b g n m:Nat) (T:Tb.Tb) (M R:Nat) (w0 w:World)
theorem do_c (o:Od) (ex:List Tk) (eo:Option Addr) (ec:Nat) (h:Rc B b g n m T M R w0 w) (hM:M<256) (hE:Seen Tb.tcs 5 eo ex w) (he:ex.length≤1000) :
 Calls Tryz.prog 21 #[ptr g,o.v,.slice eo ex.length ec] w fun x w'=>∃ c m' T',x=.returned (.int .i64 c)∧Did T o ex n m c m' T'∧Rc B b g n m' T' M R w0 w'∧Kr w w':=by
 obtain ⟨j,l,q,nx,N,E,d,ops,S,r,h1,h2,h3,hg,rfl,hN,hr⟩:=h
 have hl:=(Tb.chkT_iff.1 h2.chk).2.2.1
 refine (do_gen g j T o ex eo ec w true (fun c u=>(c=22∧ops.length=n∧∃ S,JL B b j l q 9 n nx N E d ops S 0 r w0 u)∨(c=0∧ops.length<n∧∃ S,JL B b j l q 9 n nx N E d (ops++[encO o]) S 0 r w0 u)) h3 hE he (by omega) (fun W hW=>(Jn.good_any W (h1.call hW).jn.jn).mono fun x w' ⟨hx,e⟩=>⟨hx,e▸Below.refl _ _⟩) (fun _ hm W hW=>?_) (fun u v hu hb=>?_) (fun u o' x cs hu hp=>?_)).mono ?_
 ·have hp:=may_len hm
  have few:=h1.ji.few
  rcases Nat.lt_or_ge ops.length n with hlt|hge
  ·refine (Jn.append_t B b j l q 9 n nx N E r d (encO o) ops S w0 W (h1.call hW) (by omega) hp hlt).mono ?_
   rintro x w' ⟨rfl,S',k1,k2⟩
   exact ⟨0,rfl,.inr ⟨rfl,hlt,S',k1⟩,k2⟩
  ·refine (Jn.append_full B b j l q 9 n nx N E r d (encO o) ops S w0 W (h1.call hW) (by omega) hp (by omega)).mono ?_
   rintro x w' ⟨rfl,k1,k2⟩
   exact ⟨22,rfl,.inl ⟨rfl,by omega,S,k1⟩,k2⟩
 ·rcases hu with ⟨e,h0,S,k⟩|⟨e,h0,S,k⟩
  · exact .inl ⟨e,h0,S,k.call hb⟩
  · exact .inr ⟨e,h0,S,k.call hb⟩
 ·rcases hu with ⟨e,h0,S,k⟩|⟨e,h0,S,k⟩
  · exact .inl ⟨e,h0,S,k.jn.setNew hp (by decide) hg.1 hg.2 o' x,k.ji⟩
  · exact .inr ⟨e,h0,S,k.jn.setNew hp (by decide) hg.1 hg.2 o' x,k.ji⟩
 ·rintro x w' ⟨c,rfl,hk,⟨h0,-⟩|⟨-,hm,rfl,hb⟩|⟨-,hm,hq,hR⟩⟩
  · cases h0
  · exact ⟨_,_,_,rfl,.inl ⟨hm,rfl,rfl,rfl⟩,⟨j,l,q,nx,N,E,d,ops,S,r,h1.call hb,h2,h3.call hb,hg,rfl,hN,hr⟩,hk⟩
  ·rcases hq with ⟨rfl,he',S',k1⟩|⟨rfl,hlt,S',k1⟩
   ·rw [if_neg (by decide)] at hR
    exact ⟨_,_,_,rfl,.inr (.inl ⟨hm,he',rfl,rfl,rfl⟩),⟨j,l,q,nx,N,E,d,ops,S',r,k1,h2,hR,hg,rfl,hN,hr⟩,hk⟩
   ·rw [if_pos rfl] at hR
    refine ⟨_,_,_,rfl,.inr (.inr ⟨hm,hlt,rfl,rfl,rfl⟩),⟨j,l,q,nx,N,E,d,_,S',r,k1,?_,hR,hg,by simp,hN,hr⟩,hk⟩
    rw [(may_chk hm).2]
    exact h2.push hm
theorem table_c (h:Rc B b g n m T M R w0 w) :
 Calls Tryz.prog 25 #[ptr g] w fun x w'=>∃ v,x=.returned v∧Tb.Told v T w'∧Below w.heap.size w w':=by
 obtain ⟨j,l,q,nx,N,E,d,ops,S,r,h1,h2,h3,-⟩:=h
 have hl:=(Tb.chkT_iff.1 h2.chk).2.2.1
 exact table_any g j T w h3 (by omega)
theorem open_cs (h:Rc B b g n m T M R w0 w) (hM:M<256) (hR:R≤100000) :
 Calls Tryz.prog 19 #[ptr b,.int .i64 9] w fun x w'=>∃ g',x=.returned (.tuple #[ptr g',.int .i64 0])∧Rc B b g' n m T M (R+19+n) w0 w'∧Rc B b g n m T M (R+19+n) w0 w'∧Kr w w'∧Since w w':=by
 obtain ⟨j,l,q,nx,N,E,d,ops,S,r,h1,h2,h3,hg,rfl,hN,hr⟩:=h
 have hB:=h1.jn.dk.le
 have hW:=h1.jn.bel.size
 have few:=h1.ji.few
 have n2:=h1.ji.jb.n2
 have hrn:=Wl.readsN_le few
 have hlS:=h1.ji.jb.len
 have hd:=h1.ji.dlen
 have ho:=h1.ji.oplen
 have hs:Dk.flushR ⟨S,[],0,r⟩=(⟨S,[],0,r⟩,0):=by unfold Dk.flushR;rw [if_neg (by show ¬0=1;omega)];rfl
 refine (open_gen b 9 w (fun _ _=>False) (fun j' d' ops' u=>d'=d∧ops'=ops∧∃ l' q' N',N'≤N∧JL B b j' l' q' 9 n nx N' E d ops S 0 (r+2*9+Wl.readsN ops.length n) w0 u) (fun _=>stay_const _) (fun j' d' ops'=>stay_and (stay_const _) (stay_and (stay_const _) (stay_ex fun l'=>stay_ex fun q'=>stay_ex fun N'=>stay_and (stay_const _) (stay_jl hB hW)))) (fun W hbW=>?_)).mono ?_
 ·refine (Jn.open_t B b 9 n nx N E 0 r d ops S ⟨S,[],0,r⟩ W W (h1.call hbW).jn.dk (Below.refl _ _) (Since.refl _) h1.ji (by omega) (by show 0≤1000000;omega) (by show 0<9223372036854775808;omega) hs hlS (by omega) (by omega) (.inl rfl)).mono ?_
  rintro x w' ⟨j',l',q',v,N',rfl,st,hN',k1,k2⟩
  refine ⟨k1.jn.old,Nat.le_of_lt (Nat.lt_of_le_of_lt k1.jn.nj k1.jn.jn.lt),.inr ⟨j',v,d,ops,rfl,st,by omega,by omega,fun y hy=>by have:=ho y hy;omega,rfl,rfl,l',q',N',hN',?_⟩⟩
  have e0:0-2*9-Wl.readsN ops.length n=0:=by omega
  rw [e0] at k1
  exact JL.since k1 (h1.call hbW).jn.bel (h1.call hbW).jn.old
 ·rintro x w' ⟨s',z',⟨c,hc,-,h0|⟨j',d',ops',⟨rfl,rfl,-⟩,h0⟩⟩|⟨j',d',ops',g',⟨rfl,rfl,l',q',N',hN',k1⟩,-,rfl,hg',hR'⟩⟩
  · exact absurd h0 id
  ·rw [opR_rep h2] at h0
   exact absurd h0.symm hc
  ·rw [opR_rep h2] at hR'
   refine ⟨g',rfl,⟨j',l',q',nx,N',E,_,_,S,_,k1,h2,hR',⟨by omega,by omega⟩,rfl,by omega,by omega⟩,⟨j,l,q,nx,N,E,_,_,S,_,JL.reread h1 s' k1.jn.dk k1.jn.bel,h2,h3.since s',hg,rfl,hN,by omega⟩,.since s',s'⟩
end
end Go.Proofs.YteempfoajgblaaaGreat.Rg
