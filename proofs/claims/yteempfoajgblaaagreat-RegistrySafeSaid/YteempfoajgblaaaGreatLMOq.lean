/- Package ops' put: what ops of one kind say, as a writer puts it. Package ops' Bytes. Package ops' .. -/
import Derived.Test.YteempfoajgblaaaGreatLMOp
import Derived.Test.YteempfoajgblaaaGreatLQF
import Derived.Deep.RegionHeld3
set_option maxRecDepth 100000
set_option linter.unusedVariables false
set_option linter.unusedSimpArgs false
open Go.ChangeShapes Go.WideShapes Go.ChangeAt Go.RowKit Go.Joins
set_option maxHeartbeats 4000000
namespace Go.Proofs.YteempfoajgblaaaGreat.Ox
open Oc
open Pm (Tk chk chk_iff)
def bodyR:Fd→List UInt8
 | .admit t s=>encInt t.id++enc t.c.toNat++enc t.d.toNat++enc t.t.toNat++encInt t.m++encFlag s
 | .remove i=>encInt i
 | .resize i c=>encInt i++enc c.toNat
 | .mode m=>encInt m
 | .unknown _=>[]
structure Bd (B b p T:Nat) (cs:Array Value) (l:List UInt8) (w W:World):Prop where
 wr:Wr B b l W
 at_:W.heap[p]?=some (.cells cs T (0,0))
 ty:T≠5
 ne:p≠b
 mv:Moved b w W
 sz:B≤W.heap.size
theorem Bd.moved {B b p T:Nat} {cs:Array Value} {l l':List UInt8} {w W W':World} (h:Bd B b p T cs l w W) (k:Wr B b l' W') (m:Moved b W W'):Bd B b p T cs l' w W' :=
 ⟨k,(m.block p (lt_of_heap h.at_) h.ne (h.wr.buf_ne h.at_ h.ty)).trans h.at_,h.ty,h.ne,h.mv.trans m,Nat.le_trans h.sz m.size⟩
theorem Bd.drew {B b p T:Nat} {cs:Array Value} {l:List UInt8} {w W:World} (h:Bd B b p T cs l w W):Bd B b p T cs l w W.drew:=
 ⟨h.wr,h.at_,h.ty,h.ne,h.mv.drew,h.sz⟩
theorem Bd.cell {B b p T:Nat} {cs:Array Value} {l:List UInt8} {w W:World} (h:Bd B b p T cs l w W) (o:Nat):W.cell? ⟨p,o,none⟩=cs[o]?:=by
 rw [Lib.cell_of_heap h.at_]
theorem bd_new {B b:Nat} {l:List UInt8} {w:World} (k:Wr B b l w) (hB:B≤w.heap.size) (cs:Array Value) (T:Nat) (hT:T≠5):Bd B b w.heap.size T cs l w (w.alloc (.cells cs T)):=
 ⟨k.call ((Below.refl _ _).alloc (Nat.le_refl _) _),heap_alloc_new _ _,hT,(by have:=k.lt;omega),Moved.alloc k.lt _,by simp;omega⟩
theorem int_wf {n:Int} (h0:0≤n) (h1:n≤1000000):(Lit.int .i64 n).wf=true:=by simp [Lit.wf,IntKind.min,IntKind.max,IntKind.bits,IntKind.signed];omega
theorem int_c {B b p T:Nat} {cs:Array Value} {w:World} (l:List UInt8) (n:Int) (hn:0≤n∧n≤1000000) (hl:l.length≤900000) :
 ∀ W,Bd B b p T cs l w W→Calls Tryz.prog 110 #[self b,.int .i64 n] W fun e w'=>e=.returned (self b)∧Bd B b p T cs (l++encInt n) w w':=fun W h=>
 (int_any B b n l W h.wr (int_wf hn.1 hn.2) hl h.sz).mono fun e w' ⟨he,hw,hm⟩=>⟨he,h.moved hw hm⟩
theorem num_c {B b p T:Nat} {cs:Array Value} {w:World} (l:List UInt8) (n:Int) (hn:0≤n∧n≤2147483648) (hl:l.length≤900000) :
 ∀ W,Bd B b p T cs l w W→Calls Tryz.prog 155 #[self b,.int .u64 n] W fun e w'=>e=.returned (self b)∧Bd B b p T cs (l++enc n.toNat) w w':=fun W h=>by
 have:=num_any B b n.toNat l W h.wr (by omega) hl h.sz
 rw [show (n.toNat:Int)=n by omega] at this
 exact this.mono fun e w' ⟨he,hw,hm⟩=>⟨he,h.moved hw hm⟩
theorem flag_c {B b p T:Nat} {cs:Array Value} {w:World} (l:List UInt8) (f:Bool) (hl:l.length≤900000) :
 ∀ W,Bd B b p T cs l w W→Calls Tryz.prog 156 #[self b,.bool f] W fun e w'=>e=.returned (self b)∧Bd B b p T cs (l++encFlag f) w w':=fun W h=>
 (flag_any B b f l W h.wr hl h.sz).mono fun e w' ⟨he,hw,hm⟩=>⟨he,h.moved hw hm⟩
theorem len9 {n:Nat} (h:n<18446744073709551616):(enc n).length≤9:=enc_len9 h
theorem cons6 {W:World} {p:Nat} {a b c d e f:Value} (h:∀ o,W.cell? ⟨p,o,none⟩=(#[a,b,c,d,e,f]:Array Value)[o]?):W.cell? ⟨p,0,none⟩=some a∧W.cell? ⟨p,1,none⟩=some b∧W.cell? ⟨p,2,none⟩=some c∧W.cell? ⟨p,3,none⟩=some d∧W.cell? ⟨p,4,none⟩=some e∧W.cell? ⟨p,5,none⟩=some f:=⟨h 0,h 1,h 2,h 3,h 4,h 5⟩
theorem cons2 {W:World} {p:Nat} {a b:Value} (h:∀ o,W.cell? ⟨p,o,none⟩=(#[a,b]:Array Value)[o]?):W.cell? ⟨p,0,none⟩=some a∧W.cell? ⟨p,1,none⟩=some b:=⟨h 0,h 1⟩
theorem put_admit {B b:Nat} {l:List UInt8} (t:Tk) (s:Bool) (w:World) (k:Wr B b l w) (hB:B≤w.heap.size) (hl:l.length≤800000) (hm:mayF (.admit t s)=true) :
 Calls Tryz.prog 139 #[self b,(Fd.admit t s).v] w fun e w'=>e=.returned (.tuple #[])∧Wr B b (l++bodyR (.admit t s)) w'∧Moved b w w':=by
 have hc:chk t=true:=by simp [mayF] at hm;exact hm.1
 have ⟨q1,q2,q3,q4,q5,q6,q7,q8⟩:=chk_iff.1 hc
 clear hm hc
 obtain ⟨i,c,d,t,m⟩:=t
 simp only at q1 q2 q3 q4 q5 q6 q7 q8
 have T1:=ta_admit_admit
 have H0:=Lib.hid (bd_new k hB #[.int .i64 i,.int .i64 c,.int .i64 d,.int .i64 t,.int .i64 m,.bool s] 262 (by decide))
 have D0:=Lib.hid H0.out.drew
 have K0:=Lib.hid (cons6 H0.out.cell)
 have K0d:=Lib.hid (cons6 D0.out.cell)
 have z1:(encInt i).length≤9:=len9 (by omega)
 have z2:(enc c.toNat).length≤9:=len9 (by omega)
 have z3:(enc d.toNat).length≤9:=len9 (by omega)
 have z4:(enc t.toNat).length≤9:=len9 (by omega)
 have z5:(encInt m).length≤9:=len9 (by omega)
 have C1:=Lib.hid (int_c (B:=B) (b:=b) (p:=w.heap.size) (T:=262) (cs:=#[.int .i64 i,.int .i64 c,.int .i64 d,.int .i64 t,.int .i64 m,.bool s]) (w:=w) l i ⟨by omega,by omega⟩ (by omega))
 have C2:=Lib.hid (num_c (B:=B) (b:=b) (p:=w.heap.size) (T:=262) (cs:=#[.int .i64 i,.int .i64 c,.int .i64 d,.int .i64 t,.int .i64 m,.bool s]) (w:=w) (l++encInt i) c ⟨by omega,by omega⟩ (by simp only [List.length_append];omega))
 have C3:=Lib.hid (num_c (B:=B) (b:=b) (p:=w.heap.size) (T:=262) (cs:=#[.int .i64 i,.int .i64 c,.int .i64 d,.int .i64 t,.int .i64 m,.bool s]) (w:=w) (l++encInt i++enc c.toNat) d ⟨by omega,by omega⟩ (by simp only [List.length_append];omega))
 have C4:=Lib.hid (num_c (B:=B) (b:=b) (p:=w.heap.size) (T:=262) (cs:=#[.int .i64 i,.int .i64 c,.int .i64 d,.int .i64 t,.int .i64 m,.bool s]) (w:=w) (l++encInt i++enc c.toNat++enc d.toNat) t ⟨by omega,by omega⟩ (by simp only [List.length_append];omega))
 have C5:=Lib.hid (int_c (B:=B) (b:=b) (p:=w.heap.size) (T:=262) (cs:=#[.int .i64 i,.int .i64 c,.int .i64 d,.int .i64 t,.int .i64 m,.bool s]) (w:=w) (l++encInt i++enc c.toNat++enc d.toNat++enc t.toNat) m ⟨by omega,by omega⟩ (by simp only [List.length_append];omega))
 have C6:=Lib.hid (flag_c (B:=B) (b:=b) (p:=w.heap.size) (T:=262) (cs:=#[.int .i64 i,.int .i64 c,.int .i64 d,.int .i64 t,.int .i64 m,.bool s]) (w:=w) (l++encInt i++enc c.toNat++enc d.toNat++enc t.toNat++encInt m) s (by simp only [List.length_append];omega))
 have E:l++bodyR (.admit ⟨i,c,d,t,m⟩ s)=l++encInt i++enc c.toNat++enc d.toNat++enc t.toNat++encInt m++encFlag s:=by simp [bodyR]
 rw [E]
 clear E z1 z2 z3 z4 z5
 generalize l++encInt i++enc c.toNat++enc d.toNat++enc t.toNat++encInt m++encFlag s=l6 at *
 generalize l++encInt i++enc c.toNat++enc d.toNat++enc t.toNat++encInt m=l5 at *
 generalize l++encInt i++enc c.toNat++enc d.toNat++enc t.toNat=l4 at *
 generalize l++encInt i++enc c.toNat++enc d.toNat=l3 at *
 generalize l++encInt i++enc c.toNat=l2 at *
 generalize l++encInt i=l1 at *
 have u1:IntKind.u64.wrap c=c:=IntWalk.u64_in _ (by omega)
 have u2:IntKind.u64.wrap d=d:=IntWalk.u64_in _ (by omega)
 have u3:IntKind.u64.wrap t=t:=IntWalk.u64_in _ (by omega)
 have v1:c%18446744073709551616=c:=by omega
 have v2:d%18446744073709551616=d:=by omega
 have v3:t%18446744073709551616=t:=by omega
 simp only [Fd.v]
 clear k q1 q2 q3 q4 q5 q6 q7 q8 hl hB
 go_enter Tryz.func139,Tryz.ntmps139
 go_wp2_with fail
 go_region_held3 (fun w'=>w'.cell? ⟨w.heap.size,0,none⟩=some (.int .i64 i)∧w'.cell? ⟨w.heap.size,1,none⟩=some (.int .i64 c)∧w'.cell? ⟨w.heap.size,2,none⟩=some (.int .i64 d)∧w'.cell? ⟨w.heap.size,3,none⟩=some (.int .i64 t)∧w'.cell? ⟨w.heap.size,4,none⟩=some (.int .i64 m)∧w'.cell? ⟨w.heap.size,5,none⟩=some (.bool s)) (first|exact K0d.out|exact K0.out|assumption|fail) (first|(go_at_call 110;(with_reducible refine (C1.out _ D0.out).mono ?_);rintro e w1 ⟨rfl,h1⟩;(have k1:=cons6 h1.cell);(have H1:=Lib.hid h1);clear h1)|(go_at_call 155;(with_reducible refine (C2.out _ H1.out).mono ?_);rintro e w2 ⟨rfl,h2⟩;(have k2:=cons6 h2.cell);(have H2:=Lib.hid h2);clear h2)|(go_at_call 155;(with_reducible refine (C3.out _ H2.out).mono ?_);rintro e w3 ⟨rfl,h3⟩;(have k3:=cons6 h3.cell);(have H3:=Lib.hid h3);clear h3)|(go_at_call 155;(with_reducible refine (C4.out _ H3.out).mono ?_);rintro e w4 ⟨rfl,h4⟩;(have k4:=cons6 h4.cell);(have H4:=Lib.hid h4);clear h4)|(go_at_call 110;(with_reducible refine (C5.out _ H4.out).mono ?_);rintro e w5 ⟨rfl,h5⟩;(have k5:=cons6 h5.cell);(have H5:=Lib.hid h5);clear h5)|(go_at_call 156;(with_reducible refine (C6.out _ H5.out).mono ?_);rintro e w6 ⟨rfl,h6⟩;(have k6:=cons6 h6.cell);(have H6:=Lib.hid h6);clear h6)|fail)
 have HF:=Lib.hid (And.intro H6.out.wr H6.out.mv)
 go_wp2
 go_end0
 exact ⟨rfl,HF.out⟩
theorem put_remove {B b:Nat} {l:List UInt8} (i:Int) (w:World) (k:Wr B b l w) (hB:B≤w.heap.size) (hl:l.length≤800000) (hm:mayF (.remove i)=true) :
 Calls Tryz.prog 139 #[self b,(Fd.remove i).v] w fun e w'=>e=.returned (.tuple #[])∧Wr B b (l++bodyR (.remove i)) w'∧Moved b w w':=by
 have hc:0≤i∧i≤1000000:=by simp [mayF] at hm;omega
 have T0:=ta_remove_admit
 have T1:=ta_remove_remove
 have H0:=Lib.hid (bd_new k hB #[.int .i64 i] 264 (by decide))
 have C1:=Lib.hid (int_c (B:=B) (b:=b) (p:=w.heap.size) (T:=264) (cs:=#[.int .i64 i]) (w:=w) l i hc (by omega))
 have E:l++bodyR (.remove i)=l++encInt i:=rfl
 rw [E]
 simp only [Fd.v]
 clear k hB hl hm hc E
 go_enter Tryz.func139,Tryz.ntmps139
 go_wp2_with fail
 (with_reducible refine (C1.out _ H0.out).mono ?_)
 rintro e w1 ⟨rfl,h1⟩
 have HF:=Lib.hid (And.intro h1.wr h1.mv)
 clear h1 H0 C1
 go_wp2
 go_end0
 exact ⟨rfl,HF.out⟩
theorem put_mode {B b:Nat} {l:List UInt8} (m:Int) (w:World) (k:Wr B b l w) (hB:B≤w.heap.size) (hl:l.length≤800000) (hm:mayF (.mode m)=true) :
 Calls Tryz.prog 139 #[self b,(Fd.mode m).v] w fun e w'=>e=.returned (.tuple #[])∧Wr B b (l++bodyR (.mode m)) w'∧Moved b w w':=by
 have hc:0≤m∧m≤1000000:=by simp [mayF] at hm;omega
 have T0:=ta_mode_admit
 have T1:=ta_mode_remove
 have T2:=ta_mode_resize
 have T3:=ta_mode_mode
 have H0:=Lib.hid (bd_new k hB #[.int .i64 m] 268 (by decide))
 have C1:=Lib.hid (int_c (B:=B) (b:=b) (p:=w.heap.size) (T:=268) (cs:=#[.int .i64 m]) (w:=w) l m hc (by omega))
 have E:l++bodyR (.mode m)=l++encInt m:=rfl
 rw [E]
 simp only [Fd.v]
 clear k hB hl hm hc E
 go_enter Tryz.func139,Tryz.ntmps139
 go_wp2_with fail
 (with_reducible refine (C1.out _ H0.out).mono ?_)
 rintro e w1 ⟨rfl,h1⟩
 have HF:=Lib.hid (And.intro h1.wr h1.mv)
 clear h1 H0 C1
 go_wp2
 go_end0
 exact ⟨rfl,HF.out⟩
theorem put_resize {B b:Nat} {l:List UInt8} (i c:Int) (w:World) (k:Wr B b l w) (hB:B≤w.heap.size) (hl:l.length≤800000) (hm:mayF (.resize i c)=true) :
 Calls Tryz.prog 139 #[self b,(Fd.resize i c).v] w fun e w'=>e=.returned (.tuple #[])∧Wr B b (l++bodyR (.resize i c)) w'∧Moved b w w':=by
 have ⟨q1,q2,q3,q4⟩:0≤i∧i≤1023∧1≤c∧c≤2147483648:=of_decide_eq_true hm
 have T1:=ta_resize_admit
 have T2:=ta_resize_remove
 have T3:=ta_resize_resize
 have H0:=Lib.hid (bd_new k hB #[.int .i64 i,.int .i64 c] 266 (by decide))
 have D0:=Lib.hid H0.out.drew
 have K0:=Lib.hid (cons2 H0.out.cell)
 have K0d:=Lib.hid (cons2 D0.out.cell)
 have z1:(encInt i).length≤9:=len9 (by omega)
 have C1:=Lib.hid (int_c (B:=B) (b:=b) (p:=w.heap.size) (T:=266) (cs:=#[.int .i64 i,.int .i64 c]) (w:=w) l i ⟨by omega,by omega⟩ (by omega))
 have C2:=Lib.hid (num_c (B:=B) (b:=b) (p:=w.heap.size) (T:=266) (cs:=#[.int .i64 i,.int .i64 c]) (w:=w) (l++encInt i) c ⟨by omega,by omega⟩ (by simp only [List.length_append];omega))
 have E:l++bodyR (.resize i c)=l++encInt i++enc c.toNat:=by simp [bodyR]
 rw [E]
 clear E z1
 generalize l++encInt i++enc c.toNat=l2 at *
 generalize l++encInt i=l1 at *
 have u1:IntKind.u64.wrap c=c:=IntWalk.u64_in _ (by omega)
 have v1:c%18446744073709551616=c:=by omega
 simp only [Fd.v]
 clear k q1 q2 q3 q4 hl hB hm
 go_enter Tryz.func139,Tryz.ntmps139
 go_wp2_with fail
 go_region_held3 (fun w'=>w'.cell? ⟨w.heap.size,0,none⟩=some (.int .i64 i)∧w'.cell? ⟨w.heap.size,1,none⟩=some (.int .i64 c)) (first|exact K0d.out|exact K0.out|assumption|fail) (first|(go_at_call 110;(with_reducible refine (C1.out _ D0.out).mono ?_);rintro e w1 ⟨rfl,h1⟩;(have k1:=cons2 h1.cell);(have H1:=Lib.hid h1);clear h1)|(go_at_call 155;(with_reducible refine (C2.out _ H1.out).mono ?_);rintro e w2 ⟨rfl,h2⟩;(have k2:=cons2 h2.cell);(have H2:=Lib.hid h2);clear h2)|fail)
 have HF:=Lib.hid (And.intro H2.out.wr H2.out.mv)
 go_wp2
 go_end0
 exact ⟨rfl,HF.out⟩
theorem put_any {B b:Nat} {l:List UInt8} (f:Fd) (w:World) (k:Wr B b l w) (hB:B≤w.heap.size) (hl:l.length≤800000) (hm:mayF f=true) :
 Calls Tryz.prog 139 #[self b,f.v] w fun e w'=>e=.returned (.tuple #[])∧Wr B b (l++bodyR (f)) w'∧Moved b w w':=by
 cases f with
 | admit t s=>exact put_admit t s w k hB hl hm
 | remove i=>exact put_remove i w k hB hl hm
 | resize i c=>exact put_resize i c w k hB hl hm
 | mode m=>exact put_mode m w k hB hl hm
 | unknown k=>cases hm
end Go.Proofs.YteempfoajgblaaaGreat.Ox
namespace Go.Proofs.YteempfoajgblaaaGreat.Ox
open Oc
open Pm (Tk chk chk_iff)
theorem Bd.call {B b p T:Nat} {cs:Array Value} {l:List UInt8} {w W W':World} (h:Bd B b p T cs l w W) (hb:Below W.heap.size W W'):Bd B b p T cs l w W' :=
 ⟨h.wr.call hb,(hb.block p (lt_of_heap h.at_)).trans h.at_,h.ty,h.ne,h.mv.trans ⟨hb.os,hb.tape,hb.output,hb.size,fun k hk _ _=>hb.block k hk,fun k hk=>.inl (by
  unfold bufOf at *
  rwa [hb.cell (p:=⟨b,1,none⟩) h.wr.lt] at hk)⟩,Nat.le_trans h.sz hb.size⟩
theorem cons10 {W:World} {p:Nat} {a b c d e f g h i j:Value} (H:∀ o,W.cell? ⟨p,o,none⟩=(#[a,b,c,d,e,f,g,h,i,j]:Array Value)[o]?):W.cell? ⟨p,0,none⟩=some a∧W.cell? ⟨p,1,none⟩=some b∧W.cell? ⟨p,2,none⟩=some c∧W.cell? ⟨p,3,none⟩=some d∧W.cell? ⟨p,4,none⟩=some e∧W.cell? ⟨p,5,none⟩=some f∧W.cell? ⟨p,6,none⟩=some g∧W.cell? ⟨p,7,none⟩=some h∧W.cell? ⟨p,8,none⟩=some i∧W.cell? ⟨p,9,none⟩=some j:=⟨H 0,H 1,H 2,H 3,H 4,H 5,H 6,H 7,H 8,H 9⟩
theorem enc_of {o:Od} (h:chkR o=true):encInt o.kind++bodyR (ofR o)=encO o:=by
 rcases chkR_iff.1 h with ⟨t,s,rfl,hc,hs⟩|⟨i,rfl,h1,h2⟩|⟨i,c,rfl,h1,h2,h3,h4⟩|⟨m,rfl,h1,h2⟩
 · simp [ofR,bodyR,encO]
 · simp [ofR,bodyR,encO]
 · simp [ofR,bodyR,encO]
 · simp [ofR,bodyR,encO]
theorem kind_of {o:Od} (h:chkR o=true):0≤o.kind∧o.kind≤1000000:=by
 rcases chkR_iff.1 h with ⟨t,s,rfl,hc,hs⟩|⟨i,rfl,h1,h2⟩|⟨i,c,rfl,h1,h2,h3,h4⟩|⟨m,rfl,h1,h2⟩ <;> simp
theorem may_chk {o:Od} (h:chkR o=true):mayF (ofR o)=true:=by
 rw [may_of];unfold chkR at h;rw [Bool.and_eq_true] at h;exact h.2
theorem bytes_yes (o:Od) (w:World) (h:chkR o=true) :
 Calls Tryz.prog 92 #[o.v] w fun e w'=>e=.returned (.tuple #[.string (mkB (encO o)),.int .i64 0])∧Below w.heap.size w w':=by
 have CK:=Lib.hid (check_any o)
 rw [h] at CK
 have HZ:Hid (∀ w1,Below (w.alloc (.cells o.cs 47)).heap.size (w.alloc (.cells o.cs 47)) w1→Bd w1.heap.size w1.heap.size w.heap.size 47 o.cs [] (w1.alloc (.cells #[.pointer none,.slice none 0 0,.pointer none] 191)) (w1.alloc (.cells #[.pointer none,.slice none 0 0,.pointer none] 191))∧Below w.heap.size w (w1.alloc (.cells #[.pointer none,.slice none 0 0,.pointer none] 191))∧w.heap.size≤w1.heap.size):=Lib.hid (fun w1 h1=>by
  have hb:Below w.heap.size w (w.alloc (.cells o.cs 47)):=(Below.refl w.heap.size w).alloc (Nat.le_refl _) _
  have ha:=(at_new w o).call h1
  have h2:Below w1.heap.size w1 (w1.alloc (.cells #[.pointer none,.slice none 0 0,.pointer none] 191)):=(Below.refl _ _).alloc (Nat.le_refl _) _
  have hw:Below w.heap.size w w1:=hb.trans (h1.mono hb.size)
  exact ⟨⟨fresh_wr w1,ha.call h2,by decide,Nat.ne_of_lt ha.lt,Moved.refl _ _,by simp⟩,hw.trans (h2.mono hw.size),hw.size⟩)
 have K0:=Lib.hid (box_cells w o)
 have z:=encO_len h
 have L1:(encInt o.kind).length≤800000:=by rw [← enc_of h,List.length_append] at z;omega
 have CI:Hid (∀ p T cs w,∀ b W,Bd b b p T cs [] w W→Calls Tryz.prog 110 #[self b,.int .i64 o.kind] W fun e w'=>e=.returned (self b)∧Bd b b p T cs (encInt o.kind) w w'):=Lib.hid (fun p T cs w b W=>by
  have:=int_c (B:=b) (b:=b) (p:=p) (T:=T) (cs:=cs) (w:=w) [] o.kind (kind_of h) (by simp)
  rw [List.nil_append] at this
  exact this W)
 have OF:=Lib.hid (of_any o)
 have PU:Hid (∀ p T cs w,∀ b W,Bd b b p T cs (encInt o.kind) w W→Calls Tryz.prog 139 #[self b,(ofR o).v] W fun e w'=>e=.returned (.tuple #[])∧Bd b b p T cs (encO o) w w'):=Lib.hid (fun p T cs w b W hW=>by
  have:=put_any (ofR o) W hW.wr hW.sz L1 (may_chk h)
  rw [enc_of h] at this
  exact this.mono fun e w' ⟨he,hw,hm⟩=>⟨he,hW.moved hw hm⟩)
 have ST:Hid (∀ b W,Wr b b (encO o) W→Calls Tryz.prog 112 #[self b] W fun e w'=>e=.returned (.string (mkB (encO o)))∧Wr b b (encO o) w'∧Moved b W w'):=Lib.hid (fun b W k=>wstring_any b b (encO o) W k (by omega))
 clear h z L1
 generalize encO o=E at *
 generalize (ofR o).v=fv at *
 obtain ⟨k,⟨i,c,d,t,m⟩,s,id,cc,mo⟩:=o
 unfold Od.v Od.cs at *
 simp only at *
 generalize encInt k=l1 at *
 obtain ⟨a0,a1,a2,a3,a4,a5,a6,a7,a8,a9⟩:=K0.out
 go_enter Tryz.func92,Tryz.ntmps92
 go_wp2_with fail
 (with_reducible refine (CK.out _).mono ?_)
 rintro e w1 ⟨rfl,b1⟩
 obtain ⟨h0,f1,sz1⟩:=HZ.out w1 b1
 have H0:=Lib.hid h0
 have F1:=Lib.hid f1
 have D0:=Lib.hid h0.drew
 have K1:=Lib.hid (cons10 H0.out.cell)
 have K1d:=Lib.hid (cons10 D0.out.cell)
 clear b1 HZ CK a0 a1 a2 a3 a4 a5 a6 a7 a8 a9 h0 f1 K0
 go_wp2_with fail
 go_region_held3 (fun w'=>w'.cell? ⟨w.heap.size,0,none⟩=some (.int .i64 k)∧w'.cell? ⟨w.heap.size,1,none⟩=some (.int .i64 i)∧w'.cell? ⟨w.heap.size,2,none⟩=some (.int .i64 c)∧w'.cell? ⟨w.heap.size,3,none⟩=some (.int .i64 d)∧w'.cell? ⟨w.heap.size,4,none⟩=some (.int .i64 t)∧w'.cell? ⟨w.heap.size,5,none⟩=some (.int .i64 m)∧w'.cell? ⟨w.heap.size,6,none⟩=some (.bool s)∧w'.cell? ⟨w.heap.size,7,none⟩=some (.int .i64 id)∧w'.cell? ⟨w.heap.size,8,none⟩=some (.int .i64 cc)∧w'.cell? ⟨w.heap.size,9,none⟩=some (.int .i64 mo)) (first|exact K1d.out|exact K1.out|assumption|fail) (first
  | (go_at_call 110;(with_reducible refine (CI.out _ _ _ _ _ _ (by first|exact HF.out|exact D0.out)).mono ?_);rintro e wi ⟨rfl,hi⟩;(have ki:=cons10 hi.cell);(have HI:=Lib.hid hi);clear hi)
  | (go_at_call 140;(with_reducible refine (OF.out _).mono ?_);rintro e wf ⟨rfl,bf⟩;(first|(have HF:=Lib.hid (HI.out.call bf))|(have HF:=Lib.hid (D0.out.call bf)));(have kf:=cons10 HF.out.cell);clear bf)
  | (go_at_call 139;(first|(with_reducible refine (PU.out _ _ _ _ _ _ HF.out).mono ?_)|(with_reducible refine (PU.out _ _ _ _ _ _ HI.out).mono ?_));rintro e wp ⟨rfl,hp⟩;(have kp:=cons10 hp.cell);(have HP:=Lib.hid hp);clear hp)
  | fail)
 all_goals
  go_wp2_with fail
  (with_reducible refine (ST.out _ _ HP.out.wr).mono ?_)
  rintro e w9 ⟨rfl,k9,m9⟩
  have FIN:=Lib.hid (F1.out.trans ((H0.out.wr.below (HP.out.mv.trans m9) H0.out.sz).mono sz1))
  clear k9 m9
  go_wp2
  exact bodyPost_ret (v:=.tuple #[.string (mkB E),.int .i64 0]) (by simp [results,Tryz.results92,go_sem]) rfl ⟨rfl,FIN.out⟩
end Go.Proofs.YteempfoajgblaaaGreat.Ox
namespace Go.Proofs.YteempfoajgblaaaGreat.Ox
open Oc
open Pm (Tk chk chk_iff)
theorem num_left (o:St) (most:Nat):left (num o most).2≤left o:=by
 cases h:(num o most).2 with
 | none=>simp [left]
 | some r=>obtain ⟨l,rfl,hlt,-⟩:=num_shorter h;simp only [left];omega
theorem int_left' (o:St) (most:Int):left (int o most).2≤left o:=by
 unfold int;split
 · simp [left]
 · exact num_left _ _
theorem flag_left (o:St):left (flag o).2≤left o:=num_left o 1
structure Tr (R b p PT q T:Nat) (ps cs:Array Value) (o:St) (w W:World):Prop where
 rd:Rd R b o W
 le:left o≤1000000
 pt:W.heap[p]?=some (.cells ps PT (0,0))
 at_:W.heap[q]?=some (.cells cs T (0,0))
 pb:p≠b
 qb:q≠b
 pq:p≠q
 ap:Apart b w W
 lq:w.heap.size≤q
section
variable {R b p PT q T:Nat} {ps cs:Array Value} {o o':St} {w W W':World}
theorem Tr.step (h:Tr R b p PT q T ps cs o w W) (k:Rd R b o' W') (hl:left o'≤left o) (m:Apart b W W'):Tr R b p PT q T ps cs o' w W' :=
 ⟨k,Nat.le_trans hl h.le,(m.block p (lt_of_heap h.pt) h.pb).trans h.pt,(m.block q (lt_of_heap h.at_) h.qb).trans h.at_,h.pb,h.qb,h.pq,h.ap.trans m,h.lq⟩
theorem Tr.set (h:Tr R b p PT q T ps cs o w W) (j:Nat) (v:Value):Tr R b p PT q T ps (cs.setIfInBounds j v) o w (W.setCell ⟨q,j,none⟩ v):=by
 have k2:∀ k,k≠q→(W.setCell ⟨q,j,none⟩ v).heap[k]?=W.heap[k]?:=fun k hk=>Below.heap_setCell W ⟨q,j,none⟩ v k hk
 refine ⟨h.rd.of_block (k2 b (Ne.symm h.qb)),h.le,(k2 p h.pq).trans h.pt,?_,h.pb,h.qb,h.pq,⟨h.ap.os,h.ap.tape,h.ap.output,by simpa [World.setCell] using h.ap.size,fun k hk hn=>?_⟩,h.lq⟩
 · simp [World.setCell,Array.getElem?_modify,h.at_]
 ·have:=h.lq
  rw [k2 k (by omega)]
  exact h.ap.block k hk hn
theorem Tr.cp (h:Tr R b p PT q T ps cs o w W) (j:Nat):W.cell? ⟨p,j,none⟩=ps[j]?:=by rw [Lib.cell_of_heap h.pt]
theorem Tr.cq (h:Tr R b p PT q T ps cs o w W) (j:Nat):W.cell? ⟨q,j,none⟩=cs[j]?:=by rw [Lib.cell_of_heap h.at_]
theorem Tr.fq (h:Tr R b p PT q T ps cs o w W) (j:Nat):W.frozen? ⟨q,j,none⟩=false:=Lib.frozen_of_heap h.at_ j
end
theorem int_t {b p PT q T:Nat} {ps:Array Value} {o:St} {w:World} (most:Int) (hm:(Lit.int .i64 most).wf=true) :
 ∀ cs W,Tr RC b p PT q T ps cs o w W→Calls Tryz.prog 126 #[self b,.int .i64 most] W fun e w'=>e=.returned (.int .i64 ((int o most).1:Int))∧Tr RC b p PT q T ps cs (int o most).2 w w':=fun cs W h=>
 (int_rd b o most W h.rd hm h.le).mono fun e w' ⟨he,hr,ha⟩=>⟨he,h.step hr (int_left' _ _) ha⟩
theorem flag_t {b p PT q T:Nat} {ps:Array Value} {o:St} {w:World} :
 ∀ cs W,Tr RC b p PT q T ps cs o w W→Calls Tryz.prog 167 #[self b] W fun e w'=>e=.returned (.bool (flag o).1)∧Tr RC b p PT q T ps cs (flag o).2 w w':=fun cs W h=>
 (flag_rd b o W h.rd h.le).mono fun e w' ⟨he,hr,ha⟩=>⟨he,h.step hr (flag_left _) ha⟩
theorem clo_any {b p:Nat} {o:St} (w:World) (k:Rd RC b o w) (hl:left o≤1000000) (hp:w.heap[p]?=some (.cells #[self b] 209 (0,0))) :
 Calls Tryz.prog 197 #[.pointer (some ⟨p,0,none⟩)] w fun e w'=>e=.returned (.int .i64 ((num o 2147483648).1:Int))∧Rd RC b (num o 2147483648).2 w'∧Apart b w w':=by
 have c0:w.cell? ⟨p,0,none⟩=some (self b):=by rw [Lib.cell_of_heap hp];rfl
 have NR:Hid (Calls Tryz.prog 165 #[self b,.int .u64 2147483648] w fun e w'=>e=.returned (.int .u64 ((num o 2147483648).1:Int))∧Rd RC b (num o 2147483648).2 w'∧Apart b w w'):=Lib.hid (num_rd b o 2147483648 w k (by omega) hl)
 have hn:=Oc.num_most o 2147483648
 generalize num o 2147483648=x at *
 obtain ⟨n,o'⟩:=x
 simp only at hn NR ⊢
 have z1:(n:Int)≤2147483648:=by omega
 have z0:0≤(n:Int):=by omega
 have u1:IntKind.i64.wrap (n:Int)=(n:Int):=IntWalk.i64_in _ (by omega)
 clear k hp hl hn
 go_enter Tryz.func197,Tryz.ntmps197
 go_wp2_with fail
 (with_reducible refine NR.out.mono ?_)
 rintro e w1 ⟨rfl,hf⟩
 have H:=Lib.hid hf
 clear hf NR
 go_wp2
 go_ret
 exact ⟨rfl,H.out⟩
theorem clo_t {b p q T:Nat} {o:St} {w:World} :
 ∀ cs W,Tr RC b p 209 q T #[self b] cs o w W→Calls Tryz.prog 197 #[.pointer (some ⟨p,0,none⟩)] W fun e w'=>e=.returned (.int .i64 ((num o 2147483648).1:Int))∧Tr RC b p 209 q T #[self b] cs (num o 2147483648).2 w w':=fun cs W h=>
 (clo_any W h.rd h.le h.pt).mono fun e w' ⟨he,hr,ha⟩=>⟨he,h.step hr (num_left _ _) ha⟩
def takeR (o:St):Fd×St:=
 if (int o 4).1=1 then (.admit ⟨(int (int o 4).2 1023).1,(num (int (int o 4).2 1023).2 2147483648).1,(num (num (int (int o 4).2 1023).2 2147483648).2 2147483648).1,(num (num (num (int (int o 4).2 1023).2 2147483648).2 2147483648).2 2147483648).1,(int (num (num (num (int (int o 4).2 1023).2 2147483648).2 2147483648).2 2147483648).2 15).1⟩ (flag (int (num (num (num (int (int o 4).2 1023).2 2147483648).2 2147483648).2 2147483648).2 15).2).1,(flag (int (num (num (num (int (int o 4).2 1023).2 2147483648).2 2147483648).2 2147483648).2 15).2).2)
 else if (int o 4).1=2 then (.remove (int (int o 4).2 1023).1,(int (int o 4).2 1023).2)
 else if (int o 4).1=3 then (.resize (int (int o 4).2 1023).1 (num (int (int o 4).2 1023).2 2147483648).1,(num (int (int o 4).2 1023).2 2147483648).2)
 else if (int o 4).1=4 then (.mode (int (int o 4).2 3).1,(int (int o 4).2 3).2)
 else (.unknown (int o 4).1,(int o 4).2)
theorem take_read (o:St):(opR (takeR o).1,(takeR o).2)=readM o:=by
 unfold takeR readM
 simp only
 repeat' split
 all_goals first|rfl|(simp_all;done)
theorem tr_new {b:Nat} {o o':St} {w w1 w2:World} (k:Rd RC b o w) (hl:left o'≤1000000) (k1:Rd RC b o' w1) (a1:Apart b (w.alloc (.cells #[self b] 209)) w1) (b2:Below w1.heap.size w1 w2) (cs:Array Value) (T:Nat) :
 Tr RC b w.heap.size 209 w2.heap.size T #[self b] cs o' w (w2.alloc (.cells cs T)):=by
 have hb:=k.lt
 have hp:(w.alloc (.cells #[self b] 209)).heap[w.heap.size]?=some (.cells #[self b] 209 (0,0)):=heap_alloc_new _ _
 have hp1:=(a1.block w.heap.size (by simp) (by omega)).trans hp
 have hp2:=(b2.block w.heap.size (lt_of_heap hp1)).trans hp1
 have s1:=a1.size
 rw [World.size_alloc] at s1
 have s2:=b2.size
 have b3:Below w2.heap.size w2 (w2.alloc (.cells cs T)):=(Below.refl _ _).alloc (Nat.le_refl _) _
 exact ⟨(k1.call b2).call b3,hl,(b3.block w.heap.size (lt_of_heap hp2)).trans hp2,heap_alloc_new _ _,by omega,by omega,by omega,((((Apart.refl b w).alloc _).trans a1).trans (Apart.of_below b2)).alloc _,by omega⟩
theorem take_remove {b:Nat} {o:St} (w:World) (k:Rd RC b o w) (hl:left o≤1000000) (hk:(int o 4).1=2) :
 Calls Tryz.prog 168 #[self b] w fun e w'=>e=.returned (takeR o).1.v∧Rd RC b (takeR o).2 w'∧Apart b w w':=by
 have hmf:∀ (fn:Fn) (first cap:Array Value) (w:World),(Instr.makeFunc fn first cap).run Tryz.prog w=.ok (.func fn first cap) w:=fun _ _ _ _=>rfl
 have C0:=Lib.hid (int_rd b o 4 (w.alloc (.cells #[self b] 209)) (k.call ((Below.refl _ _).alloc (Nat.le_refl _) _)) (by decide) hl)
 have OF:=Lib.hid (of_any ⟨2,tk0,false,0,0,0⟩)
 have EF:ofR ⟨2,tk0,false,0,0,0⟩=.remove 0:=rfl
 rw [EF] at OF
 simp only [Od.v,Od.cs,Fd.v,tk0] at OF
 clear EF
 have T0:=ta_remove_admit
 have T1:=ta_remove_remove
 have E:takeR o=(.remove (int (int o 4).2 1023).1,(int (int o 4).2 1023).2):=by unfold takeR;rw [if_neg (by omega),if_pos hk]
 rw [E]
 clear E
 have L1:left (int o 4).2≤1000000:=Nat.le_trans (int_left' _ _) hl
 rw [hk] at C0
 have HZ:=Lib.hid (fun w1 w2 k1 a1 b2=>tr_new (w1:=w1) (w2:=w2) (o':=(int o 4).2) k L1 k1 a1 b2 #[.int .i64 0] 264)
 clear L1 hk hl
 have LB:=k.lt
 clear k
 generalize (int o 4).2=o1 at *
 have C1:=Lib.hid (fun q=>int_t (b:=b) (p:=w.heap.size) (PT:=209) (q:=q) (T:=264) (ps:=#[self b]) (o:=o1) (w:=w) 1023 (by decide))
 generalize hx1:int o1 1023=x1 at *
 clear hx1
 obtain ⟨n1,o2⟩:=x1
 simp only at *
 simp only [Fd.v]
 have c0:=(show (w.alloc (.cells #[self b] 209)).cell? ⟨w.heap.size,0,none⟩=some (self b) by rw [Lib.cell_of_heap (heap_alloc_new _ _)];rfl)
 go_enter Tryz.func168,Tryz.ntmps168
 go_wp2_with fail
 (with_reducible refine C0.out.mono ?_)
 rintro e w1 ⟨rfl,k1,a1⟩
 have B1:=Lib.hid (And.intro k1 a1)
 clear k1 a1 c0 C0
 go_wp2_with fail
 (with_reducible refine (OF.out _).mono ?_)
 rintro e w2 ⟨rfl,b2⟩
 have H0:=Lib.hid (HZ.out w1 w2 B1.out.1 B1.out.2 b2)
 clear b2 B1 HZ OF
 have pq:w.heap.size≠w2.heap.size:=H0.out.pq
 have pq':w2.heap.size≠w.heap.size:=H0.out.pq.symm
 have cp:=H0.out.cp 0
 go_wp2_with fail
 (with_reducible refine ((C1.out _) _ _ H0.out).mono ?_)
 rintro e v1 ⟨rfl,h1⟩
 have H1:Hid (Tr RC b w.heap.size 209 w2.heap.size 264 #[self b] #[.int .i64 0] o2 w v1):=Lib.hid h1
 clear h1 cp H0
 have cp:=H1.out.cp 0
 have y0:=H1.out.cq 0
 have fq:=H1.out.fq
 have FIN:=Lib.hid (H1.out.set 0 (.int .i64 (n1:Int)))
 go_wp2
 go_ret
 exact ⟨rfl,FIN.out.rd,FIN.out.ap⟩
theorem take_mode {b:Nat} {o:St} (w:World) (k:Rd RC b o w) (hl:left o≤1000000) (hk:(int o 4).1=4) :
 Calls Tryz.prog 168 #[self b] w fun e w'=>e=.returned (takeR o).1.v∧Rd RC b (takeR o).2 w'∧Apart b w w':=by
 have hmf:∀ (fn:Fn) (first cap:Array Value) (w:World),(Instr.makeFunc fn first cap).run Tryz.prog w=.ok (.func fn first cap) w:=fun _ _ _ _=>rfl
 have C0:=Lib.hid (int_rd b o 4 (w.alloc (.cells #[self b] 209)) (k.call ((Below.refl _ _).alloc (Nat.le_refl _) _)) (by decide) hl)
 have OF:=Lib.hid (of_any ⟨4,tk0,false,0,0,0⟩)
 have EF:ofR ⟨4,tk0,false,0,0,0⟩=.mode 0:=rfl
 rw [EF] at OF
 simp only [Od.v,Od.cs,Fd.v,tk0] at OF
 clear EF
 have T0:=ta_mode_admit
 have T1:=ta_mode_remove
 have T2:=ta_mode_resize
 have T3:=ta_mode_mode
 have E:takeR o=(.mode (int (int o 4).2 3).1,(int (int o 4).2 3).2):=by unfold takeR;rw [if_neg (by omega),if_neg (by omega),if_neg (by omega),if_pos hk]
 rw [E]
 clear E
 have L1:left (int o 4).2≤1000000:=Nat.le_trans (int_left' _ _) hl
 rw [hk] at C0
 have HZ:=Lib.hid (fun w1 w2 k1 a1 b2=>tr_new (w1:=w1) (w2:=w2) (o':=(int o 4).2) k L1 k1 a1 b2 #[.int .i64 0] 268)
 clear L1 hk hl
 have LB:=k.lt
 clear k
 generalize (int o 4).2=o1 at *
 have C1:=Lib.hid (fun q=>int_t (b:=b) (p:=w.heap.size) (PT:=209) (q:=q) (T:=268) (ps:=#[self b]) (o:=o1) (w:=w) 3 (by decide))
 generalize hx1:int o1 3=x1 at *
 clear hx1
 obtain ⟨n1,o2⟩:=x1
 simp only at *
 simp only [Fd.v]
 have c0:=(show (w.alloc (.cells #[self b] 209)).cell? ⟨w.heap.size,0,none⟩=some (self b) by rw [Lib.cell_of_heap (heap_alloc_new _ _)];rfl)
 go_enter Tryz.func168,Tryz.ntmps168
 go_wp2_with fail
 (with_reducible refine C0.out.mono ?_)
 rintro e w1 ⟨rfl,k1,a1⟩
 have B1:=Lib.hid (And.intro k1 a1)
 clear k1 a1 c0 C0
 go_wp2_with fail
 (with_reducible refine (OF.out _).mono ?_)
 rintro e w2 ⟨rfl,b2⟩
 have H0:=Lib.hid (HZ.out w1 w2 B1.out.1 B1.out.2 b2)
 clear b2 B1 HZ OF
 have pq:w.heap.size≠w2.heap.size:=H0.out.pq
 have pq':w2.heap.size≠w.heap.size:=H0.out.pq.symm
 have cp:=H0.out.cp 0
 go_wp2_with fail
 (with_reducible refine ((C1.out _) _ _ H0.out).mono ?_)
 rintro e v1 ⟨rfl,h1⟩
 have H1:Hid (Tr RC b w.heap.size 209 w2.heap.size 268 #[self b] #[.int .i64 0] o2 w v1):=Lib.hid h1
 clear h1 cp H0
 have cp:=H1.out.cp 0
 have y0:=H1.out.cq 0
 have fq:=H1.out.fq
 have FIN:=Lib.hid (H1.out.set 0 (.int .i64 (n1:Int)))
 go_wp2
 go_ret
 exact ⟨rfl,FIN.out.rd,FIN.out.ap⟩
theorem take_resize {b:Nat} {o:St} (w:World) (k:Rd RC b o w) (hl:left o≤1000000) (hk:(int o 4).1=3) :
 Calls Tryz.prog 168 #[self b] w fun e w'=>e=.returned (takeR o).1.v∧Rd RC b (takeR o).2 w'∧Apart b w w':=by
 have hmf:∀ (fn:Fn) (first cap:Array Value) (w:World),(Instr.makeFunc fn first cap).run Tryz.prog w=.ok (.func fn first cap) w:=fun _ _ _ _=>rfl
 have C0:=Lib.hid (int_rd b o 4 (w.alloc (.cells #[self b] 209)) (k.call ((Below.refl _ _).alloc (Nat.le_refl _) _)) (by decide) hl)
 have OF:=Lib.hid (of_any ⟨3,tk0,false,0,0,0⟩)
 have EF:ofR ⟨3,tk0,false,0,0,0⟩=.resize 0 0:=rfl
 rw [EF] at OF
 simp only [Od.v,Od.cs,Fd.v,tk0] at OF
 clear EF
 have T0:=ta_resize_admit
 have T1:=ta_resize_remove
 have T2:=ta_resize_resize
 have E:takeR o=(.resize (int (int o 4).2 1023).1 (num (int (int o 4).2 1023).2 2147483648).1,(num (int (int o 4).2 1023).2 2147483648).2):=by unfold takeR;rw [if_neg (by omega),if_neg (by omega),if_pos hk]
 rw [E]
 clear E
 have L1:left (int o 4).2≤1000000:=Nat.le_trans (int_left' _ _) hl
 rw [hk] at C0
 have HZ:=Lib.hid (fun w1 w2 k1 a1 b2=>tr_new (w1:=w1) (w2:=w2) (o':=(int o 4).2) k L1 k1 a1 b2 #[.int .i64 0,.int .i64 0] 266)
 clear L1 hk hl
 have LB:=k.lt
 clear k
 generalize (int o 4).2=o1 at *
 have C1:=Lib.hid (fun q=>int_t (b:=b) (p:=w.heap.size) (PT:=209) (q:=q) (T:=266) (ps:=#[self b]) (o:=o1) (w:=w) 1023 (by decide))
 generalize hx1:int o1 1023=x1 at *
 clear hx1
 obtain ⟨n1,o2⟩:=x1
 simp only at *
 have C2:=Lib.hid (fun q=>clo_t (b:=b) (p:=w.heap.size) (q:=q) (T:=266) (o:=o2) (w:=w))
 generalize hx2:num o2 2147483648=x2 at *
 clear hx2
 obtain ⟨n2,o3⟩:=x2
 simp only at *
 simp only [Fd.v]
 have c0:=(show (w.alloc (.cells #[self b] 209)).cell? ⟨w.heap.size,0,none⟩=some (self b) by rw [Lib.cell_of_heap (heap_alloc_new _ _)];rfl)
 go_enter Tryz.func168,Tryz.ntmps168
 go_wp2_with fail
 (with_reducible refine C0.out.mono ?_)
 rintro e w1 ⟨rfl,k1,a1⟩
 have B1:=Lib.hid (And.intro k1 a1)
 clear k1 a1 c0 C0
 go_wp2_with fail
 (with_reducible refine (OF.out _).mono ?_)
 rintro e w2 ⟨rfl,b2⟩
 have H0:=Lib.hid (HZ.out w1 w2 B1.out.1 B1.out.2 b2)
 clear b2 B1 HZ OF
 have pq:w.heap.size≠w2.heap.size:=H0.out.pq
 have pq':w2.heap.size≠w.heap.size:=H0.out.pq.symm
 have cp:=H0.out.cp 0
 go_wp2_with fail
 (with_reducible refine ((C1.out _) _ _ H0.out).mono ?_)
 rintro e v1 ⟨rfl,h1⟩
 have H1:Hid (Tr RC b w.heap.size 209 w2.heap.size 266 #[self b] #[.int .i64 0,.int .i64 0] o2 w v1):=Lib.hid h1
 clear h1 cp H0
 have cp:=H1.out.cp 0
 go_wp2_with fail
 (with_reducible refine ((C2.out _) _ _ H1.out).mono ?_)
 rintro e v2 ⟨rfl,h2⟩
 have H2:Hid (Tr RC b w.heap.size 209 w2.heap.size 266 #[self b] #[.int .i64 0,.int .i64 0] o3 w v2):=Lib.hid h2
 clear h2 cp H1
 have cp:=H2.out.cp 0
 have y0:=H2.out.cq 0
 have y1:=H2.out.cq 1
 have fq:=H2.out.fq
 have FIN:=Lib.hid ((H2.out.set 0 (.int .i64 (n1:Int))).set 1 (.int .i64 (n2:Int)))
 go_wp2
 go_ret
 exact ⟨rfl,FIN.out.rd,FIN.out.ap⟩
theorem take_admit {b:Nat} {o:St} (w:World) (k:Rd RC b o w) (hl:left o≤1000000) (hk:(int o 4).1=1) :
 Calls Tryz.prog 168 #[self b] w fun e w'=>e=.returned (takeR o).1.v∧Rd RC b (takeR o).2 w'∧Apart b w w':=by
 have hmf:∀ (fn:Fn) (first cap:Array Value) (w:World),(Instr.makeFunc fn first cap).run Tryz.prog w=.ok (.func fn first cap) w:=fun _ _ _ _=>rfl
 have C0:=Lib.hid (int_rd b o 4 (w.alloc (.cells #[self b] 209)) (k.call ((Below.refl _ _).alloc (Nat.le_refl _) _)) (by decide) hl)
 have OF:=Lib.hid (of_any ⟨1,tk0,false,0,0,0⟩)
 have EF:ofR ⟨1,tk0,false,0,0,0⟩=.admit tk0 false:=rfl
 rw [EF] at OF
 simp only [Od.v,Od.cs,Fd.v,tk0] at OF
 clear EF
 have T0:=ta_admit_admit
 have E:takeR o=(.admit ⟨(int (int o 4).2 1023).1,(num (int (int o 4).2 1023).2 2147483648).1,(num (num (int (int o 4).2 1023).2 2147483648).2 2147483648).1,(num (num (num (int (int o 4).2 1023).2 2147483648).2 2147483648).2 2147483648).1,(int (num (num (num (int (int o 4).2 1023).2 2147483648).2 2147483648).2 2147483648).2 15).1⟩ (flag (int (num (num (num (int (int o 4).2 1023).2 2147483648).2 2147483648).2 2147483648).2 15).2).1,(flag (int (num (num (num (int (int o 4).2 1023).2 2147483648).2 2147483648).2 2147483648).2 15).2).2):=by unfold takeR;rw [if_pos hk]
 rw [E]
 clear E
 have L1:left (int o 4).2≤1000000:=Nat.le_trans (int_left' _ _) hl
 rw [hk] at C0
 have HZ:=Lib.hid (fun w1 w2 k1 a1 b2=>tr_new (w1:=w1) (w2:=w2) (o':=(int o 4).2) k L1 k1 a1 b2 #[.int .i64 0,.int .i64 0,.int .i64 0,.int .i64 0,.int .i64 0,.bool false] 262)
 clear L1 hk hl
 have LB:=k.lt
 clear k
 generalize (int o 4).2=o1 at *
 have C1:=Lib.hid (fun q=>int_t (b:=b) (p:=w.heap.size) (PT:=209) (q:=q) (T:=262) (ps:=#[self b]) (o:=o1) (w:=w) 1023 (by decide))
 generalize hx1:int o1 1023=x1 at *
 clear hx1
 obtain ⟨n1,o2⟩:=x1
 simp only at *
 have C2:=Lib.hid (fun q=>clo_t (b:=b) (p:=w.heap.size) (q:=q) (T:=262) (o:=o2) (w:=w))
 generalize hx2:num o2 2147483648=x2 at *
 clear hx2
 obtain ⟨n2,o3⟩:=x2
 simp only at *
 have C3:=Lib.hid (fun q=>clo_t (b:=b) (p:=w.heap.size) (q:=q) (T:=262) (o:=o3) (w:=w))
 generalize hx3:num o3 2147483648=x3 at *
 clear hx3
 obtain ⟨n3,o4⟩:=x3
 simp only at *
 have C4:=Lib.hid (fun q=>clo_t (b:=b) (p:=w.heap.size) (q:=q) (T:=262) (o:=o4) (w:=w))
 generalize hx4:num o4 2147483648=x4 at *
 clear hx4
 obtain ⟨n4,o5⟩:=x4
 simp only at *
 have C5:=Lib.hid (fun q=>int_t (b:=b) (p:=w.heap.size) (PT:=209) (q:=q) (T:=262) (ps:=#[self b]) (o:=o5) (w:=w) 15 (by decide))
 generalize hx5:int o5 15=x5 at *
 clear hx5
 obtain ⟨n5,o6⟩:=x5
 simp only at *
 have C6:=Lib.hid (fun q=>flag_t (b:=b) (p:=w.heap.size) (PT:=209) (q:=q) (T:=262) (ps:=#[self b]) (o:=o6) (w:=w))
 generalize hx6:flag o6=x6 at *
 clear hx6
 obtain ⟨n6,o7⟩:=x6
 simp only at *
 simp only [Fd.v]
 have c0:=(show (w.alloc (.cells #[self b] 209)).cell? ⟨w.heap.size,0,none⟩=some (self b) by rw [Lib.cell_of_heap (heap_alloc_new _ _)];rfl)
 go_enter Tryz.func168,Tryz.ntmps168
 go_wp2_with fail
 (with_reducible refine C0.out.mono ?_)
 rintro e w1 ⟨rfl,k1,a1⟩
 have B1:=Lib.hid (And.intro k1 a1)
 clear k1 a1 c0 C0
 go_wp2_with fail
 (with_reducible refine (OF.out _).mono ?_)
 rintro e w2 ⟨rfl,b2⟩
 have H0:=Lib.hid (HZ.out w1 w2 B1.out.1 B1.out.2 b2)
 clear b2 B1 HZ OF
 have pq:w.heap.size≠w2.heap.size:=H0.out.pq
 have pq':w2.heap.size≠w.heap.size:=H0.out.pq.symm
 have cp:=H0.out.cp 0
 go_wp2_with fail
 (with_reducible refine ((C1.out _) _ _ H0.out).mono ?_)
 rintro e v1 ⟨rfl,h1⟩
 have H1:Hid (Tr RC b w.heap.size 209 w2.heap.size 262 #[self b] #[.int .i64 0,.int .i64 0,.int .i64 0,.int .i64 0,.int .i64 0,.bool false] o2 w v1):=Lib.hid h1
 clear h1 cp H0
 have cp:=H1.out.cp 0
 have y0:=H1.out.cq 0
 have y1:=H1.out.cq 1
 have y2:=H1.out.cq 2
 have y3:=H1.out.cq 3
 have y4:=H1.out.cq 4
 have y5:=H1.out.cq 5
 have fq:=H1.out.fq
 go_wp2_with fail
 clear fq y0 y1 y2 y3 y4 y5
 (with_reducible refine ((C2.out _) _ _ (H1.out.set 0 _)).mono ?_)
 rintro e v2 ⟨rfl,h2⟩
 have H2:Hid (Tr RC b w.heap.size 209 w2.heap.size 262 #[self b] #[.int .i64 (n1:Int),.int .i64 0,.int .i64 0,.int .i64 0,.int .i64 0,.bool false] o3 w v2):=Lib.hid h2
 clear h2 cp H1
 have cp:=H2.out.cp 0
 go_wp2_with fail
 (with_reducible refine ((C3.out _) _ _ H2.out).mono ?_)
 rintro e v3 ⟨rfl,h3⟩
 have H3:Hid (Tr RC b w.heap.size 209 w2.heap.size 262 #[self b] #[.int .i64 (n1:Int),.int .i64 0,.int .i64 0,.int .i64 0,.int .i64 0,.bool false] o4 w v3):=Lib.hid h3
 clear h3 cp H2
 have cp:=H3.out.cp 0
 go_wp2_with fail
 (with_reducible refine ((C4.out _) _ _ H3.out).mono ?_)
 rintro e v4 ⟨rfl,h4⟩
 have H4:Hid (Tr RC b w.heap.size 209 w2.heap.size 262 #[self b] #[.int .i64 (n1:Int),.int .i64 0,.int .i64 0,.int .i64 0,.int .i64 0,.bool false] o5 w v4):=Lib.hid h4
 clear h4 cp H3
 have cp:=H4.out.cp 0
 have y0:=H4.out.cq 0
 have y1:=H4.out.cq 1
 have y2:=H4.out.cq 2
 have y3:=H4.out.cq 3
 have y4:=H4.out.cq 4
 have y5:=H4.out.cq 5
 have fq:=H4.out.fq
 go_wp2_with fail
 clear fq y0 y1 y2 y3 y4 y5
 (with_reducible refine ((C5.out _) _ _ (((H4.out.set 1 _).set 2 _).set 3 _)).mono ?_)
 rintro e v5 ⟨rfl,h5⟩
 have H5:Hid (Tr RC b w.heap.size 209 w2.heap.size 262 #[self b] #[.int .i64 (n1:Int),.int .i64 (n2:Int),.int .i64 (n3:Int),.int .i64 (n4:Int),.int .i64 0,.bool false] o6 w v5):=Lib.hid h5
 clear h5 cp H4
 have cp:=H5.out.cp 0
 have y0:=H5.out.cq 0
 have y1:=H5.out.cq 1
 have y2:=H5.out.cq 2
 have y3:=H5.out.cq 3
 have y4:=H5.out.cq 4
 have y5:=H5.out.cq 5
 have fq:=H5.out.fq
 go_wp2_with fail
 clear fq y0 y1 y2 y3 y4 y5
 (with_reducible refine ((C6.out _) _ _ (H5.out.set 4 _)).mono ?_)
 rintro e v6 ⟨rfl,h6⟩
 have H6:Hid (Tr RC b w.heap.size 209 w2.heap.size 262 #[self b] #[.int .i64 (n1:Int),.int .i64 (n2:Int),.int .i64 (n3:Int),.int .i64 (n4:Int),.int .i64 (n5:Int),.bool false] o7 w v6):=Lib.hid h6
 clear h6 cp H5
 have cp:=H6.out.cp 0
 have y0:=H6.out.cq 0
 have y1:=H6.out.cq 1
 have y2:=H6.out.cq 2
 have y3:=H6.out.cq 3
 have y4:=H6.out.cq 4
 have y5:=H6.out.cq 5
 have fq:=H6.out.fq
 have FIN:=Lib.hid (H6.out.set 5 (.bool n6))
 go_wp2
 go_ret
 exact ⟨rfl,FIN.out.rd,FIN.out.ap⟩
theorem take_unknown {b:Nat} {o:St} (w:World) (k:Rd RC b o w) (hl:left o≤1000000) (hk:¬(int o 4).1=1∧¬(int o 4).1=2∧¬(int o 4).1=3∧¬(int o 4).1=4) :
 Calls Tryz.prog 168 #[self b] w fun e w'=>e=.returned (takeR o).1.v∧Rd RC b (takeR o).2 w'∧Apart b w w':=by
 have hmf:∀ (fn:Fn) (first cap:Array Value) (w:World),(Instr.makeFunc fn first cap).run Tryz.prog w=.ok (.func fn first cap) w:=fun _ _ _ _=>rfl
 have C0:=Lib.hid (int_rd b o 4 (w.alloc (.cells #[self b] 209)) (k.call ((Below.refl _ _).alloc (Nat.le_refl _) _)) (by decide) hl)
 have OF:=Lib.hid (of_any ⟨((int o 4).1:Int),tk0,false,0,0,0⟩)
 have EF:ofR ⟨((int o 4).1:Int),tk0,false,0,0,0⟩=.unknown (int o 4).1:=by unfold ofR;simp only;rw [if_neg (by omega),if_neg (by omega),if_neg (by omega),if_neg (by omega)]
 rw [EF] at OF
 simp only [Od.v,Od.cs,Fd.v,tk0] at OF
 clear EF
 have T0:=ta_unknown_admit
 have T1:=ta_unknown_remove
 have T2:=ta_unknown_resize
 have T3:=ta_unknown_mode
 have E:takeR o=(.unknown (int o 4).1,(int o 4).2):=by unfold takeR;rw [if_neg hk.1,if_neg hk.2.1,if_neg hk.2.2.1,if_neg hk.2.2.2]
 rw [E]
 clear E hk hl k
 generalize int o 4=x at *
 obtain ⟨n,o1⟩:=x
 simp only [Fd.v] at *
 have c0:=(show (w.alloc (.cells #[self b] 209)).cell? ⟨w.heap.size,0,none⟩=some (self b) by rw [Lib.cell_of_heap (heap_alloc_new _ _)];rfl)
 have AP:Hid (∀ w1,Apart b (w.alloc (.cells #[self b] 209)) w1→Apart b w w1):=Lib.hid (fun w1 h=>((Apart.refl b w).alloc _).trans h)
 go_enter Tryz.func168,Tryz.ntmps168
 go_wp2_with fail
 (with_reducible refine C0.out.mono ?_)
 rintro e w1 ⟨rfl,k1,a1⟩
 have B1:=Lib.hid (And.intro k1 (AP.out w1 a1))
 clear k1 a1 c0 C0
 go_wp2_with fail
 (with_reducible refine (OF.out _).mono ?_)
 rintro e w2 ⟨rfl,b2⟩
 have B2:=Lib.hid (And.intro (B1.out.1.call b2) (B1.out.2.trans (Apart.of_below b2)))
 clear b2 B1 OF
 go_wp2
 go_ret
 exact ⟨rfl,B2.out⟩
theorem take_any {b:Nat} {o:St} (w:World) (k:Rd RC b o w) (hl:left o≤1000000) :
 Calls Tryz.prog 168 #[self b] w fun e w'=>e=.returned (takeR o).1.v∧Rd RC b (takeR o).2 w'∧Apart b w w':=by
 by_cases h1:(int o 4).1=1
 · exact take_admit w k hl h1
 by_cases h2:(int o 4).1=2
 · exact take_remove w k hl h2
 by_cases h3:(int o 4).1=3
 · exact take_resize w k hl h3
 by_cases h4:(int o 4).1=4
 · exact take_mode w k hl h4
 exact take_unknown w k hl ⟨h1,h2,h3,h4⟩
end Go.Proofs.YteempfoajgblaaaGreat.Ox
namespace Go.Proofs.YteempfoajgblaaaGreat.Ox
open Oc
open Pm (Tk chk chk_iff)
def readO (l:List UInt8):Od×Int:=match readR l with
 | some o=>(o,0)
 | none=>(od0,10)
theorem readO_yes {l:List UInt8} (h:ended (takeR (some l)).2=true) (hc:chkR (opR (takeR (some l)).1)=true):readO l=(opR (takeR (some l)).1,0):=by
 have e:=take_read (some l)
 have h1:(readM (some l)).1=opR (takeR (some l)).1:=by rw [← e]
 have h2:(readM (some l)).2=some []:=by rw [← e];simpa [ended] using h
 unfold readO
 rw [readR_of h2 (by rw [h1];exact hc),h1]
theorem readO_no {l:List UInt8} (h:¬(ended (takeR (some l)).2=true∧chkR (opR (takeR (some l)).1)=true)):readO l=(od0,10):=by
 have e:=take_read (some l)
 have h1:(readM (some l)).1=opR (takeR (some l)).1:=by rw [← e]
 have h2:(readM (some l)).2=(takeR (some l)).2:=by rw [← e]
 unfold readO
 rw [readR_not (fun k=>h ⟨by rw [← h2,k.1];rfl,by rw [← h1];exact k.2⟩)]
theorem cf_admit (v:Value) (w:World):(callFunc 298 #[v]).run Tryz.prog w=.ok (.enter 298 #[v]) w:=by kernel_rfl
theorem cf_remove (v:Value) (w:World):(callFunc 299 #[v]).run Tryz.prog w=.ok (.enter 299 #[v]) w:=by kernel_rfl
theorem cf_resize (v:Value) (w:World):(callFunc 300 #[v]).run Tryz.prog w=.ok (.enter 300 #[v]) w:=by kernel_rfl
theorem cf_mode (v:Value) (w:World):(callFunc 301 #[v]).run Tryz.prog w=.ok (.enter 301 #[v]) w:=by kernel_rfl
theorem cf_unknown (v:Value) (w:World):(callFunc 302 #[v]).run Tryz.prog w=.ok (.enter 302 #[v]) w:=by kernel_rfl
theorem fd_op (f:Fd):∃ T v fn,f.v=.iface T v∧(∀ w,(method 468 T v "horarium/ops.op").run Tryz.prog w=.ok (fn,v) w)∧(∀ w,(callFunc fn #[v]).run Tryz.prog w=.ok (.enter fn #[v]) w)∧∀ w,Calls Tryz.prog fn #[v] w fun e w'=>e=.returned (opR f).v∧Below w.heap.size w w':=by
 cases f with
 | admit t s=>exact ⟨_,_,_,rfl,m_admit _,cf_admit _,op_admit t s⟩
 | remove i=>exact ⟨_,_,_,rfl,m_remove _,cf_remove _,op_remove i⟩
 | resize i c=>exact ⟨_,_,_,rfl,m_resize _,cf_resize _,op_resize i c⟩
 | mode m=>exact ⟨_,_,_,rfl,m_mode _,cf_mode _,op_mode m⟩
 | unknown k=>exact ⟨_,_,_,rfl,m_unknown _,cf_unknown _,op_unknown k⟩
theorem read_env {st:St} {s:ByteArray} {w w2 w3:World} {o:Od} (k2:Rd RC (w.heap.size+1) st w2) (a2:Apart (w.heap.size+1) ((w.alloc (.cells od0.cs 47)).alloc (.cells #[.string s,.bool false] RC)) w2) (b3:Below w2.heap.size w2 w3) :
 Rd RC (w.heap.size+1) st (w3.alloc (.cells o.cs 47))∧w.heap.size≠w3.heap.size∧∀ w5,Below (w3.alloc (.cells o.cs 47)).heap.size (w3.alloc (.cells o.cs 47)) w5→At w5 w.heap.size od0∧At w5 w3.heap.size o∧Below w.heap.size w w5:=by
 have b4:Below w3.heap.size w3 (w3.alloc (.cells o.cs 47)):=(Below.refl _ _).alloc (Nat.le_refl _) _
 have p0:At ((w.alloc (.cells od0.cs 47)).alloc (.cells #[.string s,.bool false] RC)) w.heap.size od0:=(at_new w od0).call ((Below.refl _ _).alloc (Nat.le_refl _) _)
 have p2:At w2 w.heap.size od0:=(a2.block w.heap.size (by simp;omega) (by omega)).trans p0
 have p4:=(p2.call b3).call b4
 have s2:=a2.size
 simp only [World.size_alloc] at s2
 have s3:=b3.size
 refine ⟨(k2.call b3).call b4,by omega,fun w5 h5=>⟨p4.call h5,(at_new w3 o).call h5,?_⟩⟩
 have c1:Below w.heap.size w ((w.alloc (.cells od0.cs 47)).alloc (.cells #[.string s,.bool false] RC)):=((Below.refl _ _).alloc (Nat.le_refl _) _).alloc (by simp) _
 have c2:=c1.trans (a2.below (by omega) (by simp;omega))
 have c3:=c2.trans (b3.mono c2.size)
 have c4:=c3.trans (b4.mono c3.size)
 exact c4.trans (h5.mono c4.size)
theorem read_at (l:List UInt8) (w:World) (hl:l.length≤1000000) :
 Calls Tryz.prog 131 #[.string (mkB l)] w fun e w'=>e=.returned (.tuple #[(readO l).1.v,.int .i64 (readO l).2])∧Below w.heap.size w w':=by
 have RR:=Lib.hid (read_any (mkB l) (w.alloc (.cells od0.cs 47)))
 have K1:Rd RC (w.alloc (.cells od0.cs 47)).heap.size (some l) ((w.alloc (.cells od0.cs 47)).alloc (.cells #[.string (mkB l),.bool false] RC)):=heap_alloc_new _ _
 have TK:=Lib.hid (take_any _ K1 hl)
 have RY:=readO_yes (l:=l)
 have RN:=readO_no (l:=l)
 clear K1 hl
 generalize takeR (some l)=x at *
 obtain ⟨f,st⟩:=x
 simp only at TK RY RN
 obtain ⟨T,v,fn,ef,MT,CF,OP⟩:=fd_op f
 have OPC:=Lib.hid OP
 clear OP
 rw [ef] at TK
 clear ef
 generalize opR f=o at *
 have CK:=Lib.hid (check_any o)
 have HZ:=Lib.hid (fun w2 w3 k2 a2 b3=>read_env (st:=st) (s:=mkB l) (w:=w) (w2:=w2) (w3:=w3) (o:=o) k2 a2 b3)
 have BC:=Lib.hid (fun W=>box_cells W o)
 rw [World.size_alloc] at TK RR
 generalize mkB l=s at *
 cases he:ended st with
 | false=>
  rw [RN (by rw [he];simp)]
  clear RY RN
  have EN:Hid (∀ W,Rd RC (w.heap.size+1) st W→Calls Tryz.prog 129 #[self (w.heap.size+1)] W fun e w'=>e=.returned (.bool false)∧w'=W):=Lib.hid (fun W k=>by have:=end_rd _ st W k;rw [he] at this;exact this)
  clear he CK
  obtain ⟨k,⟨i,c,d,t,m⟩,sv,id,cc,mo⟩:=o
  simp only [Od.v,Od.cs,od0,tk0] at *
  go_enter Tryz.func131,Tryz.ntmps131
  go_wp2_with fail
  (with_reducible refine RR.out.mono ?_)
  rintro e w1 ⟨rfl,rfl⟩
  clear RR
  go_wp2_with fail
  (with_reducible refine TK.out.mono ?_)
  rintro e w2 ⟨rfl,k2,a2⟩
  have A2:=Lib.hid (And.intro k2 a2)
  clear TK k2 a2
  go_wp2_with fail
  (with_reducible refine (OPC.out _).mono ?_)
  rintro e w3 ⟨rfl,b3⟩
  obtain ⟨k4,ne,h5⟩:=HZ.out w2 w3 A2.out.1 A2.out.2 b3
  have K4:=Lib.hid k4
  obtain ⟨z0,z1,z2⟩:=h5 _ (Below.refl _ _)
  have Z2:=Lib.hid z2
  obtain ⟨c0,c1,c2,c3,c4,c5,c6,c7,c8,c9⟩:=z0.cells
  have f0:=z0.fz
  have ne':=Ne.symm ne
  clear A2 b3 HZ k4 h5 OPC z2 z0 z1
  go_wp2_with fail
  (with_reducible refine (EN.out _ K4.out).mono ?_)
  rintro e w5 ⟨rfl,rfl⟩
  clear EN
  go_wp2
  refine bodyPost_ret (v:=.tuple #[Od.v od0,.int .i64 10]) (by simp [results,Tryz.results131,go_sem,Od.v,Od.cs,od0,tk0,c0,c1,c2,c3,c4,c5,c6,c7,c8,c9]) rfl ⟨rfl,?_⟩
  exact setOp_below Z2.out (Nat.le_refl _) od0
 | true=>
  have EN:Hid (∀ W,Rd RC (w.heap.size+1) st W→Calls Tryz.prog 129 #[self (w.heap.size+1)] W fun e w'=>e=.returned (.bool true)∧w'=W):=Lib.hid (fun W k=>by have:=end_rd _ st W k;rw [he] at this;exact this)
  cases hc:chkR o with
  | false=>
   rw [RN (by rw [hc];simp)]
   rw [hc] at CK
   clear RY RN he hc
   obtain ⟨k,⟨i,c,d,t,m⟩,sv,id,cc,mo⟩:=o
   simp only [Od.v,Od.cs,od0,tk0] at *
   go_enter Tryz.func131,Tryz.ntmps131
   go_wp2_with fail
   (with_reducible refine RR.out.mono ?_)
   rintro e w1 ⟨rfl,rfl⟩
   clear RR
   go_wp2_with fail
   (with_reducible refine TK.out.mono ?_)
   rintro e w2 ⟨rfl,k2,a2⟩
   have A2:=Lib.hid (And.intro k2 a2)
   clear TK k2 a2
   go_wp2_with fail
   (with_reducible refine (OPC.out _).mono ?_)
   rintro e w3 ⟨rfl,b3⟩
   obtain ⟨k4,ne,h5⟩:=HZ.out w2 w3 A2.out.1 A2.out.2 b3
   have K4:=Lib.hid k4
   have H5:=Lib.hid h5
   obtain ⟨a0,a1,a2,a3,a4,a5,a6,a7,a8,a9⟩:=BC.out w3
   have ne':=Ne.symm ne
   clear A2 b3 HZ k4 h5 OPC BC
   go_wp2_with fail
   (with_reducible refine (EN.out _ K4.out).mono ?_)
   rintro e w5 ⟨rfl,rfl⟩
   clear EN K4
   go_wp2_with fail
   (with_reducible refine (CK.out _).mono ?_)
   rintro e w6 ⟨rfl,b6⟩
   obtain ⟨z0,z1,z2⟩:=H5.out w6 b6
   have Z2:=Lib.hid z2
   obtain ⟨c0,c1,c2,c3,c4,c5,c6,c7,c8,c9⟩:=z0.cells
   have f0:=z0.fz
   clear b6 H5 CK z0 z1 z2 a0 a1 a2 a3 a4 a5 a6 a7 a8 a9
   go_wp2
   refine bodyPost_ret (v:=.tuple #[Od.v od0,.int .i64 10]) (by simp [results,Tryz.results131,go_sem,Od.v,Od.cs,od0,tk0,c0,c1,c2,c3,c4,c5,c6,c7,c8,c9]) rfl ⟨rfl,?_⟩
   exact setOp_below Z2.out (Nat.le_refl _) od0
  | true=>
   rw [RY he hc]
   rw [hc] at CK
   clear RY RN he hc
   obtain ⟨k,⟨i,c,d,t,m⟩,sv,id,cc,mo⟩:=o
   simp only [Od.v,Od.cs,od0,tk0] at *
   go_enter Tryz.func131,Tryz.ntmps131
   go_wp2_with fail
   (with_reducible refine RR.out.mono ?_)
   rintro e w1 ⟨rfl,rfl⟩
   clear RR
   go_wp2_with fail
   (with_reducible refine TK.out.mono ?_)
   rintro e w2 ⟨rfl,k2,a2⟩
   have A2:=Lib.hid (And.intro k2 a2)
   clear TK k2 a2
   go_wp2_with fail
   (with_reducible refine (OPC.out _).mono ?_)
   rintro e w3 ⟨rfl,b3⟩
   obtain ⟨k4,ne,h5⟩:=HZ.out w2 w3 A2.out.1 A2.out.2 b3
   have K4:=Lib.hid k4
   have H5:=Lib.hid h5
   obtain ⟨a0,a1,a2,a3,a4,a5,a6,a7,a8,a9⟩:=BC.out w3
   have ne':=Ne.symm ne
   clear A2 b3 HZ k4 h5 OPC BC
   go_wp2_with fail
   (with_reducible refine (EN.out _ K4.out).mono ?_)
   rintro e w5 ⟨rfl,rfl⟩
   clear EN K4
   go_wp2_with fail
   (with_reducible refine (CK.out _).mono ?_)
   rintro e w6 ⟨rfl,b6⟩
   obtain ⟨z0,z1,z2⟩:=H5.out w6 b6
   have Z2:=Lib.hid z2
   obtain ⟨c0,c1,c2,c3,c4,c5,c6,c7,c8,c9⟩:=z0.cells
   obtain ⟨d0,d1,d2,d3,d4,d5,d6,d7,d8,d9⟩:=z1.cells
   have f0:=z0.fz
   clear b6 H5 CK z0 z1 z2 a0 a1 a2 a3 a4 a5 a6 a7 a8 a9
   go_wp2
   refine bodyPost_ret (v:=.tuple #[Od.v ⟨k,⟨i,c,d,t,m⟩,sv,id,cc,mo⟩,.int .i64 0]) (by simp [results,Tryz.results131,go_sem,Od.v,Od.cs,c0,c1,c2,c3,c4,c5,c6,c7,c8,c9]) rfl ⟨rfl,?_⟩
   exact setOp_below Z2.out (Nat.le_refl _) ⟨k,⟨i,c,d,t,m⟩,sv,id,cc,mo⟩
end Go.Proofs.YteempfoajgblaaaGreat.Ox
