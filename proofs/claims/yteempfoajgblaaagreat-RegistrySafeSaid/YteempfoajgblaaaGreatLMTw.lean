/- Boxes beside a reader; package table's read. Package table's Read. -/
import Derived.Test.YteempfoajgblaaaGreatLQE
import Derived.Test.YteempfoajgblaaaGreatLMTn
import Derived.Test.YteempfoajgblaaaGreatLMOq
set_option maxRecDepth 100000
set_option linter.unusedVariables false
set_option linter.unusedSimpArgs false
open Go.ChangeShapes Go.WideShapes Go.ChangeAt Go.RowKit Go.Joins
set_option maxHeartbeats 8000000
namespace Go.Proofs.YteempfoajgblaaaGreat.Tb
open Ge (El Seen Row)
open Oc (mkB self Rd RC Apart left lt_of_heap int_rd flag_rd good_any)
open Ox (num_left int_left' flag_left clo_any)
structure Ros (l:List (Nat×Array Value×Nat)) (b:Nat) (o:Oc.St) (w W:World):Prop where
 at_:∀ x∈l,W.heap[x.1]?=some (.cells x.2.1 x.2.2 (0,0))∧x.1≠b
 nd:(l.map (·.1)).Nodup
 rd:Rd RC b o W
 ap:Apart b w W
 le:left o≤1000000
theorem Ros.step {l:List (Nat×Array Value×Nat)} {b:Nat} {o o':Oc.St} {w W W':World} (h:Ros l b o w W) (k:Rd RC b o' W') (hl:left o'≤left o) (m:Apart b W W'):Ros l b o' w W' :=
 ⟨fun x hx=>⟨(m.block x.1 (lt_of_heap (h.at_ x hx).1) (h.at_ x hx).2).trans (h.at_ x hx).1,(h.at_ x hx).2⟩,h.nd,k,h.ap.trans m,Nat.le_trans hl h.le⟩
theorem Ros.call {l:List (Nat×Array Value×Nat)} {b:Nat} {o:Oc.St} {w W W':World} (h:Ros l b o w W) (hb:Below W.heap.size W W'):Ros l b o w W':=h.step (h.rd.call hb) (Nat.le_refl _) (Apart.of_below hb)
theorem ros_start {b:Nat} {o:Oc.St} {w:World} (k:Rd RC b o w) (hl:left o≤1000000):Ros [] b o w w:=⟨by simp,by simp,k,Apart.refl _ _,hl⟩
theorem Ros.new {l:List (Nat×Array Value×Nat)} {b:Nat} {o:Oc.St} {w W:World} (h:Ros l b o w W) (cs:Array Value) (T:Nat):Ros ((W.heap.size,cs,T) :: l) b o w (W.alloc (.cells cs T)):=by
 have h':=h.call ((Below.refl W.heap.size W).alloc (Nat.le_refl _) (.cells cs T))
 refine ⟨fun x hx=>?_,?_,h'.rd,h'.ap,h'.le⟩
 ·rcases List.mem_cons.1 hx with rfl|hx
  · exact ⟨heap_alloc_new _ _,by have:=h.rd.lt;simp only;omega⟩
  · exact h'.at_ x hx
 ·rw [List.map_cons,List.nodup_cons]
  refine ⟨fun hm=>?_,h.nd⟩
  obtain ⟨x,hx,hxe⟩:=List.mem_map.1 hm
  have:=lt_of_heap (h.at_ x hx).1
  simp only at hxe;omega
theorem Ros.cell {l:List (Nat×Array Value×Nat)} {b:Nat} {o':Oc.St} {w W:World} (h:Ros l b o' w W) {p:Nat} {cs:Array Value} {T:Nat} (i:Nat) (hi:l[i]?=some (p,cs,T)) (o:Nat):W.cell? ⟨p,o,none⟩=cs[o]?:=by
 rw [Lib.cell_of_heap (h.at_ _ (List.mem_of_getElem? hi)).1]
theorem Ros.fz {l:List (Nat×Array Value×Nat)} {b:Nat} {o':Oc.St} {w W:World} (h:Ros l b o' w W) {p:Nat} {cs:Array Value} {T:Nat} (i:Nat) (hi:l[i]?=some (p,cs,T)) (o:Nat):W.frozen? ⟨p,o,none⟩=false:=Lib.frozen_of_heap (h.at_ _ (List.mem_of_getElem? hi)).1 o
theorem Ros.set {l:List (Nat×Array Value×Nat)} {b:Nat} {o':Oc.St} {w W:World} {p:Nat} {cs:Array Value} {T:Nat} (h:Ros ((p,cs,T) :: l) b o' w W) (hp:w.heap.size≤p) (o:Nat) (v:Value):Ros ((p,cs.setIfInBounds o v,T) :: l) b o' w (W.setCell ⟨p,o,none⟩ v):=by
 have h0:=h.at_ _ (List.mem_cons_self)
 simp only at h0
 have hne:∀ k,k≠p→(W.setCell ⟨p,o,none⟩ v).heap[k]?=W.heap[k]?:=fun k hk=>Below.heap_setCell _ _ _ _ hk
 have hnd:=h.nd
 rw [List.map_cons,List.nodup_cons] at hnd
 refine ⟨fun x hx=>?_,by rw [List.map_cons,List.nodup_cons];exact hnd,h.rd.of_block (hne b (Ne.symm h0.2)),⟨h.ap.os,h.ap.tape,h.ap.output,by have:=h.ap.size;simpa using this,fun k hk hkb=>?_⟩,h.le⟩
 ·rcases List.mem_cons.1 hx with rfl|hx
  · exact ⟨by simp [World.setCell,Array.getElem?_modify,h0.1],h0.2⟩
  ·have hx':=h.at_ x (List.mem_cons_of_mem _ hx)
   refine ⟨(hne x.1 (fun e=>hnd.1 (List.mem_map.2 ⟨x,hx,e⟩))).trans hx'.1,hx'.2⟩
 ·rw [hne k (by omega)]
  exact h.ap.block k hk hkb
theorem int_o {l:List (Nat×Array Value×Nat)} {b:Nat} {o:Oc.St} {w:World} (most:Int) (hm:(Lit.int .i64 most).wf=true) :
 ∀ W,Ros l b o w W→Calls Tryz.prog 126 #[self b,.int .i64 most] W fun e w'=>e=.returned (.int .i64 ((Oc.int o most).1:Int))∧Ros l b (Oc.int o most).2 w w':=fun W h=>
 (int_rd b o most W h.rd hm h.le).mono fun e w' ⟨he,hr,ha⟩=>⟨he,h.step hr (int_left' _ _) ha⟩
theorem flag_o {l:List (Nat×Array Value×Nat)} {b:Nat} {o:Oc.St} {w:World} :
 ∀ W,Ros l b o w W→Calls Tryz.prog 167 #[self b] W fun e w'=>e=.returned (.bool (Oc.flag o).1)∧Ros l b (Oc.flag o).2 w w':=fun W h=>
 (flag_rd b o W h.rd h.le).mono fun e w' ⟨he,hr,ha⟩=>⟨he,h.step hr (flag_left _) ha⟩
theorem Ros.tail {x:Nat×Array Value×Nat} {l:List (Nat×Array Value×Nat)} {b:Nat} {o:Oc.St} {w W:World} (h:Ros (x :: l) b o w W):Ros l b o w W:=
 ⟨fun y hy=>h.at_ y (List.mem_cons_of_mem _ hy),by have:=h.nd;rw [List.map_cons,List.nodup_cons] at this;exact this.2,h.rd,h.ap,h.le⟩
theorem ros6 {L:List (Nat×Array Value×Nat)} {b:Nat} {o:Oc.St} {w W:World} {p:Nat} {T:Nat} {a0 a1 a2 a3 a4 a5:Value} (h:Ros ((p,#[a0,a1,a2,a3,a4,a5],T) :: L) b o w W) (hp:w.heap.size≤p) (b0 b1 b2 b3 b4 b5:Value):Ros ((p,#[b0,b1,b2,b3,b4,b5],T) :: L) b o w ((((((W.setCell ⟨p,0,none⟩ b0).setCell ⟨p,1,none⟩ b1).setCell ⟨p,2,none⟩ b2).setCell ⟨p,3,none⟩ b3).setCell ⟨p,4,none⟩ b4).setCell ⟨p,5,none⟩ b5):=
 (((((h.set hp 0 b0).set hp 1 b1).set hp 2 b2).set hp 3 b3).set hp 4 b4).set hp 5 b5
theorem clo70_any {b p:Nat} {o:Oc.St} (w:World) (k:Rd RC b o w) (hl:left o≤1000000) (hp:w.heap[p]?=some (.cells #[self b] 209 (0,0))) :
 Calls Tryz.prog 166 #[.pointer (some ⟨p,0,none⟩)] w fun e w'=>e=.returned (.int .i64 ((Oc.num o 2147483648).1:Int))∧Rd RC b (Oc.num o 2147483648).2 w'∧Apart b w w':=by
 have c0:w.cell? ⟨p,0,none⟩=some (self b):=by rw [Lib.cell_of_heap hp];rfl
 have NR:Hid (Calls Tryz.prog 165 #[self b,.int .u64 2147483648] w fun e w'=>e=.returned (.int .u64 ((Oc.num o 2147483648).1:Int))∧Rd RC b (Oc.num o 2147483648).2 w'∧Apart b w w'):=Lib.hid (Oc.num_rd b o 2147483648 w k (by omega) hl)
 have hn:=Oc.num_most o 2147483648
 generalize Oc.num o 2147483648=x at *
 obtain ⟨n,o'⟩:=x
 simp only at hn NR ⊢
 have z1:(n:Int)≤2147483648:=by omega
 have z0:0≤(n:Int):=by omega
 have u1:IntKind.i64.wrap (n:Int)=(n:Int):=IntWalk.i64_in _ (by omega)
 clear k hp hl hn
 go_enter Tryz.func166,Tryz.ntmps166
 go_wp2_with fail
 (with_reducible refine NR.out.mono ?_)
 rintro e w1 ⟨rfl,hf⟩
 have H:=Lib.hid hf
 clear hf NR
 go_wp2
 go_ret
 exact ⟨rfl,H.out⟩
theorem clo_o {b p q r:Nat} {o:Oc.St} {w:World} {cs ds:Array Value} {T U:Nat} :
 ∀ W,Ros [(q,cs,T),(r,ds,U),(p,#[self b],209)] b o w W→Calls Tryz.prog 166 #[.pointer (some ⟨p,0,none⟩)] W fun e w'=>e=.returned (.int .i64 ((Oc.num o 2147483648).1:Int))∧Ros [(q,cs,T),(r,ds,U),(p,#[self b],209)] b (Oc.num o 2147483648).2 w w':=fun W h=>
 (clo70_any W h.rd h.le (h.at_ (p,#[self b],209) (by simp)).1).mono fun e w' ⟨he,hr,ha⟩=>⟨he,h.step hr (num_left _ _) ha⟩
theorem ret_read (tmps:Array Value) (p:Nat) (W:World) (a0 a1 a2 a3 a4 a5:Value) (h2:tmps.getD 2 undef=.pointer (some ⟨p,0,none⟩)) (q:∀ o,W.cell? ⟨p,o,none⟩=(#[a0,a1,a2,a3,a4,a5]:Array Value)[o]?) :
 (results Tryz.f127 tmps).run Tryz.prog W=.ok (.agg #[a0,a1,a2,a3,a4,a5]) W:=by
 rw [Array.getD_eq_getD_getElem?] at h2
 obtain ⟨q0,q1,q2,q3,q4,q5⟩:=cell6 q
 simp [results,Tryz.results127,go_sem,h2,q0,q1,q2,q3,q4,q5]
theorem read_any {b:Nat} {o:Oc.St} (w:World) (k:Rd RC b o w) (hl:left o≤1000000) :
 Calls Tryz.prog 127 #[self b] w fun e w'=>e=.returned (readW o).1.v∧Rd RC b (readW o).2 w'∧Apart b w w':=by
 have hmf:∀ (fn:Fn) (first cap:Array Value) (w:World),(Instr.makeFunc fn first cap).run Tryz.prog w=.ok (.func fn first cap) w:=fun _ _ _ _=>rfl
 have H0:Hid (Ros [(w.heap.size+2,#[.int .i64 0,.int .i64 0,.int .i64 0,.int .i64 0,.int .i64 0,.bool false],123),(w.heap.size+1,#[.int .i64 0,.int .i64 0,.int .i64 0,.int .i64 0,.int .i64 0,.bool false],123),(w.heap.size,#[self b],209)] b o w (((w.alloc (.cells #[self b] 209)).alloc (.cells #[.int .i64 0,.int .i64 0,.int .i64 0,.int .i64 0,.int .i64 0,.bool false] 123)).alloc (.cells #[.int .i64 0,.int .i64 0,.int .i64 0,.int .i64 0,.int .i64 0,.bool false] 123))):=Lib.hid (by
  have:=(((ros_start k hl).new #[self b] 209).new #[.int .i64 0,.int .i64 0,.int .i64 0,.int .i64 0,.int .i64 0,.bool false] 123).new #[.int .i64 0,.int .i64 0,.int .i64 0,.int .i64 0,.int .i64 0,.bool false] 123
  simp only [World.size_alloc] at this
  exact this)
 have E:readW o=(⟨⟨(Oc.int o 1023).1,(Oc.num (Oc.int o 1023).2 2147483648).1,(Oc.num (Oc.num (Oc.int o 1023).2 2147483648).2 2147483648).1,(Oc.num (Oc.num (Oc.num (Oc.int o 1023).2 2147483648).2 2147483648).2 2147483648).1,(Oc.int (Oc.num (Oc.num (Oc.num (Oc.int o 1023).2 2147483648).2 2147483648).2 2147483648).2 15).1⟩,(Oc.flag (Oc.int (Oc.num (Oc.num (Oc.num (Oc.int o 1023).2 2147483648).2 2147483648).2 2147483648).2 15).2).1⟩,(Oc.flag (Oc.int (Oc.num (Oc.num (Oc.num (Oc.int o 1023).2 2147483648).2 2147483648).2 2147483648).2 15).2).2):=rfl
 rw [E]
 clear E k hl
 have C1:=Lib.hid (fun cs=>int_o (l:=[(w.heap.size+2,cs,123),(w.heap.size+1,#[.int .i64 0,.int .i64 0,.int .i64 0,.int .i64 0,.int .i64 0,.bool false],123),(w.heap.size,#[self b],209)]) (b:=b) (o:=o) (w:=w) 1023 (by decide))
 generalize Oc.int o 1023=x1 at *
 obtain ⟨n1,o1⟩:=x1
 simp only at *
 have C2:=Lib.hid (fun cs=>clo_o (b:=b) (p:=w.heap.size) (q:=w.heap.size+2) (r:=w.heap.size+1) (o:=o1) (w:=w) (cs:=cs) (ds:=#[.int .i64 0,.int .i64 0,.int .i64 0,.int .i64 0,.int .i64 0,.bool false]) (T:=123) (U:=123))
 generalize Oc.num o1 2147483648=x2 at *
 obtain ⟨n2,o2⟩:=x2
 simp only at *
 have C3:=Lib.hid (fun cs=>clo_o (b:=b) (p:=w.heap.size) (q:=w.heap.size+2) (r:=w.heap.size+1) (o:=o2) (w:=w) (cs:=cs) (ds:=#[.int .i64 0,.int .i64 0,.int .i64 0,.int .i64 0,.int .i64 0,.bool false]) (T:=123) (U:=123))
 generalize Oc.num o2 2147483648=x3 at *
 obtain ⟨n3,o3⟩:=x3
 simp only at *
 have C4:=Lib.hid (fun cs=>clo_o (b:=b) (p:=w.heap.size) (q:=w.heap.size+2) (r:=w.heap.size+1) (o:=o3) (w:=w) (cs:=cs) (ds:=#[.int .i64 0,.int .i64 0,.int .i64 0,.int .i64 0,.int .i64 0,.bool false]) (T:=123) (U:=123))
 generalize Oc.num o3 2147483648=x4 at *
 obtain ⟨n4,o4⟩:=x4
 simp only at *
 have C5:=Lib.hid (fun cs=>int_o (l:=[(w.heap.size+2,cs,123),(w.heap.size+1,#[.int .i64 0,.int .i64 0,.int .i64 0,.int .i64 0,.int .i64 0,.bool false],123),(w.heap.size,#[self b],209)]) (b:=b) (o:=o4) (w:=w) 15 (by decide))
 generalize Oc.int o4 15=x5 at *
 obtain ⟨n5,o5⟩:=x5
 simp only at *
 have C6:=Lib.hid (fun cs=>flag_o (l:=[(w.heap.size+2,cs,123),(w.heap.size+1,#[.int .i64 0,.int .i64 0,.int .i64 0,.int .i64 0,.int .i64 0,.bool false],123),(w.heap.size,#[self b],209)]) (b:=b) (o:=o5) (w:=w))
 generalize Oc.flag o5=x6 at *
 obtain ⟨n6,o6⟩:=x6
 simp only at *
 simp only [Rw.v]
 have c0:=(H0.out.cell 2 rfl 0)
 go_enter Tryz.func127,Tryz.ntmps127
 go_wp2_with fail
 (with_reducible refine ((C1.out _) _ H0.out).mono ?_)
 rintro e v1 ⟨rfl,h1⟩
 have H1:=Lib.hid h1
 clear h1
 have cp1:v1.cell? ⟨w.heap.size,0,none⟩=some (self b):=(H1.out.cell 2 rfl 0).trans rfl
 obtain ⟨y0,y1,y2,y3,y4,y5⟩:=cell6 (H1.out.cell 0 rfl)
 have fq:=H1.out.fz 0 rfl
 have G1:=Lib.hid (H1.out.set (by omega) 0 (.int .i64 (n1:Int)))
 have cg1:(v1.setCell ⟨w.heap.size+2,0,none⟩ (.int .i64 (n1:Int))).cell? ⟨w.heap.size,0,none⟩=some (self b):=(G1.out.cell 2 rfl 0).trans rfl
 go_wp2_with fail
 (with_reducible refine ((C2.out _) _ G1.out).mono ?_)
 rintro e v2 ⟨rfl,h2⟩
 have H2:=Lib.hid h2
 clear h2
 clear fq y0 y1 y2 y3 y4 y5
 have cp2:v2.cell? ⟨w.heap.size,0,none⟩=some (self b):=(H2.out.cell 2 rfl 0).trans rfl
 go_wp2_with fail
 (with_reducible refine ((C3.out _) _ H2.out).mono ?_)
 rintro e v3 ⟨rfl,h3⟩
 have H3:=Lib.hid h3
 clear h3
 have cp3:v3.cell? ⟨w.heap.size,0,none⟩=some (self b):=(H3.out.cell 2 rfl 0).trans rfl
 go_wp2_with fail
 (with_reducible refine ((C4.out _) _ H3.out).mono ?_)
 rintro e v4 ⟨rfl,h4⟩
 have H4:=Lib.hid h4
 clear h4
 have cp4:v4.cell? ⟨w.heap.size,0,none⟩=some (self b):=(H4.out.cell 2 rfl 0).trans rfl
 obtain ⟨y0,y1,y2,y3,y4,y5⟩:=cell6 (H4.out.cell 0 rfl)
 have fq:=H4.out.fz 0 rfl
 have G4:=Lib.hid (((H4.out.set (by omega) 1 (.int .i64 (n2:Int))).set (by omega) 2 (.int .i64 (n3:Int))).set (by omega) 3 (.int .i64 (n4:Int)))
 have cg4:=(G4.out.cell 2 rfl 0)
 go_wp2_with fail
 (with_reducible refine ((C5.out _) _ G4.out).mono ?_)
 rintro e v5 ⟨rfl,h5⟩
 have H5:=Lib.hid h5
 clear h5
 clear fq y0 y1 y2 y3 y4 y5
 have cp5:v5.cell? ⟨w.heap.size,0,none⟩=some (self b):=(H5.out.cell 2 rfl 0).trans rfl
 obtain ⟨y0,y1,y2,y3,y4,y5⟩:=cell6 (H5.out.cell 0 rfl)
 have fq:=H5.out.fz 0 rfl
 have G5:=Lib.hid (H5.out.set (by omega) 4 (.int .i64 (n5:Int)))
 have cg5:=(G5.out.cell 2 rfl 0)
 go_wp2_with fail
 (with_reducible refine ((C6.out _) _ G5.out).mono ?_)
 rintro e v6 ⟨rfl,h6⟩
 have H6:=Lib.hid h6
 clear h6
 clear fq y0 y1 y2 y3 y4 y5
 have cp6:v6.cell? ⟨w.heap.size,0,none⟩=some (self b):=(H6.out.cell 2 rfl 0).trans rfl
 obtain ⟨y0,y1,y2,y3,y4,y5⟩:=cell6 (H6.out.cell 0 rfl)
 have fq:=H6.out.fz 0 rfl
 have G6:=Lib.hid (H6.out.set (by omega) 5 (.bool n6))
 obtain ⟨z0,z1,z2,z3,z4,z5⟩:=cell6 (G6.out.cell 0 rfl)
 obtain ⟨r0,r1,r2,r3,r4,r5⟩:=cell6 (G6.out.cell 1 rfl)
 have rf:=G6.out.fz 1 rfl
 have HF:=Lib.hid (ros6 G6.out.tail (by omega) (.int .i64 (n1:Int)) (.int .i64 (n2:Int)) (.int .i64 (n3:Int)) (.int .i64 (n4:Int)) (.int .i64 (n5:Int)) (.bool n6))
 have QF:=Lib.hid (HF.out.cell 0 rfl)
 go_wp2
 refine bodyPost_ret (ret_read _ (w.heap.size+1) _ (.int .i64 (n1:Int)) (.int .i64 (n2:Int)) (.int .i64 (n3:Int)) (.int .i64 (n4:Int)) (.int .i64 (n5:Int)) (.bool n6) rfl QF.out) rfl ⟨rfl,HF.out.rd,HF.out.ap⟩
end Go.Proofs.YteempfoajgblaaaGreat.Tb
namespace Go.Proofs.YteempfoajgblaaaGreat.Tb
open Ge (El Seen Row)
open Oc (mkB self Rd RC Apart left lt_of_heap int_rd good_any end_rd ended)
open Ox (num_left int_left' flag_left)
theorem Bos.apart {L:List (Nat×Array Value×Nat)} {w W W':World} {b:Nat} (h:Bos L w W) (m:Apart b W W') (hb:w.heap.size≤b) (hn:∀ x∈L,x.1≠b):Bos L w W' :=
 ⟨fun x hx=>⟨(m.block x.1 (lt_of_heap (h.at_ x hx).1) (hn x hx)).trans (h.at_ x hx).1,(h.at_ x hx).2⟩,h.nd,h.bl.trans (m.below hb h.bl.size)⟩
theorem row_apart {B:Nat} {W W':World} {v:Value} {l:List Rw} {b:Nat} {o:Oc.St} (hr:Row Rw.cs 6 123 B W v l) (k:Rd RC b o W) (m:Apart b W W'):Row Rw.cs 6 123 B W' v l:=by
 obtain ⟨s,hs⟩:=k.cells
 exact hr.of_blocks fun q hq=>m.block q (hr.lt q hq).2 (fun e=>row_ne hr hs (by decide) (by rw [hq,e]))
theorem app_rd {L:List (Nat×Array Value×Nat)} {w W:World} {v:Value} {l:List Rw} {b:Nat} {o:Oc.St} (x:Rw) (h:Bos L w W) (hn:NoRow L) (hr:Row Rw.cs 6 123 w.heap.size W v l) (k:Rd RC b o W) (hb:w.heap.size≤b) (hnb:∀ y∈L,y.1≠b) (hl:l.length≤90000) :
 ∃ v' W',(Builtin.append_ #[50,50] 50 #[v,.slice (some ⟨W.heap.size,0,none⟩) 1 1]).run Tryz.prog (W.alloc (.cells #[.int .i64 x.t.id,.int .i64 x.t.c,.int .i64 x.t.d,.int .i64 x.t.t,.int .i64 x.t.m,.bool x.s] 123))=.ok v' W'∧Row Rw.cs 6 123 w.heap.size W' v' (l++[x])∧Bos L w W'∧Rd RC b o W':=by
 obtain ⟨s,hs⟩:=k.cells
 have h2:Bos ((b,#[.string s,.bool (!o.isSome)],RC) :: L) w W:=by
  refine ⟨fun y hy=>?_,?_,h.bl⟩
  ·rcases List.mem_cons.1 hy with rfl|hy
   · exact ⟨hs,hb⟩
   · exact h.at_ y hy
  ·rw [List.map_cons,List.nodup_cons]
   refine ⟨fun hm=>?_,h.nd⟩
   obtain ⟨y,hy,e⟩:=List.mem_map.1 hm
   exact hnb y hy e
 have hn2:NoRow ((b,#[.string s,.bool (!o.isSome)],RC) :: L):=fun y hy=>by
  rcases List.mem_cons.1 hy with rfl|hy
  · exact (by decide:(RC:Nat)≠123)
  · exact hn y hy
 obtain ⟨v',W',h1,h3,h4⟩:=app_new x h2 hn2 hr hl
 exact ⟨v',W',h1,h3,h4.sub (List.sublist_cons_self _ _),k.of_block (((h4.at_ _ List.mem_cons_self).1).trans hs.symm)⟩
theorem readW_left (o:Oc.St):left (readW o).2≤left o:=
 Nat.le_trans (flag_left _) (Nat.le_trans (int_left' _ _) (Nat.le_trans (num_left _ _) (Nat.le_trans (num_left _ _) (Nat.le_trans (num_left _ _) (int_left' _ _)))))
def readT (l:List UInt8):Tb×Int:=match readR l with
 | some t=>(t,0)
 | none=>(tb0,10)
theorem readWs_none (n:Nat):(readWs n none).2=none:=by cases n <;> rfl
theorem readT_fin {l:List UInt8} {rows:List Rw} {o:Oc.St} (h:(readWs (Oc.int (Oc.int (some l) 3).2 16).1 (Oc.int (Oc.int (some l) 3).2 16).2)=(rows,o)):readT l=if ended o=true∧chkT ⟨rows,((Oc.int (some l) 3).1:Int)⟩=true then (⟨rows,((Oc.int (some l) 3).1:Int)⟩,0) else (tb0,10):=by
 have e:readM (some l)=(⟨rows,((Oc.int (some l) 3).1:Int)⟩,o):=by unfold readM;simp only;rw [h]
 unfold readT readR
 rw [e]
 simp only
 have he:ended o=true↔o=some []:=by unfold ended;simp
 by_cases hc:o=some []∧chkT ⟨rows,((Oc.int (some l) 3).1:Int)⟩=true
 · rw [if_pos hc,if_pos ⟨he.2 hc.1,hc.2⟩]
 · rw [if_neg hc,if_neg (fun k=>hc ⟨he.1 k.1,k.2⟩)]
theorem readT_bad {l:List UInt8} (h:(readWs (Oc.int (Oc.int (some l) 3).2 16).1 (Oc.int (Oc.int (some l) 3).2 16).2).2=none):readT l=(tb0,10):=by
 rw [readT_fin (rows:=(readWs (Oc.int (Oc.int (some l) 3).2 16).1 (Oc.int (Oc.int (some l) 3).2 16).2).1) (o:=none) (Prod.ext rfl h)]
 rw [if_neg (by simp [ended])]
theorem int_bad {o:Oc.St} {most:Int} (h:(Oc.int o most).2=none):(Oc.int o most).1=0:=by
 unfold Oc.int at h ⊢
 split
 · rfl
 ·rename_i hm
  rw [if_neg hm] at h
  unfold Oc.num at h ⊢
  cases o with
  | none=>rfl
  | some x=>
   simp only at h ⊢
   split at h <;> rename_i e
   · rfl
   ·split at h
    · cases h
    · rename_i hn;rw [if_neg hn]
def RdRel (n b p:Nat) (m:Int) (o1:Oc.St) (w:World) (g:Nat) (s:Value) (wx:World):Prop:=
 ∃ (i:Nat) (o:Oc.St) (rows:List Rw) (v:Value),i+g=n∧s=.int .i64 (i:Int)∧Bos [(p,#[v,.int .i64 m],52),(w.heap.size,#[.slice none 0 0,.int .i64 0],52)] w wx∧Rd RC b o wx∧Row Rw.cs 6 123 w.heap.size wx v rows∧left o≤1000000∧rows.length=i∧(i<n→∃ x,o=some x)∧readWs n o1=(rows++(readWs (n-i) o).1,(readWs (n-i) o).2)
theorem readt_any (l:List UInt8) (w:World) (hl:l.length≤1000000) :
 Calls Tryz.prog 81 #[.string (mkB l)] w fun e w'=>∃ v,e=.returned (.tuple #[v,.int .i64 (readT l).2])∧Told v (readT l).1 w'∧Below w.heap.size w w':=by
 have RD:=Lib.hid (Oc.read_any (mkB l))
 have R0:=Lib.hid ((bos_nil w).new #[.slice none 0 0,.int .i64 0] 52)
 have K0:Rd RC (w.heap.size+1) (some l) ((w.alloc (.cells #[.slice none 0 0,.int .i64 0] 52)).alloc (.cells #[.string (mkB l),.bool false] RC)):=by
  have:=heap_alloc_new (w.alloc (.cells #[.slice none 0 0,.int .i64 0] 52)) (.cells #[.string (mkB l),.bool false] RC)
  rw [World.size_alloc] at this
  exact this
 have I1:=Lib.hid (fun W (k:Rd RC (w.heap.size+1) (some l) W)=>int_rd (w.heap.size+1) (some l) 3 W k (by decide) hl)
 have FIN:=Lib.hid (fun rows o=>readT_fin (l:=l) (rows:=rows) (o:=o))
 have BAD:=Lib.hid (readT_bad (l:=l))
 have M3:(Oc.int (some l) 3).1≤3:=Oc.num_most (some l) 3
 have L1:=Nat.le_trans (int_left' (some l) 3) hl
 have B1:=Lib.hid (int_bad (o:=(Oc.int (some l) 3).2) (most:=16))
 have M16:(Oc.int (Oc.int (some l) 3).2 16).1≤16:=Oc.num_most (Oc.int (some l) 3).2 16
 have L2:=Nat.le_trans (int_left' (Oc.int (some l) 3).2 16) L1
 have I2:=Lib.hid (fun W (k:Rd RC (w.heap.size+1) (Oc.int (some l) 3).2 W)=>int_rd (w.heap.size+1) (Oc.int (some l) 3).2 16 W k (by decide) L1)
 generalize readT l=R at *
 generalize Oc.int (some l) 3=y1 at *
 obtain ⟨m,o0⟩:=y1
 simp only at *
 generalize Oc.int o0 16=y2 at *
 obtain ⟨n,o1⟩:=y2
 simp only at *
 have K0:=Lib.hid K0
 have HL:=Lib.hid L2
 clear L1 L2 hl
 go_enter Tryz.func81,Tryz.ntmps81
 go_wp2_with fail
 go_step3
 go_wp2_with fail
 (with_reducible refine (RD.out _).mono ?_)
 rintro e w1 ⟨rfl,rfl⟩
 have R1:=Lib.hid (R0.out.call ((Below.refl _ _).alloc (Nat.le_refl _) (.cells #[.string (mkB l),.bool false] RC)))
 have NB:Hid (∀ x∈([(w.heap.size,#[.slice none 0 0,.int .i64 0],52)]:List (Nat×Array Value×Nat)),x.1≠w.heap.size+1):=Lib.hid (by
  intro x hx
  rw [List.mem_singleton.1 hx]
  show w.heap.size≠w.heap.size+1
  omega)
 clear RD R0
 rw [World.size_alloc]
 go_wp2_with fail
 (with_reducible refine (I1.out _ K0.out).mono ?_)
 rintro e w2 ⟨rfl,k2,a2⟩
 have K2:=Lib.hid k2
 have R2:=Lib.hid (R1.out.apart a2 (by omega) NB.out)
 clear k2 a2 I1 K0 R1
 go_wp2_with fail
 have K3:=Lib.hid (K2.out.call ((Below.refl _ _).alloc (Nat.le_refl _) (.cells #[.slice none 0 0,.int .i64 (m:Int)] 52)))
 have NRO:Hid (∀ (a c:Array Value) (q g:Nat),NoRow [(q,a,52),(g,c,52)]):=Lib.hid (by
  intro a c q g x hx
  rcases List.mem_cons.1 hx with rfl|hx
  · exact (by decide:(52:Nat)≠123)
  ·rw [List.mem_singleton.1 hx]
   exact (by decide:(52:Nat)≠123))
 have R3:=Lib.hid (R2.out.new #[.slice none 0 0,.int .i64 (m:Int)] 52)
 have PN:w.heap.size+1<w2.heap.size:=K2.out.lt
 have NC:Hid (∀ v:Value,∀ x∈([(w2.heap.size,#[v,.int .i64 (m:Int)],52),(w.heap.size,#[.slice none 0 0,.int .i64 0],52)]:List (Nat×Array Value×Nat)),x.1≠w.heap.size+1):=Lib.hid (by
  intro v x hx
  rcases List.mem_cons.1 hx with rfl|hx
  ·show w2.heap.size≠w.heap.size+1
   omega
  ·rw [List.mem_singleton.1 hx]
   show w.heap.size≠w.heap.size+1
   omega)
 clear K2 R2 NB
 generalize (w2.alloc (.cells #[.slice none 0 0,.int .i64 (m:Int)] 52))=w3 at *
 generalize w2.heap.size=p at *
 go_step3
 go_wp2_with fail
 (with_reducible refine (I2.out _ K3.out).mono ?_)
 rintro e w4 ⟨rfl,k4,a4⟩
 have K4:=Lib.hid k4
 have R4:=Lib.hid (R3.out.apart a4 (by omega) (NC.out _))
 clear k4 a4 I2 K3 R3
 have G0:Hid (RdRel n (w.heap.size+1) p m o1 w n (.int .i64 0) w4):=Lib.hid ⟨0,o1,[],.slice none 0 0,Nat.zero_add _,rfl,R4.out,K4.out,Ge.row_nil _ _,HL.out,rfl,fun h=>by
  rcases o1 with _|x
  · have:=B1.out rfl;omega
  · exact ⟨x,rfl⟩,rfl⟩
 go_wp2_with fail
 go_loopg [14] n (RdRel n (w.heap.size+1) p m o1 w)
 case atStart=>exact G0.out
 case round=>
  obtain ⟨i,o,rows,v,hi,rfl,hB,hR,hrow,hle,hlen,hsome,hE⟩:=hrel
  clear G0 R4 K4
  by_cases hlt:i<n
  ·obtain ⟨x,rfl⟩:=hsome hlt
   have i1:(i:Int)<(n:Int):=by omega
   have i3:IntKind.i64.wrap ((i:Int)+1)=((i+1:Nat):Int):=by rw [IntWalk.i64_in _ (by omega)];omega
   have RE:=Lib.hid (read_any wr hR hle)
   have LW:left (readW (some x)).2≤1000000:=Nat.le_trans (readW_left _) hle
   obtain ⟨k,hk⟩:∃ k,n-i=k+1:=⟨n-i-1,by omega⟩
   have hE:readWs n o1=(rows++((readW (some x)).1 :: (readWs k (readW (some x)).2).1),(readWs k (readW (some x)).2).2):=by rw [hE,hk];rfl
   generalize readW (some x)=y at *
   obtain ⟨r,o'⟩:=y
   simp only at hE LW RE
   unfold Rw.v at RE
   have HE:=Lib.hid hE
   have HB:=Lib.hid hB
   have HR:=Lib.hid hR
   have HW:=Lib.hid hrow
   have HLW:=Lib.hid LW
   have HLN:=Lib.hid hlen
   have HI:=Lib.hid hi
   have HK:=Lib.hid hk
   have HLT:=Lib.hid hlt
   clear hE hB hR hrow LW hlen hi hk hlt hsome hle
   go_wp2_with fail
   (with_reducible refine RE.out.mono ?_)
   rintro e w5 ⟨rfl,k5,a5⟩
   have HB:=Lib.hid (HB.out.apart a5 (by omega) (NC.out _))
   have HW:=Lib.hid (row_apart HW.out HR.out a5)
   have HR:=Lib.hid k5
   clear a5 k5 RE
   have HX:=Lib.hid (HR.out.call ((Below.refl _ _).alloc (Nat.le_refl _) (.cells #[.int .i64 r.t.id,.int .i64 r.t.c,.int .i64 r.t.d,.int .i64 r.t.t,.int .i64 r.t.m,.bool r.s] 123)))
   have GG:=Lib.hid (good_any _ _ _ HX.out)
   go_wp2_with fail
   (with_reducible refine GG.out.mono ?_)
   rintro e w6 ⟨rfl,rfl⟩
   clear GG
   rcases o' with _|x'
   ·have EQ:=BAD.out (by rw [HE.out];exact readWs_none k)
    subst EQ
    have ED:=end_rd _ _ _ HX.out
    rw [show ended (none:Oc.St)=false from rfl] at ED
    have ED:=Lib.hid ED
    have HB:=Lib.hid (HB.out.call ((Below.refl _ _).alloc (Nat.le_refl _) (.cells #[.int .i64 r.t.id,.int .i64 r.t.c,.int .i64 r.t.d,.int .i64 r.t.t,.int .i64 r.t.m,.bool r.s] 123)))
    generalize (w5.alloc (.cells #[.int .i64 r.t.id,.int .i64 r.t.c,.int .i64 r.t.d,.int .i64 r.t.t,.int .i64 r.t.m,.bool r.s] 123))=w6 at *
    simp only [Option.isSome_none]
    clear FIN BAD HR HX HW HE HLW B1
    obtain ⟨z0,z1⟩:=cell2 (HB.out.cell 1 rfl)
    have zf:=HB.out.fz 1 rfl
    have HF:=Lib.hid ((HB.out.set 1 rfl 0 (.slice none 0 0)).set 1 rfl 1 (.int .i64 0))
    obtain ⟨q0,q1⟩:=cell2 (HF.out.cell 1 rfl)
    go_wp2_with fail
    (with_reducible refine ED.out.mono ?_)
    rintro e w7 ⟨rfl,rfl⟩
    clear ED
    go_wp2
    simp only [Exit.noGoto]
    refine bodyPost_ret (v:=.tuple #[.agg #[.slice none 0 0,.int .i64 0],.int .i64 10]) (by simp [results,Tryz.results81,go_sem,q0,q1]) rfl ⟨_,rfl,told_zero _,HF.out.bl⟩
   ·have HN:=Lib.hid (HB.out.new #[.int .i64 r.t.id,.int .i64 r.t.c,.int .i64 r.t.d,.int .i64 r.t.t,.int .i64 r.t.m,.bool r.s] 123)
    have HW:=Lib.hid (HW.out.call ((Below.refl _ _).alloc (Nat.le_refl _) (.cells #[.int .i64 r.t.id,.int .i64 r.t.c,.int .i64 r.t.d,.int .i64 r.t.t,.int .i64 r.t.m,.bool r.s] 123)))
    obtain ⟨o0,o1',o2,o3,o4,o5⟩:=cell6 (HN.out.cell 0 rfl)
    obtain ⟨p0,p1⟩:=cell2 (HN.out.cell 1 rfl)
    have HB:=Lib.hid (HN.out.sub (List.sublist_cons_self _ _))
    generalize (w5.alloc (.cells #[.int .i64 r.t.id,.int .i64 r.t.c,.int .i64 r.t.d,.int .i64 r.t.t,.int .i64 r.t.m,.bool r.s] 123))=w6 at *
    simp only [Option.isSome_some]
    obtain ⟨va,vk,vc,rfl⟩:∃ va vk vc,v=.slice va vk vc:=by obtain ⟨ao,cap,e,-⟩:=Row.form cs_len HW.out;exact ⟨_,_,_,e⟩
    have HBd:=Lib.hid HB.out
    have HWd:=Lib.hid HW.out
    have HXd:=Lib.hid HX.out
    obtain ⟨v4,w8,ap4,r4,h4,k4⟩:=app_rd r HBd.out (NRO.out _ _ _ _) HWd.out HXd.out (by omega) (NC.out _) (by have:=HLN.out;omega)
    have R4:=Lib.hid r4
    have H4:=Lib.hid h4
    have K4:=Lib.hid k4
    obtain ⟨va4,vk4,vc4,rfl⟩:∃ va vk vc,v4=.slice va vk vc:=by obtain ⟨ao,cap,e,-⟩:=Row.form cs_len R4.out;exact ⟨_,_,_,e⟩
    obtain ⟨s0,s1⟩:=cell2 (H4.out.cell 0 rfl)
    have sf:=H4.out.fz 0 rfl
    have H7:=Lib.hid (H4.out.set 0 rfl 0 (.slice va4 vk4 vc4))
    have R7:=Lib.hid (row_set R4.out H4.out 0 rfl (by decide) 0 (.slice va4 vk4 vc4))
    have K7:Hid (Rd RC (w.heap.size+1) (some x') (w8.setCell ⟨p,0,none⟩ (.slice va4 vk4 vc4))):=Lib.hid (K4.out.of_block (Below.heap_setCell _ _ _ _ (by show w.heap.size+1≠p;omega)))
    clear HR HN r4 h4 k4
    go_wp2_with (at_builtin;refine Lib.wpList_append_run _ rfl _ _ _ _ rfl _ _ rfl rfl _ _ ap4 ?_)
    go_roundg (gk-1)
    case measure=>have:=HI.out;have:=HLT.out;omega
    case rel=>exact ⟨i+1,some x',rows++[r],.slice va4 vk4 vc4,by have:=HI.out;have:=HLT.out;omega,by go_num,H7.out,K7.out,R7.out,HLW.out,by rw [List.length_append,HLN.out];rfl,fun _=>⟨x',rfl⟩,by rw [HE.out,show n-(i+1)=k by have:=HK.out;omega,List.append_assoc];rfl⟩
  ·obtain rfl:i=n:=by omega
   have EQ:=FIN.out rows o (by rw [hE,Nat.sub_self];show (rows++[],o)=_;rw [List.append_nil])
   have ED:=end_rd _ _ _ hR
   obtain ⟨ao,cap,hs⟩:=row_sl hrow
   obtain rfl:=hs.eq
   have CK:=Lib.hid (check_any ⟨rows,(m:Int)⟩ ao cap wr hs.seen (by show rows.length≤1000;omega))
   have HB:=Lib.hid hB
   have HS:=Lib.hid hs
   have hge:¬(i:Int)<(i:Int):=by omega
   subst hlen
   clear FIN BAD hE hB hs hR hrow hle hsome B1 NC NRO
   obtain ⟨p0,p1⟩:=cell2 (HB.out.cell 0 rfl)
   obtain ⟨z0,z1⟩:=cell2 (HB.out.cell 1 rfl)
   have zf:=HB.out.fz 1 rfl
   rcases hen:ended o with _|_
   ·rw [hen] at ED EQ
    rw [if_neg (by simp)] at EQ
    subst EQ
    have ED:=Lib.hid ED
    have HF:=Lib.hid ((HB.out.set 1 rfl 0 (.slice none 0 0)).set 1 rfl 1 (.int .i64 0))
    obtain ⟨q0,q1⟩:=cell2 (HF.out.cell 1 rfl)
    go_wp2_with fail
    (with_reducible refine ED.out.mono ?_)
    rintro e w7 ⟨rfl,rfl⟩
    clear ED
    go_wp2
    simp only [Exit.noGoto]
    refine bodyPost_ret (v:=.tuple #[.agg #[.slice none 0 0,.int .i64 0],.int .i64 10]) (by simp [results,Tryz.results81,go_sem,q0,q1]) rfl ⟨_,rfl,told_zero _,HF.out.bl⟩
   ·rw [hen] at ED EQ
    have ED:=Lib.hid ED
    unfold tv at CK
    simp only at CK
    rcases hck:chkT ⟨rows,(m:Int)⟩ with _|_
    ·rw [hck] at CK EQ
     rw [if_neg (by simp)] at EQ
     subst EQ
     go_wp2_with fail
     (with_reducible refine ED.out.mono ?_)
     rintro e w7 ⟨rfl,rfl⟩
     clear ED
     go_wp2_with fail
     (with_reducible refine CK.out.mono ?_)
     rintro e w8 ⟨rfl,b8⟩
     have HB:=Lib.hid (HB.out.call b8)
     have HS:=Lib.hid (HS.out.call b8)
     clear b8 CK p0 p1 z0 z1 zf
     obtain ⟨p0,p1⟩:=cell2 (HB.out.cell 0 rfl)
     obtain ⟨z0,z1⟩:=cell2 (HB.out.cell 1 rfl)
     have zf:=HB.out.fz 1 rfl
     have HF:=Lib.hid ((HB.out.set 1 rfl 0 (.slice none 0 0)).set 1 rfl 1 (.int .i64 0))
     obtain ⟨q0,q1⟩:=cell2 (HF.out.cell 1 rfl)
     go_wp2
     simp only [Exit.noGoto]
     refine bodyPost_ret (v:=.tuple #[.agg #[.slice none 0 0,.int .i64 0],.int .i64 10]) (by simp [results,Tryz.results81,go_sem,q0,q1]) rfl ⟨_,rfl,told_zero _,HF.out.bl⟩
    ·rw [hck] at CK EQ
     rw [if_pos ⟨rfl,rfl⟩] at EQ
     subst EQ
     go_wp2_with fail
     (with_reducible refine ED.out.mono ?_)
     rintro e w7 ⟨rfl,rfl⟩
     clear ED
     go_wp2_with fail
     (with_reducible refine CK.out.mono ?_)
     rintro e w8 ⟨rfl,b8⟩
     have HB:=Lib.hid (HB.out.call b8)
     have HS:=Lib.hid (HS.out.call b8)
     clear b8 CK p0 p1 z0 z1 zf
     obtain ⟨p0,p1⟩:=cell2 (HB.out.cell 0 rfl)
     obtain ⟨z0,z1⟩:=cell2 (HB.out.cell 1 rfl)
     have zf:=HB.out.fz 1 rfl
     have HF:=Lib.hid ((HB.out.set 1 rfl 0 (.slice ao rows.length cap)).set 1 rfl 1 (.int .i64 (m:Int)))
     have SF:=Lib.hid ((HS.out.set HB.out 1 rfl (by simp) 0 (.slice ao rows.length cap)).set (HB.out.set 1 rfl 0 (.slice ao rows.length cap)) 1 rfl (by simp) 1 (.int .i64 (m:Int)))
     obtain ⟨q0,q1⟩:=cell2 (HF.out.cell 1 rfl)
     go_wp2
     simp only [Exit.noGoto]
     refine bodyPost_ret (v:=.tuple #[.agg #[.slice ao rows.length cap,.int .i64 (m:Int)],.int .i64 0]) (by simp [results,Tryz.results81,go_sem,q0,q1]) rfl ⟨_,rfl,⟨ao,cap,rfl,SF.out⟩,HF.out.bl⟩
end Go.Proofs.YteempfoajgblaaaGreat.Tb
