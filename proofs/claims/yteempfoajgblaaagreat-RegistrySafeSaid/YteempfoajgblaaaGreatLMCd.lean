/- A table of sums in memory: what fill leaves there. sync.Once over fill: a table is filled at its .. -/
import Derived.Test.YteempfoajgblaaaGreatLMCc
import Derived.Deep.QuietTactic
import Derived.Tactics
import Derived.Tactics2
import Derived.Defers
import Derived.Laws.Pointers
import Derived.Laws.LoneSync
import Derived.RegionTactic
import Derived.RegionCalls
import Derived.ChangeAlike
import Derived.Test.YteempfoajgblaaaGreatLQA
set_option maxRecDepth 100000
set_option linter.unusedVariables false
set_option linter.unusedSimpArgs false
open Go.ChangeShapes Go.WideShapes Go.ChangeAt Go.RowKit Go.Joins
set_option maxHeartbeats 1600000
namespace Go.Proofs.YteempfoajgblaaaGreat
structure Apart (b:Nat) (w w':World):Prop where
 os:w'.os=w.os
 tape:w'.tape=w.tape
 output:w'.output=w.output
 size:w.heap.size≤w'.heap.size
 block:∀ k,k<w.heap.size→k≠b→w'.heap[k]?=w.heap[k]?
 frozen:∀ o,w'.frozen? ⟨b,o,none⟩=w.frozen? ⟨b,o,none⟩
theorem Apart.refl (b:Nat) (w:World):Apart b w w:=⟨rfl,rfl,rfl,Nat.le_refl _,fun _ _ _=>rfl,fun _=>rfl⟩
theorem Apart.trans {b:Nat} {u v w:World} (h:Apart b u v) (k:Apart b v w):Apart b u w:=
 ⟨k.os.trans h.os,k.tape.trans h.tape,k.output.trans h.output,Nat.le_trans h.size k.size,fun i hi hb=>(k.block i (Nat.lt_of_lt_of_le hi h.size) hb).trans (h.block i hi hb),fun o=>(k.frozen o).trans (h.frozen o)⟩
theorem Apart.drew {b:Nat} {u w:World} (h:Apart b u w):Apart b u w.drew:=h.trans ⟨rfl,rfl,rfl,Nat.le_refl _,fun _ _ _=>rfl,fun _=>by simp [go_sem]⟩
theorem Apart.setCell {b:Nat} {u w:World} (h:Apart b u w) (o:Nat) (v:Value):Apart b u (w.setCell ⟨b,o,none⟩ v):=
 h.trans ⟨rfl,rfl,rfl,by simp,fun k hk hb=>Below.heap_setCell _ _ _ _ hb,fun o=>by simp⟩
theorem Apart.below {b B:Nat} {w w':World} (h:Apart b w w') (hB:B≤b) (hs:B≤w.heap.size):Below B w w' :=
 ⟨h.os,h.tape,h.output,h.size,fun k hk=>h.block k (by omega) (by omega)⟩
theorem Apart.cell {b:Nat} {w w':World} (h:Apart b w w') {p:Addr} (hp:p.block<w.heap.size) (hb:p.block≠b):w'.cell? p=w.cell? p:=World.cell?_of_block (w:=w) (h.block p.block hp hb)
theorem Apart.of_below {b:Nat} {w w':World} (h:Below w.heap.size w w') (hb:b<w.heap.size):Apart b w w' :=
 ⟨h.os,h.tape,h.output,h.size,fun k hk _=>h.block k hk,fun o=>h.frozen (p:=⟨b,o,none⟩) hb⟩
theorem lt_of_cell {w:World} {p:Addr} {v:Value} (h:w.cell? p=some v):p.block<w.heap.size:=by
 rcases Nat.lt_or_ge p.block w.heap.size with h'|h'
 · exact h'
 · exfalso;unfold World.cell? at h;rw [Array.getElem?_eq_none h'] at h;cases h
def Open (w:World) (b:Nat):Prop:=∀ j,j<256→(∃ v,w.cell? ⟨b,3+j,none⟩=some v)∧w.frozen? ⟨b,3+j,none⟩=false
def Filled (w:World) (b n:Nat):Prop:=∀ j,j<n→w.cell? ⟨b,3+j,none⟩=some (.int .u32 (tab j:Int))
def FillRel (w:World) (b g:Nat) (s5:Value) (wx:World):Prop:=∃ i:Nat,i+g=256∧s5=.int .i64 (i:Int)∧Filled wx b i∧Open wx b∧Apart b w wx∧∀ o,o<3→wx.cell? ⟨b,o,none⟩=w.cell? ⟨b,o,none⟩
def ShRel (t:Nat) (w:World) (g:Nat) (s3 s4:Value) (wx:World):Prop:=∃ i y:Nat,i+g=8∧1≤i∧Is32 y∧s3=.int .u32 (y:Int)∧s4=.int .i64 (i:Int)∧shN (g+1) y=t∧wx=w
theorem fill_next {w wr:World} {b i z:Nat} {v:Value} (hi:i<256) (hz:z=tab i) (H:Filled wr b i∧Open wr b∧Apart b w wr∧∀ o,o<3→wr.cell? ⟨b,o,none⟩=w.cell? ⟨b,o,none⟩) (hv:wr.cell? ⟨b,3+i,none⟩=some v) :
 FillRel w b (255-i) (.int .i64 ((i:Int)+1)) (wr.setCell ⟨b,3+i,none⟩ (.int .u32 (z:Int))):=by
 obtain ⟨hf,ho,ha,hl⟩:=H
 refine ⟨i+1,by omega,rfl,fun j hj=>?_,fun j hj=>⟨?_,by simp [(ho j hj).2]⟩,ha.setCell _ _,fun o h=>?_⟩
 ·by_cases e:j=i
  · subst e;rw [World.cell?_setCell_same _ _ _ hv,hz]
  · rw [World.cell?_setCell_other _ _ _ _ (by first|(simp;done)|(simp;omega))];exact hf j (by omega)
 ·by_cases e:j=i
  · subst e;exact ⟨_,World.cell?_setCell_same _ _ _ hv⟩
  · rw [World.cell?_setCell_other _ _ _ _ (by first|(simp;done)|(simp;omega))];exact (ho j hj).1
 · rw [World.cell?_setCell_other _ _ _ _ (by first|(simp;done)|(simp;omega))];exact hl o h
theorem fill_any (b:Nat) (w:World) (ho:Open w b) :
 Calls Tryz.prog 241 #[.pointer (some ⟨b,0,none⟩)] w fun e w'=>e=.returned (.tuple #[])∧Filled w' b 256∧Apart b w w'∧∀ o,o<3→w'.cell? ⟨b,o,none⟩=w.cell? ⟨b,o,none⟩:=by
 have OP:=Lib.hid ho
 clear ho
 go_enter Tryz.func241,Tryz.ntmps241
 go_wp2_with fail
 go_step3
 go_wp2_with fail
 go_step3
 go_wp2_with fail
 go_loopg [5] 256 (FillRel w b)
 case atStart=>exact ⟨0,rfl,rfl,fun j hj=>by omega,OP.out,Apart.refl _ _,fun _ _=>rfl⟩
 case round=>
  clear OP
  obtain ⟨i,hk,rfl,hf,ho,ha,hl⟩:=hrel
  have H:=Lib.hid (And.intro hf (And.intro ho (And.intro ha hl)))
  clear hf ho ha hl
  rcases Nat.lt_or_ge i 256 with hlt|hge
  ·have hm:(i:Int)%4294967296=i:=by omega
   go_wp2
   rw [show decide ((i:Int)<256)=true by simp;omega]
   go_loopg [3,4] 7 (ShRel (tab i) wr)
   case atStart=>exact ⟨1,i,rfl,Nat.le_refl _,by unfold Is32;omega,rfl,rfl,rfl,rfl⟩
   case round=>
    obtain ⟨k,y,hj,h1,hy,rfl,rfl,ht,rfl⟩:=hrel
    have S:=Lib.hid (fun w=>shift_any y w hy)
    have Y:=Lib.hid (sh_is32 hy)
    have T:Hid (shN gk (sh y)=tab i):=Lib.hid ht
    generalize sh y=z at *
    go_wp2_with fail
    (with_reducible refine (S.out _).mono ?_)
    rintro e w1 ⟨rfl,rfl⟩
    rcases Nat.lt_or_ge k 8 with hlt8|hge8
    ·go_wp2
     go_roundg (gk-1)
     case measure=>omega
     case rel=>exact ⟨k+1,z,by omega,by omega,Y.out,rfl,rfl,by have:=T.out;rwa [show gk=gk-1+1 by omega] at this,rfl⟩
    ·obtain ⟨v,hv⟩:=(H.out.2.1 i hlt).1
     have hz:=(H.out.2.1 i hlt).2
     have E:Hid (z=tab i):=Lib.hid (by have:=T.out;rwa [show gk=0 by omega] at this)
     clear T
     go_wp2
     go_roundg (255-i)
     case measure=>omega
     case rel=>exact fill_next hlt E.out H.out hv
  ·go_wp2
   simp only [Exit.noGoto]
   go_end0
   obtain ⟨hf,ho,ha,hl⟩:=H.out
   exact ⟨rfl,by rwa [show i=256 by omega] at hf,ha,hl⟩
end Go.Proofs.YteempfoajgblaaaGreat
namespace Go.Proofs.YteempfoajgblaaaGreat
theorem disable (w:World):(callFunc 261 #[]).run Tryz.prog w=.ok (.value (.tuple #[])) w:=run_call_mark0 Tryz.func261 (by kernel_rfl) (by kernel_rfl) (by kernel_rfl) .disable (by kernel_rfl) w
theorem enable (w:World):(callFunc 263 #[]).run Tryz.prog w=.ok (.value (.tuple #[])) w:=run_call_mark0 Tryz.func263 (by kernel_rfl) (by kernel_rfl) (by kernel_rfl) .enable (by kernel_rfl) w
theorem acquire (a:Addr) (w:World):(callFunc 264 #[.pointer (some a)]).run Tryz.prog w=.ok (.value (.tuple #[])) w:=run_call_marked Tryz.func264 (by kernel_rfl) (by kernel_rfl) (by kernel_rfl) .acquire (by kernel_rfl) a w
theorem releaseMerge (a:Addr) (w:World):(callFunc 266 #[.pointer (some a)]).run Tryz.prog w=.ok (.value (.tuple #[])) w:=run_call_marked Tryz.func266 (by kernel_rfl) (by kernel_rfl) (by kernel_rfl) .releaseMerge (by kernel_rfl) a w
theorem store_deferred (a:Addr) (x:Value) (u:FrameMode) (w:World) (hc:w.cell? a=some x) (hz:w.frozen? a=false) :
 CallsD Tryz.prog 256 #[.pointer (some a),.bool true] u w fun e u' w'=>u'=u∧(e=.returned (.tuple #[])∧w'=w.drew.setCell a (.int .u32 1)):=by
 have hc':w.drew.cell? a=some x:=by go_simp
 have hz':w.drew.frozen? a=false:=by go_simp
 have hst:=run_call_store (P:=Tryz.prog) Tryz.func259 (by kernel_rfl) (by kernel_rfl) (by kernel_rfl) (by kernel_rfl) (k:=.u32) (y:=1) hc' hz'
 go_enter_d Tryz.func256,Tryz.ntmps256
 go_wp2
 go_region_calls
 all_goals (go_end0;exact ⟨rfl,rfl⟩)
theorem unlock_deferred (a:Addr) (u:FrameMode) (w:World) (hc:w.cell? a=some (.int .i32 1)) (hz:w.frozen? a=false) :
 CallsD Tryz.prog 255 #[.pointer (some a)] u w fun e u' w'=>u'=u∧(e=.returned (.tuple #[])∧w'=w.setCell a (.int .i32 0)):=by
 have hd:=disable
 have he:=enable
 have hr:=releaseMerge
 have hadd:=run_call_add (P:=Tryz.prog) Tryz.func267 (by kernel_rfl) (by kernel_rfl) (by kernel_rfl) .i32 (by kernel_rfl) (y:=-1) (s:=0) hc hz (by simp [go_sem];rfl)
 have hcv:=run_convert_to_unsafe (P:=Tryz.prog) (src:=347) (dst:=329) Tryz.underlying347 Tryz.underlying329 (by kernel_rfl) hc
 go_enter_d Tryz.func255,Tryz.ntmps255
 go_wp2
 go_end0
 go_wp2
 go_end0
 exact ⟨rfl,rfl⟩
theorem lock_free (a:Addr) (w:World) (hc:w.cell? a=some (.int .i32 0)) (hz:w.frozen? a=false) :
 Calls Tryz.prog 254 #[.pointer (some a)] w fun e w'=>e=.returned (.tuple #[])∧w'=w.setCell a (.int .i32 1):=by
 have hd:=disable
 have he:=enable
 have ha:=acquire
 have hcas:=run_call_cas_hit (P:=Tryz.prog) Tryz.func262 (by kernel_rfl) (by kernel_rfl) (by kernel_rfl) .i32 (by kernel_rfl) (y:=1) hc hz
 have hc':(w.setCell a (.int .i32 1)).cell? a=some (.int .i32 1):=World.cell?_setCell_same w a _ hc
 have hcv:=run_convert_to_unsafe (P:=Tryz.prog) (src:=347) (dst:=329) Tryz.underlying347 Tryz.underlying329 (by kernel_rfl) hc'
 go_enter Tryz.func254,Tryz.ntmps254
 go_wp2
 first|go_end0|(simp only [Exit.inBlock,Exit.then];refine bodyPost_ret (results_none rfl _ _ _) rfl ?_)|refine bodyPost_ret (results_none rfl _ _ _) rfl ?_
 go_wp2
 go_end0
 exact ⟨rfl,rfl⟩
end Go.Proofs.YteempfoajgblaaaGreat
namespace Go.Proofs.YteempfoajgblaaaGreat
structure Fresh (w:World) (b:Nat):Prop where
 done:w.cell? ⟨b,0,none⟩=some (.int .u32 0)
 lock:w.cell? ⟨b,1,none⟩=some (.int .i32 0)
 fdone:w.frozen? ⟨b,0,none⟩=false
 flock:w.frozen? ⟨b,1,none⟩=false
 places:Open w b
structure Full (w:World) (b:Nat):Prop where
 done:w.cell? ⟨b,0,none⟩=some (.int .u32 1)
 places:Filled w b 256
def Tbl (w:World) (b:Nat):Prop:=Fresh w b∨Full w b
theorem open_setCell {w:World} {b o:Nat} {v:Value} (h:Open w b) (ho:o<3):Open (w.setCell ⟨b,o,none⟩ v) b:=fun j hj=>by
 obtain ⟨⟨x,hx⟩,hz⟩:=h j hj
 refine ⟨⟨x,?_⟩,by simp [hz]⟩
 rw [World.cell?_setCell_other _ _ _ _ (by first|(simp;done)|(simp;omega))];exact hx
theorem filled_setCell {w:World} {b o n:Nat} {v:Value} (h:Filled w b n) (ho:o<3):Filled (w.setCell ⟨b,o,none⟩ v) b n:=fun j hj=>by
 rw [World.cell?_setCell_other _ _ _ _ (by first|(simp;done)|(simp;omega))];exact h j hj
theorem filled_drew {w:World} {b n:Nat} (h:Filled w b n):Filled w.drew b n:=fun j hj=>by
 rw [World.cell?_drew];exact h j hj
theorem load_zero (a:Addr) (w:World) (h0:w.cell? a=some (.int .u32 0)) :
 Calls Tryz.prog 246 #[.pointer (some a)] w fun e w'=>e=.returned (.bool false)∧w'=w:=by
 have hl:=run_call_load (P:=Tryz.prog) Tryz.func253 (by kernel_rfl) (by kernel_rfl) (by kernel_rfl) .u32 (by kernel_rfl) h0
 go_enter Tryz.func246,Tryz.ntmps246
 go_wp2
 go_ret
 exact ⟨rfl,rfl⟩
theorem load_one (a:Addr) (w:World) (h0:w.cell? a=some (.int .u32 1)) :
 Calls Tryz.prog 246 #[.pointer (some a)] w fun e w'=>e=.returned (.bool true)∧w'=w:=by
 have hl:=run_call_load (P:=Tryz.prog) Tryz.func253 (by kernel_rfl) (by kernel_rfl) (by kernel_rfl) .u32 (by kernel_rfl) h0
 go_enter Tryz.func246,Tryz.ntmps246
 go_wp2
 go_ret
 exact ⟨rfl,rfl⟩
theorem slow_any (b:Nat) (w:World) (h:Fresh w b) :
 Calls Tryz.prog 247 #[.pointer (some ⟨b,0,none⟩),.func (.func 241) #[.pointer (some ⟨b,0,none⟩)] #[]] w fun e w'=>e=.returned (.tuple #[])∧Full w' b∧Apart b w w':=by
 obtain ⟨h0,h1,f0,f1,ho⟩:=h
 have LD:=Lib.hid (load_zero ⟨b,0,none⟩ (w.setCell ⟨b,1,none⟩ (.int .i32 1)) ((World.cell?_setCell_other _ ⟨b,1,none⟩ ⟨b,0,none⟩ _ (by simp)).trans h0))
 have hnot:∀ (x:Bool) (w:World),(Op.unary .not (.bool x)).run Tryz.prog w=.ok (.bool (!x)) w:=fun _ _=>rfl
 have FL:=Lib.hid (fill_any b (w.setCell ⟨b,1,none⟩ (.int .i32 1)) (open_setCell ho (by omega)))
 clear ho
 go_enter_defers Tryz.func247,Tryz.ntmps247
 go_wp2_with (go_at_call 254;refine (lock_free ⟨b,1,none⟩ _ (by go_simp) (by go_simp)).mono ?_;rintro e w' ⟨rfl,rfl⟩)
 (with_reducible refine LD.out.mono ?_)
 rintro e w' ⟨rfl,rfl⟩
 go_wp2_with fail
 (with_reducible refine FL.out.mono ?_)
 rintro e w1 ⟨rfl,hF,hA,hL⟩
 have c0:w1.cell? ⟨b,0,none⟩=some (.int .u32 0):=by rw [hL 0 (by omega),World.cell?_setCell_other _ _ _ _ (by simp)];exact h0
 have c1:w1.cell? ⟨b,1,none⟩=some (.int .i32 1):=by rw [hL 1 (by omega)];exact World.cell?_setCell_same _ _ _ h1
 have z0:w1.frozen? ⟨b,0,none⟩=false:=by rw [hA.frozen];simpa using f0
 have z1:w1.frozen? ⟨b,1,none⟩=false:=by rw [hA.frozen];simpa using f1
 have HA:=Lib.hid (((Apart.refl b w).setCell 1 (.int .i32 1)).trans hA)
 have HF:=Lib.hid hF
 clear hF hA hL FL LD h0 h1 f0 f1
 go_wp2
 -- the two deferred calls,the last laid first
 refine leaves_cons (f:=256) (args:=#[.pointer (some ⟨b,0,none⟩),.bool true]) (by simp) (by simp [go_sem]) ?_
 refine (store_deferred ⟨b,0,none⟩ (.int .u32 0) .returning _ c0 z0).mono ?_
 rintro e u' w'' ⟨rfl,rfl,rfl⟩
 refine leaves_cons (f:=255) (args:=#[.pointer (some ⟨b,1,none⟩)]) (by simp [settle]) (by simp [go_sem]) ?_
 refine (unlock_deferred ⟨b,1,none⟩ _ _ ?_ (by simp [z1])).mono ?_
 · rw [World.cell?_setCell_other _ ⟨b,0,none⟩ ⟨b,1,none⟩ _ (by simp),World.cell?_drew];exact c1
 rintro e u' w'' ⟨rfl,rfl,rfl⟩
 have hE:Full ((w1.drew.setCell ⟨b,0,none⟩ (.int .u32 1)).setCell ⟨b,1,none⟩ (.int .i32 0)) b:=by
  refine ⟨?_,filled_setCell (filled_setCell (filled_drew HF.out) (by omega)) (by omega)⟩
  rw [World.cell?_setCell_other _ ⟨b,1,none⟩ ⟨b,0,none⟩ _ (by simp)]
  exact World.cell?_setCell_same _ _ _ (by rw [World.cell?_drew];exact c0)
 have hP:Apart b w ((w1.drew.setCell ⟨b,0,none⟩ (.int .u32 1)).setCell ⟨b,1,none⟩ (.int .i32 0)):=(HA.out.drew.setCell _ _).setCell _ _
 simp [Leaves,settle,results,Tryz.results247,hE,hP]
theorem do_first (b:Nat) (w:World) (h:Fresh w b) :
 Calls Tryz.prog 240 #[.pointer (some ⟨b,0,none⟩),.func (.func 241) #[.pointer (some ⟨b,0,none⟩)] #[]] w fun e w'=>e=.returned (.tuple #[])∧Full w' b∧Apart b w w':=by
 have LD:=Lib.hid (load_zero ⟨b,0,none⟩ w h.done)
 have SL:=Lib.hid (slow_any b w h)
 have hnot:∀ (x:Bool) (w:World),(Op.unary .not (.bool x)).run Tryz.prog w=.ok (.bool (!x)) w:=fun _ _=>rfl
 go_enter Tryz.func240,Tryz.ntmps240
 go_wp2_with fail
 (with_reducible refine LD.out.mono ?_)
 rintro e w' ⟨rfl,rfl⟩
 go_wp2_with fail
 (with_reducible refine SL.out.mono ?_)
 rintro e w1 ⟨rfl,hF,hA⟩
 go_wp2
 go_end0
 exact ⟨rfl,hF,hA⟩
theorem do_again (b:Nat) (w:World) (fv:Value) (h:Full w b) :
 Calls Tryz.prog 240 #[.pointer (some ⟨b,0,none⟩),fv] w fun e w'=>e=.returned (.tuple #[])∧Full w' b∧Apart b w w':=by
 have LD:=Lib.hid (load_one ⟨b,0,none⟩ w h.done)
 have hnot:∀ (x:Bool) (w:World),(Op.unary .not (.bool x)).run Tryz.prog w=.ok (.bool (!x)) w:=fun _ _=>rfl
 go_enter Tryz.func240,Tryz.ntmps240
 go_wp2_with fail
 (with_reducible refine LD.out.mono ?_)
 rintro e w' ⟨rfl,rfl⟩
 go_wp2
 go_end0
 exact ⟨rfl,h,Apart.refl _ _⟩
theorem do_any (b:Nat) (w:World) (h:Tbl w b) :
 Calls Tryz.prog 240 #[.pointer (some ⟨b,0,none⟩),.func (.func 241) #[.pointer (some ⟨b,0,none⟩)] #[]] w fun e w'=>e=.returned (.tuple #[])∧Full w' b∧Apart b w w':=by
 rcases h with h|h
 · exact do_first b w h
 · exact do_again b w _ h
end Go.Proofs.YteempfoajgblaaaGreat
namespace Go.Proofs.YteempfoajgblaaaGreat
theorem bits_xor8 {x y:Nat} (h:x<256) (k:y<256):bits .xor .u8 (x:Int) (y:Int)=((x ^^^ y:Nat):Int):=u8_xor_nat x y h k
theorem full_drew {w:World} {b:Nat} (h:Full w b):Full w.drew b:=⟨by rw [World.cell?_drew];exact h.done,filled_drew h.places⟩
def MoRel (w:World) (b z:Nat) (s:ByteArray) (g:Nat) (s1 s20:Value) (wx:World):Prop:=∃ i:Nat,i+g=s.size∧s1=.int .u32 (part z s i:Int)∧s20=.int .i64 (i:Int)∧Full wx b∧Apart b w wx
theorem more_any (b x:Nat) (s:ByteArray) (w:World) (ht:Tbl w b) (h:Is32 x) (hs:s.size≤1000) :
 Calls Tryz.prog 229 #[.pointer (some ⟨b,0,none⟩),.int .u32 (x:Int),.string s] w fun e w'=>e=.returned (.int .u32 (more x s:Int))∧Full w' b∧Apart b w w':=by
 have h0:=not32 h
 have hz:Is32 (x ^^^ ones):=is32_xor h is32_ones
 have hE:more x s=part (x ^^^ ones) s s.size ^^^ ones:=by rw [part_all];rfl
 generalize x ^^^ ones=z at *
 generalize more x s=t at *
 have HE:=Lib.hid hE
 have DO:=Lib.hid (do_any b w ht)
 clear hE ht
 have hmf:∀ (fn:Fn) (first cap:Array Value) (w:World),(Instr.makeFunc fn first cap).run Tryz.prog w=.ok (.func fn first cap) w:=fun _ _ _ _=>rfl
 go_enter Tryz.func229,Tryz.ntmps229
 go_wp2_with fail
 (with_reducible refine DO.out.mono ?_)
 rintro e w1 ⟨rfl,hF,hA⟩
 clear DO
 have HF:=Lib.hid hF
 have HA:=Lib.hid hA
 clear hF hA
 go_wp2
 go_loopg [1,20] (s.size) (MoRel w b z s)
 case atStart=>exact ⟨0,by omega,by rw [part_zero],rfl,HF.out,HA.out⟩
 case round=>
  clear h0 h HF HA
  obtain ⟨i,hk,rfl,rfl,hF,hA⟩:=hrel
  have HF:=Lib.hid hF
  have HA:=Lib.hid hA
  clear hA
  rcases Nat.lt_or_ge i s.size with hlt|hge
  ·have bq:=byteAt_eq hlt
   have hc:=byteAt_lt s i
   have hy:=part_is32 hz s i
   have P:=Lib.hid (part_succ z s i hlt)
   generalize byteAt s i=c at *
   generalize part z s i=y at *
   have m1:bits .xor .u8 ((y:Int)%256) (c:Int)=((y%256 ^^^ c:Nat):Int):=bits_xor8 (x:=y%256) (by omega) hc
   have hq:y%256 ^^^ c<256:=Nat.xor_lt_two_pow (n:=8) (by omega) hc
   have cl:=hF.places (y%256 ^^^ c) hq
   have m2:bits .xor .u32 (tab (y%256 ^^^ c):Int) ((y:Int)/256)=(step y c:Int):=bits_xor32 (x:=tab (y%256 ^^^ c)) (y:=y/256) (shN_is32 (by unfold Is32;omega)) (by unfold Is32 at *;omega)
   rw [← P.out] at m2
   have il:(i:Int)<(s.size:Int):=by omega
   generalize y%256 ^^^ c=q at *
   generalize tab q=tq at *
   clear HE hz hF P
   go_wp2
   go_region
   all_goals
    go_wp2
    go_roundg (gk-1)
    case measure=>omega
    case rel=>exact ⟨i+1,by omega,rfl,rfl,full_drew HF.out,HA.out.drew⟩
  ·obtain rfl:i=s.size:=by omega
   have h1:=not32 (part_is32 hz s s.size)
   rw [← HE.out] at h1
   clear HE hz hF
   go_wp2
   go_ret
   exact ⟨rfl,HF.out,HA.out⟩
theorem sum_any (b:Nat) (s:ByteArray) (w:World) (ht:Tbl w b) (hs:s.size≤1000) :
 Calls Tryz.prog 211 #[.pointer (some ⟨b,0,none⟩),.string s] w fun e w'=>e=.returned (.int .u32 (more 0 s:Int))∧Full w' b∧Apart b w w':=by
 have M:Hid (Calls Tryz.prog 229 #[.pointer (some ⟨b,0,none⟩),.int .u32 0,.string s] w fun e w'=>e=.returned (.int .u32 (more 0 s:Int))∧Full w' b∧Apart b w w'):=Lib.hid (more_any b 0 s w ht (by unfold Is32;omega) hs)
 clear ht
 go_enter Tryz.func211,Tryz.ntmps211
 go_wp2_with fail
 (with_reducible refine M.out.mono ?_)
 rintro e w1 ⟨rfl,hF,hA⟩
 go_wp2
 go_ret
 exact ⟨rfl,hF,hA⟩
theorem fresh_new (w:World) (t:TypeId):Fresh (w.alloc (.cells zeroCells t)) w.heap.size:=by
 refine ⟨by simp [go_sem,zeroCells],by simp [go_sem,zeroCells],by simp [go_sem],by simp [go_sem],fun j hj=>⟨⟨.int .u32 0,?_⟩,by simp [go_sem]⟩⟩
 simp [go_sem,zeroCells]
 rw [Array.getElem?_append_right (by simp)]
 simp
 rw [Array.getElem?_replicate,if_pos hj]
end Go.Proofs.YteempfoajgblaaaGreat
namespace Go.Proofs.YteempfoajgblaaaGreat
theorem Fresh.tbl {w:World} {b:Nat} (h:Fresh w b):Tbl w b:=Or.inl h
theorem Apart.far {c B:Nat} {w w':World} (h:Apart c w w') (hc:B≤c) (hs:B≤w.heap.size):Below B w w':=h.below hc hs
end Go.Proofs.YteempfoajgblaaaGreat
