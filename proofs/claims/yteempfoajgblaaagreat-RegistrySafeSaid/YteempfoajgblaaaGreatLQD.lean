/- Contracts of package disk's put and newest, and of the laws' fill. Operations whose run is known, .. -/
import Derived.Test.YteempfoajgblaaaGreatLMDa
import Derived.Deep.AppendLies
import Derived.Lib.AppendZeros
import Derived.Deep.RegionHeld3
import Derived.Test.YteempfoajgblaaaGreatLGnH
import Derived.ChangeOld
import Derived.ShutString
import Derived.ChangeMaps5
import Derived.ChangeSlices
import Derived.Deep.Grids
import Derived.Deep.Slices
import Derived.Laws.Bits128
set_option maxRecDepth 100000
set_option linter.unusedVariables false
set_option linter.unusedSimpArgs false
open Go.ChangeShapes Go.WideShapes Go.ChangeAt Go.RowKit Go.Joins
set_option maxHeartbeats 8000000
namespace Go.Proofs.YteempfoajgblaaaGreat.Dk
theorem sizeByte:(Tryz.prog.info? 5).map (·.size)=some 1:=by kernel_rfl
theorem arrS:Tryz.prog.arrayLen 99=64:=by kernel_rfl
theorem arrSu:Tryz.prog.underlying 99=some (.array (Tryz.prog.arrayLen 99) (Tryz.prog.elem 99)):=by kernel_rfl
theorem arrSe (w:World):(sizeOf (Tryz.prog.elem 99)).run Tryz.prog w=.ok 1 w:=by kernel_rfl
theorem sliceS (b o:Nat) (w:World):(Instr.sliceAt 99 (.pointer (some ⟨b,o,none⟩)) none none none).run Tryz.prog w=.ok (.slice (some ⟨b,o,none⟩) 64 64) w:=by
 rw [run_sliceAt_array_all w _ _ arrSu,arrSe]
 simp only [Result.andThen,slicedAt,arrS]
 simp [Addr.add]
theorem sliceSk (b o k:Nat) (hk:k≤64) (w:World):(Instr.sliceAt 99 (.pointer (some ⟨b,o,none⟩)) none (some (.int .i64 (k:Int))) none).run Tryz.prog w=.ok (.slice (some ⟨b,o,none⟩) k 64) w:=by
 rw [run_sliceAt_array_h w _ _ arrSu .i64 k (by omega) (by rw [arrS];omega),arrSe]
 simp only [Result.andThen,slicedAt,arrS]
 simp [Addr.add]
theorem DkAt.setRow {B b g:Nat} {v:Value} {s:DS} {w:World} (h:DkAt B b g v s w) (S:List (List UInt8)) (hl:S.length=s.sec.length) (hS:∀ x∈S,x.length=64) :
 DkAt B b g v ⟨S,s.opn,s.fail,s.reads⟩ (w.setRow g (Lib.byteCells S.flatten).toArray):=by
 refine ⟨⟨by show S.length≤_;rw [hl];exact h.ok.len,hS,fun p hp=>by show p.1<S.length∧_;rw [hl];exact h.ok.opn p hp⟩,h.hb,h.hg,?_,h.row.put _,h.own.kept (row:=some g) ⟨rfl,rfl,rfl,by simp [World.setRow],fun k _ hk=>setRow_other _ _ _ _ (fun e=>hk (by simp [e]))⟩ ?_⟩
 ·rw [setRow_other _ _ _ _ (fun e=>h.ne e.symm)]
  show _=some (Obj.cells #[.slice (some ⟨g,0,none⟩) S.length S.length,_,_,_] _ _)
  rw [hl]
  exact h.blk
 · exact .inr (fun e=>(h.ownNe e).2 rfl)
theorem put_any (B b g:Nat) (v:Value) (s:DS) (a:Nat) (bs:List UInt8) (k:Nat) (w:World) (h:DkAt B b g v s w) (ha:a<s.sec.length) (hbs:bs.length=64) (hk:k≤64) :
 Calls Tryz.prog 41 #[ptr b,.agg (putCells (a,bs)).toArray,.int .i64 (k:Int)] w fun e w'=>e=.returned (.tuple #[])∧DkAt B b g v ⟨putS s.sec a bs k,s.opn,s.fail,s.reads⟩ w'∧Moved b w w':=by
 have hl:=h.ok.len
 have hlt:=h.lt
 have ha1:(a:Int)<(s.sec.length:Int):=by omega
 have n0:(w.alloc (.cells (putCells (a,bs)).toArray 101)).cell? ⟨w.heap.size,0,none⟩=some (.int .i64 (a:Int)):=by simp [go_sem,putCells]
 have nr:∀ j u,(Lib.byteCells (bs.take k))[j]?=some u→(w.alloc (.cells (putCells (a,bs)).toArray 101)).cell? ((⟨w.heap.size,1,none⟩:Addr).add j)=some u:=by
  intro j u hu
  rw [addr_add]
  have hj:j<k:=by have:=(List.getElem?_eq_some_iff.1 hu).1;rw [byteCells_len,List.length_take] at this;omega
  have e:(Lib.byteCells bs)[j]?=some u:=by
   simp [Lib.byteCells,hj] at hu ⊢;exact hu
  simp [go_sem,putCells,Nat.add_comm 1 j,e]
 have h1:=(h.alloc (.cells (putCells (a,bs)).toArray 101)).drew
 have m1:=((Moved.refl b w).alloc hlt (.cells (putCells (a,bs)).toArray 101)).drew
 generalize (putCells (a,bs)).toArray=C at *
 have lc:(Lib.byteCells (bs.take k)).length=k:=by rw [byteCells_len,List.length_take];omega
 have hfl:s.sec.flatten.length=64*s.sec.length:=flat_len h.ok.sec
 have cp:=run_copy_row (P:=Tryz.prog) (w.alloc (.cells C 101)).drew 84 84 3 5 g (64*a) 64 64 ⟨w.heap.size,1,none⟩ k 64 (Lib.byteCells s.sec.flatten).toArray 99 (Lib.byteCells (bs.take k)) Tryz.underlying84 sizeByte h1.row (by rw [lc];exact (Nat.min_eq_left hk).symm) (fun j u hu=>by rw [World.cell?_drew];exact nr j u hu) (by rw [lc];simp [byteCells_len,hfl];omega) (byteCells_one _)
 have FIN:Hid (DkAt B b g v ⟨putS s.sec a bs k,s.opn,s.fail,s.reads⟩ ((w.alloc (.cells C 101)).drew.setRow g (Lib.byteCells (putS s.sec a bs k).flatten).toArray)∧Moved b w ((w.alloc (.cells C 101)).drew.setRow g (Lib.byteCells (putS s.sec a bs k).flatten).toArray)):=
  Lib.hid ⟨h1.setRow _ (putS_length _ _ _ _) (putS_sec h.ok.sec ha hbs hk),m1.row h.ne (h1.owns.2 (.inr (.inl rfl))) _⟩
 have e2:((Lib.byteCells s.sec.flatten).toArray.toList.take (64*a)++Lib.byteCells (bs.take k)++(Lib.byteCells s.sec.flatten).toArray.toList.drop (64*a+(Lib.byteCells (bs.take k)).length)).toArray=(Lib.byteCells (putS s.sec a bs k).flatten).toArray:=by
  rw [putS_flat h.ok.sec ha hbs hk,lc]
  simp [Lib.byteCells,List.map_take,List.map_drop]
 rw [e2,lc,Nat.mul_comm] at cp
 clear e2
 generalize (Lib.byteCells (putS s.sec a bs k).flatten).toArray=M at *
 have c0:(w.alloc (.cells C 101)).cell? ⟨b,0,none⟩=some (.slice (some ⟨g,0,none⟩) s.sec.length s.sec.length):=by have:=h1.c0;rwa [World.cell?_drew] at this
 have s1:=sliceS g
 have s2:=sliceSk w.heap.size 1 k hk
 clear h h1 m1 nr hfl lc
 go_enter Tryz.func41,Tryz.ntmps41
 go_wp2
 generalize w.alloc (.cells C 101)=W at *
 go_still_tail 11,(by kernel_rfl)
 change wpList _ _ _ _ _ W.drew
 go_wp2
 go_end0
 exact ⟨rfl,FIN.out⟩
theorem zeroS:(∀ w,(zeroValue 99).run Tryz.prog w=.ok (.agg (Lib.byteCells (List.replicate 64 0)).toArray) w)∧(Tryz.prog.info? 99).map (·.size)=some 64:=zero_of_info (by kernel_rfl)
theorem undS:Tryz.prog.underlying 99=some (.array 64 5):=by kernel_rfl
theorem byteA_size {l:List UInt8} (h:l.length=64):(Lib.byteCells l).toArray.size=64:=by simp [Lib.byteCells,h]
theorem results_cell {fn:Func} {p:Tmp} {ty:TypeId} (h:fn.results=#[.cell p ty]) (tmps:Array Value) (P:Program) (w:World) :
 (results fn tmps).run P w=((asAddr (tmps.getD p undef)).run P w).andThen fun a w₁=>(loadVar ty a).run P w₁:=by
 simp only [results,h]
 simp [Sem.run_bind,Result.andThen]
theorem RowB.there {w:World} {g:Nat} {T:TypeId} {l:List UInt8} (h:RowB w g T l) (hl:l.length=64):w.there g 0 64:=fun j hj=>by
 rw [Nat.zero_add,h.cell (by omega)];exact ⟨rfl,h.frozen j⟩
theorem below_setCells {B:Nat} {w0:World} (b:Nat) (hb:B≤b):∀ (vs:List Value) (o:Nat) (w:World),Below B w0 w→Below B w0 (w.setCells b o vs):=by
 intro vs
 induction vs with
 | nil=>intro o w h;exact h
 | cons v vs ih=>intro o w h;exact ih _ _ (h.setCell hb v)
theorem load_back {w:World} {R:Nat} {l:List UInt8} (hl:l.length=64) (ht:w.there R 0 64):(loadVar 99 ⟨R,0,none⟩).run Tryz.prog (w.setCells R 0 (Lib.byteCells l).toArray.toList)=.ok (.agg (Lib.byteCells l).toArray) (w.setCells R 0 (Lib.byteCells l).toArray.toList):=by
 have e:(Lib.byteCells l).toArray.toList=Lib.byteCells l:=by simp
 have hr:(w.setCells R 0 (Lib.byteCells l).toArray.toList).rangeAt R 0 (Lib.byteCells l):=by
  rw [e];exact World.rangeAt_setCells_same w R 0 _ (by rw [byteCells_len,hl];exact ht)
 exact run_loadVar_mid _ R 0 _ _ _ hr undS rfl (by rw [byteCells_len,hl];exact zeroS.2)
theorem ret_sec (tmps:Array Value) (R:Nat) (l:List UInt8) (w:World) (h4:tmps.getD 4 undef=.pointer (some ⟨R,0,none⟩)) (hl:l.length=64) (ht:w.there R 0 64) :
 (results Tryz.f183 tmps).run Tryz.prog (w.setCells R 0 (Lib.byteCells l).toArray.toList)=.ok (.agg (Lib.byteCells l).toArray) (w.setCells R 0 (Lib.byteCells l).toArray.toList):=by
 rw [results_cell rfl,h4]
 exact load_back hl ht
def NwRel (s:DS) (a:Nat) (w W:World) (g:Nat) (s5:Value) (wx:World):Prop:=g≤s.opn.length∧s5=.int .i64 ((g:Int)-1)∧lastOf (s.opn.drop g) a=none∧wx=W
theorem newest_any (B b:Nat) (s:DS) (a:Nat) (w:World) (h:Dk B b s w) (ha:a<s.sec.length) (hn:s.opn.length≤1000000) :
 Calls Tryz.prog 183 #[ptr b,.int .i64 (a:Int)] w fun e w'=>e=.returned (.agg (Lib.byteCells (newestOf s a)).toArray)∧Below w.heap.size w w':=by
 obtain ⟨g,v,h⟩:=h
 have z:=zeroS.1
 have hl:=h.ok.len
 have hlt:=h.lt
 have r0:=rowB_new w (List.replicate 64 0) 99
 have h1:=h.alloc (.cells (Lib.byteCells (List.replicate 64 0)).toArray 99)
 have TH:=Lib.hid (r0.there (by simp))
 have B1:=Lib.hid ((Below.refl w.heap.size w).alloc (Nat.le_refl _) (.cells (Lib.byteCells (List.replicate 64 0)).toArray 99))
 have NL:=Lib.hid (newestOf_length h.ok ha)
 have OPN:=Lib.hid h.ok.opn
 have SEC:=Lib.hid h.ok.sec
 clear r0 h
 generalize (Lib.byteCells (List.replicate 64 0)).toArray=M at *
 have c0:=h1.c0
 have c1:=h1.c1
 obtain ⟨p,cap,hv,hp⟩:∃ p cap,v=.slice p s.opn.length cap∧(0<s.opn.length→∃ k,p=some ⟨k,0,none⟩):=by
  rcases h1.own.2 with ⟨rfl,h0⟩|⟨g',cap,cur,rfl,_⟩
  · exact ⟨none,0,by rw [h0],by omega⟩
  · exact ⟨_,cap,rfl,fun _=>⟨_,rfl⟩⟩
 subst hv
 have H1:=Lib.hid h1
 have HP:=Lib.hid hp
 clear h1 hp
 go_enter Tryz.func183,Tryz.ntmps183
 go_wp2
 generalize hW:w.alloc (.cells M 99)=W at *
 clear hW z
 go_loopg [5] (s.opn.length) (NwRel s a w W)
 case atStart=>exact ⟨Nat.le_refl _,rfl,by simp [lastOf],rfl⟩
 case round=>
  obtain ⟨hg,rfl,hno,rfl⟩:=hrel
  rcases Nat.eq_zero_or_pos gk with rfl|hpos
  ·have E:Hid (newestOf s a=s.sec[a]):=Lib.hid (by
    unfold newestOf
    rw [List.drop_zero] at hno
    rw [hno];simp [ha])
   have R:=Lib.hid (H1.out.sect ha)
   have ha1:(a:Int)<(s.sec.length:Int):=by omega
   have hsl:s.sec[a].length=64:=SEC.out _ (List.getElem_mem ha)
   clear hno
   go_wp2_with (first
    | (refine wpList_load_mid rfl 99 (.tmp 39) rfl g (a*64) rfl (Lib.byteCells s.sec[a]) (.array 64 5) R.out undS rfl (by rw [byteCells_len,hsl];exact zeroS.2) ?_)
    | (refine wpList_store_mid rfl 99 (.tmp 4) (.tmp 40) rfl w.heap.size 0 (Lib.byteCells s.sec[a]).toArray rfl rfl (by rw [byteA_size hsl];exact TH.out) (by rw [byteA_size hsl];exact zeroS.2) (all_oneCell_toArray (byteCells_one _)) ?_))
   refine bodyPost_ret (ret_sec _ w.heap.size s.sec[a] _ rfl hsl TH.out) rfl ⟨by rw [E.out],below_setCells _ (Nat.le_refl _) _ _ _ B1.out⟩
  ·obtain ⟨i,rfl⟩:∃ i,gk=i+1:=⟨gk-1,by omega⟩
   have hi:i<s.opn.length:=by omega
   obtain ⟨k,rfl⟩:=HP.out (by omega)
   have R:=H1.out.put rfl hi
   have hlen:s.opn[i].2.length=64:=(OPN.out _ (List.getElem_mem hi)).2
   have R0:wr.cell? ⟨k,i*65,none⟩=some (.int .i64 (s.opn[i].1:Int)):=by
    have:=R 0 (.int .i64 (s.opn[i].1:Int)) rfl
    rwa [Nat.add_zero] at this
   have R1:=Lib.hid (show wr.rangeAt k (i*65+1) (Lib.byteCells s.opn[i].2) from fun j u hu=>by
    have:=R (j+1) u (by simpa [putCells] using hu)
    rwa [show i*65+1+j=i*65+(j+1) by omega])
   clear R
   have x1:((i+1:Nat):Int)-1=(i:Int):=by omega
   rw [x1]
   by_cases he:s.opn[i].1=a
   ·have E:Hid (newestOf s a=s.opn[i].2):=Lib.hid (by unfold newestOf;rw [lastOf_at hi hno he];rfl)
    have t:((s.opn[i].1:Int)==(a:Int))=true:=by simp [he]
    generalize s.opn[i].1=q at *
    generalize s.opn[i].2=bs at *
    clear hno he x1
    go_wp2_with (first
     | (refine wpList_load_mid rfl 99 (.tmp 32) rfl k (i*65+1) rfl (Lib.byteCells bs) (.array 64 5) R1.out undS rfl (by rw [byteCells_len,hlen];exact zeroS.2) ?_)
     | (refine wpList_store_mid rfl 99 (.tmp 4) (.tmp 33) rfl w.heap.size 0 (Lib.byteCells bs).toArray rfl rfl (by rw [byteA_size hlen];exact TH.out) (by rw [byteA_size hlen];exact zeroS.2) (all_oneCell_toArray (byteCells_one _)) ?_))
    refine bodyPost_ret (ret_sec _ w.heap.size bs _ rfl hlen TH.out) rfl ⟨by rw [E.out],below_setCells _ (Nat.le_refl _) _ _ _ B1.out⟩
   ·have N1:=Lib.hid (lastOf_not hi hno he)
    have t:((s.opn[i].1:Int)==(a:Int))=false:=by simp;omega
    generalize s.opn[i].1=q at *
    clear hno he x1
    go_wp2
    go_roundg i
    case measure=>omega
    case rel=>exact ⟨by omega,rfl,N1.out,rfl⟩
end Go.Proofs.YteempfoajgblaaaGreat.Dk
namespace Go.Proofs.YteempfoajgblaaaGreat.Dk
section
variable {P:Program} {w w':World} {op:Oper} {a:Act} {K:Act→World→Prop} {Q:Exit→Act→World→Prop} {ops:Array Oper} {rest:List Oper} {v:Value}
theorem wp_value (hr:(execOp a.eval op).run P w=.ok (.value v) w') (h:K (a.put op.dst v) w'):op.wp P a w K Q:=by
 unfold Oper.wp;rw [hr];exact h
theorem wp_skip (hr:(execOp a.eval op).run P w=.ok .skip w') (h:K (a.put op.dst undef) w'):op.wp P a w K Q:=by
 unfold Oper.wp;rw [hr];exact h
theorem exec_build {ty:TypeId} {ps:Array (Nat×Operand)} (ho:op.op=.build ty ps) (hr:(Instr.build ty (ps.map fun (i,x)=>(i,a.eval x))).run P w=.ok v w'):(execOp a.eval op).run P w=.ok (.value v) w':=by
 unfold execOp;simp only [ho,Sem.run_bind,hr];rfl
theorem exec_buildSlice {ty:TypeId} {n:Nat} {ps:Array (Nat×Operand)} (ho:op.op=.buildSlice ty n ps) (hr:(Instr.buildSlice ty n (ps.map fun (i,x)=>(i,a.eval x))).run P w=.ok v w'):(execOp a.eval op).run P w=.ok (.value v) w':=by
 unfold execOp;simp only [ho,Sem.run_bind,hr];rfl
theorem exec_buildSlice1 {ty:TypeId} {n:Nat} {x:Operand} {y:Value} (ho:op.op=.buildSlice ty n #[(0,x)]) (hx:a.eval x=y) (hr:(Instr.buildSlice ty n #[(0,y)]).run P w=.ok v w'):(execOp a.eval op).run P w=.ok (.value v) w' :=
 exec_buildSlice ho (by simpa [hx] using hr)
theorem exec_load1 {ty:TypeId} {x:Operand} {q:Addr} (ho:op.op=.load ty x) (hx:a.eval x=.pointer (some q)) (hr:(loadVar ty q).run P w=.ok v w'):(execOp a.eval op).run P w=.ok (.value v) w':=by
 unfold execOp;simp only [ho,hx,Instr.loadAt,Instr.sureAddr,Sem.run_bind,Sem.run_pure,Result.andThen_ok,hr]
theorem wpList_store_new {ty:TypeId} {c c':Array Value} {x y:Operand} (hgd:op.guard=none) (ho:op.op=.store ty x y) (hx:a.eval x=.pointer (some ⟨w.heap.size,0,none⟩)) (hy:a.eval y=.agg c')
 (hi:(P.info? ty).map (·.size)=some c'.size) (hs:c.size=c'.size) (h1:c'.all (·.oneCell')=true) (h:wpList P ops Q rest (a.put op.dst undef) (w.alloc (.cells c' ty))):wpList P ops Q (op :: rest) a (w.alloc (.cells c ty)):=
 wpList_plain hgd fun _ hK=>wp_skip (by unfold execOp;simp only [ho,hx,hy,Sem.run_bind,run_storeAt_new w ty c c' hi hs h1];rfl) (hK _ _ h)
end
theorem fold_laid (l:List Value):∀ (k:Nat) (cells:Array Value),k+l.length≤cells.size →
 ((l.zipIdx k).foldl (fun (cs:Array Value) (p:Value×Nat)=>cs.setIfInBounds (0+p.2) p.1) cells)=(cells.toList.take k++l++cells.toList.drop (k+l.length)).toArray:=by
 induction l with
 | nil=>intro k cells h;simp
 | cons x l ih=>
  intro k cells h
  rw [List.zipIdx_cons,List.foldl_cons,ih (k+1) _ (by simp at h ⊢;omega)]
  congr 1
  simp only [Nat.zero_add,Array.toList_setIfInBounds]
  have:=list_seg_step cells.toList k x l (by simp at h ⊢;omega)
  rw [List.length_cons]
  rw [this]
theorem fill_whole (c cells:Array Value) (h:c.size=cells.size):c.zipIdx.foldl (fun cs (p:Value×Nat)=>cs.setIfInBounds (0+p.2) p.1) cells=c:=by
 have:=fold_laid c.toList 0 cells (by simp [h])
 rw [← Array.foldl_toList,Array.toList_zipIdx,this]
 apply Array.ext'
 simp [h]
theorem run_buildOne {P:Program} (w:World) (t e:TypeId) (z:Value) (size:Nat) (C:Array Value) (ht:P.underlying t=some (.slice e)) (hinfo:(P.info? e).map (fun i=>(i.zero,i.size))=some (some z,size)) (hz:z.cells.size=size) (h0:0<size) (h1:size≤1000) (hC:C.size=size) :
 (Instr.buildSlice t 1 #[(0,.agg C)]).run P w=.ok (.slice (some ⟨w.heap.size,0,none⟩) 1 1) (w.alloc (.cells C e)):=by
 obtain ⟨i,hi,hzz⟩:=Option.map_eq_some_iff.1 hinfo
 simp only [Prod.mk.injEq] at hzz
 obtain ⟨hz',hs⟩:=hzz
 have n1:¬size > 2^24:=by omega
 have n2:¬size=0:=by omega
 have key:Instr.fill (fun i=>some (i*size,size)) ((Array.range size).map (z.cells[· % z.cells.size]!)) [(0,.agg C)]=some C:=by
  simp only [Instr.fill,Value.cells,Nat.zero_mul]
  rw [if_neg (by simp [hC])]
  rw [fill_whole C _ (by simp [hC])]
 simp [Instr.buildSlice,run_underlying ht,sizeOf,typeInfo,hi,hs,zeroValue,hz',n1,n2,newRow]
 simp only [key]
 simp [newRow]
end Go.Proofs.YteempfoajgblaaaGreat.Dk
namespace Go.Proofs.YteempfoajgblaaaGreat.Dk
theorem Dk.mono {A B b:Nat} {s:DS} {w:World} (h:Dk B b s w) (hA:A≤B):Dk A b s w:=by
 obtain ⟨g,v,h⟩:=h
 refine ⟨g,v,h.ok,Nat.le_trans hA h.hb,Nat.le_trans hA h.hg,h.blk,h.row,h.own.1,?_⟩
 rcases h.own.2 with hn|⟨g',cap,cur,e,hB,rest⟩
 · exact .inl hn
 · exact .inr ⟨g',cap,cur,e,Nat.le_trans hA hB,rest⟩
theorem made_rep (m k:Nat) (hm:0<m):madeCells (Lib.byteCells (List.replicate m 0)).toArray k=(Lib.byteCells (List.replicate k 0)).toArray:=by
 apply Array.ext
 · simp [size_madeCells,byteCells_len]
 ·intro i h1 h2
  have:i%m<m:=Nat.mod_lt _ hm
  simp [madeCells,Lib.byteCells,this]
theorem made_sec (n:Nat):madeCells (Lib.byteCells (List.replicate 64 0)).toArray (n*64)=(Lib.byteCells (newR n).sec.flatten).toArray:=by
 rw [made_rep 64 _ (by omega)]
 unfold newR
 rw [List.flatten_replicate_replicate]
theorem infoS:(Tryz.prog.info? 99).map (fun i=>(i.zero,i.size,i.bytes))=some (some (.agg (Lib.byteCells (List.replicate 64 0)).toArray),64,64):=by kernel_rfl
theorem make_sec (n:Nat) (hn:n≤1024) (w:World):(Instr.makeSlice 80 (.int .i64 (n:Int)) (.int .i64 (n:Int))).run Tryz.prog w=.ok (.slice (some ⟨w.heap.size,0,none⟩) n n) (w.alloc (.cells (Lib.byteCells (newR n).sec.flatten).toArray 99)):=by
 obtain ⟨i,hi,hzz⟩:=Option.map_eq_some_iff.1 infoS
 simp only [Prod.mk.injEq] at hzz
 obtain ⟨hz,hs,hb⟩:=hzz
 have:=run_make (P:=Tryz.prog) w 80 99 i _ Tryz.underlying80 hi hz .i64 .i64 n n (by omega) (Int.le_refl _) (by rw [hb];omega) (by omega)
 rw [Int.toNat_natCast,hs] at this
 rw [this,← made_sec]
 rfl
theorem new_yes (n:Nat) (w:World) (h0:1≤n) (h1:n≤1024) :
 Calls Tryz.prog 9 #[.int .i64 (n:Int)] w fun e w'=>e=.returned (ptr (w.heap.size+1))∧Dk w.heap.size (w.heap.size+1) (newR n) w'∧Below w.heap.size w w':=by
 have mk:=make_sec n h1
 have FIN:Hid (Dk w.heap.size (w.heap.size+1) (newR n) ((w.alloc (.cells (Lib.byteCells (newR n).sec.flatten).toArray 99)).alloc (.cells #[.slice (some ⟨w.heap.size,0,none⟩) n n,.slice none 0 0,.int .i64 0,.int .i64 0] 83))∧Below w.heap.size w ((w.alloc (.cells (Lib.byteCells (newR n).sec.flatten).toArray 99)).alloc (.cells #[.slice (some ⟨w.heap.size,0,none⟩) n n,.slice none 0 0,.int .i64 0,.int .i64 0] 83))):=by
  refine Lib.hid ⟨⟨w.heap.size,.slice none 0 0,newR_ok h1,by omega,Nat.le_refl _,?_,?_,World.ownsRow_nil _ _ _ _⟩,((Below.refl _ _).alloc (Nat.le_refl _) _).alloc (by simp) _⟩
  ·have:=heap_alloc_new (w.alloc (.cells (Lib.byteCells (newR n).sec.flatten).toArray 99)) (.cells #[.slice (some ⟨w.heap.size,0,none⟩) n n,.slice none 0 0,.int .i64 0,.int .i64 0] 83)
   simpa [newR] using this
  · exact (rowB_new w _ _).call ((Below.refl _ _).alloc (Nat.le_refl _) _)
 generalize (Lib.byteCells (newR n).sec.flatten).toArray=M at *
 go_enter Tryz.func9,Tryz.ntmps9
 go_wp2
 go_ret
 exact ⟨rfl,FIN.out⟩
theorem newest_read (s:DS) {a:Int} (h0:0≤a) (h1:a<s.sec.length) (hf:s.fail≠1):readR s a=(⟨s.sec,s.opn,s.fail-1,s.reads+1⟩,newestOf s a.toNat,0):=by
 unfold readR;rw [if_pos ⟨h0,h1⟩,if_neg hf]
theorem io_read (s:DS) {a:Int} (h0:0≤a) (h1:a<s.sec.length) (hf:s.fail=1):readR s a=(⟨s.sec,s.opn,0,s.reads+1⟩,[],18):=by
 unfold readR;rw [if_pos ⟨h0,h1⟩,if_pos hf]
theorem arg_read (s:DS) {a:Int} (h:¬(0≤a∧a<s.sec.length)):readR s a=(s,[],1):=by
 unfold readR;rw [if_neg h]
theorem read_any (B b:Nat) (s:DS) (a:Int) (w:World) (h:Dk B b s w) (hr:s.reads≤1000000000) (hn:s.opn.length≤1000000) (hf:s.fail<9223372036854775808) :
 Calls Tryz.prog 148 #[ptr b,.int .i64 a] w fun e w'=>e=.returned (.tuple #[.string (mkB (readR s a).2.1),.int .i64 ((readR s a).2.2:Int)])∧Dk B b (readR s a).1 w'∧Moved b w w':=by
 by_cases hv:0≤a∧a<s.sec.length
 ·obtain ⟨h0,h1⟩:=hv
  have HA:=Lib.hid (has_yes B b s a w h h0 h1)
  obtain ⟨g,v,h⟩:=h
  have c3:=h.c3
  have f3:=h.fz 3
  have hk:=h.setReads (x:=(s.reads:Int)+1) (f:=s.reads+1) (by omega)
  have mk:=Lib.hid (movedReads h ((s.reads:Int)+1))
  have HL:=Lib.hid (newestOf_length (s:=s) h.ok (a:=a.toNat) (by omega))
  clear h
  by_cases hio:s.fail=1
  ·rw [io_read s h0 h1 hio]
   have OP:=Lib.hid (operate_io B b _ _ ⟨g,v,hk⟩ hio)
   clear hk HL hio hf
   generalize hRR:(s.reads:Int)=R at *
   have hR:R≤1000000000:=by omega
   have hR0:0≤R:=by omega
   clear hRR
   go_enter Tryz.func148,Tryz.ntmps148
   go_wp2_with fail
   (with_reducible refine HA.out.mono ?_)
   rintro e w1 ⟨rfl,rfl⟩
   go_wp2_with fail
   (with_reducible refine OP.out.mono ?_)
   rintro e w2 ⟨rfl,k2,m2⟩
   have FIN:=Lib.hid (And.intro k2 (mk.out.trans m2))
   clear k2 m2 mk OP HA c3 f3
   go_wp2
   go_ret2
   exact ⟨rfl,FIN.out⟩
  ·rw [newest_read s h0 h1 hio]
   have OP:=Lib.hid (operate_ok B b _ _ ⟨g,v,hk⟩ hio hf)
   have NW:=Lib.hid (fun w' (h':Dk B b ⟨s.sec,s.opn,s.fail-1,s.reads+1⟩ w')=>newest_any B b _ a.toNat w' h' (show a.toNat<s.sec.length by omega) hn)
   have e1:newestOf ⟨s.sec,s.opn,s.fail-1,s.reads+1⟩ a.toNat=newestOf s a.toNat:=rfl
   rw [e1,show ((a.toNat:Nat):Int)=a by omega] at NW
   clear hk hio hf e1
   generalize newestOf s a.toNat=X at *
   generalize hRR:(s.reads:Int)=R at *
   have hR:R≤1000000000:=by omega
   have hR0:0≤R:=by omega
   clear hRR
   go_enter Tryz.func148,Tryz.ntmps148
   go_wp2_with fail
   (with_reducible refine HA.out.mono ?_)
   rintro e w1 ⟨rfl,rfl⟩
   go_wp2_with fail
   (with_reducible refine OP.out.mono ?_)
   rintro e w2 ⟨rfl,k2,m2⟩
   have m3:=mk.out.trans m2
   clear m2 mk OP HA c3 f3
   go_wp2_with fail
   (with_reducible refine (NW.out _ k2).mono ?_)
   rintro e w3 ⟨rfl,b3⟩
   have k3:=k2.call b3
   have m4:=m3.trans (.of_below b3 k2.lt)
   have FIN:=Lib.hid (And.intro (k3.call ((Below.refl _ _).alloc (Nat.le_refl _) (.cells (Lib.byteCells X).toArray 99))) (m4.alloc k3.lt (.cells (Lib.byteCells X).toArray 99)))
   have r4:=rowB_new w3 X 99
   have hcv:=r4.text 0 64 64 (by rw [HL.out];omega)
   rw [List.drop_zero,List.take_of_length_le (by rw [HL.out];omega)] at hcv
   have z:=zeroS.1
   have zs:=byteA_size (show (List.replicate 64 (0:UInt8)).length=64 by simp)
   have xs:=byteA_size HL.out
   have xo:=Lib.hid (all_oneCell_toArray (byteCells_one X))
   have ss:=sliceS
   clear k2 k3 m3 m4 b3 r4 NW
   generalize (Lib.byteCells (List.replicate 64 0)).toArray=M at *
   generalize (Lib.byteCells X).toArray=XC at *
   have ZS:=Lib.hid zs
   have XS:=Lib.hid xs
   clear zs xs
   go_wp2_with (refine wpList_store_new (c:=M) (c':=XC) rfl rfl rfl rfl (by rw [XS.out];exact zeroS.2) (by rw [ZS.out,XS.out]) xo.out ?_)
   go_ret2
   exact ⟨rfl,FIN.out⟩
 ·have HA:=Lib.hid (has_no B b s a w h hv)
  rw [arg_read s hv]
  have FIN:=Lib.hid (And.intro h (Moved.refl b w))
  clear hv h
  go_enter Tryz.func148,Tryz.ntmps148
  go_wp2_with fail
  (with_reducible refine HA.out.mono ?_)
  rintro e w1 ⟨rfl,rfl⟩
  clear HA
  go_wp2
  go_ret2
  exact ⟨rfl,FIN.out⟩
end Go.Proofs.YteempfoajgblaaaGreat.Dk
namespace Go.Proofs.YteempfoajgblaaaGreat.Dk
theorem zeroW:(∀ w,(zeroValue 101).run Tryz.prog w=.ok (.agg (putCells (0,List.replicate 64 0)).toArray) w)∧(Tryz.prog.info? 101).map (·.size)=some 65:=zero_of_info (by kernel_rfl)
theorem infoW:(Tryz.prog.info? 101).map (fun i=>(i.zero,i.size,i.bytes))=some (some (.agg (putCells (0,List.replicate 64 0)).toArray),65,72):=by kernel_rfl
theorem infoW2:(Tryz.prog.info? 101).map (fun i=>(i.zero,i.size))=some (some (.agg (putCells (0,List.replicate 64 0)).toArray),65):=by kernel_rfl
theorem putA_size {p:Nat×List UInt8} (h:p.2.length=64):(putCells p).toArray.size=65:=by simp [putCells_len h]
theorem copy_w (a:Nat) (s:ByteArray) (hs:s.size=64) (w:World) :
 (Builtin.copy_ #[84,9] 3 #[.slice (some ⟨w.heap.size,1,none⟩) 64 64,.string s]).run Tryz.prog (w.alloc (.cells (putCells (a,List.replicate 64 0)).toArray 101))=.ok (goInt 64) (w.alloc (.cells (putCells (a,s.data.toList)).toArray 101)):=by
 rw [Lib.run_copy_row_string (w.alloc (.cells (putCells (a,List.replicate 64 0)).toArray 101)) 84 9 3 5 w.heap.size 1 64 64 s _ 101 Tryz.underlying84 sizeByte (heap_alloc_new _ _) (by omega) (by simp [putCells,byteCells_len];omega)]
 rw [World.setRow_alloc_new,hs]
 congr 3
 have e:(putCells (a,List.replicate 64 0)).toArray.toList.drop (1+64)=[]:=List.drop_eq_nil_of_le (by simp [putCells,byteCells_len])
 rw [e]
 simp [putCells,Lib.byteCells]
theorem DkAt.wrote {B b g:Nat} {v:Value} {s:DS} {w w1 w2:World} {k cap:Nat} {p:Nat×List UInt8} (h:DkAt B b g v s w) (h1:DkAt B b g v s w1) (m1:Moved b w w1) (hp:p.1<s.sec.length∧p.2.length=64)
 (hown:w2.ownsRow B 101 65 (.slice (some ⟨k,0,none⟩) (s.opn.length+1) cap) (s.opn.length+1) (opnCells s.opn++putCells p)) (hg:w1.grownBy w2 v.ownBlock) (hn:v.ownBlock=some k∨w.heap.size≤k) :
 DkAt B b g (.slice (some ⟨k,0,none⟩) (s.opn.length+1) cap) ⟨s.sec,s.opn++[p],s.fail,s.reads⟩ (w2.setCell ⟨b,1,none⟩ (.slice (some ⟨k,0,none⟩) (s.opn.length+1) cap))∧Moved b w (w2.setCell ⟨b,1,none⟩ (.slice (some ⟨k,0,none⟩) (s.opn.length+1) cap)):=by
 have nb:v.ownBlock≠some b:=fun e=>(h1.ownNe e).1 rfl
 have ng:v.ownBlock≠some g:=fun e=>(h1.ownNe e).2 rfl
 have eb:w2.heap[b]?=w1.heap[b]?:=hg.block b h1.lt (fun e=>nb e.symm)
 have eg:w2.heap[g]?=w1.heap[g]?:=hg.block g h1.row.lt (fun e=>ng e.symm)
 have b2:=eb.trans h1.blk
 obtain ⟨cur,hcur⟩:∃ cur,w2.heap[k]?=some (.cells cur 101 (0,0)):=by
  rcases hown.2 with ⟨e,_⟩|⟨g',cap',cur,e,_,hgg,_⟩
  · simp at e
  · simp at e;obtain ⟨rfl,rfl⟩:=e;exact ⟨cur,hgg⟩
 have kb:k≠b:=by
  rintro rfl
  rw [hcur] at b2
  simp only [Option.some.injEq,Obj.cells.injEq] at b2
  exact absurd b2.2.1 (by decide)
 constructor
 ·refine ⟨⟨h1.ok.len,h1.ok.sec,fun q hq=>?_⟩,h.hb,h.hg,?_,?_,?_⟩
  ·simp only [List.mem_append,List.mem_singleton] at hq
   rcases hq with hq|rfl
   · exact h1.ok.opn q hq
   · exact hp
  · simp [World.setCell,Array.getElem?_modify,b2]
  · exact (h1.row.of_block eg).of_block (Below.heap_setCell _ _ _ _ h1.ne)
  ·have:=hown.kept (row:=some b) (w':=w2.setCell ⟨b,1,none⟩ (.slice (some ⟨k,0,none⟩) (s.opn.length+1) cap)) ⟨rfl,rfl,rfl,by simp [World.setCell],fun k _ hk=>Below.heap_setCell _ _ _ _ (fun e=>hk (by simp [e]))⟩ (.inr (by simp [Value.ownBlock];exact kb))
   show World.ownsRow _ _ _ _ _ (s.opn++[p]).length (opnCells (s.opn++[p]))
   rw [opnCells_snoc,List.length_append]
   exact this
 ·have m2:=m1.grown hg h1.lt nb (fun k hk=>h1.owns.2 (.inr (.inr hk)))
  refine m2.set (x:=v) (by rw [Lib.cell_of_heap b2];rfl) (fun k' hk' _=>?_)
  simp [Value.ownBlock] at hk'
  subst hk'
  rcases hn with e|e
  · exact .inl (h.owns.2 (.inr (.inr e)))
  · exact .inr e
theorem write_ok (B b:Nat) (s:DS) (a:Nat) (t:ByteArray) (w:World) (h:Dk B b s w) (ha:a<s.sec.length) (ht:t.size=64) (hio:s.fail≠1) (hn:s.opn.length≤900000) (hf:s.fail<9223372036854775808) :
 Calls Tryz.prog 189 #[ptr b,.int .i64 (a:Int),.string t] w fun e w'=>e=.returned (.int .i64 0)∧Dk B b ⟨s.sec,s.opn++[(a,t.data.toList)],s.fail-1,s.reads⟩ w'∧Moved b w w':=by
 have HA:=Lib.hid (has_yes B b s (a:Int) w h (by omega) (by omega))
 have OP:=Lib.hid (operate_ok B b s w h hio hf)
 have tl:t.data.toList.length=64:=by rw [← size_list];exact ht
 have hl:=h.ok.len
 clear h
 go_enter Tryz.func189,Tryz.ntmps189
 go_wp2_with fail
 (with_reducible refine HA.out.mono ?_)
 rintro e w1 ⟨rfl,rfl⟩
 go_wp2_with fail
 (with_reducible refine OP.out.mono ?_)
 rintro e w2 ⟨rfl,k2,m2⟩
 clear HA OP
 have z:=zeroW.1
 have cw:=copy_w a t ht w2
 have ss:=sliceS w2.heap.size 1
 have z1:=putA_size (p:=(0,List.replicate 64 0)) (by simp)
 have z2:=putA_size (p:=(a,List.replicate 64 0)) (by simp)
 have o2:=all_oneCell_toArray (putCells_one (a,List.replicate 64 0))
 have eZ:(putCells (a,List.replicate 64 0)).toArray=(putCells (0,List.replicate 64 0)).toArray.setIfInBounds 0 (.int .i64 (a:Int)):=by simp [putCells]
 rw [eZ] at cw z2 o2
 clear eZ
 generalize (putCells (0,List.replicate 64 0)).toArray=Z at *
 have Z2:=Lib.hid z2
 have O2:=Lib.hid o2
 have nz:¬Z=#[]:=by rintro rfl;simp at z1
 clear z2 o2
 obtain ⟨PC,hPC⟩:∃ PC,PC=(putCells (a,t.data.toList)).toArray:=⟨_,rfl⟩
 have PS:=Lib.hid (show PC.size=65 by rw [hPC];exact putA_size tl)
 have PL:=Lib.hid (putCells_len (p:=(a,t.data.toList)) tl)
 rw [← hPC] at cw
 have HPC:=Lib.hid hPC
 have k3:=k2.call ((Below.refl _ _).alloc (Nat.le_refl _) (.cells PC 101))
 have m3:=(m2.alloc k2.lt (.cells PC 101)).drew
 have R0:(w2.alloc (.cells PC 101)).drew.rangeAt w2.heap.size 0 (putCells (a,t.data.toList)):=fun j u hu=>by
  rw [World.cell?_drew,Nat.zero_add,Lib.cell_of_heap (heap_alloc_new _ _),hPC]
  simpa using hu
 have hw1:w1.heap.size≤w2.heap.size:=m2.size
 clear hPC
 have hz1:Z.size=(Z.setIfInBounds 0 (.int .i64 (a:Int))).size:=by simp
 go_wp2_with (first
  | (refine wpList_store_new (c:=Z) (c':=Z.setIfInBounds 0 (.int .i64 (a:Int))) rfl rfl rfl rfl (by rw [Z2.out];exact zeroW.2) hz1 O2.out ?_))
 generalize Z.setIfInBounds 0 (.int .i64 (a:Int))=ZA at *
 clear cw ss z z1 Z2 O2 nz hz1 k2 m2
 obtain ⟨g,v,k3⟩:=k3
 replace k3:=k3.drew
 have RR:=Lib.hid R0
 clear R0
 generalize w2.alloc (.cells PC 101)=W at *
 generalize w2.heap.size=N at *
 have k4:=k3.alloc (.cells PC 101)
 have a57:∀ (w:World),w.cell? ⟨b,1,none⟩=some v→(loadVar 81 ⟨b,1,none⟩).run Tryz.prog w=.ok v w:=by
  intro w hc
  go_simp
 have cA:=Lib.hid (a57 _ k3.c1)
 have cB:=Lib.hid (a57 _ k4.c1)
 clear a57
 obtain ⟨q,cap,w4,hap,hown,hgrow,hnew⟩:=append_one (P:=Tryz.prog) (W.drew.alloc (.cells PC 101)) B 81 81 101 _ 65 72 Tryz.underlying81 infoW (putA_size (by simp)) (by omega) (by omega) v s.opn.length (opnCells s.opn) k4.own ⟨W.drew.heap.size,0,none⟩ (putCells (a,t.data.toList)) PL.out (fun j u hu=>by
  rw [addr_add,Nat.zero_add,Lib.cell_of_heap (heap_alloc_new W.drew _),HPC.out];simpa using hu) (putCells_one _) (by omega) k4.le
 have nb:v.ownBlock≠some b:=fun e=>(k4.ownNe e).1 rfl
 have b4:=(hgrow.block b k4.lt (fun e=>nb e.symm)).trans k4.blk
 have FN:=k3.wrote k4 ((Moved.refl b W.drew).alloc k3.lt _) (p:=(a,t.data.toList)) ⟨ha,tl⟩ hown hgrow (hnew.imp id (fun e=>by simp at e;exact Nat.le_of_succ_le e))
 have FIN:=Lib.hid (And.intro (show Dk B b _ _ from ⟨_,_,FN.1⟩) (m3.trans FN.2))
 have d1:w4.cell? ⟨b,1,none⟩=some v:=by rw [Lib.cell_of_heap b4];rfl
 have f1:w4.frozen? ⟨b,1,none⟩=false:=Lib.frozen_of_heap b4 1
 have AP:=Lib.hid hap
 clear FN hap hown hgrow hnew nb b4 k4 k3 m3 hw1 tl ht
 -- (the region,by dkw.py)
 refine wp_region_any (by kernel_rfl) ?_
 (try (change wpAny _ _ _ _ _ _ _ (World.drew _)))
 refine Gh.tka 0 ?_
 refine Gh.tka 1 ?_
 refine Gh.tka 2 ?_
 refine Gh.tka 3 ?_
 refine wpAny_ready (rs:=[4,5]) (by kernel_rfl) (by simp) ?_
 refine AllReady.cons rfl (fun K hK=>?_) ?_
 ·rw [if_pos (by rfl)]
  refine wp_value (v:=v) (w':=_) (exec_load1 rfl rfl cA.out) (hK _ _ ?_)
  clear hK K
  refine Gh.pta ?_
  refine Gh.rda 5 (fun K hK=>?_)
  rw [if_pos (by rfl)]
  refine wp_load_mid 101 (.tmp 8) rfl N 0 rfl (putCells (a,t.data.toList)) _ RR.out Tryz.underlying101 rfl (by rw [PL.out];exact zeroW.2) (hK _ _ ?_)
  rw [← HPC.out]
  clear hK K
  refine Gh.pta ?_
  refine Gh.rda 6 (fun K hK=>?_)
  rw [if_pos (by rfl)]
  refine wp_value (exec_buildSlice1 rfl rfl (run_buildOne _ 81 101 _ 65 PC Tryz.underlying81 infoW2 (putA_size (by simp)) (by omega) (by omega) PS.out)) (hK _ _ ?_)
  clear hK K
  refine Gh.pta ?_
  refine Gh.rda 7 (fun K hK=>?_)
  rw [if_pos (by rfl)]
  refine Lib.wp_append_run _ _ _ _ _ rfl _ _ rfl rfl _ _ AP.out (hK _ _ ?_)
  clear hK K
  refine Gh.pta ?_
  refine Gh.tka 8 ?_
  refine Gh.tka 9 ?_
  refine Gh.rda 10 (fun K hK=>?_)
  rw [if_pos (by rfl)]
  go_simp
  refine hK _ _ ?_
  clear hK K
  refine Gh.pta ?_
  refine wpAny_done (by kernel_rfl) ?_ _
  go_wp2
  go_ret
  exact ⟨rfl,FIN.out⟩
 refine AllReady.cons rfl (fun K hK=>?_) ?_
 ·rw [if_pos (by rfl)]
  refine wp_load_mid 101 (.tmp 8) rfl N 0 rfl (putCells (a,t.data.toList)) _ RR.out Tryz.underlying101 rfl (by rw [PL.out];exact zeroW.2) (hK _ _ ?_)
  rw [← HPC.out]
  clear hK K
  refine Gh.pta ?_
  refine wpAny_ready (rs:=[4,6]) (by kernel_rfl) (by simp) ?_
  refine AllReady.cons rfl (fun K hK=>?_) ?_
  ·rw [if_pos (by rfl)]
   refine wp_value (v:=v) (w':=_) (exec_load1 rfl rfl cA.out) (hK _ _ ?_)
   clear hK K
   refine Gh.pta ?_
   refine Gh.rda 6 (fun K hK=>?_)
   rw [if_pos (by rfl)]
   refine wp_value (exec_buildSlice1 rfl rfl (run_buildOne _ 81 101 _ 65 PC Tryz.underlying81 infoW2 (putA_size (by simp)) (by omega) (by omega) PS.out)) (hK _ _ ?_)
   clear hK K
   refine Gh.pta ?_
   refine Gh.rda 7 (fun K hK=>?_)
   rw [if_pos (by rfl)]
   refine Lib.wp_append_run _ _ _ _ _ rfl _ _ rfl rfl _ _ AP.out (hK _ _ ?_)
   clear hK K
   refine Gh.pta ?_
   refine Gh.tka 8 ?_
   refine Gh.tka 9 ?_
   refine Gh.rda 10 (fun K hK=>?_)
   rw [if_pos (by rfl)]
   go_simp
   refine hK _ _ ?_
   clear hK K
   refine Gh.pta ?_
   refine wpAny_done (by kernel_rfl) ?_ _
   go_wp2
   go_ret
   exact ⟨rfl,FIN.out⟩
  refine AllReady.cons rfl (fun K hK=>?_) ?_
  ·rw [if_pos (by rfl)]
   refine wp_value (exec_buildSlice1 rfl rfl (run_buildOne _ 81 101 _ 65 PC Tryz.underlying81 infoW2 (putA_size (by simp)) (by omega) (by omega) PS.out)) (hK _ _ ?_)
   clear hK K
   refine Gh.pta ?_
   refine Gh.rda 4 (fun K hK=>?_)
   rw [if_pos (by rfl)]
   refine wp_value (v:=v) (w':=_) (exec_load1 rfl rfl cB.out) (hK _ _ ?_)
   clear hK K
   refine Gh.pta ?_
   refine Gh.rda 7 (fun K hK=>?_)
   rw [if_pos (by rfl)]
   refine Lib.wp_append_run _ _ _ _ _ rfl _ _ rfl rfl _ _ AP.out (hK _ _ ?_)
   clear hK K
   refine Gh.pta ?_
   refine Gh.tka 8 ?_
   refine Gh.tka 9 ?_
   refine Gh.rda 10 (fun K hK=>?_)
   rw [if_pos (by rfl)]
   go_simp
   refine hK _ _ ?_
   clear hK K
   refine Gh.pta ?_
   refine wpAny_done (by kernel_rfl) ?_ _
   go_wp2
   go_ret
   exact ⟨rfl,FIN.out⟩
  exact AllReady.nil
 exact AllReady.nil
 -- (its end)
theorem write_io (B b:Nat) (s:DS) (a:Nat) (t:ByteArray) (w:World) (h:Dk B b s w) (ha:a<s.sec.length) (ht:t.size=64) (hio:s.fail=1) :
 Calls Tryz.prog 189 #[ptr b,.int .i64 (a:Int),.string t] w fun e w'=>e=.returned (.int .i64 18)∧Dk B b ⟨s.sec,s.opn,0,s.reads⟩ w'∧Moved b w w':=by
 have HA:=Lib.hid (has_yes B b s (a:Int) w h (by omega) (by omega))
 have OP:=Lib.hid (operate_io B b s w h hio)
 clear h hio
 go_enter Tryz.func189,Tryz.ntmps189
 go_wp2_with fail
 (with_reducible refine HA.out.mono ?_)
 rintro e w1 ⟨rfl,rfl⟩
 go_wp2_with fail
 (with_reducible refine OP.out.mono ?_)
 rintro e w2 ⟨rfl,hk⟩
 have FIN:=Lib.hid hk
 clear HA OP hk
 go_wp2
 go_ret
 exact ⟨rfl,FIN.out⟩
theorem write_arg (B b:Nat) (s:DS) (a:Int) (t:ByteArray) (w:World) (h:Dk B b s w) (hv:¬((0≤a∧a<s.sec.length)∧t.size=64)) :
 Calls Tryz.prog 189 #[ptr b,.int .i64 a,.string t] w fun e w'=>e=.returned (.int .i64 1)∧Dk B b s w'∧Moved b w w':=by
 have FIN:=Lib.hid (And.intro h (Moved.refl b w))
 by_cases hh:0≤a∧a<s.sec.length
 ·have HA:=Lib.hid (has_yes B b s a w h hh.1 hh.2)
  have ht:t.size≠64:=fun e=>hv ⟨hh,e⟩
  have t1:((t.size:Int)==64)=false:=by simp;omega
  have t2:((t.size:Int) != 64)=true:=by simp;omega
  clear hv h hh
  go_enter Tryz.func189,Tryz.ntmps189
  go_wp2_with fail
  (with_reducible refine HA.out.mono ?_)
  rintro e w1 ⟨rfl,rfl⟩
  clear HA
  go_wp2
  go_ret
  exact ⟨rfl,FIN.out⟩
 ·have HA:=Lib.hid (has_no B b s a w h hh)
  clear hv h hh
  go_enter Tryz.func189,Tryz.ntmps189
  go_wp2_with fail
  (with_reducible refine HA.out.mono ?_)
  rintro e w1 ⟨rfl,rfl⟩
  clear HA
  go_wp2
  go_ret
  exact ⟨rfl,FIN.out⟩
theorem write_any (B b:Nat) (s:DS) (a:Int) (t:ByteArray) (w:World) (h:Dk B b s w) (hn:s.opn.length≤900000) (hf:s.fail<9223372036854775808) :
 Calls Tryz.prog 189 #[ptr b,.int .i64 a,.string t] w fun e w'=>e=.returned (.int .i64 ((writeR s a t.data.toList).2:Int))∧Dk B b (writeR s a t.data.toList).1 w'∧Moved b w w':=by
 unfold writeR
 by_cases hv:(0≤a∧a<s.sec.length)∧t.size=64
 ·rw [if_pos (by rw [← size_list];exact hv)]
  obtain ⟨⟨h0,h1⟩,ht⟩:=hv
  have ea:((a.toNat:Nat):Int)=a:=by omega
  by_cases hio:s.fail=1
  ·rw [if_pos hio]
   have:=write_io B b s a.toNat t w h (by omega) ht hio
   rw [ea] at this
   exact this
  ·rw [if_neg hio]
   have:=write_ok B b s a.toNat t w h (by omega) ht hio hn hf
   rw [ea] at this
   exact this
 ·rw [if_neg (by rw [← size_list];exact hv)]
  exact write_arg B b s a t w h hv
end Go.Proofs.YteempfoajgblaaaGreat.Dk
namespace Go.Proofs.YteempfoajgblaaaGreat.Dk
theorem DkAt.shut {B b g:Nat} {v:Value} {s:DS} {w:World} (h:DkAt B b g v s w):DkAt B b g (.slice none 0 0) ⟨s.sec,[],s.fail,s.reads⟩ (w.setCell ⟨b,1,none⟩ (.slice none 0 0))∧Moved b w (w.setCell ⟨b,1,none⟩ (.slice none 0 0)):=by
 refine ⟨⟨⟨h.ok.len,h.ok.sec,fun p hp=>by cases hp⟩,h.hb,h.hg,by simp [World.setCell,Array.getElem?_modify,h.blk],h.row.of_block (Below.heap_setCell _ _ _ _ h.ne),World.ownsRow_nil _ _ _ _⟩,?_⟩
 exact (Moved.refl b w).set h.c1 (fun k hk _=>by simp [Value.ownBlock] at hk)
def FlRel (B b g:Nat) (v:Value) (s:DS) (w:World) (m:Nat) (s18:Value) (wx:World):Prop:=
 ∃ i:Nat,i+m=s.opn.length∧s18=.int .i64 (i:Int)∧DkAt B b g v ⟨laid s.sec s.opn (fun _=>64) i,s.opn,s.fail,s.reads⟩ wx∧Moved b w wx
theorem DkAt.vform {B b g:Nat} {v:Value} {s:DS} {w:World} (h:DkAt B b g v s w):∃ p cap,v=.slice p s.opn.length cap∧s.opn.length≤cap∧(0<s.opn.length→∃ k,p=some ⟨k,0,none⟩):=by
 rcases h.own.2 with ⟨rfl,h0⟩|⟨g',cap,cur,rfl,_,_,hc,_⟩
 · exact ⟨none,0,by rw [h0],by omega,by omega⟩
 · exact ⟨_,cap,rfl,hc,fun _=>⟨_,rfl⟩⟩
theorem laid_next {B b g:Nat} {v:Value} {s:DS} {w:World} {k:Nat→Nat} {i:Nat} (hi:i<s.opn.length) (h:DkAt B b g v ⟨putS (laid s.sec s.opn k i) s.opn[i].1 s.opn[i].2 (k i),s.opn,s.fail,s.reads⟩ w):DkAt B b g v ⟨laid s.sec s.opn k (i+1),s.opn,s.fail,s.reads⟩ w:=by
 rw [laid_succ hi];exact h
theorem put_round {B b g:Nat} {v:Value} {s:DS} {k:Nat→Nat} {i:Nat} {wr:World} (hk:DkAt B b g v ⟨laid s.sec s.opn k i,s.opn,s.fail,s.reads⟩ wr) (hok:s.Ok) (hi:i<s.opn.length) (h64:k i≤64) (o:Obj) :
 Calls Tryz.prog 41 #[ptr b,.agg (putCells s.opn[i]).toArray,.int .i64 (k i:Int)] (wr.alloc o) fun e w'=>e=.returned (.tuple #[])∧DkAt B b g v ⟨laid s.sec s.opn k (i+1),s.opn,s.fail,s.reads⟩ w'∧Moved b wr w':=by
 have hp:=hok.opn _ (List.getElem_mem hi)
 refine (put_any B b g v _ s.opn[i].1 s.opn[i].2 (k i) (wr.alloc o) (hk.alloc o) (by show _<(laid _ _ _ _).length;rw [laid_length];exact hp.1) hp.2 h64).mono ?_
 rintro e w' ⟨he,h1,m1⟩
 exact ⟨he,laid_next hi h1,((Moved.refl b wr).alloc hk.lt o).trans m1⟩
theorem flush_ok (B b:Nat) (s:DS) (w:World) (h:Dk B b s w) (hio:s.fail≠1) (hn:s.opn.length≤1000000) (hf:s.fail<9223372036854775808) :
 Calls Tryz.prog 123 #[ptr b] w fun e w'=>e=.returned (.int .i64 0)∧Dk B b ⟨flushedS s,[],s.fail-1,s.reads⟩ w'∧Moved b w w':=by
 have OP:=Lib.hid (operate_ok B b s w h hio hf)
 have hl:=h.ok.len
 clear h
 have EX:Hid (∀ w',Dk B b ⟨flushedS ⟨s.sec,s.opn,s.fail-1,s.reads⟩,[],s.fail-1,s.reads⟩ w'→Dk B b ⟨flushedS s,[],s.fail-1,s.reads⟩ w'):=Lib.hid (fun w' h=>h)
 go_enter Tryz.func123,Tryz.ntmps123
 go_wp2_with fail
 (with_reducible refine OP.out.mono ?_)
 rintro e w1 ⟨rfl,⟨g,v,k1⟩,m1⟩
 clear OP
 have EX2:Hid (∀ w' u,DkAt B b g u ⟨flushedS ⟨s.sec,s.opn,s.fail-1,s.reads⟩,[],(DS.mk s.sec s.opn (s.fail-1) s.reads).fail,(DS.mk s.sec s.opn (s.fail-1) s.reads).reads⟩ w'→Dk B b ⟨flushedS s,[],s.fail-1,s.reads⟩ w'):=Lib.hid (fun w' u h=>EX.out w' ⟨g,u,h⟩)
 clear EX
 obtain ⟨s2,hs2⟩:∃ s2:DS,s2=⟨s.sec,s.opn,s.fail-1,s.reads⟩:=⟨_,rfl⟩
 rw [← hs2] at k1 EX2
 have hn2:s2.opn.length≤1000000:=by rw [hs2];exact hn
 clear hs2
 have c1:=k1.c1
 have OK:=Lib.hid k1.ok
 obtain ⟨p,cap,rfl,hcap,hp⟩:=k1.vform
 have HP:=Lib.hid hp
 have K1:=Lib.hid (And.intro k1 m1)
 clear k1 m1 hp
 generalize hL:s2.opn.length=L at *
 have HL:=Lib.hid hL
 clear hL
 go_wp2
 clear c1
 go_loopg [18] L (FlRel B b g (.slice p L cap) s2 w)
 case atStart=>exact ⟨0,by rw [HL.out];omega,rfl,K1.out.1,K1.out.2⟩
 case round=>
  clear K1
  obtain ⟨i,hi,rfl,hk,hm⟩:=hrel
  have hl2:=HL.out
  rcases Nat.lt_or_ge i L with hlt|hge
  ·have hlt':i<s2.opn.length:=by omega
   obtain ⟨k,rfl⟩:=HP.out (by omega)
   have R:=Lib.hid (DkAt.put hk (show _=Value.slice (some ⟨k,0,none⟩) s2.opn.length cap by rw [hl2]) hlt')
   have PL:=Lib.hid (putCells_len (OK.out.opn _ (List.getElem_mem hlt')).2)
   have PU:Hid (∀ o,Calls Tryz.prog 41 #[ptr b,.agg (putCells s2.opn[i]).toArray,.int .i64 64] (wr.alloc o) fun e w'=>e=.returned (.tuple #[])∧DkAt B b g (.slice (some ⟨k,0,none⟩) L cap) ⟨laid s2.sec s2.opn (fun _=>64) (i+1),s2.opn,s2.fail,s2.reads⟩ w'∧Moved b wr w'):=Lib.hid (fun o=>put_round (k:=fun _=>64) hk OK.out hlt' (Nat.le_refl _) o)
   have M:=Lib.hid hm
   have PO:=Lib.hid (all_oneCell_toArray (putCells_one s2.opn[i]))
   have PS:=Lib.hid (show (putCells s2.opn[i]).toArray.size=65 by simp [PL.out])
   have R2:=Lib.hid (show (wr.alloc (.cells (putCells s2.opn[i]).toArray 101)).rangeAt wr.heap.size 0 (putCells s2.opn[i]) from fun j u hu=>by
    rw [Nat.zero_add,Lib.cell_of_heap (heap_alloc_new _ _)];simpa using hu)
   have z:=zeroW.1
   have z1:=Lib.hid (putA_size (p:=(0,List.replicate 64 0)) (by simp))
   have il:(i:Int)<(L:Int):=by omega
   have HI:=Lib.hid hi
   have hg0:0<gk:=by omega
   clear hk hm hl2 HL hi
   generalize s2.opn[i]=pw at *
   clear hlt'
   generalize (putCells (0,List.replicate 64 0)).toArray=Z at *
   go_wp2_with (first
    | (refine wpList_load_mid rfl 101 (.tmp 20) rfl k (i*65) rfl (putCells pw) _ R.out Tryz.underlying101 rfl (by rw [PL.out];exact zeroW.2) ?_)
    | (refine wpList_store_new (c:=Z) (c':=(putCells pw).toArray) rfl rfl rfl rfl (by rw [PS.out];exact zeroW.2) (by rw [z1.out,PS.out]) PO.out ?_)
    | (refine wpList_load_mid rfl 101 (.tmp 5) rfl wr.heap.size 0 rfl (putCells pw) _ R2.out Tryz.underlying101 rfl (by rw [PL.out];exact zeroW.2) ?_)
    | ((with_reducible refine (PU.out _).mono ?_);rintro e w3 ⟨rfl,k3,m3⟩;(have K3:=Lib.hid (And.intro k3 (M.out.trans m3)));clear k3 m3))
   go_roundg (gk-1)
   case measure=>omega
   case rel=>exact ⟨i+1,by have:=HI.out;omega,by go_num,K3.out⟩
  ·obtain rfl:i=L:=by omega
   have c1:=hk.c1
   have f1:=hk.fz 1
   have FIN:=Lib.hid (And.intro (EX2.out _ _ (by have:=hk.shut.1;rw [← hl2] at this;exact this)) (hm.trans hk.shut.2))
   clear hk hm hl2 EX2
   go_wp2
   go_ret
   exact ⟨rfl,FIN.out⟩
theorem flush_io (B b:Nat) (s:DS) (w:World) (h:Dk B b s w) (hio:s.fail=1) :
 Calls Tryz.prog 123 #[ptr b] w fun e w'=>e=.returned (.int .i64 18)∧Dk B b ⟨s.sec,s.opn,0,s.reads⟩ w'∧Moved b w w':=by
 have OP:=Lib.hid (operate_io B b s w h hio)
 clear h hio
 go_enter Tryz.func123,Tryz.ntmps123
 go_wp2_with fail
 (with_reducible refine OP.out.mono ?_)
 rintro e w1 ⟨rfl,hk⟩
 have FIN:=Lib.hid hk
 clear OP hk
 go_wp2
 go_ret
 exact ⟨rfl,FIN.out⟩
theorem flush_any (B b:Nat) (s:DS) (w:World) (h:Dk B b s w) (hn:s.opn.length≤1000000) (hf:s.fail<9223372036854775808) :
 Calls Tryz.prog 123 #[ptr b] w fun e w'=>e=.returned (.int .i64 ((flushR s).2:Int))∧Dk B b (flushR s).1 w'∧Moved b w w':=by
 unfold flushR
 by_cases hio:s.fail=1
 · rw [if_pos hio];exact flush_io B b s w h hio
 · rw [if_neg hio];exact flush_ok B b s w h hio hn hf
end Go.Proofs.YteempfoajgblaaaGreat.Dk
namespace Go.Proofs.YteempfoajgblaaaGreat.Dk
def In64 (z:Int):Prop:=-9223372036854775808≤z∧z≤9223372036854775807
def Fats (ao:Option Addr) (fs:List (Int×Int)) (w:World):Prop:=
 (∀ p∈fs,In64 p.1∧In64 p.2)∧(0<fs.length→∃ b off,ao=some ⟨b,off,none⟩∧b<w.heap.size∧∀ i (h:i<fs.length),w.cell? ⟨b,off+i*2,none⟩=some (.int .i64 fs[i].1)∧w.cell? ⟨b,off+i*2+1,none⟩=some (.int .i64 fs[i].2))
theorem Fats.of_blocks {ao:Option Addr} {fs:List (Int×Int)} {w w':World} (h:Fats ao fs w) (hs:w.heap.size≤w'.heap.size) (e:∀ k off,ao=some ⟨k,off,none⟩→k<w.heap.size→w'.heap[k]?=w.heap[k]?):Fats ao fs w':=by
 refine ⟨h.1,fun h0=>?_⟩
 obtain ⟨b,off,rfl,hb,hc⟩:=h.2 h0
 have eb:=e b off rfl hb
 exact ⟨b,off,rfl,by omega,fun i hi=>⟨(World.cell?_of_block (w:=w) eb).trans (hc i hi).1,(World.cell?_of_block (w:=w) eb).trans (hc i hi).2⟩⟩
def Off (ao:Option Addr) (b:Nat) (w:World):Prop:=∀ k off,ao=some ⟨k,off,none⟩→¬Own w b k
theorem Fats.moved {ao:Option Addr} {fs:List (Int×Int)} {b:Nat} {w w':World} (h:Fats ao fs w) (m:Moved b w w') (ho:Off ao b w):Fats ao fs w' :=
 h.of_blocks m.size fun k off e hk=>m.block k hk (ho k off e)
theorem reset_blk {w:World} {b:Nat} {x0 x1 x2 x3 y0 y1 y2 y3:Value} {T:TypeId} (h:w.heap[b]?=some (.cells #[x0,x1,x2,x3] T (0,0))) :
 ((((w.setCell ⟨b,0,none⟩ y0).setCell ⟨b,1,none⟩ y1).setCell ⟨b,2,none⟩ y2).setCell ⟨b,3,none⟩ y3).heap[b]?=some (.cells #[y0,y1,y2,y3] T (0,0)):=by
 simp [World.setCell,Array.getElem?_modify,h]
theorem reset_other {w:World} {b k:Nat} {y0 y1 y2 y3:Value} (h:k≠b):((((w.setCell ⟨b,0,none⟩ y0).setCell ⟨b,1,none⟩ y1).setCell ⟨b,2,none⟩ y2).setCell ⟨b,3,none⟩ y3).heap[k]?=w.heap[k]?:=by
 rw [Below.heap_setCell _ _ _ _ h,Below.heap_setCell _ _ _ _ h,Below.heap_setCell _ _ _ _ h,Below.heap_setCell _ _ _ _ h]
theorem DkAt.reset {B b g:Nat} {v:Value} {s:DS} {w:World} (h:DkAt B b g v s w) :
 DkAt B b g (.slice none 0 0) ⟨s.sec,[],0,0⟩ ((((w.setCell ⟨b,0,none⟩ (.slice (some ⟨g,0,none⟩) s.sec.length s.sec.length)).setCell ⟨b,1,none⟩ (.slice none 0 0)).setCell ⟨b,2,none⟩ (.int .i64 0)).setCell ⟨b,3,none⟩ (.int .i64 0)) ∧
 Moved b w ((((w.setCell ⟨b,0,none⟩ (.slice (some ⟨g,0,none⟩) s.sec.length s.sec.length)).setCell ⟨b,1,none⟩ (.slice none 0 0)).setCell ⟨b,2,none⟩ (.int .i64 0)).setCell ⟨b,3,none⟩ (.int .i64 0)):=by
 have d:DkAt B b g (.slice none 0 0) ⟨s.sec,[],0,0⟩ ((((w.setCell ⟨b,0,none⟩ (.slice (some ⟨g,0,none⟩) s.sec.length s.sec.length)).setCell ⟨b,1,none⟩ (.slice none 0 0)).setCell ⟨b,2,none⟩ (.int .i64 0)).setCell ⟨b,3,none⟩ (.int .i64 0)):=
  ⟨⟨h.ok.len,h.ok.sec,fun p hp=>by cases hp⟩,h.hb,h.hg,reset_blk h.blk,h.row.of_block (reset_other h.ne),World.ownsRow_nil _ _ _ _⟩
 refine ⟨d,rfl,rfl,rfl,by simp [World.setCell],fun k hk hn=>reset_other (fun e=>hn (.inl e)),fun k hk=>?_⟩
 rcases d.owns.1 hk with e|e|e
 · exact .inl (.inl e)
 · exact .inl (h.owns.2 (.inr (.inl e)))
 · simp [Value.ownBlock] at e
def CrRel (B b g:Nat) (v:Value) (s:DS) (l:List (Int×Int)) (M:Nat) (w:World) (m:Nat) (s5 s30:Value) (wx:World):Prop:=
 ∃ i:Nat,i+m=M∧s30=.int .i64 (i:Int)∧s5=.int .i64 ((s.opn.length-(i-brokenTo l i):Nat):Int)∧DkAt B b g v ⟨laid s.sec s.opn (keptAt l) i,s.opn,s.fail,s.reads⟩ wx∧Moved b w wx
theorem slice_opn (p:Option Addr) (L cap m:Nat) (h:m≤cap) (w:World):(Instr.sliceAt 81 (.slice p L cap) none (some (.int .i64 (m:Int))) none).run Tryz.prog w=.ok (.slice p m cap) w:=by
 rw [run_sliceAt_slice w _ _ _ _ _ (by kernel_rfl),run_slice_h w _ _ _ _ (by kernel_rfl) _ _ (by omega) (by omega)]
 have e:(sizeOf (Tryz.prog.elem 81)).run Tryz.prog w=.ok 65 w:=by kernel_rfl
 rw [e]
 simp only [Result.andThen,sliced]
 have:p.map (fun x=>x.add (0*65))=p:=by cases p <;> simp [Addr.add]
 rw [this]
 simp
theorem crash_any (B b:Nat) (s:DS) (ao:Option Addr) (fs:List (Int×Int)) (fc:Nat) (w:World) (h:Dk B b s w) (hF:Fats ao fs w) (ho:0<fs.length→Off ao b w) (hn:s.opn.length≤1000000) (hfl:fs.length≤9223372036854775807) :
 Calls Tryz.prog 17 #[ptr b,.slice ao fs.length fc] w fun e w'=>e=.returned (.int .i64 ((crashR s fs).2:Int))∧Dk B b (crashR s fs).1 w'∧Moved b w w':=by
 obtain ⟨g,v,h⟩:=h
 have hl:=h.ok.len
 have OK:=Lib.hid h.ok
 have c1:=h.c1
 obtain ⟨p,cap,rfl,hcap,hp⟩:=h.vform
 have HP:=Lib.hid hp
 have H:=Lib.hid h
 have HF:=Lib.hid hF
 have HO:=Lib.hid ho
 clear h hp hF ho
 have sl:=slice_opn p s.opn.length cap (min fs.length s.opn.length) (by omega)
 have mn:∀ w:World,(Builtin.min_ #[3,3] 3 #[.int .i64 (fs.length:Int),.int .i64 (s.opn.length:Int)]).run Tryz.prog w=.ok (.int .i64 ((min fs.length s.opn.length:Nat):Int)) w:=by
  intro w
  simp [Builtin.min_,Builtin.min2]
  repeat' split
  all_goals first|(simp;omega)|omega|simp_all
 generalize hMM:min fs.length s.opn.length=M at *
 have hM1:M≤fs.length:=by omega
 have hM2:M≤s.opn.length:=by omega
 have HM:=Lib.hid hMM
 clear hMM
 go_enter Tryz.func17,Tryz.ntmps17
 go_wp2_with fail
 go_step3
 go_wp2_with fail
 go_step3
 go_wp2_with fail
 go_quiet (fail)
 have HH:=Lib.hid (show (w.drewN nq).heap=w.heap by simp)
 have K1:Hid (DkAt B b g (.slice p s.opn.length cap) s (w.drewN nq)∧Moved b w (w.drewN nq)):=Lib.hid ⟨H.out.of_blocks (fun k _=>by rw [HH.out]),⟨rfl,rfl,rfl,by rw [HH.out];exact Nat.le_refl _,fun k _ _=>by rw [HH.out],fun k hk=>.inl (hk.of_block (by rw [HH.out]))⟩⟩
 clear HH sl mn c1 H
 generalize w.drewN nq=W at *
 go_wp2_with fail
 go_loopg [5,30] M (CrRel B b g (.slice p s.opn.length cap) s fs M w)
 case atStart=>exact ⟨0,by omega,rfl,by simp [brokenTo],K1.out.1,K1.out.2⟩
 case round=>
  clear K1
  obtain ⟨i,hi,rfl,rfl,hk,hm⟩:=hrel
  rcases Nat.lt_or_ge i M with hlt|hge
  ·have hlt':i<s.opn.length:=by omega
   have hif:i<fs.length:=by omega
   have hFw:=HF.out.moved hm (HO.out (by omega))
   have hin:=hFw.1 _ (List.getElem_mem hif)
   obtain ⟨bf,off,rfl,-,hcf⟩:=hFw.2 (by omega)
   obtain ⟨cK,cA⟩:=hcf i hif
   obtain ⟨k,rfl⟩:=HP.out (by omega)
   have R:=Lib.hid (DkAt.put hk rfl hlt')
   have PL:=Lib.hid (putCells_len (OK.out.opn _ (List.getElem_mem hlt')).2)
   have PU:=Lib.hid (fun o=>put_round (k:=keptAt fs) hk OK.out hlt' (keptAt_le _ _) o)
   have KA:=keptAt_lt hif
   have ZP:Hid (keptAt fs i=0→∀ o,DkAt B b g (.slice (some ⟨k,0,none⟩) s.opn.length cap) ⟨laid s.sec s.opn (keptAt fs) (i+1),s.opn,s.fail,s.reads⟩ (wr.alloc o)):=Lib.hid (fun h0 o=>laid_next hlt' (by rw [h0,putS_zero];exact hk.alloc o))
   have MA:=Lib.hid (fun o=>hm.alloc hk.lt o)
   have M0:=Lib.hid hm
   have BL:=brokenTo_le fs i
   have PO:=Lib.hid (all_oneCell_toArray (putCells_one s.opn[i]))
   have PS:=Lib.hid (show (putCells s.opn[i]).toArray.size=65 by simp [PL.out])
   have R2:=Lib.hid (show (wr.alloc (.cells (putCells s.opn[i]).toArray 101)).rangeAt wr.heap.size 0 (putCells s.opn[i]) from fun j u hu=>by
    rw [Nat.zero_add,Lib.cell_of_heap (heap_alloc_new _ _)];simpa using hu)
   have z:=zeroW.1
   have z1:=Lib.hid (putA_size (p:=(0,List.replicate 64 0)) (by simp))
   have RK:=rest_any fs[i].1 3 (h0:=by omega) (h1:=by omega) (hn:=hin.1.1) (hn2:=hin.1.2)
   have RA:=rest_any fs[i].2 65 (h0:=by omega) (h1:=by omega) (hn:=hin.2.1) (hn2:=hin.2.2)
   have cK2:(wr.alloc (.cells (putCells s.opn[i]).toArray 101)).cell? ⟨bf,off+i*2,none⟩=some (.int .i64 fs[i].1):=by rw [World.cell?_alloc_lt _ _ _ (lt_of_cell cK)];exact cK
   have cA2:(wr.alloc (.cells (putCells s.opn[i]).toArray 101)).cell? ⟨bf,off+i*2+1,none⟩=some (.int .i64 fs[i].2):=by rw [World.cell?_alloc_lt _ _ _ (lt_of_cell cA)];exact cA
   have il:(i:Int)<(M:Int):=by omega
   have il2:(i:Int)<(fs.length:Int):=by omega
   have HI:=Lib.hid hi
   have hg0:0<gk:=by omega
   have BX:Hid (∀ x:Nat,x=s.opn.length-(i-brokenTo fs i)→(keptAt fs i=64→((x:Int)-1)=((s.opn.length-(i+1-brokenTo fs (i+1)):Nat):Int))∧(keptAt fs i≠64→x=s.opn.length-(i+1-brokenTo fs (i+1)))):=Lib.hid (fun x hx=>by
    constructor
    · intro e;rw [brokenTo,if_pos e];omega
    · intro e;rw [brokenTo,if_neg e];omega)
   have hX1:1≤s.opn.length-(i-brokenTo fs i):=by omega
   have hX2:s.opn.length-(i-brokenTo fs i)≤1000000:=by omega
   have BX2:=Lib.hid (BX.out _ rfl)
   clear hk hm hi hcf hFw cK cA BX BL
   generalize s.opn.length-(i-brokenTo fs i)=X at *
   generalize s.opn[i]=pw at *
   generalize fs[i].1=KK at *
   generalize fs[i].2=AA at *
   clear hlt' hif hin
   generalize (putCells (0,List.replicate 64 0)).toArray=Z at *
   have h3:KK%3=0∨KK%3=1∨KK%3=2:=by omega
   have KL:=keptAt_le fs i
   rcases h3 with h3|h3|h3
   ·have E:Hid (keptAt fs i=0):=Lib.hid (by rw [KA];unfold keepOf;rw [if_pos h3])
    rw [h3] at RK
    replace RK:=Lib.hid RK
    replace RA:=Lib.hid RA
    have K3:=Lib.hid (And.intro (ZP.out E.out (.cells (putCells pw).toArray 101)) (MA.out (.cells (putCells pw).toArray 101)))
    have BB:=Lib.hid (BX2.out.2 (by rw [E.out];omega))
    clear KA h3 KL E ZP MA PU BX2
    go_wp2_with (first
     | (refine wpList_load_mid rfl 101 (.tmp 33) rfl k (i*65) rfl (putCells pw) _ R.out Tryz.underlying101 rfl (by rw [PL.out];exact zeroW.2) ?_)
     | (refine wpList_store_new (c:=Z) (c':=(putCells pw).toArray) rfl rfl rfl rfl (by rw [PS.out];exact zeroW.2) (by rw [z1.out,PS.out]) PO.out ?_)
     | (refine wpList_load_mid rfl 101 (.tmp 7) rfl wr.heap.size 0 rfl (putCells pw) _ R2.out Tryz.underlying101 rfl (by rw [PL.out];exact zeroW.2) ?_)
     | ((with_reducible refine (RK.out _).mono ?_);rintro e w1 ⟨rfl,rfl⟩)
     | ((with_reducible refine (RA.out _).mono ?_);rintro e w1 ⟨rfl,rfl⟩)
     | ((with_reducible refine (PU.out _).mono ?_);rintro e w3 ⟨rfl,k3,m3⟩;(have K3:=Lib.hid (And.intro k3 (M0.out.trans m3)));clear k3 m3))
    go_roundg (gk-1)
    case measure=>omega
    case rel=>exact ⟨i+1,by have:=HI.out;omega,by go_num,by rw [BB.out],K3.out⟩
   ·have E:Hid (keptAt fs i=64):=Lib.hid (by rw [KA];unfold keepOf;rw [if_neg (by omega),if_pos h3])
    rw [h3] at RK
    replace RK:=Lib.hid RK
    replace RA:=Lib.hid RA
    have BB:=Lib.hid (BX2.out.1 E.out)
    rw [E.out] at PU
    have e64:((64:Nat):Int)=64:=rfl
    rw [e64] at PU
    clear KA h3 KL E ZP MA BX2 e64
    go_wp2_with (first
     | (refine wpList_load_mid rfl 101 (.tmp 33) rfl k (i*65) rfl (putCells pw) _ R.out Tryz.underlying101 rfl (by rw [PL.out];exact zeroW.2) ?_)
     | (refine wpList_store_new (c:=Z) (c':=(putCells pw).toArray) rfl rfl rfl rfl (by rw [PS.out];exact zeroW.2) (by rw [z1.out,PS.out]) PO.out ?_)
     | (refine wpList_load_mid rfl 101 (.tmp 7) rfl wr.heap.size 0 rfl (putCells pw) _ R2.out Tryz.underlying101 rfl (by rw [PL.out];exact zeroW.2) ?_)
     | ((with_reducible refine (RK.out _).mono ?_);rintro e w1 ⟨rfl,rfl⟩)
     | ((with_reducible refine (RA.out _).mono ?_);rintro e w1 ⟨rfl,rfl⟩)
     | ((with_reducible refine (PU.out _).mono ?_);rintro e w3 ⟨rfl,k3,m3⟩;(have K3:=Lib.hid (And.intro k3 (M0.out.trans m3)));clear k3 m3))
    go_roundg (gk-1)
    case measure=>omega
    case rel=>exact ⟨i+1,by have:=HI.out;omega,by go_num,by rw [← BB.out],K3.out⟩
   ·have E:Hid (keptAt fs i=(AA%65).toNat):=Lib.hid (by rw [KA];unfold keepOf;rw [if_neg (by omega),if_neg (by omega)])
    have EI:AA%65=((keptAt fs i:Nat):Int):=by rw [E.out];omega
    rw [h3] at RK
    rw [EI] at RA
    replace RK:=Lib.hid RK
    replace RA:=Lib.hid RA
    by_cases h64:keptAt fs i=64
    ·have BB:=Lib.hid (BX2.out.1 h64)
     rw [h64] at PU RA
     have e64:((64:Nat):Int)=64:=rfl
     rw [e64] at PU RA
     clear KA h3 KL E ZP MA BX2 e64 h64 EI
     go_wp2_with (first
      | (refine wpList_load_mid rfl 101 (.tmp 33) rfl k (i*65) rfl (putCells pw) _ R.out Tryz.underlying101 rfl (by rw [PL.out];exact zeroW.2) ?_)
      | (refine wpList_store_new (c:=Z) (c':=(putCells pw).toArray) rfl rfl rfl rfl (by rw [PS.out];exact zeroW.2) (by rw [z1.out,PS.out]) PO.out ?_)
      | (refine wpList_load_mid rfl 101 (.tmp 7) rfl wr.heap.size 0 rfl (putCells pw) _ R2.out Tryz.underlying101 rfl (by rw [PL.out];exact zeroW.2) ?_)
      | ((with_reducible refine (RK.out _).mono ?_);rintro e w1 ⟨rfl,rfl⟩)
      | ((with_reducible refine (RA.out _).mono ?_);rintro e w1 ⟨rfl,rfl⟩)
      | ((with_reducible refine (PU.out _).mono ?_);rintro e w3 ⟨rfl,k3,m3⟩;(have K3:=Lib.hid (And.intro k3 (M0.out.trans m3)));clear k3 m3))
     go_roundg (gk-1)
     case measure=>omega
     case rel=>exact ⟨i+1,by have:=HI.out;omega,by go_num,by rw [← BB.out],K3.out⟩
    ·have BB:=Lib.hid (BX2.out.2 h64)
     have t6:(((keptAt fs i:Nat):Int)==64)=false:=by simp;omega
     clear KA h3 E ZP MA BX2 EI
     generalize keptAt fs i=q at *
     go_wp2_with (first
      | (refine wpList_load_mid rfl 101 (.tmp 33) rfl k (i*65) rfl (putCells pw) _ R.out Tryz.underlying101 rfl (by rw [PL.out];exact zeroW.2) ?_)
      | (refine wpList_store_new (c:=Z) (c':=(putCells pw).toArray) rfl rfl rfl rfl (by rw [PS.out];exact zeroW.2) (by rw [z1.out,PS.out]) PO.out ?_)
      | (refine wpList_load_mid rfl 101 (.tmp 7) rfl wr.heap.size 0 rfl (putCells pw) _ R2.out Tryz.underlying101 rfl (by rw [PL.out];exact zeroW.2) ?_)
      | ((with_reducible refine (RK.out _).mono ?_);rintro e w1 ⟨rfl,rfl⟩)
      | ((with_reducible refine (RA.out _).mono ?_);rintro e w1 ⟨rfl,rfl⟩)
      | ((with_reducible refine (PU.out _).mono ?_);rintro e w3 ⟨rfl,k3,m3⟩;(have K3:=Lib.hid (And.intro k3 (M0.out.trans m3)));clear k3 m3))
     go_roundg (gk-1)
     case measure=>omega
     case rel=>exact ⟨i+1,by have:=HI.out;omega,by go_num,by rw [BB.out],K3.out⟩
  ·obtain rfl:i=M:=by omega
   have ce:=crash_end (S:=s.sec) HM.out
   have c0:=hk.c0
   have FIN:=Lib.hid (And.intro hk.reset.1 (hm.trans hk.reset.2))
   simp only [laid_length] at c0 FIN
   have z0:=hk.c0
   have z1:=hk.c1
   have z2:=hk.c2
   have z3:=hk.c3
   have f0:=hk.fz
   simp only [laid_length] at z0
   have BR:=Lib.hid ce.2
   have SE:=Lib.hid ce.1
   have FIN2:=Lib.hid (And.intro (show Dk B b (crashR s fs).1 _ from ⟨g,_,by unfold crashR crashedS;rw [SE.out];exact FIN.out.1⟩) FIN.out.2)
   have RES:Hid ((crashR s fs).2=s.opn.length-(i-brokenTo fs i)):=Lib.hid (by unfold crashR;exact BR.out)
   clear ce hk hm hi BR SE FIN
   go_wp2
   go_ret
   exact ⟨by rw [RES.out];rfl,FIN2.out⟩
end Go.Proofs.YteempfoajgblaaaGreat.Dk
namespace Go.Proofs.YteempfoajgblaaaGreat.Dk
end Go.Proofs.YteempfoajgblaaaGreat.Dk
namespace Go.Proofs.YteempfoajgblaaaGreat.Dk
theorem own:ownKnob Tryz.prog.godebug=none:=by kernel_rfl
theorem in64_wf {n:Int} (h:(Lit.int .i64 n).wf=true):In64 n:=by
 simp [Lit.wf,IntKind.min,IntKind.max,IntKind.bits,IntKind.signed] at h;unfold In64;omega
theorem one_of {cs:List Value} {j:Nat} (h:j<cs.length):(cs.drop j).take 1=[cs[j]]:=by
 rw [List.drop_eq_getElem_cons h];rfl
theorem fates_of {H:Type} {enc:TypeId×Value→H} {W:World} {base:Nat} {spare:Nat→Bool} {held:Bool} {ao:Option Addr} {len cap fuel:Nat} {x:DataW H×List MemPlace}
 (hf:DataW.trod enc Tryz.prog W base spare held fuel 37 [.slice ao len cap]=some x) :
 ∃ fs:List (Int×Int),fs.length=len∧len≤9223372036854775807∧Fats ao fs W:=by
 rcases Go.Deep.open_slice Tryz.underlying37 hf with ⟨hcs,hx⟩|⟨a,len',cap',m,n,D,Pl,hcs,_,hl,hm,hmm,hx,hi⟩
 ·simp at hcs
  obtain ⟨rfl,rfl,rfl⟩:=hcs
  exact ⟨[],rfl,by omega,fun p hp=>(by cases hp),fun h=>by simp at h⟩
 ·simp at hcs
  obtain ⟨rfl,rfl,rfl⟩:=hcs
  have hml:len≤m:=by rw [hmm];split <;> omega
  have hC:Tryz.prog.cellsOf 104=2:=by kernel_rfl
  have c3:Tryz.prog.cellsOf 3=1:=by kernel_rfl
  rw [hC] at hi
  have key:∀ i,i<len→∃ k q:Int,W.cell? (a.add (i*2))=some (.int .i64 k)∧W.cell? ((a.add (i*2)).add 1)=some (.int .i64 q)∧In64 k∧In64 q:=by
   intro i hil
   obtain ⟨cs,hc,ht⟩:=hi i (by omega)
   obtain ⟨_,hcl,hat⟩:=World.cells?_some hc
   obtain ⟨ys,n',hn',hy,hlen,hyl,hfd⟩:=DataW.trod_struct Tryz.underlying104 ht
   have g0:DataW.trod enc Tryz.prog W base spare held n' 3 ((cs.drop 0).take (Tryz.prog.cellsOf 3))=ys[0]?:=hfd 0 _ rfl
   have g1:DataW.trod enc Tryz.prog W base spare held n' 3 ((cs.drop 1).take (Tryz.prog.cellsOf 3))=ys[1]?:=hfd 1 _ rfl
   have hy4:ys.length=2:=by rw [hyl];rfl
   rw [c3,one_of (j:=0) (by omega),List.getElem?_eq_getElem (by omega)] at g0
   rw [c3,one_of (j:=1) (by omega),List.getElem?_eq_getElem (by omega)] at g1
   obtain ⟨k,e0,-,wk⟩:=DataW.trod_int Tryz.underlying3 g0
   obtain ⟨q,e1,-,wq⟩:=DataW.trod_int Tryz.underlying3 g1
   have a0:=hat 0 (by omega)
   have a1:=hat 1 (by omega)
   rw [List.getElem?_eq_getElem (by omega)] at a0 a1
   have f0:cs[0]=.int .i64 k:=by simpa using e0
   have f1:cs[1]=.int .i64 q:=by simpa using e1
   rw [f0] at a0
   rw [f1] at a1
   exact ⟨k,q,by simpa [Addr.add] using a0,a1,in64_wf wk,in64_wf wq⟩
  have choice:∃ f:Nat→Int×Int,∀ i,i<len→W.cell? (a.add (i*2))=some (.int .i64 (f i).1)∧W.cell? ((a.add (i*2)).add 1)=some (.int .i64 (f i).2)∧In64 (f i).1∧In64 (f i).2:=by
   refine ⟨fun i=>if h:i<len then (Classical.choose (key i h),Classical.choose (Classical.choose_spec (key i h))) else (0,0),fun i h=>?_⟩
   simp only [dif_pos h]
   exact Classical.choose_spec (Classical.choose_spec (key i h))
  obtain ⟨f,hfc⟩:=choice
  refine ⟨(List.range len).map f,by simp,by unfold maxLen at hm;omega,fun p hp=>?_,fun h0=>?_⟩
  ·simp only [List.mem_map,List.mem_range] at hp
   obtain ⟨i,hi,rfl⟩:=hp
   exact (hfc i hi).2.2
  ·simp at h0
   obtain ⟨b,off,spot⟩:=a
   have hspot:spot=none:=by simpa [Addr.add] using World.cell?_spot (hfc 0 h0).1
   subst hspot
   refine ⟨b,off,rfl,World.block_lt_of_cell? _ _ (hfc 0 h0).1,fun i hi=>?_⟩
   simp at hi
   obtain ⟨h1,h2,_⟩:=hfc i hi
   rw [addr_add] at h1 h2
   rw [addr_add] at h2
   simp
   exact ⟨h1,h2⟩
end Go.Proofs.YteempfoajgblaaaGreat.Dk
namespace Go.Proofs.YteempfoajgblaaaGreat.Dk
def flushS (s:DS):DS:=⟨flushedS s,[],0,s.reads⟩
theorem laid_get {S:List (List UInt8)} {O:List (Nat×List UInt8)} (hS:∀ x∈S,x.length=64) (hO:∀ p∈O,p.1<S.length∧p.2.length=64) {k:Nat} (hk:k<S.length) (i:Nat) (hi:i≤O.length) :
 (laid S O (fun _=>64) i)[k]?=some ((lastOf (O.take i) k).getD S[k]):=by
 induction i with
 | zero=>simp [laid,lastOf,hk]
 | succ i ih=>
  have hlt:i<O.length:=by omega
  have ihh:=ih (by omega)
  have hp:=hO _ (List.getElem_mem hlt)
  have hk':k<(laid S O (fun _=>64) i).length:=by rw [laid_length];exact hk
  have e:(laid S O (fun _=>64) i)[k]=(lastOf (O.take i) k).getD S[k]:=by
   rw [List.getElem?_eq_getElem hk'] at ihh;exact Option.some.inj ihh
  rw [laid_succ hlt,putS_get _ _ _ _ _ hk',List.take_succ_eq_append_getElem hlt,lastOf_snoc]
  congr 1
  have hl:(laid S O (fun _=>64) i)[k].length=64:=laid_sec hS hO (fun _=>Nat.le_refl _) i _ (List.getElem_mem hk')
  split
  · rw [List.take_of_length_le (by omega),List.drop_eq_nil_of_le (by omega)];simp
  · exact e
theorem newest_flushed {s:DS} (h:s.Ok) {k:Nat} (hk:k<s.sec.length):newestOf (flushS s) k=newestOf s k:=by
 unfold newestOf flushS
 show (lastOf [] k).getD ((flushedS s)[k]?.getD [])=_
 unfold flushedS
 rw [laid_get h.sec h.opn hk _ (Nat.le_refl _),List.take_length]
 simp [lastOf,hk]
end Go.Proofs.YteempfoajgblaaaGreat.Dk
namespace Go.Proofs.YteempfoajgblaaaGreat.Dk
def Apt (w:World) (a b:Nat):Prop:=∀ k,Own w a k→¬Own w b k
theorem Apt.symm {w:World} {a b:Nat} (h:Apt w a b):Apt w b a:=fun k hb ha=>h k ha hb
end Go.Proofs.YteempfoajgblaaaGreat.Dk
