/- horariumlaw20.RegistryNil answers true at every two numbers: of no registry nothing comes; of a disk that may not be, or that has none, there is none. No condition. -/
import Derived.Test.YteempfoajgblaaaGreatKRgK
import Derived.Deep.DeepCutAuto
import Derived.BigQuiet
namespace Go.Proofs.YteempfoajgblaaaGreat.registryNil
open Go.ChangeShapes Go.WideShapes Go.ChangeAt Go.RowKit Go.Joins
set_option maxRecDepth 100000
set_option linter.unusedVariables false
set_option linter.unusedSimpArgs false
open Dk (Dk DS Own Moved ptr)
open Jn (JL Jt Jd Kp Since)
open Ox (Od)
open Pm (Tk)
open Ju (mayR fitsR Nm opR op_any seen_nm open_nms)
open Tb (Rw tb0 applyR)
open Ge (Seen)
open Rg
set_option maxRecDepth 100000 in
set_option maxHeartbeats 16000000 in
theorem walk_yes (n:Int) (K M:Nat) (w:World) (hn:Pm.I64 n) (hk:Pm.I64 (K:Int)) (k1:1≤K) (k2:K≤64) (k3:1≤M) (k4:1+n.tmod 30 % 30=((2*K+M:Nat):Int)) :
 Calls Tryz.prog 6 #[.int .i64 n,.int .i64 (K:Int)] w fun e w'=>e=.returned (.bool true)∧Below w.heap.size w w':=by
 have t30 : -30<n.tmod 30∧n.tmod 30<30:=⟨Int.lt_tmod_of_pos n (by omega),Int.tmod_lt_of_pos n (by omega)⟩
 obtain ⟨t1,t2⟩:=t30
 obtain ⟨many,hm⟩:∃ m:Nat,1+n.tmod 30 % 30=(m:Int):=⟨(1+n.tmod 30 % 30).toNat,by omega⟩
 have m1:1≤many:=by omega
 have m2:many≤30:=by omega
 have mi:(many:Int)≤30:=by omega
 have mj:1≤(many:Int):=by omega
 have ND:=Lib.hid (disk_t many w w (Below.refl _ _) m1 (by omega))
 have AW:=Lib.hid (fun w=>awake_any w)
 have TN:=Lib.hid (fun w=>table_nil w)
 have DN:=Lib.hid (fun w=>(show Calls Tryz.prog 21 #[.pointer none,.agg #[.int .i64 0,.int .i64 0,.int .i64 0,.int .i64 0,.int .i64 0,.int .i64 0,.bool false,.int .i64 0,.int .i64 0,.int .i64 0],.slice none 0 0] w fun x w'=>x=.returned (.int .i64 1)∧Below w.heap.size w w' from do_nil ⟨0,⟨0,0,0,0,0⟩,false,0,0,0⟩ none 0 0 w))
 have SN:=Lib.hid (fun w=>snap_nil w)
 have LN:=Lib.hid (fun w=>left_nil w)
 have GN:=Lib.hid (fun w=>good_nil w)
 have hk1:=hk.1
 have hk2:=hk.2
 clear hk
 have hmm:many=2*K+M:=by omega
 have OP:=Lib.hid (fun w1 (h0:Dk w.heap.size (w.heap.size+1) ⟨zs many,[],0,0⟩ w1) (b1:Below w.heap.size w w1)=>have h1:Dk w.heap.size (w.heap.size+1) ⟨zs (2*K+M),[],0,0⟩ w1:=hmm ▸ h0; open_new w.heap.size (w.heap.size+1) K M 0 w w1 h1 b1 (Since.below (Nat.le_refl _) b1) k1 k2 k3 (by omega) (by omega))
 have FO:=Lib.hid (fun w1 (h1:Dk w.heap.size (w.heap.size+1) ⟨zs (2*K+M),[],0,0+2*K⟩ w1) (b1:Below w.heap.size w w1)=>format_k w.heap.size (w.heap.size+1) K M (0+2*K) w w1 h1 b1 (Since.below (Nat.le_refl _) b1) k1 k2 k3 (by omega) (by omega))
 have ki1:1≤(K:Int):=by omega
 have ki2:(K:Int)≤64:=by omega
 have ki3:2*(K:Int)<(many:Int):=by omega
 clear hmm k4
 go_enter Tryz.func6,Tryz.ntmps6
 go_wp2_with fail
 (with_reducible refine ND.out.mono ?_)
 rintro e w1 ⟨rfl,d1,b1⟩
 have OP1:=Lib.hid (OP.out w1 d1 b1)
 clear ND OP d1 b1
 go_wp2_with fail
 (with_reducible refine OP1.out.mono ?_)
 rintro e w2 ⟨rfl,d2,b2,-⟩
 have FO2:=Lib.hid (FO.out _ d2 b2)
 clear OP1 FO d2 b2
 go_wp2_with fail
 (with_reducible refine FO2.out.mono ?_)
 rintro e w3 ⟨g,rfl,b3⟩
 have l3:=Lib.hid b3
 clear FO2 b3
 go_wp2_with fail
 (with_reducible refine (TN.out _).mono ?_)
 rintro e w4 ⟨rfl,b4⟩
 have l4:=Lib.hid ((l3.out.trans (b4.mono l3.out.size)).alloc (by have:=l3.out.size; have:=b4.size; omega) (.cells #[.slice none 0 0,.int .i64 0] 52))
 unfold Tb.tv
 clear b4 l3 TN
 go_wp2_with fail
 (with_reducible refine (AW.out _).mono ?_)
 rintro e w5 ⟨rfl,b5⟩
 have l5:=Lib.hid (l4.out.trans (b5.mono l4.out.size))
 have h5:w5.cell? ⟨w4.heap.size,0,none⟩=some (.slice none 0 0):=by
  rw [b5.cell (by simp)]
  simp [go_sem]
 clear b5 l4 AW
 go_wp2_with fail
 (with_reducible refine (DN.out _).mono ?_)
 rintro e w6 ⟨rfl,b6⟩
 have l6:=Lib.hid (l5.out.trans (b6.mono l5.out.size))
 have h6:=Rg.carry b6 h5
 clear b6 l5 DN h5
 go_wp2_with fail
 (with_reducible refine (SN.out _).mono ?_)
 rintro e w7 ⟨rfl,b7⟩
 have l7:=Lib.hid (l6.out.trans (b7.mono l6.out.size))
 have h7:=Rg.carry b7 h6
 clear b7 l6 SN h6
 go_wp2_with fail
 (with_reducible refine (GN.out _).mono ?_)
 rintro e w8 ⟨rfl,b8⟩
 have l8:=Lib.hid (l7.out.trans (b8.mono l7.out.size))
 clear b8 l7 GN h7
 go_wp2_with fail
 (with_reducible refine (LN.out _).mono ?_)
 rintro e w9 ⟨rfl,b9⟩
 have l9:=Lib.hid (l8.out.trans (b9.mono l8.out.size))
 clear b9 l8 LN
 go_wp2
 go_ret
 exact ⟨rfl,l9.out⟩
set_option maxRecDepth 100000 in
set_option maxHeartbeats 16000000 in
theorem walk_no (n k:Int) (w:World) (hn:Pm.I64 n) (hk:Pm.I64 k) (h:¬ (1≤k∧k≤64∧2*k<1+n.tmod 30 % 30)) :
 Calls Tryz.prog 6 #[.int .i64 n,.int .i64 k] w fun e w'=>e=.returned (.bool true)∧Below w.heap.size w w':=by
 have t30 : -30<n.tmod 30∧n.tmod 30<30:=⟨Int.lt_tmod_of_pos n (by omega),Int.tmod_lt_of_pos n (by omega)⟩
 obtain ⟨t1,t2⟩:=t30
 obtain ⟨many,hm⟩:∃ m:Nat,1+n.tmod 30 % 30=(m:Int):=⟨(1+n.tmod 30 % 30).toNat,by omega⟩
 have m1:1≤many:=by omega
 have m2:many≤30:=by omega
 have mi:(many:Int)≤30:=by omega
 have mj:1≤(many:Int):=by omega
 have ND:=Lib.hid (disk_t many w w (Below.refl _ _) m1 (by omega))
 have AW:=Lib.hid (fun w=>awake_any w)
 have TN:=Lib.hid (fun w=>table_nil w)
 have DN:=Lib.hid (fun w=>(show Calls Tryz.prog 21 #[.pointer none,.agg #[.int .i64 0,.int .i64 0,.int .i64 0,.int .i64 0,.int .i64 0,.int .i64 0,.bool false,.int .i64 0,.int .i64 0,.int .i64 0],.slice none 0 0] w fun x w'=>x=.returned (.int .i64 1)∧Below w.heap.size w w' from do_nil ⟨0,⟨0,0,0,0,0⟩,false,0,0,0⟩ none 0 0 w))
 have SN:=Lib.hid (fun w=>snap_nil w)
 have LN:=Lib.hid (fun w=>left_nil w)
 have GN:=Lib.hid (fun w=>good_nil w)
 have hk1:=hk.1
 have hk2:=hk.2
 clear hk
 rw [hm] at h
 have OP:=Lib.hid (fun w1 (h1:Dk w.heap.size (w.heap.size+1) ⟨zs many,[],0,0⟩ w1)=>open_no w.heap.size (w.heap.size+1) _ k w1 h1 (by simpa [zs] using h))
 have FO:=Lib.hid (fun w1 (h1:Dk w.heap.size (w.heap.size+1) ⟨zs many,[],0,0⟩ w1)=>format_no w.heap.size (w.heap.size+1) _ k w1 h1 (by simpa [zs] using h))
 rcases (show k<1∨(1≤k∧64<k)∨(1≤k∧k≤64∧(many:Int)≤2*k) by omega) with h1 | ⟨h1,h2⟩ | ⟨h1,h2,h4⟩
 all_goals
  clear h
  go_enter Tryz.func6,Tryz.ntmps6
  go_wp2_with fail
  (with_reducible refine ND.out.mono ?_)
  rintro e w1 ⟨rfl,d1,b1⟩
  have OP1:=Lib.hid (OP.out w1 d1)
  have D1:=Lib.hid (And.intro d1 b1)
  clear ND OP d1 b1
  go_wp2_with fail
  (with_reducible refine OP1.out.mono ?_)
  rintro e w2 ⟨rfl,b2⟩
  have FO2:=Lib.hid (FO.out _ (D1.out.1.call b2))
  have l2:=Lib.hid (D1.out.2.trans (b2.mono D1.out.2.size))
  clear OP1 FO b2 D1
  go_wp2_with fail
  (with_reducible refine FO2.out.mono ?_)
  rintro e w3 ⟨rfl,b3⟩
  have l3:=Lib.hid (l2.out.trans (b3.mono l2.out.size))
  clear FO2 b3 l2
  go_wp2_with fail
  (with_reducible refine (TN.out _).mono ?_)
  rintro e w4 ⟨rfl,b4⟩
  have l4:=Lib.hid ((l3.out.trans (b4.mono l3.out.size)).alloc (by have:=l3.out.size; have:=b4.size; omega) (.cells #[.slice none 0 0,.int .i64 0] 52))
  unfold Tb.tv
  clear b4 l3 TN
  go_wp2_with fail
  (with_reducible refine (AW.out _).mono ?_)
  rintro e w5 ⟨rfl,b5⟩
  have l5:=Lib.hid (l4.out.trans (b5.mono l4.out.size))
  have h5:w5.cell? ⟨w4.heap.size,0,none⟩=some (.slice none 0 0):=by
   rw [b5.cell (by simp)]
   simp [go_sem]
  clear b5 l4 AW
  go_wp2_with fail
  (with_reducible refine (DN.out _).mono ?_)
  rintro e w6 ⟨rfl,b6⟩
  have l6:=Lib.hid (l5.out.trans (b6.mono l5.out.size))
  have h6:=Rg.carry b6 h5
  clear b6 l5 DN h5
  go_wp2_with fail
  (with_reducible refine (SN.out _).mono ?_)
  rintro e w7 ⟨rfl,b7⟩
  have l7:=Lib.hid (l6.out.trans (b7.mono l6.out.size))
  have h7:=Rg.carry b7 h6
  clear b7 l6 SN h6
  go_wp2_with fail
  (with_reducible refine (GN.out _).mono ?_)
  rintro e w8 ⟨rfl,b8⟩
  have l8:=Lib.hid (l7.out.trans (b8.mono l7.out.size))
  clear b8 l7 GN h7
  go_wp2_with fail
  (with_reducible refine (LN.out _).mono ?_)
  rintro e w9 ⟨rfl,b9⟩
  have l9:=Lib.hid (l8.out.trans (b9.mono l8.out.size))
  clear b9 l8 LN
  go_wp2
  go_ret
  exact ⟨rfl,l9.out⟩
theorem walk (n k:Int) (w:World) (hn:Pm.I64 n) (hk:Pm.I64 k) :
 Calls Tryz.prog 6 #[.int .i64 n,.int .i64 k] w fun e w'=>e=.returned (.bool true)∧Below w.heap.size w w':=by
 by_cases h:1≤k∧k≤64∧2*k<1+n.tmod 30 % 30
 ·obtain ⟨K,rfl⟩:∃ K:Nat,k=(K:Int):=⟨k.toNat,by omega⟩
  obtain ⟨M,hM⟩:∃ M:Nat,1+n.tmod 30 % 30=((2*K+M:Nat):Int):=⟨(1+n.tmod 30 % 30 - 2*(K:Int)).toNat,by omega⟩
  exact walk_yes n K M w hn hk (by omega) (by omega) (by omega) hM
 · exact walk_no n k w hn hk h
set_option maxRecDepth 100000 in
set_option maxHeartbeats 1600000 in
theorem lifted (os:Os) (started:os.Started) (H:Type) (enc:TypeId×Value→H) :
 ReturnsInHanded {} Tryz.checked os 6 .any (Rows.registryNilSpec.pre6 enc Tryz.prog Tryz.f6 Rows.registryNilRow.domain false) (Rows.registryNilSpec.post enc Tryz.prog Tryz.f6 false true false false):=by
 refine returnsInHanded_of_change (C:=Tryz.checked) own started (by kernel_rfl) Tryz.func6
  (ChangeSpec.witness6 (enc:=enc) (C:=Tryz.checked) false ⟨#[],#[.int .i64 0,.int .i64 0],[]⟩ 8 (by kernel_rfl) (by kernel_rfl) (by kernel_rfl) (by kernel_rfl)) ?_
 intro W base args ds gs before hval0 hW hcnd _
 have hval:∀ (j:Nat) t v,Tryz.f6.params[j]?=some t→args[j]?=some v→Value.okWide Tryz.prog W .any base t v:=hval0
 have hW':=hW
 obtain ⟨p,q,hA0,hV,rfl,hfz,hnd⟩:=hW
 have hA:DataW.TrodAll enc Tryz.prog W 0 (fun _=>true) true Tryz.f6.params.toList args.toList ds p:=hA0
 rw [Tryz.params6] at hA hval
 obtain ⟨v0,vs0,d0,ds0,p0,q0,hargs,rfl,rfl,h0,r0⟩:=trodAll_cons hA
 obtain ⟨v1,vs1,d1,ds1,p1,q1,rfl,rfl,rfl,h1,r1⟩:=trodAll_cons r0
 obtain ⟨rfl,rfl,rfl⟩:=trodAll_nil r1
 obtain rfl:args=#[v0,v1]:=by cases args; simp_all
 obtain ⟨rfl,rfl⟩:=trodVars_none hV
 have lt0:∀ x∈p0,x.block<W.heap.size:=by obtain ⟨m,hm⟩:=h0; exact DataW.trod_lt m _ _ _ hm
 obtain ⟨n,e0,-,-,wfn⟩:=open_int Tryz.underlying3 (hval 0 3 v0 rfl rfl) h0
 subst e0
 have wn:=Ju.i64_wf wfn
 have lt1:∀ x∈p1,x.block<W.heap.size:=by obtain ⟨m,hm⟩:=h1; exact DataW.trod_lt m _ _ _ hm
 obtain ⟨k,e1,-,-,wfk⟩:=open_int Tryz.underlying3 (hval 1 3 v1 rfl rfl) h1
 subst e1
 have wk:=Ju.i64_wf wfk
 clear hA0 hval0
 refine (walk n k W wn wk).mono fun e W' ⟨he,bel⟩=>?_
 subst he
 exact ⟨_,rfl,_,_,_,[],_,[],hW',trodAll_mk1 (shut_bool Tryz.underlying4 _),(trodAll_cons_mk (Below.trod laidOut (by kernel_rfl) (of_decide_eq_true (by kernel_rfl)) h0 bel lt0) (trodAll_cons_mk (Below.trod laidOut (by kernel_rfl) (of_decide_eq_true (by kernel_rfl)) h1 bel lt1) trodAll_mk0)),rfl,bel.frame _,fun h=>by cases h⟩
theorem proved:Rows.RegistryNilSaid:=
 OpenClaim.holds_of_wide 6 Tryz.f6 rfl rfl rfl rfl rfl rfl rfl ⟨rfl,rfl,rfl,rfl,rfl⟩ rfl rfl rfl rfl rfl (by kernel_rfl) Tryz.func6 (by kernel_rfl)
  (of_decide_eq_true (by kernel_rfl)) (by unfold Func.isWrapper; first | (rw [if_pos (by decide +kernel)]; kernel_rfl) | (rw [if_neg (by decide +kernel)]; exact ⟨rfl,rfl⟩))
  (fun os started H enc _=>lifted os started H enc)
#print axioms proved
end Go.Proofs.YteempfoajgblaaaGreat.registryNil
