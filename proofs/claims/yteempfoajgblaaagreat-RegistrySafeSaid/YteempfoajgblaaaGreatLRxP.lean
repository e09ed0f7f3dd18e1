/- horariumlaw20.RegistrySafe answers true at every row of tries. -/
import Derived.Test.YteempfoajgblaaaGreatLQI
import Derived.Deep.CutBlock
import Derived.Deep.DeepCutAuto
import Derived.Deep.Light
import Derived.Test.YteempfoajgblaaaGreatLGnH
set_option maxRecDepth 100000
set_option linter.unusedVariables false
set_option linter.unusedSimpArgs false
open Go.ChangeShapes Go.WideShapes Go.ChangeAt Go.RowKit Go.Joins
set_option maxHeartbeats 16000000
namespace Go.Proofs.YteempfoajgblaaaGreat.registrySafe
open Dk (Dk DS Own Moved ptr)
open Jn (JL Jt Jd Kp Since)
open Ox (Od)
open Pm (Tk)
open Ju (mayR fitsR Nm opR op_any)
open Tb (Rw tb0 applyR)
open Ge (Seen)
open Rg
def SfRel (n:Nat) (w:World) (b p7:Nat) (m:Nat) (s5 s8:Value) (wr:World):Prop:=
 ∃ (i g k R:Nat) (T:Tb.Tb),i+m=n∧s5=ptr g∧s8=.int .i64 (i:Int)∧R≤18+80*i∧Rc w.heap.size b g 6 k T (i+1) R w wr∧HB wr p7 T
def NxRel (WB:World) (T2:Tb.Tb) (c2:Int) (s14 s15:Value) (wx:World):Prop:=
 ∃ (pn:Nat) (an:Option Addr) (cn:Nat),s14=ptr pn∧s15=.int .i64 c2∧wx.heap[pn]?=some (.cells #[.slice an T2.rows.length cn,.int .i64 T2.mode] 52 (0,0))∧Tb.Sl (.slice an T2.rows.length cn) T2.rows wx an cn∧WB.heap.size≤pn∧Below WB.heap.size WB wx
def DoRel (b g p7 pn ob M R:Nat) (T T2:Tb.Tb) (c2:Int) (sn cr:Bool) (n:Nm) (fl ag:Int) (v u:Value) (w:World) (s12:Value) (wx:World):Prop:=
 ∃ (c:Int) (F:Nat),s12=.int .i64 c∧Ou w.heap.size b 6 M c T (if sn then T else T2) F R w wx∧GB wx g (c != 18)∧HB wx p7 T∧HB wx pn (if sn then T else T2)∧TryB wx ob sn cr n fl ag v u∧(sn=false→(c2≠0→c=c2∧c≠18)∧(c=0→c2=0))
def CrRel (b g p7 pn ob M R:Nat) (c:Int) (T TN:Tb.Tb) (sn cr:Bool) (n:Nm) (fl ag:Int) (v u:Value) (w:World) (s12:Value) (wx:World):Prop:=
 s12=.int .i64 c∧Ou w.heap.size b 6 M c T TN 0 R w wx∧GB wx g (c != 18)∧HB wx p7 T∧HB wx pn TN∧TryB wx ob sn cr n fl ag v u
def NwRel (WB:World) (T1 T2:Tb.Tb) (c2:Int) (s20:Value) (wx:World):Prop:=s20=.bool (decide (c2=0)&&Tb.sameT T1 T2)∧Below WB.heap.size WB wx
structure Bk (w:World) (b xg yg g p7 ob m8 M R:Nat) (T TX:Tb.Tb) (gd sn cr:Bool) (n:Nm) (fl ag:Int) (v u:Value) (wx:World):Prop where
 x:Rc w.heap.size b xg 6 m8 TX M R w wx
 y:Rc w.heap.size b yg 6 m8 TX M R w wx
 r:GB wx g gd
 h:HB wx p7 T
 t:TryB wx ob sn cr n fl ag v u
theorem Bk.call {w wx wy:World} {b xg yg g p7 ob m8 M R:Nat} {T TX:Tb.Tb} {gd sn cr:Bool} {n:Nm} {fl ag:Int} {v u:Value} (h:Bk w b xg yg g p7 ob m8 M R T TX gd sn cr n fl ag v u wx) (hb:Below wx.heap.size wx wy):Bk w b xg yg g p7 ob m8 M R T TX gd sn cr n fl ag v u wy:=
 ⟨h.x.call hb,h.y.call hb,h.r.call hb,h.h.call hb,h.t.call hb⟩
def NbRel (nb:Bool) (W:World) (s20:Value) (wx:World):Prop:=s20=.bool nb∧W=wx
def CdRel (W:World) (s:Value) (wx:World):Prop:=s=.bool false∧Below W.heap.size W wx
theorem same_self (a:Tb.Tb):Tb.sameT a a=true:=by simp [Tb.sameT]
theorem safe_key (sn:Bool) (c c2:Int) (T T2 TN TX:Tb.Tb) (nb:Bool) (hT0:TN=if sn then T else T2) (hc:sn=false→(c2≠0→c=c2∧c≠18)∧(c=0→c2=0)) (hk:Okt c T TN TX) (hn:nb=if sn then Tb.sameT TX T else (decide (c2=0)&&Tb.sameT TX TN)) :
 (c=0∧nb=true)∨(c=18∧(Tb.sameT TX T=true∨nb=true))∨(c≠0∧c≠18∧Tb.sameT TX T=true):=by
 have hT:sn=true→TN=T:=fun h=>by rw [hT0,h];rfl
 clear hT0
 rcases hk with ⟨h1,rfl⟩|⟨h1,h2⟩|⟨h1,h2,rfl⟩
 ·refine .inl ⟨h1,?_⟩
  cases sn
  ·have:=(hc rfl).2 h1
   rw [hn,same_self];simp [this]
  · rw [hn,hT rfl,if_pos rfl,same_self]
 ·refine .inr (.inl ⟨h1,?_⟩)
  rcases h2 with rfl|rfl
  · exact .inl (same_self _)
  ·cases sn
   ·by_cases h0:c2=0
    · exact .inr (by rw [hn,same_self];simp [h0])
    · exact absurd h1 ((hc rfl).1 h0).2
   · exact .inl (by rw [hT rfl,same_self])
 · exact .inr (.inr ⟨h1,h2,same_self _⟩)
theorem fits15 {TX:Tb.Tb} {qx:Nat} {zx:Int} (h1:TX.rows.length=qx) (h2:TX.mode=zx) (h3:TX.rows.length≤16) (h4:fitsR TX=0) (W:World) (ao:Option Addr) (cap:Nat) (h:Tb.Sl (.slice ao qx cap) TX.rows W ao cap) :
 Calls Tryz.prog 31 #[.agg #[.slice ao qx cap,.int .i64 zx]] W fun e w'=>e=.returned (.int .i64 0)∧Below W.heap.size W w':=by
 subst h1 h2
 have:=Ju.rfits_any TX ao cap W h.seen (by omega)
 rw [h4] at this
 exact this
theorem same15 {TX:Tb.Tb} {qx:Nat} {zx:Int} (h1:TX.rows.length=qx) (h2:TX.mode=zx) (h3:TX.rows.length≤16) (W:World) (ao bo:Option Addr) (ca cb:Nat) (ha:Tb.Sl (.slice ao qx ca) TX.rows W ao ca) (hb:Tb.Sl (.slice bo qx cb) TX.rows W bo cb) :
 Calls Tryz.prog 24 #[.agg #[.slice ao qx ca,.int .i64 zx],.agg #[.slice bo qx cb,.int .i64 zx]] W fun e w'=>e=.returned (.bool true)∧Below W.heap.size W w':=by
 subst h1 h2
 have:=Tb.rsame_any TX TX ao bo ca cb W ha.seen hb.seen (by omega) (by omega)
 rw [same_self] at this
 exact this
theorem rc_set2 {B b g m M R:Nat} {nn:Nat} {T:Tb.Tb} {w w0:World} {p:Nat} (h:Rc B b g nn m T M R w0 w) {a c:Value} (hp:w.heap[p]?=some (.cells #[a,c] 52 (0,0))) (hB:B≤p) (hW:w0.heap.size≤p) (x y:Value):Rc B b g nn m T M R w0 ((w.setCell ⟨p,0,none⟩ x).setCell ⟨p,1,none⟩ y):=by
 obtain ⟨j,l,q,nx,N,E,d,ops,S,r,h1,h2,h3,h4⟩:=h
 exact rf_set2 (k:=0) ⟨j,l,q,nx,N,E,d,ops,S,r,h1,h2,h3,h4⟩ hp hB hW x y
def sndN:Nat→Code→Code
 | 0,c=>c
 | n+1,.seq _ b=>sndN n b
 | _+1,c=>c
def fstC:Code→Code
 | .seq a _=>a
 | c=>c
def inC:Code→Code
 | .block _ b=>b
 | .loop b=>b
 | c=>c
theorem tab15 {w:World} {b g k M R qx:Nat} {TX:Tb.Tb} {zx:Int} (h1:TX.rows.length=qx) (h2:TX.mode=zx) (W:World) (h:Rc w.heap.size b g 6 k TX M R w W):Calls Tryz.prog 25 #[ptr g] W fun e w'=>∃ bo ck,e=.returned (.agg #[.slice bo qx ck,.int .i64 zx])∧Tb.Sl (.slice bo qx ck) TX.rows w' bo ck∧Below W.heap.size W w':=by
 subst h1 h2
 refine (table_c w.heap.size b g 6 k TX M R w W h).mono ?_
 rintro e w' ⟨v,rfl,⟨bo,ck,rfl,hs⟩,hb⟩
 exact ⟨bo,ck,rfl,hs,hb⟩
theorem tail_any (w wc:World) (b xg yg g p7 ob m8 M R:Nat) (T TX:Tb.Tb) (c:Int) (sn cr:Bool) (n:Nm) (fl ag:Int) (v u:Value) (od nw nb:Bool) (hst:Bk w b xg yg g p7 ob m8 M R T TX (c != 18) sn cr n fl ag v u wc) (hnb:nb=if sn then od else nw) (hkey:(c=0∧nb=true)∨(c=18∧(od=true∨nb=true))∨(c≠0∧c≠18∧od=true)) (hx:TX.rows.length≤16) (hp7:w.heap.size≤p7)
 (v0 v1 v2 v3 v4 v6 v8 v10 v11 v13 v14 v16 v18 v21 v22 v23 v24 v25 v26 v27 v28 v29 v30 v31 v32 v33 v34 v35 v36 v37 v38 v39 v40 v41 v42 v43 v44 v45 v46 v47 v48 v49 v50 v51 v52 v53 v54 v55 v56 v57 v58 v59 v60 v61 v62 v63 v64 v65 v66 v67 v68 v69 v70 v71 v72 v73 v74 v75 v76 v77 v78 v79 v80 v81 v82 v83 v84 v85 v86 v87 v88 v89 v90 v91 v92 v93 v94 v95 v96 v97 v98 v99 v100 v101 v102 v103 v104 v105 v106 v107 v108 v109 v110 v111 v112 v113 v114 v115 v116 v117 v118 v119 v120 v121 v122 v123 v124 v125 v126 v127 v128 v129 v130 v131 v132 v133 v134 v135 v136 v137 v138 v139 v140 v141 v142 v143 v144 v145 v146 v147 v148 v149 v150 v151 v152 v153 v154 v155 v156 v157 v158 v159 v160 v161 v162 v163 v164 v165 v166 v167 v168 v169 v170 v171 v172 v173 v174 v175 v176 v177 v178 v179 v180 v181 v182 v183 v184 v185 v186 v187 v188 v189 v190 v191 v192 v193 v194 v195 v196 v197 v198:Value) (Q:Exit→Act→World→Prop)
 (hQ:∀ (y18 y20 y21 y22 y145 y146 y147 y148 y149 y150 y151 y152 y153 y154 y155 y156 y157 y158 y159 y160 y161 y162 y163 y164 y165 y166 y167 y168 y169 y170 y171 y172 y173 y174 y175 y176 y177 y178 y179 y180 y181 y182 y183 y184 y185 y186 y187 y188 y189 y190 y191 y192 y193 y194 y195 y196 y197:Value) (w':World),Rc w.heap.size b yg 6 m8 TX M R w w'→HB w' p7 TX→Q .normal ⟨#[v0,v1,v2,v3,v4,ptr yg,v6,ptr p7,v8,ptr ob,v10,v11,.int .i64 c,v13,v14,ptr xg,v16,ptr yg,y18,.bool od,y20,y21,y22,v23,v24,v25,v26,v27,v28,v29,v30,v31,v32,v33,v34,v35,v36,v37,v38,v39,v40,v41,v42,v43,v44,v45,v46,v47,v48,v49,v50,v51,v52,v53,v54,v55,v56,v57,v58,v59,v60,v61,v62,v63,v64,v65,v66,v67,v68,v69,v70,v71,v72,v73,v74,v75,v76,v77,v78,v79,v80,v81,v82,v83,v84,v85,v86,v87,v88,v89,v90,v91,v92,v93,v94,v95,v96,v97,v98,v99,v100,v101,v102,v103,v104,v105,v106,v107,v108,v109,v110,v111,v112,v113,v114,v115,v116,v117,v118,v119,v120,v121,v122,v123,v124,v125,v126,v127,v128,v129,v130,v131,v132,v133,v134,v135,v136,v137,v138,v139,v140,v141,v142,v143,v144,y145,y146,y147,y148,y149,y150,y151,y152,y153,y154,y155,y156,y157,y158,y159,y160,y161,y162,y163,y164,y165,y166,y167,y168,y169,y170,y171,y172,y173,y174,y175,y176,y177,y178,y179,y180,y181,y182,y183,y184,y185,y186,y187,y188,y189,y190,y191,y192,y193,y194,y195,y196,y197,v198],[]⟩ w') :
 (sndN 13 (inC (fstC (sndN 1 (inC (inC (sndN 1 (fstC (sndN 6 (Tryz.f4.body.getD .skip)))))))))).wp Tryz.prog Q ⟨#[v0,v1,v2,v3,v4,ptr g,v6,ptr p7,v8,ptr ob,v10,v11,.int .i64 c,v13,v14,ptr xg,v16,ptr yg,v18,.bool od,.bool nw,v21,v22,v23,v24,v25,v26,v27,v28,v29,v30,v31,v32,v33,v34,v35,v36,v37,v38,v39,v40,v41,v42,v43,v44,v45,v46,v47,v48,v49,v50,v51,v52,v53,v54,v55,v56,v57,v58,v59,v60,v61,v62,v63,v64,v65,v66,v67,v68,v69,v70,v71,v72,v73,v74,v75,v76,v77,v78,v79,v80,v81,v82,v83,v84,v85,v86,v87,v88,v89,v90,v91,v92,v93,v94,v95,v96,v97,v98,v99,v100,v101,v102,v103,v104,v105,v106,v107,v108,v109,v110,v111,v112,v113,v114,v115,v116,v117,v118,v119,v120,v121,v122,v123,v124,v125,v126,v127,v128,v129,v130,v131,v132,v133,v134,v135,v136,v137,v138,v139,v140,v141,v142,v143,v144,v145,v146,v147,v148,v149,v150,v151,v152,v153,v154,v155,v156,v157,v158,v159,v160,v161,v162,v163,v164,v165,v166,v167,v168,v169,v170,v171,v172,v173,v174,v175,v176,v177,v178,v179,v180,v181,v182,v183,v184,v185,v186,v187,v188,v189,v190,v191,v192,v193,v194,v195,v196,v197,v198],[]⟩ wc:=by
 obtain ⟨qx,h1⟩:∃ q,TX.rows.length=q:=⟨_,rfl⟩
 obtain ⟨zx,h2⟩:∃ q,TX.mode=q:=⟨_,rfl⟩
 have TAX:=Lib.hid (fun g k W h=>tab15 (b:=b) (g:=g) (k:=k) (M:=M) (R:=R) (w:=w) h1 h2 W h)
 have RF:=Lib.hid (fun W ao cap h=>fits15 h1 h2 hx hst.x.fits W ao cap h)
 have SX2:=Lib.hid (fun W ao bo ca cb ha hb=>same15 h1 h2 hx W ao bo ca cb ha hb)
 have ST:=Lib.hid hst
 have HQ:=Lib.hid hQ
 have KEY:=Lib.hid hkey
 have NBE:=Lib.hid hnb
 have HP7:=Lib.hid hp7
 have SET:Hid (∀ W bo ck a7' c7',Tb.Sl (.slice bo qx ck) TX.rows W bo ck→W.heap[p7]?=some (.cells #[.slice a7' T.rows.length c7',.int .i64 T.mode] 52 (0,0))→HB ((W.setCell ⟨p7,0,none⟩ (.slice bo qx ck)).setCell ⟨p7,1,none⟩ (.int .i64 zx)) p7 TX):=Lib.hid (fun W bo ck a7' c7' h3 h4=>by
  subst h1 h2
  exact HB.set2 h3 h4)
 clear hst hnb hkey hx hp7 hQ h1 h2
 dsimp only [sndN,fstC,inC,Tryz.f4,Option.getD]
 go_wp2_with fail
 (with_reducible refine (TAX.out xg _ _ ST.out.x).mono ?_)
 rintro e wG ⟨b1,k1,rfl,hs1,bG⟩
 have SG:=Lib.hid (ST.out.call bG)
 have S1:=Lib.hid hs1
 clear ST hs1 bG
 go_wp2_with fail
 (with_reducible refine (TAX.out yg _ _ SG.out.y).mono ?_)
 rintro e wH ⟨b2,k2,rfl,hs2,bH⟩
 have SH:=Lib.hid (SG.out.call bH)
 have SM:=Lib.hid (SX2.out wH b1 b2 k1 k2 (S1.out.call bH) hs2)
 clear SG S1 hs2 bH
 go_wp2_with fail
 (with_reducible refine SM.out.mono ?_)
 rintro e wI ⟨rfl,bI⟩
 have SI:=Lib.hid (SH.out.call bI)
 clear SM SH bI SX2
 go_wp2_with fail
 (with_reducible refine (TAX.out xg _ _ SI.out.x).mono ?_)
 rintro e wJ ⟨b3,k3,rfl,hs3,bJ⟩
 have SJ:=Lib.hid (SI.out.call bJ)
 have RF3:=Lib.hid (RF.out wJ b3 k3 hs3)
 clear SI hs3 bJ RF
 go_wp2_with fail
 (with_reducible refine RF3.out.mono ?_)
 rintro e wK ⟨rfl,bK⟩
 have SK:=Lib.hid (SJ.out.call bK)
 clear RF3 SJ bK
 have x0:=SK.out.t.cell 0 _ rfl
 have GO:=Lib.hid (good_x _ g (c != 18) SK.out.r)
 go_upto_if 154 with (fail)
 go_cut [20] from 155 to 197 (NbRel nb wK)
 case first=>
  cases sn
  ·obtain rfl:nb=nw:=NBE.out
   clear NBE
   go_wp2_with fail
   go_meet
   exact ⟨rfl,rfl⟩
  ·obtain rfl:nb=od:=NBE.out
   clear NBE
   go_wp2_with fail
   go_meet
   exact ⟨rfl,rfl⟩
 case rest=>
  obtain ⟨rfl,hW⟩:=hcut
  subst hW
  clear NBE x0
  go_upto_region 41 with (fail)
  go_cut [194] from 155 to 197 (CdRel wK)
  case first=>
   rcases KEY.out with ⟨rfl,rfl⟩|⟨rfl,h⟩|⟨h1,h2,rfl⟩
   ·clear KEY
    go_wp2_with fail
    (with_reducible refine GO.out.mono ?_)
    rintro e wL ⟨rfl,bL⟩
    have BL:=Lib.hid bL
    clear bL GO
    go_wp2_with fail
    go_meet
    exact ⟨rfl,BL.out⟩
   ·clear KEY
    cases od
    ·obtain rfl:nb=true:=by simpa using h
     clear h
     go_wp2_with fail
     (with_reducible refine GO.out.mono ?_)
     rintro e wL ⟨rfl,bL⟩
     have BL:=Lib.hid bL
     clear bL GO
     go_wp2_with fail
     go_meet
     exact ⟨rfl,BL.out⟩
    ·clear h
     go_wp2_with fail
     (with_reducible refine GO.out.mono ?_)
     rintro e wL ⟨rfl,bL⟩
     have BL:=Lib.hid bL
     clear bL GO
     go_wp2_with fail
     go_meet
     exact ⟨rfl,BL.out⟩
   ·have e0:(c==0)=false:=by simpa using h1
    have e1:(c != 0)=true:=by simpa using h1
    have e2:(c==18)=false:=by simpa using h2
    have e3:(c != 18)=true:=by simpa using h2
    clear KEY h1 h2
    rw [e3] at GO
    go_wp2_with fail
    (with_reducible refine GO.out.mono ?_)
    rintro e wL ⟨rfl,bL⟩
    have BL:=Lib.hid bL
    clear bL GO
    go_wp2_with fail
    go_meet
    exact ⟨rfl,BL.out⟩
  case rest=>
   obtain ⟨rfl,bL⟩:=hcut
   have SL:=Lib.hid (SK.out.call bL)
   clear SK GO bL
   go_wp2_with fail
   (with_reducible refine (TAX.out xg _ _ SL.out.x).mono ?_)
   rintro e wM ⟨b4,k4,rfl,hs4,bM⟩
   obtain ⟨-,ry,-,⟨a7',c7',h7,-⟩,-⟩:=SL.out.call bM
   have z0:wM.cell? ⟨p7,0,none⟩=some (.slice a7' T.rows.length c7'):=by rw [Lib.cell_of_heap h7];rfl
   have z1:wM.cell? ⟨p7,1,none⟩=some (.int .i64 T.mode):=by rw [Lib.cell_of_heap h7];rfl
   have F0:=Lib.frozen_of_heap h7 0
   have F1:=Lib.frozen_of_heap h7 1
   have NX:=Lib.hid (And.intro (rc_set2 ry h7 HP7.out HP7.out (.slice b4 qx k4) (.int .i64 zx)) (SET.out wM b4 k4 a7' c7' hs4 h7))
   clear SL hs4 bM ry h7 TAX SET
   go_wp2
   exact HQ.out _ _ _ _ _ _ _ _ _ _ _ _ _ _ _ _ _ _ _ _ _ _ _ _ _ _ _ _ _ _ _ _ _ _ _ _ _ _ _ _ _ _ _ _ _ _ _ _ _ _ _ _ _ _ _ _ _ _ NX.out.1 NX.out.2
def QT (w:World) (b p7 i R:Nat) (Q:Exit→Act→World→Prop) (v0 v1 v3 v6 v8 v23 v24 v25 v26 v27 v28 v29 v30 v31 v32 v33 v34 v35 v36 v198:Value):Prop:=∀ (yg m8:Nat) (TX:Tb.Tb) (y2 y9 y10 y11 y12 y13 y14 y15 y16 y17 y18 y19 y20 y21 y22 y37 y38 y39 y40 y41 y42 y43 y44 y45 y46 y47 y48 y49 y50 y51 y52 y53 y54 y55 y56 y57 y58 y59 y60 y61 y62 y63 y64 y65 y66 y67 y68 y69 y70 y71 y72 y73 y74 y75 y76 y77 y78 y79 y80 y81 y82 y83 y84 y85 y86 y87 y88 y89 y90 y91 y92 y93 y94 y95 y96 y97 y98 y99 y100 y101 y102 y103 y104 y105 y106 y107 y108 y109 y110 y111 y112 y113 y114 y115 y116 y117 y118 y119 y120 y121 y122 y123 y124 y125 y126 y127 y128 y129 y130 y131 y132 y133 y134 y135 y136 y137 y138 y139 y140 y141 y142 y143 y144 y145 y146 y147 y148 y149 y150 y151 y152 y153 y154 y155 y156 y157 y158 y159 y160 y161 y162 y163 y164 y165 y166 y167 y168 y169 y170 y171 y172 y173 y174 y175 y176 y177 y178 y179 y180 y181 y182 y183 y184 y185 y186 y187 y188 y189 y190 y191 y192 y193 y194 y195 y196 y197:Value) (w':World),Rc w.heap.size b yg 6 m8 TX (i+2) (R+75) w w'→HB w' p7 TX→Q .normal ⟨#[v0,v1,y2,v3,ptr b,ptr yg,v6,ptr p7,v8,y9,y10,y11,y12,y13,y14,y15,y16,y17,y18,y19,y20,y21,y22,v23,v24,v25,v26,v27,v28,v29,v30,v31,v32,v33,v34,v35,v36,y37,y38,y39,y40,y41,y42,y43,y44,y45,y46,y47,y48,y49,y50,y51,y52,y53,y54,y55,y56,y57,y58,y59,y60,y61,y62,y63,y64,y65,y66,y67,y68,y69,y70,y71,y72,y73,y74,y75,y76,y77,y78,y79,y80,y81,y82,y83,y84,y85,y86,y87,y88,y89,y90,y91,y92,y93,y94,y95,y96,y97,y98,y99,y100,y101,y102,y103,y104,y105,y106,y107,y108,y109,y110,y111,y112,y113,y114,y115,y116,y117,y118,y119,y120,y121,y122,y123,y124,y125,y126,y127,y128,y129,y130,y131,y132,y133,y134,y135,y136,y137,y138,y139,y140,y141,y142,y143,y144,y145,y146,y147,y148,y149,y150,y151,y152,y153,y154,y155,y156,y157,y158,y159,y160,y161,y162,y163,y164,y165,y166,y167,y168,y169,y170,y171,y172,y173,y174,y175,y176,y177,y178,y179,y180,y181,y182,y183,y184,y185,y186,y187,y188,y189,y190,y191,y192,y193,y194,y195,y196,y197,v198],[]⟩ w'
theorem part5 (w wc:World) (b g p7 ob pn i R:Nat) (T T2:Tb.Tb) (c2:Int) (sn cr:Bool) (nk ni nc nd nt nm:Int) (ns:Bool) (fl ag:Int) (fo:Option Addr) (fs:List (Int×Int)) (fc:Nat) (go:Option Addr) (gs:List (Int×Int)) (gc:Nat) (hi12:i<12) (hR:R≤18+80*i) (hT:T.rows.length≤16) (hT2:T2.rows.length≤16) (hp7:w.heap.size≤p7) (hft:(Dk.Fats fo fs w∧fs.length≤9223372036854775807)∧(Dk.Fats go gs w∧gs.length≤9223372036854775807)) (TN:Tb.Tb) (c:Int) (hu:Ou w.heap.size b 6 (i+2) c T TN 0 (R+25) w wc) (hg:GB wc g (c != 18)) (hh:HB wc p7 T) (hp:HB wc pn TN) (ho:TryB wc ob sn cr ⟨nk,ni,nc,nd,nt,nm,ns⟩ fl ag (.slice fo fs.length fc) (.slice go gs.length gc)) (htn:TN=if sn then T else T2) (hx:(sn=false→(c2≠0→c=c2∧c≠18)∧(c=0→c2=0))) (v0 v1 v2 v3 v6 v8 v13 v14 v15 v16 v17 v18 v19 v20 v21 v22 v23 v24 v25 v26 v27 v28 v29 v30 v31 v32 v33 v34 v35 v36 v37 v38 v39 v40 v41 v42 v43 v44 v45 v46 v47 v48 v49 v50 v51 v52 v53 v54 v55 v56 v57 v58 v59 v60 v61 v62 v63 v64 v65 v66 v67 v68 v69 v70 v71 v72 v73 v74 v75 v76 v77 v78 v79 v80 v81 v82 v83 v84 v85 v86 v87 v88 v89 v90 v91 v92 v93 v94 v95 v96 v97 v98 v99 v100 v101 v102 v103 v104 v105 v106 v107 v108 v109 v110 v111 v112 v113 v114 v115 v116 v117 v118 v119 v120 v121 v122 v123 v124 v125 v126 v127 v128 v129 v130 v131 v132 v133 v134 v135 v136 v137 v138 v139 v140 v141 v142 v143 v144 v145 v146 v147 v148 v149 v150 v151 v152 v153 v154 v155 v156 v157 v158 v159 v160 v161 v162 v163 v164 v165 v166 v167 v168 v169 v170 v171 v172 v173 v174 v175 v176 v177 v178 v179 v180 v181 v182 v183 v184 v185 v186 v187 v188 v189 v190 v191 v192 v193 v194 v195 v196 v197 v198:Value) (Q:Exit→Act→World→Prop) (hQp:∀ c a d v w,Q (.panic c) (a.put d v) w→Q (.panic c) a w) (hQ:QT w b p7 i R Q v0 v1 v3 v6 v8 v23 v24 v25 v26 v27 v28 v29 v30 v31 v32 v33 v34 v35 v36 v198) :
 (sndN 8 (inC (fstC (sndN 1 (inC (inC (sndN 1 (fstC (sndN 6 (Tryz.f4.body.getD .skip)))))))))).wp Tryz.prog Q ⟨#[v0,v1,v2,v3,ptr b,ptr g,v6,ptr p7,v8,ptr ob,ptr pn,.int .i64 c2,.int .i64 c,v13,v14,v15,v16,v17,v18,v19,v20,v21,v22,v23,v24,v25,v26,v27,v28,v29,v30,v31,v32,v33,v34,v35,v36,v37,v38,v39,v40,v41,v42,v43,v44,v45,v46,v47,v48,v49,v50,v51,v52,v53,v54,v55,v56,v57,v58,v59,v60,v61,v62,v63,v64,v65,v66,v67,v68,v69,v70,v71,v72,v73,v74,v75,v76,v77,v78,v79,v80,v81,v82,v83,v84,v85,v86,v87,v88,v89,v90,v91,v92,v93,v94,v95,v96,v97,v98,v99,v100,v101,v102,v103,v104,v105,v106,v107,v108,v109,v110,v111,v112,v113,v114,v115,v116,v117,v118,v119,v120,v121,v122,v123,v124,v125,v126,v127,v128,v129,v130,v131,v132,v133,v134,v135,v136,v137,v138,v139,v140,v141,v142,v143,v144,v145,v146,v147,v148,v149,v150,v151,v152,v153,v154,v155,v156,v157,v158,v159,v160,v161,v162,v163,v164,v165,v166,v167,v168,v169,v170,v171,v172,v173,v174,v175,v176,v177,v178,v179,v180,v181,v182,v183,v184,v185,v186,v187,v188,v189,v190,v191,v192,v193,v194,v195,v196,v197,v198],[]⟩ wc:=by
 have HR:=Lib.hid hR
 have HTT:=Lib.hid hT
 have HML:=Lib.hid hT2
 have HP7:=Lib.hid hp7
 have FT:=Lib.hid hft
 have HQ:=Lib.hid hQ
 have HQP:=Lib.hid hQp
 have TNE:=Lib.hid htn
 have CX:=Lib.hid hx
 clear htn hx hR hT hT2 hp7 hft hQ hQp
 dsimp only [sndN,fstC,inC,Tryz.f4,Option.getD]
 have OO:=Lib.hid (open_o w.heap.size b 6 (i+2) c T TN (R+25) w wc hu (by omega) (by have:=HR.out;omega) (Nat.le_refl _))
 have G8:=Lib.hid hg
 have H8:=Lib.hid hh
 have P8:=Lib.hid hp
 have O8:=Lib.hid ho
 clear hu hg hh hp ho
 go_wp2_with fail
 (with_reducible refine OO.out.mono ?_)
 rintro e w8 ⟨xg,m8,TX,rfl,hok,rx,k8,s8⟩
 have OKT:=Lib.hid hok
 have OC:=Lib.hid (open_cs w.heap.size b xg 6 m8 TX (i+2) (R+25+19+6) w w8 rx (by omega) (by have:=HR.out;omega))
 have G9:=Lib.hid (G8.out.since s8)
 have H9:=Lib.hid (H8.out.kr k8)
 have P9:=Lib.hid (P8.out.kr k8)
 have O9:=Lib.hid (O8.out.kr k8)
 clear OO hok rx k8 s8 G8 H8 P8 O8
 go_wp2_with fail
 (with_reducible refine OC.out.mono ?_)
 rintro e w9 ⟨yg,rfl,ry,rx,k9,s9⟩
 have XA:=Lib.hid rx
 have YA:=Lib.hid ry
 have GA:=Lib.hid (G9.out.since s9)
 have HA:=Lib.hid (H9.out.kr k9)
 have PA:=Lib.hid (P9.out.kr k9)
 have OA:=Lib.hid (O9.out.kr k9)
 have HX:=Lib.hid ((Tb.chkT_iff.1 (Ju.fits_zero.1 rx.fits).1).2.2.1)
 clear OC ry rx k9 s9 G9 H9 P9 O9
 have TA:=Lib.hid (fun g k R W h=>table_c w.heap.size b g 6 k TX (i+2) R w W h)
 have SX:Hid (∀ (a b:Tb.Tb) (ao bo:Option Addr) (qa qb:Nat) (za zb:Int) (ca cb:Nat) (W:World),a.rows.length=qa→a.mode=za→b.rows.length=qb→b.mode=zb→qa≤1000→qb≤1000→Tb.Sl (.slice ao qa ca) a.rows W ao ca→Tb.Sl (.slice bo qb cb) b.rows W bo cb→Calls Tryz.prog 24 #[.agg #[.slice ao qa ca,.int .i64 za],.agg #[.slice bo qb cb,.int .i64 zb]] W fun e w'=>e=.returned (.bool (Tb.sameT a b))∧Below W.heap.size W w'):=Lib.hid (fun a b ao bo qa qb za zb ca cb W h1 h2 h3 h4 h5 h6 ha hb=>by
  subst h1 h2 h3 h4
  exact Tb.rsame_any a b ao bo ca cb W ha.seen hb.seen h5 h6)
 have HF2:=Lib.hid (show T.rows.length≤1000 by have:=HTT.out;omega)
 obtain ⟨a7,c7,h70,h71⟩:=HA.out
 obtain ⟨qn,hq⟩:∃ q,T.rows.length=q:=⟨_,rfl⟩
 obtain ⟨z,hz⟩:∃ q,T.mode=q:=⟨_,rfl⟩
 obtain ⟨qx,hqx⟩:∃ q,TX.rows.length=q:=⟨_,rfl⟩
 obtain ⟨zx,hzx⟩:∃ q,TX.mode=q:=⟨_,rfl⟩
 rw [hq,hz] at h70
 rw [hq] at h71
 have HQA:=Lib.hid (And.intro hq hz)
 have HQX:=Lib.hid (And.intro hqx hzx)
 have S71:=Lib.hid h71
 have TAX:Hid (∀ g k R W,Rc w.heap.size b g 6 k TX (i+2) R w W→Calls Tryz.prog 25 #[ptr g] W fun e w'=>∃ bo ck,e=.returned (.agg #[.slice bo qx ck,.int .i64 zx])∧Tb.Sl (.slice bo qx ck) TX.rows w' bo ck∧Below W.heap.size W w'):=Lib.hid (fun g k R W h=>(TA.out g k R W h).mono fun e w'=>by
  rintro ⟨v,rfl,⟨bo,ck,rfl,hs⟩,hb⟩
  rw [HQX.out.1] at hs
  refine ⟨bo,ck,?_,hs,hb⟩
  unfold Tb.tv
  rw [HQX.out.1,HQX.out.2])
 have KP:Hid (∀ W,Below w9.heap.size w9 W→W.cell? ⟨p7,0,none⟩=some (.slice a7 qn c7)∧W.cell? ⟨p7,1,none⟩=some (.int .i64 z)):=Lib.hid (fun W hW=>by
  have h1:=(hW.block p7 (Dk.lt_of_heap h70)).trans h70
  exact ⟨by rw [Lib.cell_of_heap h1];rfl,by rw [Lib.cell_of_heap h1];rfl⟩)
 have BD:=Lib.hid ((Below.refl w9.heap.size w9).drew)
 clear hq hz hqx hzx h70 h71 TA
 go_upto_region 35 with (fail)
 refine wp_region_held_drew (S:=(fun W'=>W'.cell? ⟨p7,0,none⟩=some (.slice a7 qn c7)∧W'.cell? ⟨p7,1,none⟩=some (.int .i64 z))) (by kernel_rfl) (KP.out _ BD.out) (fun hHeld=>?_)
 refine Gh.tk 0 ?_ (hQ:=fun _ _ _ h=>HQP.out _ _ _ _ _ h)
 refine Gh.tk 2 ?_ (hQ:=fun _ _ _ h=>HQP.out _ _ _ _ _ h)
 refine Gh.rd 1 (fun K hK=>?_)
 go_simp
 (with_reducible refine (TAX.out xg _ _ _ (XA.out.call BD.out)).mono ?_)
 rintro e wA ⟨bo,ck,rfl,hsA,bA⟩
 have BA:=Lib.hid (BD.out.trans (bA.mono BD.out.size))
 have SA_:=Lib.hid hsA
 clear bA hsA
 go_simp
 refine hK.out _ _ (KP.out _ BA.out) (fun hHeld=>?_)
 clear hK K
 refine Gh.pt ?_
 refine Gh.rd 3 (fun K hK=>?_)
 go_simp
 (with_reducible refine (SX.out TX T bo a7 qx qn zx z ck c7 wA HQX.out.1 HQX.out.2 HQA.out.1 HQA.out.2 (by have:=HX.out;have:=HQX.out.1;omega) (by have:=HF2.out;have:=HQA.out.1;omega) SA_.out (S71.out.call BA.out)).mono ?_)
 rintro e wB ⟨rfl,bB⟩
 have BB:=Lib.hid (BA.out.trans (bB.mono BA.out.size))
 clear bB
 go_simp
 refine hK.out _ _ (KP.out _ BB.out) (fun hHeld=>?_)
 clear hK K
 refine Gh.pt ?_
 refine Gh.tk 4 ?_ (hQ:=fun _ _ _ h=>HQP.out _ _ _ _ _ h)
 refine wpAnyH_done (by kernel_rfl) ?_ _
 clear hHeld
 have XB:=Lib.hid (XA.out.call BB.out)
 have YB:=Lib.hid (YA.out.call BB.out)
 have GB_:=Lib.hid (GA.out.call BB.out)
 have HB_:=Lib.hid (HA.out.call BB.out)
 have PB_:=Lib.hid (PA.out.call BB.out)
 have OB_:=Lib.hid (OA.out.call BB.out)
 have TNL:=Lib.hid (show TN.rows.length≤1000 by
  have h1:=TNE.out
  have h2:=HML.out
  have h3:=HF2.out
  cases sn
  · rw [h1];simpa using (show T2.rows.length≤1000 by omega)
  · rw [h1];simpa using h3)
 clear XA YA GA HA PA OA SA_ BA BD BB KP S71
 obtain ⟨an,cn,p70,p71⟩:=PB_.out
 obtain ⟨q2,hq2⟩:∃ q,TN.rows.length=q:=⟨_,rfl⟩
 obtain ⟨z2,hz2⟩:∃ q,TN.mode=q:=⟨_,rfl⟩
 rw [hq2,hz2] at p70
 rw [hq2] at p71
 have HQ2:=Lib.hid (And.intro hq2 hz2)
 have S72:=Lib.hid p71
 have KQ:Hid (∀ W,Below wB.heap.size wB W→W.cell? ⟨pn,0,none⟩=some (.slice an q2 cn)∧W.cell? ⟨pn,1,none⟩=some (.int .i64 z2)):=Lib.hid (fun W hW=>by
  have h1:=(hW.block pn (Dk.lt_of_heap p70)).trans p70
  exact ⟨by rw [Lib.cell_of_heap h1];rfl,by rw [Lib.cell_of_heap h1];rfl⟩)
 have BD:=Lib.hid ((Below.refl wB.heap.size wB).drew)
 clear hq2 hz2 p70 p71
 go_upto_region 36 with (fail)
 go_cut [20] from 37 to 197 (NwRel wB TX TN c2)
 case first=>
  by_cases h0:c2=0
  ·subst h0
   refine wp_region_held_drew (S:=(fun W'=>W'.cell? ⟨pn,0,none⟩=some (.slice an q2 cn)∧W'.cell? ⟨pn,1,none⟩=some (.int .i64 z2))) (by kernel_rfl) (KQ.out _ BD.out) (fun hHeld=>?_)
   refine Gh.tk 0 ?_ (hQ:=fun _ _ _ h=>HQP.out _ _ _ _ _ h)
   refine Gh.tk 1 ?_ (hQ:=fun _ _ _ h=>HQP.out _ _ _ _ _ h)
   refine Gh.tk 2 ?_ (hQ:=fun _ _ _ h=>HQP.out _ _ _ _ _ h)
   refine Gh.tk 3 ?_ (hQ:=fun _ _ _ h=>HQP.out _ _ _ _ _ h)
   refine Gh.tk 5 ?_ (hQ:=fun _ _ _ h=>HQP.out _ _ _ _ _ h)
   refine Gh.rd 4 (fun K hK=>?_)
   go_simp
   (with_reducible refine (TAX.out xg _ _ _ (XB.out.call BD.out)).mono ?_)
   rintro e wE ⟨bo,ck,rfl,hsA,bA⟩
   have BA:=Lib.hid (BD.out.trans (bA.mono BD.out.size))
   have SE_:=Lib.hid hsA
   clear bA hsA
   go_simp
   refine hK.out _ _ (KQ.out _ BA.out) (fun hHeld=>?_)
   clear hK K
   refine Gh.pt ?_
   refine Gh.rd 6 (fun K hK=>?_)
   go_simp
   (with_reducible refine (SX.out TX TN bo an qx q2 zx z2 ck cn wE HQX.out.1 HQX.out.2 HQ2.out.1 HQ2.out.2 (by have:=HX.out;have:=HQX.out.1;omega) (by have:=TNL.out;have:=HQ2.out.1;omega) SE_.out (S72.out.call BA.out)).mono ?_)
   rintro e wF ⟨rfl,bB⟩
   have BB:=Lib.hid (BA.out.trans (bB.mono BA.out.size))
   clear bB
   go_simp
   refine hK.out _ _ (KQ.out _ BB.out) (fun hHeld=>?_)
   clear hK K
   refine Gh.pt ?_
   refine Gh.tk 7 ?_ (hQ:=fun _ _ _ h=>HQP.out _ _ _ _ _ h)
   refine Gh.tk 8 ?_ (hQ:=fun _ _ _ h=>HQP.out _ _ _ _ _ h)
   refine wpAnyH_done (by kernel_rfl) ?_ _
   clear hHeld
   go_wp2_with fail
   go_meet
   exact ⟨by simp,BB.out⟩
  ·have e0:(c2==0)=false:=by simpa using h0
   refine wp_region_held_drew (S:=(fun W'=>W'.cell? ⟨pn,0,none⟩=some (.slice an q2 cn)∧W'.cell? ⟨pn,1,none⟩=some (.int .i64 z2))) (by kernel_rfl) (KQ.out _ BD.out) (fun hHeld=>?_)
   refine Gh.tk 0 ?_ (hQ:=fun _ _ _ h=>HQP.out _ _ _ _ _ h)
   refine Gh.tk 1 ?_ (hQ:=fun _ _ _ h=>HQP.out _ _ _ _ _ h)
   refine Gh.tk 2 ?_ (hQ:=fun _ _ _ h=>HQP.out _ _ _ _ _ h)
   refine Gh.tn 3 ?_ (hQ:=fun _ _ _ h=>HQP.out _ _ _ _ _ h)
   refine Gh.tn 4 ?_ (hQ:=fun _ _ _ h=>HQP.out _ _ _ _ _ h)
   refine Gh.tn 5 ?_ (hQ:=fun _ _ _ h=>HQP.out _ _ _ _ _ h)
   refine Gh.tn 6 ?_ (hQ:=fun _ _ _ h=>HQP.out _ _ _ _ _ h)
   refine Gh.tk 7 ?_ (hQ:=fun _ _ _ h=>HQP.out _ _ _ _ _ h)
   refine Gh.tk 8 ?_ (hQ:=fun _ _ _ h=>HQP.out _ _ _ _ _ h)
   refine wpAnyH_done (by kernel_rfl) ?_ _
   clear hHeld
   go_wp2_with fail
   go_meet
   exact ⟨by simp [h0],BD.out⟩
 case rest=>
  obtain ⟨e20,hbC⟩:=hcut
  obtain ⟨nb,hnb⟩:∃ nb,nb=if sn then Tb.sameT TX T else (decide (c2=0)&&Tb.sameT TX TN):=⟨_,rfl⟩
  have KEY:=Lib.hid (safe_key sn c c2 T T2 TN TX nb TNE.out CX.out OKT.out hnb)
  have ST:=Lib.hid (show Bk w b xg yg g p7 ob m8 (i+2) (R+75) T TX (c != 18) sn cr ⟨nk,ni,nc,nd,nt,nm,ns⟩ fl ag (.slice fo fs.length fc) (.slice go gs.length gc) wc from ⟨XB.out.call hbC,YB.out.call hbC,GB_.out.call hbC,HB_.out.call hbC,OB_.out.call hbC⟩)
  rename_i K0 hK0
  refine hK0 _ _ ?_
  subst e20
  exact tail_any w wc b xg yg g p7 ob m8 (i+2) (R+75) T TX c sn cr _ fl ag _ _ _ _ nb ST.out hnb KEY.out HX.out HP7.out _ _ _ _ _ _ _ _ _ _ _ _ _ _ _ _ _ _ _ _ _ _ _ _ _ _ _ _ _ _ _ _ _ _ _ _ _ _ _ _ _ _ _ _ _ _ _ _ _ _ _ _ _ _ _ _ _ _ _ _ _ _ _ _ _ _ _ _ _ _ _ _ _ _ _ _ _ _ _ _ _ _ _ _ _ _ _ _ _ _ _ _ _ _ _ _ _ _ _ _ _ _ _ _ _ _ _ _ _ _ _ _ _ _ _ _ _ _ _ _ _ _ _ _ _ _ _ _ _ _ _ _ _ _ _ _ _ _ _ _ _ _ _ _ _ _ _ _ _ _ _ _ _ _ _ _ _ _ _ _ _ _ _ _ _ _ _ _ _ _ _ _ _ _ _ _ _ _ _ _ _ _ _ _ _ _ _ _ _ _ _ _ (fun y18 y20 y21 y22 y145 y146 y147 y148 y149 y150 y151 y152 y153 y154 y155 y156 y157 y158 y159 y160 y161 y162 y163 y164 y165 y166 y167 y168 y169 y170 y171 y172 y173 y174 y175 y176 y177 y178 y179 y180 y181 y182 y183 y184 y185 y186 y187 y188 y189 y190 y191 y192 y193 y194 y195 y196 y197 w9 hr hh=>HQ.out _ _ _ _ _ _ _ _ _ _ _ _ _ _ _ _ _ _ _ _ _ _ _ _ _ _ _ _ _ _ _ _ _ _ _ _ _ _ _ _ _ _ _ _ _ _ _ _ _ _ _ _ _ _ _ _ _ _ _ _ _ _ _ _ _ _ _ _ _ _ _ _ _ _ _ _ _ _ _ _ _ _ _ _ _ _ _ _ _ _ _ _ _ _ _ _ _ _ _ _ _ _ _ _ _ _ _ _ _ _ _ _ _ _ _ _ _ _ _ _ _ _ _ _ _ _ _ _ _ _ _ _ _ _ _ _ _ _ _ _ _ _ _ _ _ _ _ _ _ _ _ _ _ _ _ _ _ _ _ _ _ _ _ _ _ _ _ _ _ _ _ _ _ _ _ _ _ _ _ _ hr hh)
theorem part4 (w wc:World) (b g p7 ob pn i R:Nat) (T T2:Tb.Tb) (c2:Int) (sn cr:Bool) (nk ni nc nd nt nm:Int) (ns:Bool) (fl ag:Int) (fo:Option Addr) (fs:List (Int×Int)) (fc:Nat) (go:Option Addr) (gs:List (Int×Int)) (gc:Nat) (hi12:i<12) (hR:R≤18+80*i) (hT:T.rows.length≤16) (hT2:T2.rows.length≤16) (hp7:w.heap.size≤p7) (hft:(Dk.Fats fo fs w∧fs.length≤9223372036854775807)∧(Dk.Fats go gs w∧gs.length≤9223372036854775807)) (TN:Tb.Tb) (c:Int) (hu:Ou w.heap.size b 6 (i+2) c T TN 0 R w wc) (hg:GB wc g (c != 18)) (hh:HB wc p7 T) (hp:HB wc pn TN) (ho:TryB wc ob sn cr ⟨nk,ni,nc,nd,nt,nm,ns⟩ fl ag (.slice fo fs.length fc) (.slice go gs.length gc)) (htn:TN=if sn then T else T2) (hx:(sn=false→(c2≠0→c=c2∧c≠18)∧(c=0→c2=0))) (v0 v1 v2 v3 v6 v8 v13 v14 v15 v16 v17 v18 v19 v20 v21 v22 v23 v24 v25 v26 v27 v28 v29 v30 v31 v32 v33 v34 v35 v36 v37 v38 v39 v40 v41 v42 v43 v44 v45 v46 v47 v48 v49 v50 v51 v52 v53 v54 v55 v56 v57 v58 v59 v60 v61 v62 v63 v64 v65 v66 v67 v68 v69 v70 v71 v72 v73 v74 v75 v76 v77 v78 v79 v80 v81 v82 v83 v84 v85 v86 v87 v88 v89 v90 v91 v92 v93 v94 v95 v96 v97 v98 v99 v100 v101 v102 v103 v104 v105 v106 v107 v108 v109 v110 v111 v112 v113 v114 v115 v116 v117 v118 v119 v120 v121 v122 v123 v124 v125 v126 v127 v128 v129 v130 v131 v132 v133 v134 v135 v136 v137 v138 v139 v140 v141 v142 v143 v144 v145 v146 v147 v148 v149 v150 v151 v152 v153 v154 v155 v156 v157 v158 v159 v160 v161 v162 v163 v164 v165 v166 v167 v168 v169 v170 v171 v172 v173 v174 v175 v176 v177 v178 v179 v180 v181 v182 v183 v184 v185 v186 v187 v188 v189 v190 v191 v192 v193 v194 v195 v196 v197 v198:Value) (Q:Exit→Act→World→Prop) (hQp:∀ c a d v w,Q (.panic c) (a.put d v) w→Q (.panic c) a w) (hQ:QT w b p7 i R Q v0 v1 v3 v6 v8 v23 v24 v25 v26 v27 v28 v29 v30 v31 v32 v33 v34 v35 v36 v198) :
 (sndN 7 (inC (fstC (sndN 1 (inC (inC (sndN 1 (fstC (sndN 6 (Tryz.f4.body.getD .skip)))))))))).wp Tryz.prog Q ⟨#[v0,v1,v2,v3,ptr b,ptr g,v6,ptr p7,v8,ptr ob,ptr pn,.int .i64 c2,.int .i64 c,v13,v14,v15,v16,v17,v18,v19,v20,v21,v22,v23,v24,v25,v26,v27,v28,v29,v30,v31,v32,v33,v34,v35,v36,v37,v38,v39,v40,v41,v42,v43,v44,v45,v46,v47,v48,v49,v50,v51,v52,v53,v54,v55,v56,v57,v58,v59,v60,v61,v62,v63,v64,v65,v66,v67,v68,v69,v70,v71,v72,v73,v74,v75,v76,v77,v78,v79,v80,v81,v82,v83,v84,v85,v86,v87,v88,v89,v90,v91,v92,v93,v94,v95,v96,v97,v98,v99,v100,v101,v102,v103,v104,v105,v106,v107,v108,v109,v110,v111,v112,v113,v114,v115,v116,v117,v118,v119,v120,v121,v122,v123,v124,v125,v126,v127,v128,v129,v130,v131,v132,v133,v134,v135,v136,v137,v138,v139,v140,v141,v142,v143,v144,v145,v146,v147,v148,v149,v150,v151,v152,v153,v154,v155,v156,v157,v158,v159,v160,v161,v162,v163,v164,v165,v166,v167,v168,v169,v170,v171,v172,v173,v174,v175,v176,v177,v178,v179,v180,v181,v182,v183,v184,v185,v186,v187,v188,v189,v190,v191,v192,v193,v194,v195,v196,v197,v198],[]⟩ wc:=by
 have HR:=Lib.hid hR
 have HTT:=Lib.hid hT
 have HML:=Lib.hid hT2
 have HP7:=Lib.hid hp7
 have FT:=Lib.hid hft
 have HQ:=Lib.hid hQ
 have HQP:=Lib.hid hQp
 have TNE:=Lib.hid htn
 have CX:=Lib.hid hx
 clear htn hx hR hT hT2 hp7 hft hQ hQp
 dsimp only [sndN,fstC,inC,Tryz.f4,Option.getD]
 have U7:=Lib.hid hu
 have G7:=Lib.hid hg
 have H7:=Lib.hid hh
 have P7:=Lib.hid hp
 have O7:=Lib.hid ho
 clear hu hg hh hp ho
 obtain ⟨a,ha31⟩:∃ a:Nat,bits .and .i64 ag 31=(a:Int):=⟨(ag%32).toNat,by rw [i64_and31];omega⟩
 have ha32:a<32:=by have:=i64_and31 ag;omega
 have x10:=O7.out.cell 10 _ rfl
 go_upto_if 92 with (fail)
 go_cut [12] from 37 to 197 (CrRel b g p7 pn ob (i+2) (R+25) c T TN sn cr ⟨nk,ni,nc,nd,nt,nm,ns⟩ fl ag (.slice fo fs.length fc) (.slice go gs.length gc) w)
 case first=>
  by_cases h0:0<a
  ·have ha0:(0:Int)<(a:Int):=by omega
   have FA:=Lib.hid (ou_fail U7.out (a:Int) (by omega))
   have HA:=Lib.hid ha32
   clear h0 ha32
   go_wp2_with fail
   (with_reducible refine FA.out.mono ?_)
   rintro e w8 ⟨rfl,u8,k8,s8⟩
   rw [Int.toNat_natCast] at u8
   have OX:=Lib.hid (open_x w.heap.size b 6 (i+2) c T TN a R w w8 u8 (by omega) (by have:=HR.out;omega) (by have:=HA.out;omega) (Nat.le_refl _))
   have G8:=Lib.hid (G7.out.since s8)
   have H8:=Lib.hid (H7.out.kr k8)
   have P8:=Lib.hid (P7.out.kr k8)
   have O8:=Lib.hid (O7.out.kr k8)
   clear u8 k8 s8 FA U7 G7 H7 P7 O7 ha31 ha0 x10
   go_wp2_with fail
   (with_reducible refine OX.out.mono ?_)
   rintro e w9 ⟨F9,u9,k9,s9,hx⟩
   have G9:=Lib.hid (G8.out.since s9)
   have H9:=Lib.hid (H8.out.kr k9)
   have P9:=Lib.hid (P8.out.kr k9)
   have O9:=Lib.hid (O8.out.kr k9)
   have U9:=Lib.hid u9
   clear OX k9 s9 u9 G8 H8 P8 O8
   rcases hx with ⟨g9,rfl⟩|rfl
   ·have FZ:=Lib.hid (ou_fail U9.out 0 (by omega))
    go_wp2_with fail
    (with_reducible refine FZ.out.mono ?_)
    rintro e wA ⟨rfl,uA,kA,sA⟩
    rw [Int.toNat_zero] at uA
    have NA:=Lib.hid (show CrRel b g p7 pn ob (i+2) (R+25) c T TN sn cr ⟨nk,ni,nc,nd,nt,nm,ns⟩ fl ag (.slice fo fs.length fc) (.slice go gs.length gc) w (.int .i64 c) wA from ⟨rfl,uA.reads (by omega),G9.out.since sA,H9.out.kr kA,P9.out.kr kA,O9.out.kr kA⟩)
    clear FZ uA kA sA U9 G9 H9 P9 O9
    go_wp2_with fail
    go_meet
    exact NA.out
   ·have x12:=O9.out.cell 12 _ rfl
    obtain ⟨hfa,hof⟩:=U9.out.fats rfl FT.out.2.1
    have CH:=Lib.hid (ou_crash U9.out go gs gc hfa hof FT.out.2.2)
    clear hfa hof
    go_wp2_with fail
    (with_reducible refine CH.out.mono ?_)
    rintro e wB ⟨vB,rfl,uB,kB,sB⟩
    have GB_:=Lib.hid (G9.out.since sB)
    have HB_:=Lib.hid (H9.out.kr kB)
    have PB_:=Lib.hid (P9.out.kr kB)
    have OB_:=Lib.hid (O9.out.kr kB)
    have FZ:=Lib.hid (ou_fail uB 0 (by omega))
    clear CH uB kB sB U9 G9 H9 P9 O9 x12
    go_wp2_with fail
    (with_reducible refine FZ.out.mono ?_)
    rintro e wA ⟨rfl,uA,kA,sA⟩
    rw [Int.toNat_zero] at uA
    have NA:=Lib.hid (show CrRel b g p7 pn ob (i+2) (R+25) c T TN sn cr ⟨nk,ni,nc,nd,nt,nm,ns⟩ fl ag (.slice fo fs.length fc) (.slice go gs.length gc) w (.int .i64 c) wA from ⟨rfl,uA.reads (by omega),GB_.out.since sA,HB_.out.kr kA,PB_.out.kr kA,OB_.out.kr kA⟩)
    clear FZ uA kA sA GB_ HB_ PB_ OB_
    go_wp2_with fail
    go_meet
    exact NA.out
  ·obtain rfl:a=0:=by omega
   have NA:=Lib.hid (show CrRel b g p7 pn ob (i+2) (R+25) c T TN sn cr ⟨nk,ni,nc,nd,nt,nm,ns⟩ fl ag (.slice fo fs.length fc) (.slice go gs.length gc) w (.int .i64 c) wc from ⟨rfl,U7.out.reads (by omega),G7.out,H7.out,P7.out,O7.out⟩)
   clear U7 G7 H7 P7 O7 h0 ha32
   go_wp2_with fail
   go_meet
   exact NA.out
 case rest=>
  obtain ⟨rfl,hu,hg,hh,hp,ho⟩:=hcut
  rename_i K0 hK0
  refine hK0 _ _ ?_
  exact part5 w _ b g p7 ob pn i R T T2 c2 sn cr nk ni nc nd nt nm ns fl ag fo fs fc go gs gc hi12 HR.out HTT.out HML.out HP7.out FT.out TN c hu hg hh hp ho TNE.out CX.out _ _ _ _ _ _ _ _ _ _ _ _ _ _ _ _ _ _ _ _ _ _ _ _ _ _ _ _ _ _ _ _ _ _ _ _ _ _ _ _ _ _ _ _ _ _ _ _ _ _ _ _ _ _ _ _ _ _ _ _ _ _ _ _ _ _ _ _ _ _ _ _ _ _ _ _ _ _ _ _ _ _ _ _ _ _ _ _ _ _ _ _ _ _ _ _ _ _ _ _ _ _ _ _ _ _ _ _ _ _ _ _ _ _ _ _ _ _ _ _ _ _ _ _ _ _ _ _ _ _ _ _ _ _ _ _ _ _ _ _ _ _ _ _ _ _ _ _ _ _ _ _ _ _ _ _ _ _ _ _ _ _ _ _ _ _ _ _ _ _ _ _ _ _ _ _ _ _ _ _ _ _ _ _ _ _ _ _ _ _ _ _ _ HQP.out HQ.out
theorem part3 (w wc:World) (b g p7 ob pn i R:Nat) (T T2:Tb.Tb) (c2:Int) (sn cr:Bool) (nk ni nc nd nt nm:Int) (ns:Bool) (fl ag:Int) (fo:Option Addr) (fs:List (Int×Int)) (fc:Nat) (go:Option Addr) (gs:List (Int×Int)) (gc:Nat) (hi12:i<12) (hR:R≤18+80*i) (hT:T.rows.length≤16) (hT2:T2.rows.length≤16) (hp7:w.heap.size≤p7) (hft:(Dk.Fats fo fs w∧fs.length≤9223372036854775807)∧(Dk.Fats go gs w∧gs.length≤9223372036854775807)) (F:Nat) (TN:Tb.Tb) (c:Int) (hu:Ou w.heap.size b 6 (i+2) c T TN F R w wc) (hg:GB wc g (c != 18)) (hh:HB wc p7 T) (hp:HB wc pn TN) (ho:TryB wc ob sn cr ⟨nk,ni,nc,nd,nt,nm,ns⟩ fl ag (.slice fo fs.length fc) (.slice go gs.length gc)) (htn:TN=if sn then T else T2) (hx:(sn=false→(c2≠0→c=c2∧c≠18)∧(c=0→c2=0))) (v0 v1 v2 v3 v6 v8 v13 v14 v15 v16 v17 v18 v19 v20 v21 v22 v23 v24 v25 v26 v27 v28 v29 v30 v31 v32 v33 v34 v35 v36 v37 v38 v39 v40 v41 v42 v43 v44 v45 v46 v47 v48 v49 v50 v51 v52 v53 v54 v55 v56 v57 v58 v59 v60 v61 v62 v63 v64 v65 v66 v67 v68 v69 v70 v71 v72 v73 v74 v75 v76 v77 v78 v79 v80 v81 v82 v83 v84 v85 v86 v87 v88 v89 v90 v91 v92 v93 v94 v95 v96 v97 v98 v99 v100 v101 v102 v103 v104 v105 v106 v107 v108 v109 v110 v111 v112 v113 v114 v115 v116 v117 v118 v119 v120 v121 v122 v123 v124 v125 v126 v127 v128 v129 v130 v131 v132 v133 v134 v135 v136 v137 v138 v139 v140 v141 v142 v143 v144 v145 v146 v147 v148 v149 v150 v151 v152 v153 v154 v155 v156 v157 v158 v159 v160 v161 v162 v163 v164 v165 v166 v167 v168 v169 v170 v171 v172 v173 v174 v175 v176 v177 v178 v179 v180 v181 v182 v183 v184 v185 v186 v187 v188 v189 v190 v191 v192 v193 v194 v195 v196 v197 v198:Value) (Q:Exit→Act→World→Prop) (hQp:∀ c a d v w,Q (.panic c) (a.put d v) w→Q (.panic c) a w) (hQ:QT w b p7 i R Q v0 v1 v3 v6 v8 v23 v24 v25 v26 v27 v28 v29 v30 v31 v32 v33 v34 v35 v36 v198) :
 (sndN 5 (inC (fstC (sndN 1 (inC (inC (sndN 1 (fstC (sndN 6 (Tryz.f4.body.getD .skip)))))))))).wp Tryz.prog Q ⟨#[v0,v1,v2,v3,ptr b,ptr g,v6,ptr p7,v8,ptr ob,ptr pn,.int .i64 c2,.int .i64 c,v13,v14,v15,v16,v17,v18,v19,v20,v21,v22,v23,v24,v25,v26,v27,v28,v29,v30,v31,v32,v33,v34,v35,v36,v37,v38,v39,v40,v41,v42,v43,v44,v45,v46,v47,v48,v49,v50,v51,v52,v53,v54,v55,v56,v57,v58,v59,v60,v61,v62,v63,v64,v65,v66,v67,v68,v69,v70,v71,v72,v73,v74,v75,v76,v77,v78,v79,v80,v81,v82,v83,v84,v85,v86,v87,v88,v89,v90,v91,v92,v93,v94,v95,v96,v97,v98,v99,v100,v101,v102,v103,v104,v105,v106,v107,v108,v109,v110,v111,v112,v113,v114,v115,v116,v117,v118,v119,v120,v121,v122,v123,v124,v125,v126,v127,v128,v129,v130,v131,v132,v133,v134,v135,v136,v137,v138,v139,v140,v141,v142,v143,v144,v145,v146,v147,v148,v149,v150,v151,v152,v153,v154,v155,v156,v157,v158,v159,v160,v161,v162,v163,v164,v165,v166,v167,v168,v169,v170,v171,v172,v173,v174,v175,v176,v177,v178,v179,v180,v181,v182,v183,v184,v185,v186,v187,v188,v189,v190,v191,v192,v193,v194,v195,v196,v197,v198],[]⟩ wc:=by
 have HR:=Lib.hid hR
 have HTT:=Lib.hid hT
 have HML:=Lib.hid hT2
 have HP7:=Lib.hid hp7
 have FT:=Lib.hid hft
 have HQ:=Lib.hid hQ
 have HQP:=Lib.hid hQp
 have TNE:=Lib.hid htn
 have CX:=Lib.hid hx
 clear htn hx hR hT hT2 hp7 hft hQ hQp
 dsimp only [sndN,fstC,inC,Tryz.f4,Option.getD]
 have FZ:=Lib.hid (ou_fail hu 0 (by omega))
 have G4:=Lib.hid hg
 have H4:=Lib.hid hh
 have P4:=Lib.hid hp
 have O4:=Lib.hid ho
 clear hu hg hh hp ho
 go_wp2_with fail
 (with_reducible refine FZ.out.mono ?_)
 rintro e w5 ⟨rfl,u5,k5,s5⟩
 rw [Int.toNat_zero] at u5
 have U5:=Lib.hid u5
 have G5:=Lib.hid (G4.out.since s5)
 have H5:=Lib.hid (H4.out.kr k5)
 have P5:=Lib.hid (P4.out.kr k5)
 have O5:=Lib.hid (O4.out.kr k5)
 clear u5 k5 s5 FZ G4 H4 P4 O4
 have x1:=O5.out.cell 1 _ rfl
 go_upto_if 84 with (fail)
 go_cut [12] from 37 to 197 (CrRel b g p7 pn ob (i+2) R c T TN sn cr ⟨nk,ni,nc,nd,nt,nm,ns⟩ fl ag (.slice fo fs.length fc) (.slice go gs.length gc) w)
 case first=>
  cases cr
  ·have N5:=Lib.hid (show CrRel b g p7 pn ob (i+2) R c T TN sn false ⟨nk,ni,nc,nd,nt,nm,ns⟩ fl ag (.slice fo fs.length fc) (.slice go gs.length gc) w (.int .i64 c) w5 from ⟨rfl,U5.out,G5.out,H5.out,P5.out,O5.out⟩)
   clear U5 G5 H5 P5 O5
   go_wp2_with fail
   go_meet
   exact N5.out
  ·have x11:=O5.out.cell 11 _ rfl
   obtain ⟨hfa,hof⟩:=U5.out.fats rfl FT.out.1.1
   have CH:=Lib.hid (ou_crash U5.out fo fs fc hfa hof FT.out.1.2)
   clear hfa hof
   go_wp2_with fail
   (with_reducible refine CH.out.mono ?_)
   rintro e w6 ⟨v6,rfl,u6,k6,s6⟩
   have N6:=Lib.hid (show CrRel b g p7 pn ob (i+2) R c T TN sn true ⟨nk,ni,nc,nd,nt,nm,ns⟩ fl ag (.slice fo fs.length fc) (.slice go gs.length gc) w (.int .i64 c) w6 from ⟨rfl,u6.reads (by omega),G5.out.since s6,H5.out.kr k6,P5.out.kr k6,O5.out.kr k6⟩)
   clear CH u6 k6 s6 U5 G5 H5 P5 O5 x1 x11
   go_wp2_with fail
   go_meet
   exact N6.out
 case rest=>
  obtain ⟨rfl,hu,hg,hh,hp,ho⟩:=hcut
  rename_i K0 hK0
  refine hK0 _ _ ?_
  exact part4 w _ b g p7 ob pn i R T T2 c2 sn cr nk ni nc nd nt nm ns fl ag fo fs fc go gs gc hi12 HR.out HTT.out HML.out HP7.out FT.out TN c hu hg hh hp ho TNE.out CX.out _ _ _ _ _ _ _ _ _ _ _ _ _ _ _ _ _ _ _ _ _ _ _ _ _ _ _ _ _ _ _ _ _ _ _ _ _ _ _ _ _ _ _ _ _ _ _ _ _ _ _ _ _ _ _ _ _ _ _ _ _ _ _ _ _ _ _ _ _ _ _ _ _ _ _ _ _ _ _ _ _ _ _ _ _ _ _ _ _ _ _ _ _ _ _ _ _ _ _ _ _ _ _ _ _ _ _ _ _ _ _ _ _ _ _ _ _ _ _ _ _ _ _ _ _ _ _ _ _ _ _ _ _ _ _ _ _ _ _ _ _ _ _ _ _ _ _ _ _ _ _ _ _ _ _ _ _ _ _ _ _ _ _ _ _ _ _ _ _ _ _ _ _ _ _ _ _ _ _ _ _ _ _ _ _ _ _ _ _ _ _ _ _ HQP.out HQ.out
theorem part2 (w wc:World) (b g p7 ob pn i R:Nat) (T T2:Tb.Tb) (c2:Int) (sn cr:Bool) (nk ni nc nd nt nm:Int) (ns:Bool) (fl ag:Int) (fo:Option Addr) (fs:List (Int×Int)) (fc:Nat) (go:Option Addr) (gs:List (Int×Int)) (gc:Nat) (hi12:i<12) (hR:R≤18+80*i) (hT:T.rows.length≤16) (hT2:T2.rows.length≤16) (hp7:w.heap.size≤p7) (hft:(Dk.Fats fo fs w∧fs.length≤9223372036854775807)∧(Dk.Fats go gs w∧gs.length≤9223372036854775807)) (k:Nat) (y:Od) (hpn:w.heap.size≤pn∧p7≠pn) (hrc:Rc w.heap.size b g 6 k T (i+1) R w wc) (hh:HB wc p7 T) (ho:TryB wc ob sn cr ⟨nk,ni,nc,nd,nt,nm,ns⟩ fl ag (.slice fo fs.length fc) (.slice go gs.length gc)) (hp:HB wc pn T2) (hy1:(mayR T y []).1=T2) (hy2:(mayR T y []).2=c2) (hop:∀ W,Calls Tryz.prog 22 #[(⟨nk,ni,nc,nd,nt,nm,ns⟩:Nm).v] W fun e w'=>e=.returned y.v∧Below W.heap.size W w') (v0 v1 v2 v3 v6 v8 v12 v13 v14 v15 v16 v17 v18 v19 v20 v21 v22 v23 v24 v25 v26 v27 v28 v29 v30 v31 v32 v33 v34 v35 v36 v37 v38 v39 v40 v41 v42 v43 v44 v45 v46 v47 v48 v49 v50 v51 v52 v53 v54 v55 v56 v57 v58 v59 v60 v61 v62 v63 v64 v65 v66 v67 v68 v69 v70 v71 v72 v73 v74 v75 v76 v77 v78 v79 v80 v81 v82 v83 v84 v85 v86 v87 v88 v89 v90 v91 v92 v93 v94 v95 v96 v97 v98 v99 v100 v101 v102 v103 v104 v105 v106 v107 v108 v109 v110 v111 v112 v113 v114 v115 v116 v117 v118 v119 v120 v121 v122 v123 v124 v125 v126 v127 v128 v129 v130 v131 v132 v133 v134 v135 v136 v137 v138 v139 v140 v141 v142 v143 v144 v145 v146 v147 v148 v149 v150 v151 v152 v153 v154 v155 v156 v157 v158 v159 v160 v161 v162 v163 v164 v165 v166 v167 v168 v169 v170 v171 v172 v173 v174 v175 v176 v177 v178 v179 v180 v181 v182 v183 v184 v185 v186 v187 v188 v189 v190 v191 v192 v193 v194 v195 v196 v197 v198:Value) (Q:Exit→Act→World→Prop) (hQp:∀ c a d v w,Q (.panic c) (a.put d v) w→Q (.panic c) a w) (hQ:QT w b p7 i R Q v0 v1 v3 v6 v8 v23 v24 v25 v26 v27 v28 v29 v30 v31 v32 v33 v34 v35 v36 v198) :
 (sndN 2 (inC (fstC (sndN 1 (inC (inC (sndN 1 (fstC (sndN 6 (Tryz.f4.body.getD .skip)))))))))).wp Tryz.prog Q ⟨#[v0,v1,v2,v3,ptr b,ptr g,v6,ptr p7,v8,ptr ob,ptr pn,.int .i64 c2,v12,v13,v14,v15,v16,v17,v18,v19,v20,v21,v22,v23,v24,v25,v26,v27,v28,v29,v30,v31,v32,v33,v34,v35,v36,v37,v38,v39,v40,v41,v42,v43,v44,v45,v46,v47,v48,v49,v50,v51,v52,v53,v54,v55,v56,v57,v58,v59,v60,v61,v62,v63,v64,v65,v66,v67,v68,v69,v70,v71,v72,v73,v74,v75,v76,v77,v78,v79,v80,v81,v82,v83,v84,v85,v86,v87,v88,v89,v90,v91,v92,v93,v94,v95,v96,v97,v98,v99,v100,v101,v102,v103,v104,v105,v106,v107,v108,v109,v110,v111,v112,v113,v114,v115,v116,v117,v118,v119,v120,v121,v122,v123,v124,v125,v126,v127,v128,v129,v130,v131,v132,v133,v134,v135,v136,v137,v138,v139,v140,v141,v142,v143,v144,v145,v146,v147,v148,v149,v150,v151,v152,v153,v154,v155,v156,v157,v158,v159,v160,v161,v162,v163,v164,v165,v166,v167,v168,v169,v170,v171,v172,v173,v174,v175,v176,v177,v178,v179,v180,v181,v182,v183,v184,v185,v186,v187,v188,v189,v190,v191,v192,v193,v194,v195,v196,v197,v198],[]⟩ wc:=by
 have HR:=Lib.hid hR
 have HTT:=Lib.hid hT
 have HML:=Lib.hid hT2
 have HP7:=Lib.hid hp7
 have FT:=Lib.hid hft
 have HQ:=Lib.hid hQ
 have HQP:=Lib.hid hQp
 have R8:=Lib.hid hrc
 have H8:=Lib.hid hh
 have O8:=Lib.hid ho
 have P8:=Lib.hid hp
 have PN:=Lib.hid hpn
 have OPX:=Lib.hid hop
 have DO8:=Lib.hid (fun m M R f W h hM hf=>do_f w.heap.size b g 6 m T M R f w W y h hM hf)
 rw [hy1,hy2] at DO8
 clear hrc hh ho hp hpn hop hy1 hy2 hR hT hT2 hp7 hft hQ hQp
 obtain ⟨yk,⟨yi,yc,yd,yt,ym⟩,ys,yid,ycc,ymo⟩:=y
 unfold Od.v Od.cs at DO8 OPX
 unfold Ju.Nm.v at OPX
 dsimp only at DO8 OPX
 dsimp only [sndN,fstC,inC,Tryz.f4,Option.getD]
 obtain ⟨f,hf15⟩:∃ f:Nat,bits .and .i64 fl 15=(f:Int):=⟨(fl%16).toNat,by rw [i64_and15];omega⟩
 have hf16:f<16:=by have:=i64_and15 fl;omega
 have x9:=O8.out.cell 9 _ rfl
 have FA:=Lib.hid (rc_fail R8.out (f:Int) (by omega))
 have HF16:=Lib.hid hf16
 clear hf16
 go_wp2_with fail
 (with_reducible refine FA.out.mono ?_)
 rintro e w9 ⟨rfl,r9,k9,-⟩
 rw [Int.toNat_natCast] at r9
 have R9:=Lib.hid r9
 have H9:=Lib.hid (H8.out.kr k9)
 have O9:=Lib.hid (O8.out.kr k9)
 have P9:=Lib.hid (P8.out.kr k9)
 clear r9 k9 FA R8 H8 O8 P8 x9 hf15
 have x0:=O9.out.cell 0 _ rfl
 go_upto_if 65 with (fail)
 go_cut [12] from 37 to 197 (DoRel b g p7 pn ob (i+2) R T T2 c2 sn cr ⟨nk,ni,nc,nd,nt,nm,ns⟩ fl ag (.slice fo fs.length fc) (.slice go gs.length gc) w)
 case first=>
  cases sn
  ·have x2:=O9.out.cell 2 _ rfl
   have x3:=O9.out.cell 3 _ rfl
   have x4:=O9.out.cell 4 _ rfl
   have x5:=O9.out.cell 5 _ rfl
   have x6:=O9.out.cell 6 _ rfl
   have x7:=O9.out.cell 7 _ rfl
   have x8:=O9.out.cell 8 _ rfl
   dsimp only at x2 x3 x4 x5 x6 x7 x8
   go_wp2_with fail
   (with_reducible refine (OPX.out _).mono ?_)
   rintro e w10 ⟨rfl,b10⟩
   have H10:=Lib.hid (H9.out.call b10)
   have O10:=Lib.hid (O9.out.call b10)
   have P10:=Lib.hid (P9.out.call b10)
   have DO10:=Lib.hid (DO8.out k (i+1) R f w10 (R9.out.call b10) (by omega) (by have:=HF16.out;omega))
   clear b10 H9 O9 P9 DO8 R9 OPX x0 x2 x3 x4 x5 x6 x7 x8
   go_wp2_with fail
   (with_reducible refine DO10.out.mono ?_)
   rintro e w11 ⟨c,F,rfl,u11,g11,k11,h1,h2⟩
   have N11:=Lib.hid (show DoRel b g p7 pn ob (i+2) R T T2 c2 false cr ⟨nk,ni,nc,nd,nt,nm,ns⟩ fl ag (.slice fo fs.length fc) (.slice go gs.length gc) w (.int .i64 c) w11 from ⟨c,F,rfl,u11.mono (by omega),g11,H10.out.kr k11,P10.out.kr k11,O10.out.kr k11,fun _=>⟨h1,h2⟩⟩)
   clear DO10 u11 g11 k11 H10 O10 P10
   by_cases h0:c2=0
   ·have e0:(c2 != 0)=false:=by simp [h0]
    clear h0 h1 h2
    go_wp2_with fail
    go_meet
    exact N11.out
   ·obtain ⟨rfl,-⟩:=h1 h0
    have e0:(c != 0)=true:=by simpa using h0
    have e1:(c != c)=false:=by simp
    clear h0 h1 h2
    go_wp2_with fail
    go_meet
    exact N11.out
  ·obtain ⟨a7,c7,h70,h71⟩:=H9.out
   obtain ⟨an9,cn9,p70,-⟩:=P9.out
   have S9:=Lib.hid (fun W h=>snap_f w.heap.size b g 6 k T (i+1) R f w W h (by omega) (by have:=HF16.out;omega))
   have rs:=rf_set2 R9.out p70 PN.out.1 PN.out.1 (.slice a7 T.rows.length c7) (.int .i64 T.mode)
   have hs:=H9.out.other2 p70 PN.out.2 (.slice a7 T.rows.length c7) (.int .i64 T.mode)
   have ps:=HB.set2 h71 p70
   have os:=O9.out.other2 p70 (.slice a7 T.rows.length c7) (.int .i64 T.mode)
   have y0:w9.cell? ⟨p7,0,none⟩=some (.slice a7 T.rows.length c7):=by rw [Lib.cell_of_heap h70];rfl
   have y1:w9.cell? ⟨p7,1,none⟩=some (.int .i64 T.mode):=by rw [Lib.cell_of_heap h70];rfl
   have z0:w9.cell? ⟨pn,0,none⟩=some (.slice an9 T2.rows.length cn9):=by rw [Lib.cell_of_heap p70];rfl
   have z1:w9.cell? ⟨pn,1,none⟩=some (.int .i64 T2.mode):=by rw [Lib.cell_of_heap p70];rfl
   have F0:=Lib.frozen_of_heap p70 0
   have F1:=Lib.frozen_of_heap p70 1
   have S10:=Lib.hid (S9.out _ rs)
   have H10:=Lib.hid hs
   have P10:=Lib.hid ps
   have O10:=Lib.hid os
   clear S9 rs hs ps os h70 h71 p70 H9 P9 O9 R9 DO8 OPX
   generalize hq:T.rows.length=qn at *
   generalize hz:T.mode=z at *
   go_wp2_with fail
   (with_reducible refine S10.out.mono ?_)
   rintro e w11 ⟨c,F,rfl,u11,g11,k11⟩
   have N11:=Lib.hid (show DoRel b g p7 pn ob (i+2) R T T2 c2 true cr ⟨nk,ni,nc,nd,nt,nm,ns⟩ fl ag (.slice fo fs.length fc) (.slice go gs.length gc) w (.int .i64 c) w11 from ⟨c,F,rfl,u11,g11,H10.out.kr k11,P10.out.kr k11,O10.out.kr k11,fun h=>by cases h⟩)
   clear S10 u11 g11 k11 H10 O10 P10 x0 y0 y1 z0 z1 F0 F1
   go_wp2_with fail
   go_meet
   exact N11.out
 case rest=>
  obtain ⟨c,F,rfl,hu,hg,hh,hp,ho,hx⟩:=hcut
  obtain ⟨TN,htn⟩:∃ TN,TN=if sn then T else T2:=⟨_,rfl⟩
  rw [← htn] at hu hp
  rename_i K0 hK0
  refine hK0 _ _ ?_
  exact part3 w _ b g p7 ob pn i R T T2 c2 sn cr nk ni nc nd nt nm ns fl ag fo fs fc go gs gc hi12 HR.out HTT.out HML.out HP7.out FT.out F TN c hu hg hh hp ho htn hx _ _ _ _ _ _ _ _ _ _ _ _ _ _ _ _ _ _ _ _ _ _ _ _ _ _ _ _ _ _ _ _ _ _ _ _ _ _ _ _ _ _ _ _ _ _ _ _ _ _ _ _ _ _ _ _ _ _ _ _ _ _ _ _ _ _ _ _ _ _ _ _ _ _ _ _ _ _ _ _ _ _ _ _ _ _ _ _ _ _ _ _ _ _ _ _ _ _ _ _ _ _ _ _ _ _ _ _ _ _ _ _ _ _ _ _ _ _ _ _ _ _ _ _ _ _ _ _ _ _ _ _ _ _ _ _ _ _ _ _ _ _ _ _ _ _ _ _ _ _ _ _ _ _ _ _ _ _ _ _ _ _ _ _ _ _ _ _ _ _ _ _ _ _ _ _ _ _ _ _ _ _ _ _ _ _ _ _ _ _ _ _ _ HQP.out HQ.out
end Go.Proofs.YteempfoajgblaaaGreat.registrySafe
