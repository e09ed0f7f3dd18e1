/- The statements' function awake of layer 20; a new disk. -/
import Derived.Test.YteempfoajgblaaaGreatLQG
import Derived.Test.YteempfoajgblaaaGreatLQB
import Derived.Test.YteempfoajgblaaaGreatLMJk
import Derived.Test.YteempfoajgblaaaGreatLTbL
set_option maxRecDepth 100000
set_option linter.unusedVariables false
set_option linter.unusedSimpArgs false
open Go.ChangeShapes Go.WideShapes Go.ChangeAt Go.RowKit Go.Joins
set_option maxHeartbeats 4000000
namespace Go.Proofs.YteempfoajgblaaaGreat.Rg
open Dk (Dk DS Own Moved ptr)
open Jn (JL Jt Jd Kp Since)
open Ox (Od)
open Pm (Tk)
open Ju (mayR fitsR)
open Tb (Rw tb0 applyR)
open Ge (Seen)
theorem disk_t (n:Nat) (w0 w:World) (hb:Below w0.heap.size w0 w) (h0:1≤n) (h1:n≤1024) :
 Calls Tryz.prog 9 #[.int .i64 (n:Int)] w fun e w'=>e=.returned (ptr (w.heap.size+1))∧Dk w0.heap.size (w.heap.size+1) ⟨zs n,[],0,0⟩ w'∧Below w0.heap.size w0 w' :=
 (Dk.new_yes n w h0 h1).mono fun e w' ⟨he,k,b⟩=>⟨he,k.mono hb.size,hb.trans (b.mono hb.size)⟩
theorem awake_any (w:World):Calls Tryz.prog 8 #[] w fun e w'=>e=.returned (.bool true)∧Below w.heap.size w w':=by
 have ND:Hid (Calls Tryz.prog 9 #[.int .i64 30] w fun e w'=>e=.returned (ptr (w.heap.size+1))∧Dk w.heap.size (w.heap.size+1) ⟨zs (18+12),[],0,0⟩ w'∧Below w.heap.size w w'):=Lib.hid (disk_t 30 w w (Below.refl _ _) (by omega) (by omega))
 have FO:=Lib.hid (fun w1 (h:Dk w.heap.size (w.heap.size+1) ⟨zs (18+12),[],0,0⟩ w1) (hb:Below w.heap.size w w1)=>format_c w.heap.size (w.heap.size+1) 12 0 w w1 h hb (Since.below (Nat.le_refl _) hb) (by omega) (by omega) (by omega))
 have DB:Hid (∀ g w1,Rc w.heap.size (w.heap.size+1) g 12 0 tb0 1 18 w w1→Calls Tryz.prog 21 #[ptr g,.agg #[.int .i64 1,.int .i64 1,.int .i64 1,.int .i64 2,.int .i64 2,.int .i64 1,.bool false,.int .i64 0,.int .i64 0,.int .i64 0],.slice none 0 0] w1 fun x w'=>x=.returned (.int .i64 0)∧Rc w.heap.size (w.heap.size+1) g 12 1 tbB 1 18 w w'):=Lib.hid (fun g w1 h=>by
  refine (do_c w.heap.size (w.heap.size+1) g 12 0 tb0 1 18 w w1 odB [] none 0 h (by omega) (Ge.seen_nil _ _) (by simp)).mono ?_
  rintro x w' ⟨c,m',T',rfl,hd,hr,-⟩
  rcases hd with ⟨h1,-⟩|⟨-,h1,-⟩|⟨-,-,rfl,rfl,rfl⟩
  · rw [may_B] at h1;exact absurd rfl h1
  · omega
  · rw [may_B] at hr;exact ⟨rfl,hr⟩)
 have DC:Hid (∀ g w1,Rc w.heap.size (w.heap.size+1) g 12 1 tbB 1 18 w w1→Calls Tryz.prog 21 #[ptr g,.agg #[.int .i64 1,.int .i64 2,.int .i64 2,.int .i64 3,.int .i64 3,.int .i64 1,.bool false,.int .i64 0,.int .i64 0,.int .i64 0],.slice none 0 0] w1 fun x w'=>x=.returned (.int .i64 17)∧Rc w.heap.size (w.heap.size+1) g 12 1 tbB 1 18 w w'):=Lib.hid (fun g w1 h=>by
  refine (do_c w.heap.size (w.heap.size+1) g 12 1 tbB 1 18 w w1 odC [] none 0 h (by omega) (Ge.seen_nil _ _) (by simp)).mono ?_
  rintro x w' ⟨c,m',T',rfl,hd,hr,-⟩
  have h17:=may_C
  rcases hd with ⟨-,rfl,rfl,rfl⟩|⟨h1,-⟩|⟨h1,-⟩
  · rw [h17];exact ⟨rfl,hr⟩
  · rw [h17] at h1;cases h1
  · rw [h17] at h1;cases h1)
 have TA:=Lib.hid (fun g w1 (h:Rc w.heap.size (w.heap.size+1) g 12 1 tbB 1 18 w w1)=>table_c w.heap.size (w.heap.size+1) g 12 1 tbB 1 18 w w1 h)
 generalize w.heap.size+1=b at *
 go_enter Tryz.func8,Tryz.ntmps8
 go_wp2_with fail
 (with_reducible refine ND.out.mono ?_)
 rintro e w1 ⟨rfl,d1,b1⟩
 have FO1:=Lib.hid (FO.out w1 d1 b1)
 clear ND FO d1 b1
 go_wp2_with fail
 (with_reducible refine FO1.out.mono ?_)
 rintro e w2 ⟨g,rfl,r2,-⟩
 have DB2:=Lib.hid (DB.out g w2 r2)
 clear FO1 DB r2
 go_wp2_with fail
 (with_reducible refine DB2.out.mono ?_)
 rintro e w3 ⟨rfl,r3⟩
 have DC3:=Lib.hid (DC.out g w3 r3)
 clear DB2 DC r3
 go_wp2_with fail
 (with_reducible refine DC3.out.mono ?_)
 rintro e w4 ⟨rfl,r4⟩
 have TA4:=Lib.hid (TA.out g w4 r4)
 have R4:=Lib.hid r4
 clear DC3 TA r4
 go_wp2_with fail
 (with_reducible refine TA4.out.mono ?_)
 rintro e w5 ⟨v,rfl,⟨ao,cap,rfl,-⟩,b5⟩
 have B5:=Lib.hid ((R4.out.call b5).bel)
 have H5:=Lib.hid (R4.out.call b5).le
 have FIN:=Lib.hid (B5.out.alloc (show w.heap.size≤w5.heap.size from H5.out) (.cells #[.slice ao 1 cap,.int .i64 0] 52))
 have er:tbB.rows.length=1:=rfl
 have em:tbB.mode=0:=rfl
 unfold Tb.tv
 rw [er,em]
 clear TA4 b5 R4 B5 H5 er em
 go_wp2
 go_ret
 exact ⟨rfl,FIN.out⟩
end Go.Proofs.YteempfoajgblaaaGreat.Rg
