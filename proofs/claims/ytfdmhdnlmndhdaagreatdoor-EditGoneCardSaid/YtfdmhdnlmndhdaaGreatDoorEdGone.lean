/-
  Who is gone is not there.
-/
import Derived.Test.YtfdmhdnlmndhdaaGreatDoorEdAwake
import Derived.Test.YtfdmhdnlmndhdaaGreatDoorTrRef
import Derived.Test.YtfdmhdnlmndhdaaGreatDoorEdMore
namespace Go.Proofs.YtfdmhdnlmndhdaaGreatDoor
open Go.ChangeShapes Go.WideShapes Go.ChangeAt Go.RowKit
set_option linter.unusedVariables false

set_option maxRecDepth 20000
set_option maxHeartbeats 4000000 in
theorem editGone_any {W:World} {s:SlV} {Ls:List Nd} (h:RwNd W W.heap.size s Ls) (i:Int) {l:LfV} {L:Lf} (hl:IsLf W W.heap.size l L) (rg:Tt W):Calls Tryz.prog 9 #[s.v,nv i,.agg (l.cs L)] W fun e W'=>∃ v,e=.returned v∧v=.bool true∧Below W.heap.size W W':=by
 refine Qf (n:=113) Tryz.func9 rfl Tryz.ntmps9 (by simp) ?_
 show CG _ _ _ [(0,s.v),(1,nv i),(2,.agg (l.cs L))] _ _
 have u:=Below.refl W.heap.size W
 have q1:=h.len
 have q2:=h.cap
 refine Zr ?_
 refine lg_boxw Wn rfl rfl (by kernel_rfl) rfl (by decide) fun b1 w1 n1=>?_
 have r1:=n1.row
 have k1:=n1.blk
 have z1:=n1.size
 have lt1:b1<w1.heap.size:=by omega
 refine ZAn [0,1,5,6] ?_
 refine Zr ?_
 have u:=Un u n1.below
 refine Zc (awakeE_any _ (Tt.up u rg)) rfl rfl ?_
 rintro _ w2 ⟨rfl,hw2⟩
 have zw2:=hw2.size
 refine ZAn [0,1,5,6,7] ?_
 refine Qd ?_
 refine ZrM ?_
 have h:=(h.below (n1.below.mono (by omega))).below (hw2.mono (by omega))
 by_cases c3:trFew Ls
 ·refine Zc (fewR_any (h.more (B':=w2.heap.size) (by omega)) (Nat.le_refl _)) rfl rfl ?_
  rintro u4 w4 ⟨e4,hw4⟩
  have zw4:=hw4.size
  obtain rfl:u4=.bool true:=e4.trans (congrArg Value.bool (decide_eq_true c3))
  refine Za y_bnot ?_
  refine ZM ?_
  refine Zt 24 y_move ?_
  have h:=h.below (hw4.mono (by omega))
  by_cases c5:trIs Ls
  ·have htr:=c5
   have htl:=trIs_le htr
   have hta:=trAs_ok htr
   have htA:=trAs_is Ls
   refine Zct 24 (sane_any (h.more (B':=w4.heap.size) (by omega)) (Nat.le_refl _)) rfl rfl ?_
   rintro u6 w6 ⟨e6,hw6⟩
   have zw6:=hw6.size
   obtain rfl:u6=.bool true:=e6.trans (congrArg Value.bool (decide_eq_true c5))
   refine Zt 24 y_bnot ?_
   refine Zan (y_pick false) [0,1,5,6,7,28] ?_
   refine Zcf [0,1,5,6,7] ?_
   refine ZrM ?_
   refine ZM ?_
   have h:=h.below (hw6.mono (by omega))
   have u:=Un (Un (Un u hw2) hw4) hw6
   refine Zc (rem_any (h.more (B':=w6.heap.size) (by omega)) i (Nat.le_refl _) (Tt.up u rg)) rfl rfl ?_
   rintro _ w7 ⟨s7,rfl,m7,hw7⟩
   have zw7:=hw7.size
   refine ZM ?_
   refine Za y_extract ?_
   refine Za y_extract ?_
   refine ZA ?_
   refine ZAn [1,5,6,7,8,9] ?_
   refine Qd ?_
   refine ZrM ?_
   by_cases c8:(hadE (trAs Ls) i)=0
   ·have y1:=trAs_ok (remL_is (a:=(trAs Ls)) i)
    have y2:=rem_gone htA c8
    rw [←y1] at y2
    have y3:¬(hadE (trAs (remL (trAs Ls) i)) i)=0:=by omega
    have y4:=trIs_le (remL_is (a:=trAs Ls) i)
    refine Zan (yb (nd_f c8) yi_neq) [1,5,6,7,8,9,37] ?_
    refine Zcf [1,5,6,7,8] ?_
    refine ZrM ?_
    refine ZM ?_
    have u:=Un u hw7
    refine Zc (rem_any (m7.more (B':=w7.heap.size) (by omega)) i (Nat.le_refl _) (Tt.up u rg)) rfl rfl ?_
    rintro _ w9 ⟨s9,rfl,m9,hw9⟩
    have zw9:=hw9.size
    refine ZM ?_
    refine Za y_extract ?_
    refine Za y_extract ?_
    refine ZA ?_
    refine ZAn [1,5,6,7,8,11] ?_
    refine ZrM ?_
    refine ZM ?_
    have r1:=RowAt.below hw2 r1.lt r1
    have r1:=RowAt.below hw4 r1.lt r1
    have r1:=RowAt.below hw6 r1.lt r1
    have r1:=RowAt.below hw7 r1.lt r1
    have r1:=RowAt.below hw9 r1.lt r1
    refine Za (y_loadA r1) ?_
    have hl:=(hl.below (n1.below.mono (by omega))).below (hw2.mono (by omega))
    have hl:=(hl.below (hw4.mono (by omega))).below (hw6.mono (by omega))
    have hl:=(hl.below (hw7.mono (by omega))).below (hw9.mono (by omega))
    have m7:=m7.below (hw9.mono (by omega))
    have u:=Un u hw9
    refine Zc (cha_any (m7.more (B':=w9.heap.size) (by omega)) i (hl.more (B':=w9.heap.size) (by omega)) (Nat.le_refl _) (Tt.up u rg)) rfl rfl ?_
    rintro _ w10 ⟨s10,rfl,m10,hw10⟩
    have zw10:=hw10.size
    refine ZM ?_
    refine Za y_extract ?_
    refine Za y_extract ?_
    refine ZA ?_
    refine ZAn [1,5,6,7,8,11,13] ?_
    refine ZrM ?_
    refine ZM ?_
    have r1:=RowAt.below hw10 r1.lt r1
    refine Za (y_loadA r1) ?_
    have hl:=hl.below (hw10.mono (by omega))
    have m7:=m7.below (hw10.mono (by omega))
    have u:=Un u hw10
    refine Zc (com_any (m7.more (B':=w10.heap.size) (by omega)) i (hl.more (B':=w10.heap.size) (by omega)) (RwOc.nil _ _) (Nat.le_refl _) (Tt.up u rg)) rfl rfl ?_
    rintro _ w11 ⟨s11,rfl,m11,hw11⟩
    have zw11:=hw11.size
    refine ZM ?_
    refine Za y_extract ?_
    refine Za y_extract ?_
    refine ZA ?_
    refine ZAn [5,6,7,8,11,13,15] ?_
    refine ZrM ?_
    have r1:=RowAt.below hw11 r1.lt r1
    refine Za (y_loadA r1) ?_
    have m7:=m7.below (hw11.mono (by omega))
    have hl:=hl.below (hw11.mono (by omega))
    have u:=Un u hw11
    refine Zc (add_any (m7.more (B':=w11.heap.size) (by omega)) (hl.more (B':=w11.heap.size) (by omega)) (Nat.le_refl _) (Tt.up u rg)) rfl rfl ?_
    rintro _ w12 ⟨s12,rfl,m12,hw12⟩
    have zw12:=hw12.size
    refine ZM ?_
    refine Za y_extract ?_
    refine Za y_extract ?_
    refine Za y_extract ?_
    refine ZA ?_
    refine ZA ?_
    refine ZAn [6,7,8,11,13,15,17,18] ?_
    refine ZrM ?_
    have m7:=m7.below (hw12.mono (by omega))
    refine Zc (free_any (m7.more (B':=w12.heap.size) (by omega)) (Nat.le_refl _)) rfl rfl ?_
    rintro _ w13 ⟨rfl,hw13⟩
    have zw13:=hw13.size
    refine ZAn [6,7,8,11,13,15,17,18,19] ?_
    refine Qd ?_
    refine ZrM ?_
    by_cases c14:(freeA (trAs (remL (trAs Ls) i)))<0
    ·refine Zan (yb (dT c14) yi_lss) [6,7,8,11,13,15,17,18,19,82] ?_
     refine cg_ct rfl ?_
     refine Qe ?_
     refine ZM ?_
     have m7:=m7.below (hw13.mono (by omega))
     refine Zc (leavesT_any (m7.more (B':=w13.heap.size) (by omega)) (Nat.le_refl _)) rfl rfl ?_
     rintro _ w15 ⟨rfl,hw15⟩
     have zw15:=hw15.size
     refine ZAn [6,7,11,13,15,17,18,19] ?_
     refine ZrM ?_
     refine ZM ?_
     refine Zt 86 y_move ?_
     by_cases c16:(hadE (trAs (remL (trAs Ls) i)) i)=3
     ·refine Zt 86 (yb (dT c16) yi_eql) ?_
      refine Zt 86 y_move ?_
      refine Zf 89 ?_
      refine Zf 89 ?_
      refine Zt 86 (y_pick true) ?_
      refine Za (y_pick true) ?_
      refine ZM ?_
      refine Zt 94 y_move ?_
      refine Zt 94 y_move ?_
      refine Zt 94 (yb (dT (show (chaE (trAs (remL (trAs Ls) i)) i L)=(hadE (trAs (remL (trAs Ls) i)) i) from (chaE_no y3))) yi_eql) ?_
      refine Za (y_pick true) ?_
      refine ZM ?_
      refine Zt 99 y_move ?_
      refine Zt 99 y_move ?_
      refine Zt 99 (yb (dT (show (comE (trAs (remL (trAs Ls) i)) i L [])=(hadE (trAs (remL (trAs Ls) i)) i) from (comE_had y3))) yi_eql) ?_
      refine Za (y_pick true) ?_
      refine ZM ?_
      refine Zt 104 y_move ?_
      by_cases c17:(addE (trAs (remL (trAs Ls) i)) L)=0
      ·have y5:=add_free (trAs_is (remL (trAs Ls) i)) c17
       refine Zt 104 (yb (nd_f c17) yi_neq) ?_
       refine Zt 104 y_move ?_
       refine Zt 107 y_move ?_
       refine Zt 107 y_move ?_
       refine Zt 107 (yb (dT (show (addI (trAs (remL (trAs Ls) i)) L)=((leavesA (trAs (remL (trAs Ls) i)):Nat):Int) from (y5.2 c14))) yi_eql) ?_
       refine Zt 104 (y_pick false) ?_
       refine Za (y_pick true) ?_
       refine ZAnr [6] ?_
       have u:=Un (Un (Un u hw12) hw13) hw15
       exact Qa rfl rfl ⟨_,rfl,rfl,u⟩
      refine Zt 104 (yb (nd_t c17) yi_neq) ?_
      refine Zt 104 y_move ?_
      refine Zf 107 ?_
      refine Zf 107 ?_
      refine Zf 107 ?_
      refine Zt 104 (y_pick true) ?_
      refine Za (y_pick true) ?_
      refine ZAnr [6] ?_
      have u:=Un (Un (Un u hw12) hw13) hw15
      exact Qa rfl rfl ⟨_,rfl,rfl,u⟩
     refine Zt 86 (yb (dF c16) yi_eql) ?_
     refine Zt 86 y_move ?_
     refine Zt 89 y_move ?_
     refine Zt 89 (yb (dT (show (hadE (trAs (remL (trAs Ls) i)) i)=9 from (y2.resolve_left c16))) yi_eql) ?_
     refine Zt 86 (y_pick false) ?_
     refine Za (y_pick true) ?_
     refine ZM ?_
     refine Zt 94 y_move ?_
     refine Zt 94 y_move ?_
     refine Zt 94 (yb (dT (show (chaE (trAs (remL (trAs Ls) i)) i L)=(hadE (trAs (remL (trAs Ls) i)) i) from (chaE_no y3))) yi_eql) ?_
     refine Za (y_pick true) ?_
     refine ZM ?_
     refine Zt 99 y_move ?_
     refine Zt 99 y_move ?_
     refine Zt 99 (yb (dT (show (comE (trAs (remL (trAs Ls) i)) i L [])=(hadE (trAs (remL (trAs Ls) i)) i) from (comE_had y3))) yi_eql) ?_
     refine Za (y_pick true) ?_
     refine ZM ?_
     refine Zt 104 y_move ?_
     by_cases c18:(addE (trAs (remL (trAs Ls) i)) L)=0
     ·have y5:=add_free (trAs_is (remL (trAs Ls) i)) c18
      refine Zt 104 (yb (nd_f c18) yi_neq) ?_
      refine Zt 104 y_move ?_
      refine Zt 107 y_move ?_
      refine Zt 107 y_move ?_
      refine Zt 107 (yb (dT (show (addI (trAs (remL (trAs Ls) i)) L)=((leavesA (trAs (remL (trAs Ls) i)):Nat):Int) from (y5.2 c14))) yi_eql) ?_
      refine Zt 104 (y_pick false) ?_
      refine Za (y_pick true) ?_
      refine ZAnr [6] ?_
      have u:=Un (Un (Un u hw12) hw13) hw15
      exact Qa rfl rfl ⟨_,rfl,rfl,u⟩
     refine Zt 104 (yb (nd_t c18) yi_neq) ?_
     refine Zt 104 y_move ?_
     refine Zf 107 ?_
     refine Zf 107 ?_
     refine Zf 107 ?_
     refine Zt 104 (y_pick true) ?_
     refine Za (y_pick true) ?_
     refine ZAnr [6] ?_
     have u:=Un (Un (Un u hw12) hw13) hw15
     exact Qa rfl rfl ⟨_,rfl,rfl,u⟩
    refine Zan (yb (dF c14) yi_lss) [6,7,8,11,13,15,17,18,19,82] ?_
    refine Zcf [6,7,11,13,15,17,18,19] ?_
    refine ZrM ?_
    refine ZM ?_
    refine Zt 86 y_move ?_
    by_cases c19:(hadE (trAs (remL (trAs Ls) i)) i)=3
    ·refine Zt 86 (yb (dT c19) yi_eql) ?_
     refine Zt 86 y_move ?_
     refine Zf 89 ?_
     refine Zf 89 ?_
     refine Zt 86 (y_pick true) ?_
     refine Za (y_pick true) ?_
     refine ZM ?_
     refine Zt 94 y_move ?_
     refine Zt 94 y_move ?_
     refine Zt 94 (yb (dT (show (chaE (trAs (remL (trAs Ls) i)) i L)=(hadE (trAs (remL (trAs Ls) i)) i) from (chaE_no y3))) yi_eql) ?_
     refine Za (y_pick true) ?_
     refine ZM ?_
     refine Zt 99 y_move ?_
     refine Zt 99 y_move ?_
     refine Zt 99 (yb (dT (show (comE (trAs (remL (trAs Ls) i)) i L [])=(hadE (trAs (remL (trAs Ls) i)) i) from (comE_had y3))) yi_eql) ?_
     refine Za (y_pick true) ?_
     refine ZM ?_
     refine Zt 104 y_move ?_
     by_cases c20:(addE (trAs (remL (trAs Ls) i)) L)=0
     ·have y5:=add_free (trAs_is (remL (trAs Ls) i)) c20
      refine Zt 104 (yb (nd_f c20) yi_neq) ?_
      refine Zt 104 y_move ?_
      refine Zt 107 y_move ?_
      refine Zt 107 y_move ?_
      refine Zt 107 (yb (dT (show (addI (trAs (remL (trAs Ls) i)) L)=(freeA (trAs (remL (trAs Ls) i))) from (y5.1 c14))) yi_eql) ?_
      refine Zt 104 (y_pick false) ?_
      refine Za (y_pick true) ?_
      refine ZAnr [6] ?_
      have u:=Un (Un u hw12) hw13
      exact Qa rfl rfl ⟨_,rfl,rfl,u⟩
     refine Zt 104 (yb (nd_t c20) yi_neq) ?_
     refine Zt 104 y_move ?_
     refine Zf 107 ?_
     refine Zf 107 ?_
     refine Zf 107 ?_
     refine Zt 104 (y_pick true) ?_
     refine Za (y_pick true) ?_
     refine ZAnr [6] ?_
     have u:=Un (Un u hw12) hw13
     exact Qa rfl rfl ⟨_,rfl,rfl,u⟩
    refine Zt 86 (yb (dF c19) yi_eql) ?_
    refine Zt 86 y_move ?_
    refine Zt 89 y_move ?_
    refine Zt 89 (yb (dT (show (hadE (trAs (remL (trAs Ls) i)) i)=9 from (y2.resolve_left c19))) yi_eql) ?_
    refine Zt 86 (y_pick false) ?_
    refine Za (y_pick true) ?_
    refine ZM ?_
    refine Zt 94 y_move ?_
    refine Zt 94 y_move ?_
    refine Zt 94 (yb (dT (show (chaE (trAs (remL (trAs Ls) i)) i L)=(hadE (trAs (remL (trAs Ls) i)) i) from (chaE_no y3))) yi_eql) ?_
    refine Za (y_pick true) ?_
    refine ZM ?_
    refine Zt 99 y_move ?_
    refine Zt 99 y_move ?_
    refine Zt 99 (yb (dT (show (comE (trAs (remL (trAs Ls) i)) i L [])=(hadE (trAs (remL (trAs Ls) i)) i) from (comE_had y3))) yi_eql) ?_
    refine Za (y_pick true) ?_
    refine ZM ?_
    refine Zt 104 y_move ?_
    by_cases c21:(addE (trAs (remL (trAs Ls) i)) L)=0
    ·have y5:=add_free (trAs_is (remL (trAs Ls) i)) c21
     refine Zt 104 (yb (nd_f c21) yi_neq) ?_
     refine Zt 104 y_move ?_
     refine Zt 107 y_move ?_
     refine Zt 107 y_move ?_
     refine Zt 107 (yb (dT (show (addI (trAs (remL (trAs Ls) i)) L)=(freeA (trAs (remL (trAs Ls) i))) from (y5.1 c14))) yi_eql) ?_
     refine Zt 104 (y_pick false) ?_
     refine Za (y_pick true) ?_
     refine ZAnr [6] ?_
     have u:=Un (Un u hw12) hw13
     exact Qa rfl rfl ⟨_,rfl,rfl,u⟩
    refine Zt 104 (yb (nd_t c21) yi_neq) ?_
    refine Zt 104 y_move ?_
    refine Zf 107 ?_
    refine Zf 107 ?_
    refine Zf 107 ?_
    refine Zt 104 (y_pick true) ?_
    refine Za (y_pick true) ?_
    refine ZAnr [6] ?_
    have u:=Un (Un u hw12) hw13
    exact Qa rfl rfl ⟨_,rfl,rfl,u⟩
   have hv:=(hadE_val (trAs Ls) i).resolve_left c8
   refine Zan (yb (nd_t c8) yi_neq) [1,5,6,7,8,9,37] ?_
   refine cg_ct rfl ?_
   refine ZrM ?_
   refine ZM ?_
   refine Zt 39 y_move ?_
   by_cases c22:(hadE (trAs Ls) i)=3
   ·refine Zt 39 (yb (dT c22) yi_eql) ?_
    refine Zt 39 y_move ?_
    refine Zf 42 ?_
    refine Zf 42 ?_
    refine Zt 39 (y_pick true) ?_
    refine Za (y_pick true) ?_
    refine ZM ?_
    refine Zt 47 y_move ?_
    refine Zt 47 (y_lenM (el:=50) m7.len) ?_
    refine Zt 47 (yb (dT (show ((remL (trAs Ls) i).length:Int)=0 from (by rw [rem_no c8];rfl))) (yi_eql rfl rfl rfl)) ?_
    refine Za (y_pick true) ?_
    refine ZAnr [1,5,7,8,6] ?_
    refine Qc ?_
    have u:=Un u hw7
    exact Qa rfl rfl ⟨_,rfl,rfl,u⟩
   refine Zt 39 (yb (dF c22) yi_eql) ?_
   refine Zt 39 y_move ?_
   refine Zt 42 y_move ?_
   refine Zt 42 (yb (dT (show (hadE (trAs Ls) i)=9 from (hv.resolve_left c22))) yi_eql) ?_
   refine Zt 39 (y_pick false) ?_
   refine Za (y_pick true) ?_
   refine ZM ?_
   refine Zt 47 y_move ?_
   refine Zt 47 (y_lenM (el:=50) m7.len) ?_
   refine Zt 47 (yb (dT (show ((remL (trAs Ls) i).length:Int)=0 from (by rw [rem_no c8];rfl))) (yi_eql rfl rfl rfl)) ?_
   refine Za (y_pick true) ?_
   refine ZAnr [1,5,7,8,6] ?_
   refine Qc ?_
   have u:=Un u hw7
   exact Qa rfl rfl ⟨_,rfl,rfl,u⟩
  refine Zct 24 (sane_any (h.more (B':=w4.heap.size) (by omega)) (Nat.le_refl _)) rfl rfl ?_
  rintro u23 w23 ⟨e23,hw23⟩
  have zw23:=hw23.size
  obtain rfl:u23=.bool false:=e23.trans (congrArg Value.bool (decide_eq_false c5))
  refine Zt 24 y_bnot ?_
  refine Zan (y_pick false) [0,1,5,6,7,28] ?_
  refine cg_ct rfl ?_
  refine ZrM ?_
  refine ZAnr [0,1,5,7,6] ?_
  refine Qc ?_
  have u:=Un (Un (Un u hw2) hw4) hw23
  exact Qa rfl rfl ⟨_,rfl,rfl,u⟩
 refine Zc (fewR_any (h.more (B':=w2.heap.size) (by omega)) (Nat.le_refl _)) rfl rfl ?_
 rintro u24 w24 ⟨e24,hw24⟩
 have zw24:=hw24.size
 obtain rfl:u24=.bool false:=e24.trans (congrArg Value.bool (decide_eq_false c3))
 refine Za y_bnot ?_
 refine ZM ?_
 refine Zf 24 ?_
 refine Zf 24 ?_
 refine Zf 24 ?_
 refine Zan (y_pick true) [0,1,5,6,7,28] ?_
 refine cg_ct rfl ?_
 refine ZrM ?_
 refine ZAnr [0,1,5,7,6] ?_
 refine Qc ?_
 have u:=Un (Un u hw2) hw24
 exact Qa rfl rfl ⟨_,rfl,rfl,u⟩
end Go.Proofs.YtfdmhdnlmndhdaaGreatDoor
