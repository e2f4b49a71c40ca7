/-
  Two leaves change in either order.
-/
import Derived.Test.YtfdmhdnlmndhdaaGreatDoorEdAwake
import Derived.Test.YtfdmhdnlmndhdaaGreatDoorTrRef
import Derived.Test.YtfdmhdnlmndhdaaGreatDoorEdMore
namespace Go.Proofs.YtfdmhdnlmndhdaaGreatDoor
open Go.ChangeShapes Go.WideShapes Go.ChangeAt Go.RowKit
set_option linter.unusedVariables false

set_option maxRecDepth 20000
set_option maxHeartbeats 4000000 in
theorem editOrder_any {W:World} {s:SlV} {Ls:List Nd} (h:RwNd W W.heap.size s Ls) (i k:Int) {l:LfV} {L:Lf} (hl:IsLf W W.heap.size l L) {m:LfV} {M:Lf} (hm:IsLf W W.heap.size m M) (rg:Tt W):Calls Tryz.prog 8 #[s.v,nv i,nv k,.agg (l.cs L),.agg (m.cs M)] W fun e W'=>∃ v,e=.returned v∧v=.bool true∧Below W.heap.size W W':=by
 refine Qf (n:=91) Tryz.func8 rfl Tryz.ntmps8 (by simp) ?_
 show CG _ _ _ [(0,s.v),(1,nv i),(2,nv k),(3,.agg (l.cs L)),(4,.agg (m.cs M))] _ _
 have u:=Below.refl W.heap.size W
 have q1:=h.len
 have q2:=h.cap
 refine Zr ?_
 refine lg_boxw Wn rfl rfl (by kernel_rfl) rfl (by decide) fun b1 w1 n1=>?_
 have r1:=n1.row
 have k1:=n1.blk
 have z1:=n1.size
 have lt1:b1<w1.heap.size:=by omega
 refine lg_boxw Wn rfl rfl (by kernel_rfl) rfl (by decide) fun b2 w2 n2=>?_
 have r2:=n2.row
 have k2:=n2.blk
 have z2:=n2.size
 have lt2:b2<w2.heap.size:=by omega
 refine ZAn [0,1,2,8,9,10] ?_
 refine Zr ?_
 have u:=Un (Un u n1.below) n2.below
 refine Zc (awakeE_any _ (Tt.up u rg)) rfl rfl ?_
 rintro _ w3 ⟨rfl,hw3⟩
 have zw3:=hw3.size
 refine ZAn [0,1,2,8,9,10,11] ?_
 refine Qd ?_
 refine ZrM ?_
 have h:=((h.below (n1.below.mono (by omega))).below (n2.below.mono (by omega))).below (hw3.mono (by omega))
 by_cases c4:trFew Ls
 ·refine Zc (fewR_any (h.more (B':=w3.heap.size) (by omega)) (Nat.le_refl _)) rfl rfl ?_
  rintro u5 w5 ⟨e5,hw5⟩
  have zw5:=hw5.size
  obtain rfl:u5=.bool true:=e5.trans (congrArg Value.bool (decide_eq_true c4))
  refine Za y_bnot ?_
  refine ZM ?_
  refine Zt 24 y_move ?_
  have h:=h.below (hw5.mono (by omega))
  by_cases c6:trIs Ls
  ·have htr:=c6
   have htl:=trIs_le htr
   have hta:=trAs_ok htr
   have htA:=trAs_is Ls
   refine Zct 24 (sane_any (h.more (B':=w5.heap.size) (by omega)) (Nat.le_refl _)) rfl rfl ?_
   rintro u7 w7 ⟨e7,hw7⟩
   have zw7:=hw7.size
   obtain rfl:u7=.bool true:=e7.trans (congrArg Value.bool (decide_eq_true c6))
   refine Zt 24 y_bnot ?_
   refine Za (y_pick false) ?_
   refine ZM ?_
   refine Zt 29 y_move ?_
   refine Zt 29 y_move ?_
   by_cases c8:i=k
   ·refine Zt 29 (yb (dT c8) yi_eql) ?_
    refine Zan (y_pick false) [0,1,2,8,9,10,11,33] ?_
    refine cg_ct rfl ?_
    refine ZrM ?_
    refine ZAnr [0,1,2,8,9,11,10] ?_
    refine Qc ?_
    have u:=Un (Un (Un u hw3) hw5) hw7
    exact Qa rfl rfl ⟨_,rfl,rfl,u⟩
   refine Zt 29 (yb (dF c8) yi_eql) ?_
   refine Zan (y_pick false) [0,1,2,8,9,10,11,33] ?_
   refine Zcf [0,1,2,8,9,10,11] ?_
   refine ZrM ?_
   refine ZM ?_
   have r1:=n2.keep r1
   have r1:=RowAt.below hw3 r1.lt r1
   have r1:=RowAt.below hw5 r1.lt r1
   have r1:=RowAt.below hw7 r1.lt r1
   refine Za (y_loadA r1) ?_
   have hl:=(hl.below (n1.below.mono (by omega))).below (n2.below.mono (by omega))
   have hl:=((hl.below (hw3.mono (by omega))).below (hw5.mono (by omega))).below (hw7.mono (by omega))
   have h:=h.below (hw7.mono (by omega))
   have u:=Un (Un (Un u hw3) hw5) hw7
   refine Zc (cha_any (h.more (B':=w7.heap.size) (by omega)) i (hl.more (B':=w7.heap.size) (by omega)) (Nat.le_refl _) (Tt.up u rg)) rfl rfl ?_
   rintro _ w9 ⟨s9,rfl,m9,hw9⟩
   have zw9:=hw9.size
   refine ZM ?_
   refine Za y_extract ?_
   refine Za y_extract ?_
   refine ZA ?_
   refine ZAn [0,1,2,8,9,10,11,12,13] ?_
   refine ZrM ?_
   refine ZM ?_
   have r2:=RowAt.below hw3 r2.lt r2
   have r2:=RowAt.below hw5 r2.lt r2
   have r2:=RowAt.below hw7 r2.lt r2
   have r2:=RowAt.below hw9 r2.lt r2
   refine Za (y_loadA r2) ?_
   have hm:=(hm.below (n1.below.mono (by omega))).below (n2.below.mono (by omega))
   have hm:=(hm.below (hw3.mono (by omega))).below (hw5.mono (by omega))
   have hm:=(hm.below (hw7.mono (by omega))).below (hw9.mono (by omega))
   have h:=h.below (hw9.mono (by omega))
   have u:=Un u hw9
   refine Zc (cha_any (h.more (B':=w9.heap.size) (by omega)) k (hm.more (B':=w9.heap.size) (by omega)) (Nat.le_refl _) (Tt.up u rg)) rfl rfl ?_
   rintro _ w10 ⟨s10,rfl,m10,hw10⟩
   have zw10:=hw10.size
   refine ZM ?_
   refine Za y_extract ?_
   refine Za y_extract ?_
   refine ZA ?_
   refine ZAn [0,1,2,8,9,10,11,12,13,14,15] ?_
   refine Qd ?_
   refine ZrM ?_
   by_cases c11:(chaE (trAs Ls) i L)=0
   ·refine Za (yb (nd_f c11) yi_neq) ?_
    refine ZM ?_
    refine Zt 51 y_move ?_
    by_cases c12:(chaE (trAs Ls) k M)=0
    ·have y1:=trAs_ok (chaL_is (trAs_is Ls) i L)
     have y2:=trAs_ok (chaL_is (trAs_is Ls) k M)
     have y3:=cha_two htA c8 c11 c12
     have y4:=cha_two htA (fun q=>c8 q.symm) c12 c11
     obtain ⟨y5,y6⟩:=cha_swap htA c8 c11 c12
     refine Zt 51 (yb (nd_f c12) yi_neq) ?_
     refine Zan (y_pick false) [0,1,2,8,9,10,11,12,14,54] ?_
     refine Zcf [0,1,2,8,9,10,11,12,14] ?_
     refine ZrM ?_
     refine ZM ?_
     have r2:=RowAt.below hw10 r2.lt r2
     refine Za (y_loadA r2) ?_
     have hm:=hm.below (hw10.mono (by omega))
     have m9:=m9.below (hw10.mono (by omega))
     have u:=Un u hw10
     refine Zc (cha_any (m9.more (B':=w10.heap.size) (by omega)) k (hm.more (B':=w10.heap.size) (by omega)) (Nat.le_refl _) (Tt.up u rg)) rfl rfl ?_
     rintro _ w13 ⟨s13,rfl,m13,hw13⟩
     have zw13:=hw13.size
     refine ZM ?_
     refine Za y_extract ?_
     refine Za y_extract ?_
     refine ZA ?_
     refine ZAn [0,1,8,10,11,14,16,17] ?_
     refine ZrM ?_
     refine ZM ?_
     have r1:=RowAt.below hw9 r1.lt r1
     have r1:=RowAt.below hw10 r1.lt r1
     have r1:=RowAt.below hw13 r1.lt r1
     refine Za (y_loadA r1) ?_
     have hl:=((hl.below (hw9.mono (by omega))).below (hw10.mono (by omega))).below (hw13.mono (by omega))
     have m10:=m10.below (hw13.mono (by omega))
     have u:=Un u hw13
     refine Zc (cha_any (m10.more (B':=w13.heap.size) (by omega)) i (hl.more (B':=w13.heap.size) (by omega)) (Nat.le_refl _) (Tt.up u rg)) rfl rfl ?_
     rintro _ w14 ⟨s14,rfl,m14,hw14⟩
     have zw14:=hw14.size
     refine ZM ?_
     refine Za y_extract ?_
     refine Za y_extract ?_
     refine ZA ?_
     refine ZAn [0,10,11,16,17,18,19] ?_
     refine ZrM ?_
     refine ZM ?_
     refine Zt 71 y_move ?_
     refine Zt 71 (yb (dT (show (chaE (trAs (chaL (trAs Ls) i L)) k M)=0 from (by rw [y1];exact y3))) (yi_eql rfl rfl rfl)) ?_
     refine Za (y_pick true) ?_
     refine ZM ?_
     refine Zt 75 y_move ?_
     refine Zt 75 (yb (dT (show (chaE (trAs (chaL (trAs Ls) k M)) i L)=0 from (by rw [y2];exact y4))) (yi_eql rfl rfl rfl)) ?_
     refine Za (y_pick true) ?_
     refine ZM ?_
     refine Zt 79 y_move ?_
     refine Zt 79 y_move ?_
     have m13:=m13.below (hw14.mono (by omega))
     refine Zct 79 (sameR_any (m13.more (B':=w14.heap.size) (by omega)) (m14.more (B':=w14.heap.size) (by omega)) (Nat.le_refl _)) rfl rfl ?_
     rintro u15 w15 ⟨e15,hw15⟩
     have zw15:=hw15.size
     obtain rfl:u15=.bool true:=e15.trans (congrArg Value.bool (decide_eq_true (show trSame (chaL (trAs (chaL (trAs Ls) i L)) k M) (chaL (trAs (chaL (trAs Ls) k M)) i L) from (by rw [y1,y2,y5];exact tr_same _))))
     refine Za (y_pick true) ?_
     refine ZM ?_
     refine Zt 84 y_move ?_
     have m13:=m13.below (hw15.mono (by omega))
     refine Zt 84 (y_lenM (el:=50) m13.len) ?_
     refine Zt 84 y_move ?_
     have h:=(h.below (hw10.mono (by omega))).below (hw13.mono (by omega))
     have h:=(h.below (hw14.mono (by omega))).below (hw15.mono (by omega))
     refine Zt 84 (y_lenM (el:=50) h.len) ?_
     refine Zt 84 (yb (dT (show ((chaL (trAs (chaL (trAs Ls) i L)) k M).length:Int)=(Ls.length:Int) from (by rw [y1,y6,hta]))) (yi_eql rfl rfl rfl)) ?_
     refine Za (y_pick true) ?_
     refine ZAnr [10] ?_
     have u:=Un (Un u hw14) hw15
     exact Qa rfl rfl ⟨_,rfl,rfl,u⟩
    refine Zt 51 (yb (nd_t c12) yi_neq) ?_
    refine Zan (y_pick false) [0,1,2,8,9,10,11,12,14,54] ?_
    refine cg_ct rfl ?_
    refine ZrM ?_
    refine ZAnr [0,1,2,8,9,11,12,14,10] ?_
    refine Qc ?_
    have u:=Un u hw10
    exact Qa rfl rfl ⟨_,rfl,rfl,u⟩
   refine Za (yb (nd_t c11) yi_neq) ?_
   refine ZM ?_
   refine Zf 51 ?_
   refine Zf 51 ?_
   refine Zan (y_pick true) [0,1,2,8,9,10,11,12,14,54] ?_
   refine cg_ct rfl ?_
   refine ZrM ?_
   refine ZAnr [0,1,2,8,9,11,12,14,10] ?_
   refine Qc ?_
   have u:=Un u hw10
   exact Qa rfl rfl ⟨_,rfl,rfl,u⟩
  refine Zct 24 (sane_any (h.more (B':=w5.heap.size) (by omega)) (Nat.le_refl _)) rfl rfl ?_
  rintro u16 w16 ⟨e16,hw16⟩
  have zw16:=hw16.size
  obtain rfl:u16=.bool false:=e16.trans (congrArg Value.bool (decide_eq_false c6))
  refine Zt 24 y_bnot ?_
  refine Za (y_pick false) ?_
  refine ZM ?_
  refine Zf 29 ?_
  refine Zf 29 ?_
  refine Zf 29 ?_
  refine Zan (y_pick true) [0,1,2,8,9,10,11,33] ?_
  refine cg_ct rfl ?_
  refine ZrM ?_
  refine ZAnr [0,1,2,8,9,11,10] ?_
  refine Qc ?_
  have u:=Un (Un (Un u hw3) hw5) hw16
  exact Qa rfl rfl ⟨_,rfl,rfl,u⟩
 refine Zc (fewR_any (h.more (B':=w3.heap.size) (by omega)) (Nat.le_refl _)) rfl rfl ?_
 rintro u17 w17 ⟨e17,hw17⟩
 have zw17:=hw17.size
 obtain rfl:u17=.bool false:=e17.trans (congrArg Value.bool (decide_eq_false c4))
 refine Za y_bnot ?_
 refine ZM ?_
 refine Zf 24 ?_
 refine Zf 24 ?_
 refine Zf 24 ?_
 refine Za (y_pick true) ?_
 refine ZM ?_
 refine Zf 29 ?_
 refine Zf 29 ?_
 refine Zf 29 ?_
 refine Zan (y_pick true) [0,1,2,8,9,10,11,33] ?_
 refine cg_ct rfl ?_
 refine ZrM ?_
 refine ZAnr [0,1,2,8,9,11,10] ?_
 refine Qc ?_
 have u:=Un (Un u hw3) hw17
 exact Qa rfl rfl ⟨_,rfl,rfl,u⟩
end Go.Proofs.YtfdmhdnlmndhdaaGreatDoor
