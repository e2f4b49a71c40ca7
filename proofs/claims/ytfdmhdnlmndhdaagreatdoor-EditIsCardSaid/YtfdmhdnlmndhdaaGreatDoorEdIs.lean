/-
  Of any row, number, leaf and keys the answers are the document's.
-/
import Derived.Test.YtfdmhdnlmndhdaaGreatDoorEdAwake
import Derived.Test.YtfdmhdnlmndhdaaGreatDoorTrRef
import Derived.Test.YtfdmhdnlmndhdaaGreatDoorEdMore
import Derived.Test.YtfdmhdnlmndhdaaGreatDoorEdRef
namespace Go.Proofs.YtfdmhdnlmndhdaaGreatDoor
open Go.ChangeShapes Go.WideShapes Go.ChangeAt Go.RowKit
set_option linter.unusedVariables false

set_option maxRecDepth 20000
set_option maxHeartbeats 4000000 in
theorem editIs_any {W:World} {s:SlV} {Ls:List Nd} (h:RwNd W W.heap.size s Ls) (i:Int) {l:LfV} {L:Lf} (hl:IsLf W W.heap.size l L) {r:SlV} {Ks:List (List Int)} (hk:RwOc W W.heap.size r Ks) (rg:Tt W):Calls Tryz.prog 3 #[s.v,nv i,.agg (l.cs L),r.v] W fun e W'=>∃ v,e=.returned v∧v=.bool true∧Below W.heap.size W W':=by
 refine Qf (n:=145) Tryz.func3 rfl Tryz.ntmps3 (by simp) ?_
 show CG _ _ _ [(0,s.v),(1,nv i),(2,.agg (l.cs L)),(3,r.v)] _ _
 have u:=Below.refl W.heap.size W
 have q1:=h.len
 have q2:=h.cap
 have q3:=hk.len
 have q4:=hk.cap
 refine Zr ?_
 refine lg_boxw Wn rfl rfl (by kernel_rfl) rfl (by decide) fun b1 w1 n1=>?_
 have r1:=n1.row
 have k1:=n1.blk
 have z1:=n1.size
 have lt1:b1<w1.heap.size:=by omega
 refine ZAn [0,1,3,6,8] ?_
 refine Zr ?_
 have u:=Un u n1.below
 refine Zc (awakeE_any _ (Tt.up u rg)) rfl rfl ?_
 rintro _ w2 ⟨rfl,hw2⟩
 have zw2:=hw2.size
 refine ZAn [0,1,3,6,8,9] ?_
 refine Qd ?_
 refine ZrM ?_
 have h:=(h.below (n1.below.mono (by omega))).below (hw2.mono (by omega))
 by_cases c3:trFew Ls
 ·refine Zc (fewR_any (h.more (B':=w2.heap.size) (by omega)) (Nat.le_refl _)) rfl rfl ?_
  rintro u4 w4 ⟨e4,hw4⟩
  have zw4:=hw4.size
  obtain rfl:u4=.bool true:=e4.trans (congrArg Value.bool (decide_eq_true c3))
  refine Za y_bnot ?_
  refine ZM ?_
  refine Zt 32 y_move ?_
  have h:=h.below (hw4.mono (by omega))
  refine Zt 32 (y_lenM (el:=50) h.len) ?_
  by_cases c5:20<(Ls.length:Int)
  ·refine Zt 32 (yb (dT c5) yi_gtr) ?_
   refine Za (y_pick false) ?_
   refine ZM ?_
   refine Zf 37 ?_
   refine Zf 37 ?_
   refine Zf 37 ?_
   refine Zan (y_pick true) [0,1,3,6,8,9,41] ?_
   refine cg_ct rfl ?_
   refine ZrM ?_
   refine ZAnr [0,1,3,6,9,8] ?_
   refine Qc ?_
   have u:=Un (Un u hw2) hw4
   exact Qa rfl rfl ⟨_,rfl,rfl,u⟩
  refine Zt 32 (yb (dF c5) yi_gtr) ?_
  refine Za (y_pick false) ?_
  refine ZM ?_
  refine Zt 37 y_move ?_
  have hk:=((hk.below (n1.below.mono (by omega))).below (hw2.mono (by omega))).below (hw4.mono (by omega))
  by_cases c6:ocFew Ks
  ·refine Zct 37 (fewO_any (hk.more (B':=w4.heap.size) (by omega)) (Nat.le_refl _)) rfl rfl ?_
   rintro u7 w7 ⟨e7,hw7⟩
   have zw7:=hw7.size
   obtain rfl:u7=.bool true:=e7.trans (congrArg Value.bool (decide_eq_true c6))
   refine Zt 37 y_bnot ?_
   refine Zan (y_pick false) [0,1,3,6,8,9,41] ?_
   refine Zcf [0,1,3,6,8,9] ?_
   refine ZrM ?_
   have r1:=RowAt.below hw2 r1.lt r1
   have r1:=RowAt.below hw4 r1.lt r1
   have r1:=RowAt.below hw7 r1.lt r1
   refine Za (y_loadA r1) ?_
   have h:=h.below (hw7.mono (by omega))
   have hl:=(hl.below (n1.below.mono (by omega))).below (hw2.mono (by omega))
   have hl:=(hl.below (hw4.mono (by omega))).below (hw7.mono (by omega))
   have u:=Un (Un (Un u hw2) hw4) hw7
   refine Zc (add_any (h.more (B':=w7.heap.size) (by omega)) (hl.more (B':=w7.heap.size) (by omega)) (Nat.le_refl _) (Tt.up u rg)) rfl rfl ?_
   rintro _ w8 ⟨s8,rfl,m8,hw8⟩
   have zw8:=hw8.size
   refine ZM ?_
   refine Za y_extract ?_
   refine Za y_extract ?_
   refine Za y_extract ?_
   refine ZA ?_
   refine ZA ?_
   refine ZAn [0,1,3,6,8,9,10,11,12] ?_
   refine ZrM ?_
   have r1:=RowAt.below hw8 r1.lt r1
   refine Za (y_loadA r1) ?_
   have h:=h.below (hw8.mono (by omega))
   have hl:=hl.below (hw8.mono (by omega))
   have u:=Un u hw8
   refine Zc (radd_any (h.more (B':=w8.heap.size) (by omega)) (hl.more (B':=w8.heap.size) (by omega)) (Nat.le_refl _) (Tt.up u rg).b) rfl rfl ?_
   rintro _ w9 ⟨s9,rfl,m9,hw9⟩
   have zw9:=hw9.size
   refine ZM ?_
   refine Za y_extract ?_
   refine Za y_extract ?_
   refine Za y_extract ?_
   refine ZA ?_
   refine ZA ?_
   refine ZAn [0,1,3,6,8,9,10,11,12,13,14,15] ?_
   refine ZrM ?_
   refine ZM ?_
   have h:=h.below (hw9.mono (by omega))
   have u:=Un u hw9
   refine Zc (rem_any (h.more (B':=w9.heap.size) (by omega)) i (Nat.le_refl _) (Tt.up u rg)) rfl rfl ?_
   rintro _ w10 ⟨s10,rfl,m10,hw10⟩
   have zw10:=hw10.size
   refine ZM ?_
   refine Za y_extract ?_
   refine Za y_extract ?_
   refine ZA ?_
   refine ZAn [0,1,3,6,8,9,10,11,12,13,14,15,16,17] ?_
   refine ZrM ?_
   refine ZM ?_
   have h:=h.below (hw10.mono (by omega))
   have u:=Un u hw10
   refine Zc (rrem_any (h.more (B':=w10.heap.size) (by omega)) i (Nat.le_refl _) (Tt.up u rg).b) rfl rfl ?_
   rintro _ w11 ⟨s11,rfl,m11,hw11⟩
   have zw11:=hw11.size
   refine ZM ?_
   refine Za y_extract ?_
   refine Za y_extract ?_
   refine ZA ?_
   refine ZAn [0,1,3,6,8,9,10,11,12,13,14,15,16,17,18,19] ?_
   refine Qd ?_
   refine ZrM ?_
   refine ZM ?_
   have m8:=((m8.below (hw9.mono (by omega))).below (hw10.mono (by omega))).below (hw11.mono (by omega))
   have m9:=(m9.below (hw10.mono (by omega))).below (hw11.mono (by omega))
   refine Zc (sameR_any (m8.more (B':=w11.heap.size) (by omega)) (m9.more (B':=w11.heap.size) (by omega)) (Nat.le_refl _)) rfl rfl ?_
   rintro u12 w12 ⟨e12,hw12⟩
   have zw12:=hw12.size
   obtain rfl:u12=.bool true:=e12.trans (congrArg Value.bool (decide_eq_true (tr_same _)))
   refine Za y_bnot ?_
   refine ZM ?_
   refine Zt 73 y_move ?_
   refine Zt 73 y_move ?_
   refine Zt 73 (yb (nd_f rfl) yi_neq) ?_
   refine Za (y_pick false) ?_
   refine ZM ?_
   refine Zt 78 y_move ?_
   refine Zt 78 y_move ?_
   refine Zt 78 (yb (nd_f rfl) yi_neq) ?_
   refine Za (y_pick false) ?_
   refine ZM ?_
   refine Zt 83 y_move ?_
   refine Zt 83 y_move ?_
   have m10:=(m10.below (hw11.mono (by omega))).below (hw12.mono (by omega))
   have m11:=m11.below (hw12.mono (by omega))
   refine Zct 83 (sameR_any (m10.more (B':=w12.heap.size) (by omega)) (m11.more (B':=w12.heap.size) (by omega)) (Nat.le_refl _)) rfl rfl ?_
   rintro u13 w13 ⟨e13,hw13⟩
   have zw13:=hw13.size
   obtain rfl:u13=.bool true:=e13.trans (congrArg Value.bool (decide_eq_true (tr_same _)))
   refine Zt 83 y_bnot ?_
   refine Za (y_pick false) ?_
   refine ZM ?_
   refine Zt 89 y_move ?_
   refine Zt 89 y_move ?_
   refine Zt 89 (yb (nd_f rfl) yi_neq) ?_
   refine Zan (y_pick false) [0,1,3,6,8,9,93] ?_
   refine Zcf [0,1,3,6,8,9] ?_
   refine ZrM ?_
   refine ZM ?_
   have r1:=RowAt.below hw9 r1.lt r1
   have r1:=RowAt.below hw10 r1.lt r1
   have r1:=RowAt.below hw11 r1.lt r1
   have r1:=RowAt.below hw12 r1.lt r1
   have r1:=RowAt.below hw13 r1.lt r1
   refine Za (y_loadA r1) ?_
   have hl:=(hl.below (hw9.mono (by omega))).below (hw10.mono (by omega))
   have hl:=((hl.below (hw11.mono (by omega))).below (hw12.mono (by omega))).below (hw13.mono (by omega))
   have h:=((h.below (hw11.mono (by omega))).below (hw12.mono (by omega))).below (hw13.mono (by omega))
   have u:=Un (Un (Un u hw11) hw12) hw13
   refine Zc (cha_any (h.more (B':=w13.heap.size) (by omega)) i (hl.more (B':=w13.heap.size) (by omega)) (Nat.le_refl _) (Tt.up u rg)) rfl rfl ?_
   rintro _ w14 ⟨s14,rfl,m14,hw14⟩
   have zw14:=hw14.size
   refine ZM ?_
   refine Za y_extract ?_
   refine Za y_extract ?_
   refine ZA ?_
   refine ZAn [0,1,3,6,8,9,20,21] ?_
   refine ZrM ?_
   refine ZM ?_
   have r1:=RowAt.below hw14 r1.lt r1
   refine Za (y_loadA r1) ?_
   have hl:=hl.below (hw14.mono (by omega))
   have h:=h.below (hw14.mono (by omega))
   have u:=Un u hw14
   refine Zc (rcha_any (h.more (B':=w14.heap.size) (by omega)) i (hl.more (B':=w14.heap.size) (by omega)) (Nat.le_refl _) (Tt.up u rg).b) rfl rfl ?_
   rintro _ w15 ⟨s15,rfl,m15,hw15⟩
   have zw15:=hw15.size
   refine ZM ?_
   refine Za y_extract ?_
   refine Za y_extract ?_
   refine ZA ?_
   refine ZAn [0,1,3,6,8,9,20,21,22,23] ?_
   refine ZrM ?_
   refine ZM ?_
   have r1:=RowAt.below hw15 r1.lt r1
   refine Za (y_loadA r1) ?_
   refine ZM ?_
   have hl:=hl.below (hw15.mono (by omega))
   have hk:=(hk.below (hw7.mono (by omega))).below (hw8.mono (by omega))
   have hk:=(hk.below (hw9.mono (by omega))).below (hw10.mono (by omega))
   have hk:=(hk.below (hw11.mono (by omega))).below (hw12.mono (by omega))
   have hk:=((hk.below (hw13.mono (by omega))).below (hw14.mono (by omega))).below (hw15.mono (by omega))
   have h:=h.below (hw15.mono (by omega))
   have u:=Un u hw15
   refine Zc (com_any (h.more (B':=w15.heap.size) (by omega)) i (hl.more (B':=w15.heap.size) (by omega)) (hk.more (B':=w15.heap.size) (by omega)) (Nat.le_refl _) (Tt.up u rg)) rfl rfl ?_
   rintro _ w16 ⟨s16,rfl,m16,hw16⟩
   have zw16:=hw16.size
   refine ZM ?_
   refine Za y_extract ?_
   refine Za y_extract ?_
   refine ZA ?_
   refine ZAn [0,1,3,6,8,9,20,21,22,23,24,25] ?_
   refine ZrM ?_
   refine ZM ?_
   have r1:=RowAt.below hw16 r1.lt r1
   refine Za (y_loadA r1) ?_
   refine ZM ?_
   have hl:=hl.below (hw16.mono (by omega))
   have hk:=hk.below (hw16.mono (by omega))
   have h:=h.below (hw16.mono (by omega))
   have u:=Un u hw16
   refine Zc (rcom_any (h.more (B':=w16.heap.size) (by omega)) i (hl.more (B':=w16.heap.size) (by omega)) (hk.more (B':=w16.heap.size) (by omega)) (Nat.le_refl _) (Tt.up u rg).b) rfl rfl ?_
   rintro _ w17 ⟨s17,rfl,m17,hw17⟩
   have zw17:=hw17.size
   refine ZM ?_
   refine Za y_extract ?_
   refine Za y_extract ?_
   refine ZA ?_
   refine ZAn [8,9,20,21,22,23,24,25,26,27] ?_
   refine ZrM ?_
   refine ZM ?_
   refine Zt 125 y_move ?_
   refine Zt 125 y_move ?_
   have m14:=((m14.below (hw15.mono (by omega))).below (hw16.mono (by omega))).below (hw17.mono (by omega))
   have m15:=(m15.below (hw16.mono (by omega))).below (hw17.mono (by omega))
   refine Zct 125 (sameR_any (m14.more (B':=w17.heap.size) (by omega)) (m15.more (B':=w17.heap.size) (by omega)) (Nat.le_refl _)) rfl rfl ?_
   rintro u18 w18 ⟨e18,hw18⟩
   have zw18:=hw18.size
   obtain rfl:u18=.bool true:=e18.trans (congrArg Value.bool (decide_eq_true (tr_same _)))
   refine Za (y_pick true) ?_
   refine ZM ?_
   refine Zt 130 y_move ?_
   refine Zt 130 y_move ?_
   refine Zt 130 (yb (dT rfl) yi_eql) ?_
   refine Za (y_pick true) ?_
   refine ZM ?_
   refine Zt 135 y_move ?_
   refine Zt 135 y_move ?_
   have m16:=(m16.below (hw17.mono (by omega))).below (hw18.mono (by omega))
   have m17:=m17.below (hw18.mono (by omega))
   refine Zct 135 (sameR_any (m16.more (B':=w18.heap.size) (by omega)) (m17.more (B':=w18.heap.size) (by omega)) (Nat.le_refl _)) rfl rfl ?_
   rintro u19 w19 ⟨e19,hw19⟩
   have zw19:=hw19.size
   obtain rfl:u19=.bool true:=e19.trans (congrArg Value.bool (decide_eq_true (tr_same _)))
   refine Za (y_pick true) ?_
   refine ZM ?_
   refine Zt 140 y_move ?_
   refine Zt 140 y_move ?_
   refine Zt 140 (yb (dT rfl) yi_eql) ?_
   refine Za (y_pick true) ?_
   refine ZAnr [8] ?_
   have u:=Un (Un (Un u hw17) hw18) hw19
   exact Qa rfl rfl ⟨_,rfl,rfl,u⟩
  refine Zct 37 (fewO_any (hk.more (B':=w4.heap.size) (by omega)) (Nat.le_refl _)) rfl rfl ?_
  rintro u20 w20 ⟨e20,hw20⟩
  have zw20:=hw20.size
  obtain rfl:u20=.bool false:=e20.trans (congrArg Value.bool (decide_eq_false c6))
  refine Zt 37 y_bnot ?_
  refine Zan (y_pick false) [0,1,3,6,8,9,41] ?_
  refine cg_ct rfl ?_
  refine ZrM ?_
  refine ZAnr [0,1,3,6,9,8] ?_
  refine Qc ?_
  have u:=Un (Un (Un u hw2) hw4) hw20
  exact Qa rfl rfl ⟨_,rfl,rfl,u⟩
 refine Zc (fewR_any (h.more (B':=w2.heap.size) (by omega)) (Nat.le_refl _)) rfl rfl ?_
 rintro u21 w21 ⟨e21,hw21⟩
 have zw21:=hw21.size
 obtain rfl:u21=.bool false:=e21.trans (congrArg Value.bool (decide_eq_false c3))
 refine Za y_bnot ?_
 refine ZM ?_
 refine Zf 32 ?_
 refine Zf 32 ?_
 refine Zf 32 ?_
 refine Za (y_pick true) ?_
 refine ZM ?_
 refine Zf 37 ?_
 refine Zf 37 ?_
 refine Zf 37 ?_
 refine Zan (y_pick true) [0,1,3,6,8,9,41] ?_
 refine cg_ct rfl ?_
 refine ZrM ?_
 refine ZAnr [0,1,3,6,9,8] ?_
 refine Qc ?_
 have u:=Un (Un u hw2) hw21
 exact Qa rfl rfl ⟨_,rfl,rfl,u⟩
end Go.Proofs.YtfdmhdnlmndhdaaGreatDoor
