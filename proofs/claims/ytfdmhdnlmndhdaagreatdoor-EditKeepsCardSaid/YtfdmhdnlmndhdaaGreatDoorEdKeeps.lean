/-
  Trees stay trees.
-/
import Derived.Test.YtfdmhdnlmndhdaaGreatDoorEdAwake
import Derived.Test.YtfdmhdnlmndhdaaGreatDoorTrRef
import Derived.Test.YtfdmhdnlmndhdaaGreatDoorEdMore
import Derived.Test.YtfdmhdnlmndhdaaGreatDoorEdSp
namespace Go.Proofs.YtfdmhdnlmndhdaaGreatDoor
open Go.ChangeShapes Go.WideShapes Go.ChangeAt Go.RowKit
set_option linter.unusedVariables false

set_option maxRecDepth 20000
set_option maxHeartbeats 4000000 in
theorem editKeeps_any {W:World} {s:SlV} {Ls:List Nd} (h:RwNd W W.heap.size s Ls) {l:SpV} {wh ix:Int} {lf:Lf} {ks:List (List Int)} {ws:Bool} (hl:IsSp W W.heap.size l ⟨wh,ix,lf,ks,ws⟩) (rg:Tt W):Calls Tryz.prog 5 #[s.v,.agg (l.cs (⟨wh,ix,lf,ks,ws⟩:Sp))] W fun e W'=>∃ v,e=.returned v∧v=.bool true∧Below W.heap.size W W':=by
 refine Qf (n:=161) Tryz.func5 rfl Tryz.ntmps5 (by simp) ?_
 show CG _ _ _ [(0,s.v),(1,.agg (l.cs (⟨wh,ix,lf,ks,ws⟩:Sp)))] _ _
 have u:=Below.refl W.heap.size W
 have q1:=h.len
 have q2:=h.cap
 refine Zr ?_
 refine lg_boxw Wn rfl rfl (by kernel_rfl) rfl (by decide) fun b1 w1 n1=>?_
 have r1:=n1.row
 have k1:=n1.blk
 have z1:=n1.size
 have lt1:b1<w1.heap.size:=by omega
 refine ZAn [0,3,4] ?_
 refine Zr ?_
 have u:=Un u n1.below
 refine Zc (awakeE_any _ (Tt.up u rg)) rfl rfl ?_
 rintro _ w2 ⟨rfl,hw2⟩
 have zw2:=hw2.size
 refine ZAn [0,3,4,5] ?_
 refine Qd ?_
 refine ZrM ?_
 have h:=(h.below (n1.below.mono (by omega))).below (hw2.mono (by omega))
 by_cases c3:trFew Ls
 ·refine Zc (fewR_any (h.more (B':=w2.heap.size) (by omega)) (Nat.le_refl _)) rfl rfl ?_
  rintro u4 w4 ⟨e4,hw4⟩
  have zw4:=hw4.size
  obtain rfl:u4=.bool true:=e4.trans (congrArg Value.bool (decide_eq_true c3))
  refine Za y_bnot ?_
  refine ZM ?_
  refine Zt 20 y_move ?_
  have h:=h.below (hw4.mono (by omega))
  refine Zt 20 (y_lenM (el:=50) h.len) ?_
  by_cases c5:20<(Ls.length:Int)
  ·refine Zt 20 (yb (dT c5) yi_gtr) ?_
   refine Za (y_pick false) ?_
   refine ZM ?_
   refine Zf 25 ?_
   refine Zf 25 ?_
   refine Zf 25 ?_
   refine Zf 25 ?_
   refine Zan (y_pick true) [0,3,4,5,30] ?_
   refine cg_ct rfl ?_
   refine ZrM ?_
   refine ZAnr [0,3,5,4] ?_
   refine Qc ?_
   have u:=Un (Un u hw2) hw4
   exact Qa rfl rfl ⟨_,rfl,rfl,u⟩
  refine Zt 20 (yb (dF c5) yi_gtr) ?_
  refine Za (y_pick false) ?_
  refine ZM ?_
  refine Zt 25 (y_fld (off:=6)) ?_
  have r1:=RowAt.below hw2 r1.lt r1
  have r1:=RowAt.below hw4 r1.lt r1
  refine Zt 25 (Qo (v:=l.keys.v) r1 rfl (by kernel_rfl) rfl rfl) ?_
  have hl:=((hl.below (n1.below.mono (by omega))).below (hw2.mono (by omega))).below (hw4.mono (by omega))
  by_cases c6:ocFew ks
  ·refine Zct 25 (fewO_any (hl.keys.more (B':=w4.heap.size) (by omega)) (Nat.le_refl _)) rfl rfl ?_
   rintro u7 w7 ⟨e7,hw7⟩
   have zw7:=hw7.size
   obtain rfl:u7=.bool true:=e7.trans (congrArg Value.bool (decide_eq_true c6))
   refine Zt 25 y_bnot ?_
   refine Zan (y_pick false) [0,3,4,5,30] ?_
   refine Zcf [0,3,4,5] ?_
   refine Zr ?_
   obtain ⟨bs9,hbs9⟩:∃ q,q=w7.heap.size:=⟨_,rfl⟩
   refine lg_bs0R Wn rfl rfl (by decide) fun v8 w8 g8 l8=>?_
   rw [←hbs9] at g8
   have z8:=l8.size
   refine ZM ?_
   have h:=(h.below (hw7.mono (by omega))).below (l8.mono (by omega))
   refine lg_appR g8 (h.src.more (B':=bs9) (by omega)) (Nat.le_refl _) (by first | omega | (simp only [List.length_nil];omega)) (by omega) Wn rfl rfl rfl rfl rfl (by decide) fun r10 w10 g10 m10 l10 z10=>?_
   rw [List.nil_append] at g10
   clear m10
   refine ZAn [0,3,4,5,6] ?_
   refine ZrM ?_
   refine Za (y_fld (off:=2)) ?_
   have r1:=RowAt.below hw7 r1.lt r1
   have r1:=RowAt.below l8 r1.lt r1
   have r1:=RowAt.below l10 (by omega) r1
   refine Za (y_part r1 (m:=4) rfl (show 2+4≤8 by decide) (by kernel_rfl) (by kernel_rfl) rfl rfl) ?_
   have h:=h.below (l10.mono (by omega))
   have hl:=((hl.below (hw7.mono (by omega))).below (l8.mono (by omega))).below (l10.mono (by omega))
   have u:=Un (Un u hw2) hw4
   have u:=Un (Un u hw7) l8
   have u:=u.trans (l10.mono (by omega))
   refine Zc (add_any (h.more (B':=w10.heap.size) (by omega)) (hl.lf.more (B':=w10.heap.size) (by omega)) (Nat.le_refl _) (Tt.up u rg)) rfl rfl ?_
   rintro _ w11 ⟨s11,rfl,m11,hw11⟩
   have zw11:=hw11.size
   refine ZM ?_
   refine Za y_extract ?_
   refine Za y_extract ?_
   refine Za y_extract ?_
   refine ZA ?_
   refine ZA ?_
   refine ZAn [0,3,4,5,6,7,8,9] ?_
   refine ZrM ?_
   refine Za (y_fld (off:=1)) ?_
   have r1:=RowAt.below hw11 r1.lt r1
   refine Za (Qo (v:=nv ix) r1 rfl (by kernel_rfl) rfl rfl) ?_
   have h:=h.below (hw11.mono (by omega))
   have u:=Un u hw11
   refine Zc (rem_any (h.more (B':=w11.heap.size) (by omega)) ix (Nat.le_refl _) (Tt.up u rg)) rfl rfl ?_
   rintro _ w12 ⟨s12,rfl,m12,hw12⟩
   have zw12:=hw12.size
   refine ZM ?_
   refine Za y_extract ?_
   refine Za y_extract ?_
   refine ZA ?_
   refine ZAn [0,3,4,5,6,7,8,9,10,11] ?_
   refine ZrM ?_
   refine Za (y_fld (off:=1)) ?_
   have r1:=RowAt.below hw12 r1.lt r1
   refine Za (Qo (v:=nv ix) r1 rfl (by kernel_rfl) rfl rfl) ?_
   refine Za (y_fld (off:=2)) ?_
   refine Za (y_part r1 (m:=4) rfl (show 2+4≤8 by decide) (by kernel_rfl) (by kernel_rfl) rfl rfl) ?_
   have hl:=(hl.below (hw11.mono (by omega))).below (hw12.mono (by omega))
   have h:=h.below (hw12.mono (by omega))
   have u:=Un u hw12
   refine Zc (cha_any (h.more (B':=w12.heap.size) (by omega)) ix (hl.lf.more (B':=w12.heap.size) (by omega)) (Nat.le_refl _) (Tt.up u rg)) rfl rfl ?_
   rintro _ w13 ⟨s13,rfl,m13,hw13⟩
   have zw13:=hw13.size
   refine ZM ?_
   refine Za y_extract ?_
   refine Za y_extract ?_
   refine ZA ?_
   refine ZAn [0,3,4,5,6,7,8,9,10,11,12,13] ?_
   refine ZrM ?_
   refine Za (y_fld (off:=1)) ?_
   have r1:=RowAt.below hw13 r1.lt r1
   refine Za (Qo (v:=nv ix) r1 rfl (by kernel_rfl) rfl rfl) ?_
   refine Za (y_fld (off:=2)) ?_
   refine Za (y_part r1 (m:=4) rfl (show 2+4≤8 by decide) (by kernel_rfl) (by kernel_rfl) rfl rfl) ?_
   refine Za (y_fld (off:=6)) ?_
   refine Za (Qo (v:=l.keys.v) r1 rfl (by kernel_rfl) rfl rfl) ?_
   have hl:=hl.below (hw13.mono (by omega))
   have h:=h.below (hw13.mono (by omega))
   have u:=Un u hw13
   refine Zc (com_any (h.more (B':=w13.heap.size) (by omega)) ix (hl.lf.more (B':=w13.heap.size) (by omega)) (hl.keys.more (B':=w13.heap.size) (by omega)) (Nat.le_refl _) (Tt.up u rg)) rfl rfl ?_
   rintro _ w14 ⟨s14,rfl,m14,hw14⟩
   have zw14:=hw14.size
   refine ZM ?_
   refine Za y_extract ?_
   refine Za y_extract ?_
   refine ZA ?_
   refine ZAn [0,4,5,6,7,8,9,10,11,12,13,14,15] ?_
   refine Qd ?_
   refine cg_cut (fun v E'=>E'=[(0,s.v),(5,.bool true),(6,r10.v),(7,s11.v),(8,nv (addI (trAs Ls) lf)),(9,nv (addE (trAs Ls) lf)),(10,s12.v),(12,s13.v),(14,s14.v),(107,.bool false)]∧RwNd v W.heap.size s Ls∧Below W.heap.size W v∧RwNd v v.heap.size r10 Ls∧RwNd v v.heap.size s11 (addL (trAs Ls) lf)∧RwNd v v.heap.size s12 (remL (trAs Ls) ix)∧RwNd v v.heap.size s13 (chaL (trAs Ls) ix lf)∧RwNd v v.heap.size s14 (comL (trAs Ls) ix lf ks)) ?_ ?_
   ·refine Qe ?_
    refine ZM ?_
    by_cases c15:(addE (trAs Ls) lf)=0
    ·obtain ⟨sp0,sp1,sp2,sp3,sp4⟩:=add_spot (trAs_is Ls) c15
     have sal:=trIs_le (addL_is (trAs_is Ls) lf)
     refine Za (yb (nd_f c15) yi_neq) ?_
     refine ZM ?_
     refine Zf 72 ?_
     refine Zf 72 ?_
     refine Zf 72 ?_
     refine Zf 72 ?_
     refine Zu 76 ?_
     refine Zu 76 ?_
     refine Zf 72 ?_
     refine Za (y_pick false) ?_
     refine ZM ?_
     refine Zt 81 y_move ?_
     by_cases c16:(hadE (trAs Ls) ix)=0
     ·refine Zt 81 (yb (nd_f c16) yi_neq) ?_
      refine Zt 81 y_move ?_
      refine Zf 84 ?_
      refine Zf 84 ?_
      refine Zf 84 ?_
      refine Zt 81 (y_pick false) ?_
      refine Za (y_pick false) ?_
      refine ZM ?_
      refine Zt 90 y_move ?_
      by_cases c17:(chaE (trAs Ls) ix lf)=0
      ·refine Zt 90 (yb (nd_f c17) yi_neq) ?_
       refine Zt 90 y_move ?_
       refine Zf 93 ?_
       refine Zf 93 ?_
       refine Zf 93 ?_
       refine Zt 90 (y_pick false) ?_
       refine Za (y_pick false) ?_
       refine ZM ?_
       refine Zt 99 y_move ?_
       by_cases c18:(comE (trAs Ls) ix lf ks)=0
       ·refine Zt 99 (yb (nd_f c18) yi_neq) ?_
        refine Zt 99 y_move ?_
        refine Zf 102 ?_
        refine Zf 102 ?_
        refine Zf 102 ?_
        refine Zt 99 (y_pick false) ?_
        refine Za (y_pick false) ?_
        refine Qk ?_
        have g10:=(g10.keep hw11 (by omega)).keep hw12 (by omega)
        have g10:=(g10.keep hw13 (by omega)).keep hw14 (by omega)
        have m11:=((m11.below (hw12.mono (by omega))).below (hw13.mono (by omega))).below (hw14.mono (by omega))
        have m12:=(m12.below (hw13.mono (by omega))).below (hw14.mono (by omega))
        have m13:=m13.below (hw14.mono (by omega))
        have h:=h.below (hw14.mono (by omega))
        have u:=Un u hw14
        exact fun a ha=>⟨_,⟨rfl,h,u,((g10.rowS (by omega)).more (B':=w14.heap.size) (by omega)),(m11.more (B':=w14.heap.size) (by omega)),(m12.more (B':=w14.heap.size) (by omega)),(m13.more (B':=w14.heap.size) (by omega)),(m14.more (B':=w14.heap.size) (by omega))⟩,ha.keep (fk rfl (fk rfl (fk rfl (fk rfl (fk rfl (fk rfl (fk rfl (fk rfl (fk rfl (fk rfl fn))))))))))⟩
       refine Zt 99 (yb (nd_t c18) yi_neq) ?_
       refine Zt 99 y_move ?_
       refine Zt 102 y_move ?_
       refine Zt 102 (y_lenM (el:=50) m14.len) ?_
       refine Zt 102 (yb (dF (show ¬(0<((comL (trAs Ls) ix lf ks).length:Int)) from (len_none (comi_no c18)))) yi_gtr) ?_
       refine Zt 99 (y_pick true) ?_
       refine Za (y_pick false) ?_
       refine Qk ?_
       have g10:=(g10.keep hw11 (by omega)).keep hw12 (by omega)
       have g10:=(g10.keep hw13 (by omega)).keep hw14 (by omega)
       have m11:=((m11.below (hw12.mono (by omega))).below (hw13.mono (by omega))).below (hw14.mono (by omega))
       have m12:=(m12.below (hw13.mono (by omega))).below (hw14.mono (by omega))
       have m13:=m13.below (hw14.mono (by omega))
       have h:=h.below (hw14.mono (by omega))
       have u:=Un u hw14
       exact fun a ha=>⟨_,⟨rfl,h,u,((g10.rowS (by omega)).more (B':=w14.heap.size) (by omega)),(m11.more (B':=w14.heap.size) (by omega)),(m12.more (B':=w14.heap.size) (by omega)),(m13.more (B':=w14.heap.size) (by omega)),(m14.more (B':=w14.heap.size) (by omega))⟩,ha.keep (fk rfl (fk rfl (fk rfl (fk rfl (fk rfl (fk rfl (fk rfl (fk rfl (fk rfl (fk rfl fn))))))))))⟩
      refine Zt 90 (yb (nd_t c17) yi_neq) ?_
      refine Zt 90 y_move ?_
      refine Zt 93 y_move ?_
      have m13:=m13.below (hw14.mono (by omega))
      refine Zt 93 (y_lenM (el:=50) m13.len) ?_
      refine Zt 93 (yb (dF (show ¬(0<((chaL (trAs Ls) ix lf).length:Int)) from (len_none (cha_no c17)))) yi_gtr) ?_
      refine Zt 90 (y_pick true) ?_
      refine Za (y_pick false) ?_
      refine ZM ?_
      refine Zt 99 y_move ?_
      by_cases c19:(comE (trAs Ls) ix lf ks)=0
      ·refine Zt 99 (yb (nd_f c19) yi_neq) ?_
       refine Zt 99 y_move ?_
       refine Zf 102 ?_
       refine Zf 102 ?_
       refine Zf 102 ?_
       refine Zt 99 (y_pick false) ?_
       refine Za (y_pick false) ?_
       refine Qk ?_
       have g10:=(g10.keep hw11 (by omega)).keep hw12 (by omega)
       have g10:=(g10.keep hw13 (by omega)).keep hw14 (by omega)
       have m11:=((m11.below (hw12.mono (by omega))).below (hw13.mono (by omega))).below (hw14.mono (by omega))
       have m12:=(m12.below (hw13.mono (by omega))).below (hw14.mono (by omega))
       have h:=h.below (hw14.mono (by omega))
       have u:=Un u hw14
       exact fun a ha=>⟨_,⟨rfl,h,u,((g10.rowS (by omega)).more (B':=w14.heap.size) (by omega)),(m11.more (B':=w14.heap.size) (by omega)),(m12.more (B':=w14.heap.size) (by omega)),(m13.more (B':=w14.heap.size) (by omega)),(m14.more (B':=w14.heap.size) (by omega))⟩,ha.keep (fk rfl (fk rfl (fk rfl (fk rfl (fk rfl (fk rfl (fk rfl (fk rfl (fk rfl (fk rfl fn))))))))))⟩
      refine Zt 99 (yb (nd_t c19) yi_neq) ?_
      refine Zt 99 y_move ?_
      refine Zt 102 y_move ?_
      refine Zt 102 (y_lenM (el:=50) m14.len) ?_
      refine Zt 102 (yb (dF (show ¬(0<((comL (trAs Ls) ix lf ks).length:Int)) from (len_none (comi_no c19)))) yi_gtr) ?_
      refine Zt 99 (y_pick true) ?_
      refine Za (y_pick false) ?_
      refine Qk ?_
      have g10:=(g10.keep hw11 (by omega)).keep hw12 (by omega)
      have g10:=(g10.keep hw13 (by omega)).keep hw14 (by omega)
      have m11:=((m11.below (hw12.mono (by omega))).below (hw13.mono (by omega))).below (hw14.mono (by omega))
      have m12:=(m12.below (hw13.mono (by omega))).below (hw14.mono (by omega))
      have h:=h.below (hw14.mono (by omega))
      have u:=Un u hw14
      exact fun a ha=>⟨_,⟨rfl,h,u,((g10.rowS (by omega)).more (B':=w14.heap.size) (by omega)),(m11.more (B':=w14.heap.size) (by omega)),(m12.more (B':=w14.heap.size) (by omega)),(m13.more (B':=w14.heap.size) (by omega)),(m14.more (B':=w14.heap.size) (by omega))⟩,ha.keep (fk rfl (fk rfl (fk rfl (fk rfl (fk rfl (fk rfl (fk rfl (fk rfl (fk rfl (fk rfl fn))))))))))⟩
     refine Zt 81 (yb (nd_t c16) yi_neq) ?_
     refine Zt 81 y_move ?_
     refine Zt 84 y_move ?_
     have m12:=(m12.below (hw13.mono (by omega))).below (hw14.mono (by omega))
     refine Zt 84 (y_lenM (el:=50) m12.len) ?_
     refine Zt 84 (yb (dF (show ¬(0<((remL (trAs Ls) ix).length:Int)) from (len_none (rem_no c16)))) yi_gtr) ?_
     refine Zt 81 (y_pick true) ?_
     refine Za (y_pick false) ?_
     refine ZM ?_
     refine Zt 90 y_move ?_
     by_cases c20:(chaE (trAs Ls) ix lf)=0
     ·refine Zt 90 (yb (nd_f c20) yi_neq) ?_
      refine Zt 90 y_move ?_
      refine Zf 93 ?_
      refine Zf 93 ?_
      refine Zf 93 ?_
      refine Zt 90 (y_pick false) ?_
      refine Za (y_pick false) ?_
      refine ZM ?_
      refine Zt 99 y_move ?_
      by_cases c21:(comE (trAs Ls) ix lf ks)=0
      ·refine Zt 99 (yb (nd_f c21) yi_neq) ?_
       refine Zt 99 y_move ?_
       refine Zf 102 ?_
       refine Zf 102 ?_
       refine Zf 102 ?_
       refine Zt 99 (y_pick false) ?_
       refine Za (y_pick false) ?_
       refine Qk ?_
       have g10:=(g10.keep hw11 (by omega)).keep hw12 (by omega)
       have g10:=(g10.keep hw13 (by omega)).keep hw14 (by omega)
       have m11:=((m11.below (hw12.mono (by omega))).below (hw13.mono (by omega))).below (hw14.mono (by omega))
       have m13:=m13.below (hw14.mono (by omega))
       have h:=h.below (hw14.mono (by omega))
       have u:=Un u hw14
       exact fun a ha=>⟨_,⟨rfl,h,u,((g10.rowS (by omega)).more (B':=w14.heap.size) (by omega)),(m11.more (B':=w14.heap.size) (by omega)),(m12.more (B':=w14.heap.size) (by omega)),(m13.more (B':=w14.heap.size) (by omega)),(m14.more (B':=w14.heap.size) (by omega))⟩,ha.keep (fk rfl (fk rfl (fk rfl (fk rfl (fk rfl (fk rfl (fk rfl (fk rfl (fk rfl (fk rfl fn))))))))))⟩
      refine Zt 99 (yb (nd_t c21) yi_neq) ?_
      refine Zt 99 y_move ?_
      refine Zt 102 y_move ?_
      refine Zt 102 (y_lenM (el:=50) m14.len) ?_
      refine Zt 102 (yb (dF (show ¬(0<((comL (trAs Ls) ix lf ks).length:Int)) from (len_none (comi_no c21)))) yi_gtr) ?_
      refine Zt 99 (y_pick true) ?_
      refine Za (y_pick false) ?_
      refine Qk ?_
      have g10:=(g10.keep hw11 (by omega)).keep hw12 (by omega)
      have g10:=(g10.keep hw13 (by omega)).keep hw14 (by omega)
      have m11:=((m11.below (hw12.mono (by omega))).below (hw13.mono (by omega))).below (hw14.mono (by omega))
      have m13:=m13.below (hw14.mono (by omega))
      have h:=h.below (hw14.mono (by omega))
      have u:=Un u hw14
      exact fun a ha=>⟨_,⟨rfl,h,u,((g10.rowS (by omega)).more (B':=w14.heap.size) (by omega)),(m11.more (B':=w14.heap.size) (by omega)),(m12.more (B':=w14.heap.size) (by omega)),(m13.more (B':=w14.heap.size) (by omega)),(m14.more (B':=w14.heap.size) (by omega))⟩,ha.keep (fk rfl (fk rfl (fk rfl (fk rfl (fk rfl (fk rfl (fk rfl (fk rfl (fk rfl (fk rfl fn))))))))))⟩
     refine Zt 90 (yb (nd_t c20) yi_neq) ?_
     refine Zt 90 y_move ?_
     refine Zt 93 y_move ?_
     have m13:=m13.below (hw14.mono (by omega))
     refine Zt 93 (y_lenM (el:=50) m13.len) ?_
     refine Zt 93 (yb (dF (show ¬(0<((chaL (trAs Ls) ix lf).length:Int)) from (len_none (cha_no c20)))) yi_gtr) ?_
     refine Zt 90 (y_pick true) ?_
     refine Za (y_pick false) ?_
     refine ZM ?_
     refine Zt 99 y_move ?_
     by_cases c22:(comE (trAs Ls) ix lf ks)=0
     ·refine Zt 99 (yb (nd_f c22) yi_neq) ?_
      refine Zt 99 y_move ?_
      refine Zf 102 ?_
      refine Zf 102 ?_
      refine Zf 102 ?_
      refine Zt 99 (y_pick false) ?_
      refine Za (y_pick false) ?_
      refine Qk ?_
      have g10:=(g10.keep hw11 (by omega)).keep hw12 (by omega)
      have g10:=(g10.keep hw13 (by omega)).keep hw14 (by omega)
      have m11:=((m11.below (hw12.mono (by omega))).below (hw13.mono (by omega))).below (hw14.mono (by omega))
      have h:=h.below (hw14.mono (by omega))
      have u:=Un u hw14
      exact fun a ha=>⟨_,⟨rfl,h,u,((g10.rowS (by omega)).more (B':=w14.heap.size) (by omega)),(m11.more (B':=w14.heap.size) (by omega)),(m12.more (B':=w14.heap.size) (by omega)),(m13.more (B':=w14.heap.size) (by omega)),(m14.more (B':=w14.heap.size) (by omega))⟩,ha.keep (fk rfl (fk rfl (fk rfl (fk rfl (fk rfl (fk rfl (fk rfl (fk rfl (fk rfl (fk rfl fn))))))))))⟩
     refine Zt 99 (yb (nd_t c22) yi_neq) ?_
     refine Zt 99 y_move ?_
     refine Zt 102 y_move ?_
     refine Zt 102 (y_lenM (el:=50) m14.len) ?_
     refine Zt 102 (yb (dF (show ¬(0<((comL (trAs Ls) ix lf ks).length:Int)) from (len_none (comi_no c22)))) yi_gtr) ?_
     refine Zt 99 (y_pick true) ?_
     refine Za (y_pick false) ?_
     refine Qk ?_
     have g10:=(g10.keep hw11 (by omega)).keep hw12 (by omega)
     have g10:=(g10.keep hw13 (by omega)).keep hw14 (by omega)
     have m11:=((m11.below (hw12.mono (by omega))).below (hw13.mono (by omega))).below (hw14.mono (by omega))
     have h:=h.below (hw14.mono (by omega))
     have u:=Un u hw14
     exact fun a ha=>⟨_,⟨rfl,h,u,((g10.rowS (by omega)).more (B':=w14.heap.size) (by omega)),(m11.more (B':=w14.heap.size) (by omega)),(m12.more (B':=w14.heap.size) (by omega)),(m13.more (B':=w14.heap.size) (by omega)),(m14.more (B':=w14.heap.size) (by omega))⟩,ha.keep (fk rfl (fk rfl (fk rfl (fk rfl (fk rfl (fk rfl (fk rfl (fk rfl (fk rfl (fk rfl fn))))))))))⟩
    refine Za (yb (nd_t c15) yi_neq) ?_
    refine ZM ?_
    refine Zt 72 y_move ?_
    have m11:=((m11.below (hw12.mono (by omega))).below (hw13.mono (by omega))).below (hw14.mono (by omega))
    refine Zt 72 (y_lenM (el:=50) m11.len) ?_
    refine Zt 72 (yb (dF (show ¬(0<((addL (trAs Ls) lf).length:Int)) from (addE_one c15).1)) yi_gtr) ?_
    refine Zt 72 y_move ?_
    refine Zt 76 y_move ?_
    refine Zt 76 (yb (nd_f (show (addI (trAs Ls) lf)=(-1) from (addE_one c15).2)) yi_neq) ?_
    refine Zt 72 (y_pick false) ?_
    refine Za (y_pick true) ?_
    refine ZM ?_
    refine Zt 81 y_move ?_
    by_cases c23:(hadE (trAs Ls) ix)=0
    ·refine Zt 81 (yb (nd_f c23) yi_neq) ?_
     refine Zt 81 y_move ?_
     refine Zf 84 ?_
     refine Zf 84 ?_
     refine Zf 84 ?_
     refine Zt 81 (y_pick false) ?_
     refine Za (y_pick false) ?_
     refine ZM ?_
     refine Zt 90 y_move ?_
     by_cases c24:(chaE (trAs Ls) ix lf)=0
     ·refine Zt 90 (yb (nd_f c24) yi_neq) ?_
      refine Zt 90 y_move ?_
      refine Zf 93 ?_
      refine Zf 93 ?_
      refine Zf 93 ?_
      refine Zt 90 (y_pick false) ?_
      refine Za (y_pick false) ?_
      refine ZM ?_
      refine Zt 99 y_move ?_
      by_cases c25:(comE (trAs Ls) ix lf ks)=0
      ·refine Zt 99 (yb (nd_f c25) yi_neq) ?_
       refine Zt 99 y_move ?_
       refine Zf 102 ?_
       refine Zf 102 ?_
       refine Zf 102 ?_
       refine Zt 99 (y_pick false) ?_
       refine Za (y_pick false) ?_
       refine Qk ?_
       have g10:=(g10.keep hw11 (by omega)).keep hw12 (by omega)
       have g10:=(g10.keep hw13 (by omega)).keep hw14 (by omega)
       have m12:=(m12.below (hw13.mono (by omega))).below (hw14.mono (by omega))
       have m13:=m13.below (hw14.mono (by omega))
       have h:=h.below (hw14.mono (by omega))
       have u:=Un u hw14
       exact fun a ha=>⟨_,⟨rfl,h,u,((g10.rowS (by omega)).more (B':=w14.heap.size) (by omega)),(m11.more (B':=w14.heap.size) (by omega)),(m12.more (B':=w14.heap.size) (by omega)),(m13.more (B':=w14.heap.size) (by omega)),(m14.more (B':=w14.heap.size) (by omega))⟩,ha.keep (fk rfl (fk rfl (fk rfl (fk rfl (fk rfl (fk rfl (fk rfl (fk rfl (fk rfl (fk rfl fn))))))))))⟩
      refine Zt 99 (yb (nd_t c25) yi_neq) ?_
      refine Zt 99 y_move ?_
      refine Zt 102 y_move ?_
      refine Zt 102 (y_lenM (el:=50) m14.len) ?_
      refine Zt 102 (yb (dF (show ¬(0<((comL (trAs Ls) ix lf ks).length:Int)) from (len_none (comi_no c25)))) yi_gtr) ?_
      refine Zt 99 (y_pick true) ?_
      refine Za (y_pick false) ?_
      refine Qk ?_
      have g10:=(g10.keep hw11 (by omega)).keep hw12 (by omega)
      have g10:=(g10.keep hw13 (by omega)).keep hw14 (by omega)
      have m12:=(m12.below (hw13.mono (by omega))).below (hw14.mono (by omega))
      have m13:=m13.below (hw14.mono (by omega))
      have h:=h.below (hw14.mono (by omega))
      have u:=Un u hw14
      exact fun a ha=>⟨_,⟨rfl,h,u,((g10.rowS (by omega)).more (B':=w14.heap.size) (by omega)),(m11.more (B':=w14.heap.size) (by omega)),(m12.more (B':=w14.heap.size) (by omega)),(m13.more (B':=w14.heap.size) (by omega)),(m14.more (B':=w14.heap.size) (by omega))⟩,ha.keep (fk rfl (fk rfl (fk rfl (fk rfl (fk rfl (fk rfl (fk rfl (fk rfl (fk rfl (fk rfl fn))))))))))⟩
     refine Zt 90 (yb (nd_t c24) yi_neq) ?_
     refine Zt 90 y_move ?_
     refine Zt 93 y_move ?_
     have m13:=m13.below (hw14.mono (by omega))
     refine Zt 93 (y_lenM (el:=50) m13.len) ?_
     refine Zt 93 (yb (dF (show ¬(0<((chaL (trAs Ls) ix lf).length:Int)) from (len_none (cha_no c24)))) yi_gtr) ?_
     refine Zt 90 (y_pick true) ?_
     refine Za (y_pick false) ?_
     refine ZM ?_
     refine Zt 99 y_move ?_
     by_cases c26:(comE (trAs Ls) ix lf ks)=0
     ·refine Zt 99 (yb (nd_f c26) yi_neq) ?_
      refine Zt 99 y_move ?_
      refine Zf 102 ?_
      refine Zf 102 ?_
      refine Zf 102 ?_
      refine Zt 99 (y_pick false) ?_
      refine Za (y_pick false) ?_
      refine Qk ?_
      have g10:=(g10.keep hw11 (by omega)).keep hw12 (by omega)
      have g10:=(g10.keep hw13 (by omega)).keep hw14 (by omega)
      have m12:=(m12.below (hw13.mono (by omega))).below (hw14.mono (by omega))
      have h:=h.below (hw14.mono (by omega))
      have u:=Un u hw14
      exact fun a ha=>⟨_,⟨rfl,h,u,((g10.rowS (by omega)).more (B':=w14.heap.size) (by omega)),(m11.more (B':=w14.heap.size) (by omega)),(m12.more (B':=w14.heap.size) (by omega)),(m13.more (B':=w14.heap.size) (by omega)),(m14.more (B':=w14.heap.size) (by omega))⟩,ha.keep (fk rfl (fk rfl (fk rfl (fk rfl (fk rfl (fk rfl (fk rfl (fk rfl (fk rfl (fk rfl fn))))))))))⟩
     refine Zt 99 (yb (nd_t c26) yi_neq) ?_
     refine Zt 99 y_move ?_
     refine Zt 102 y_move ?_
     refine Zt 102 (y_lenM (el:=50) m14.len) ?_
     refine Zt 102 (yb (dF (show ¬(0<((comL (trAs Ls) ix lf ks).length:Int)) from (len_none (comi_no c26)))) yi_gtr) ?_
     refine Zt 99 (y_pick true) ?_
     refine Za (y_pick false) ?_
     refine Qk ?_
     have g10:=(g10.keep hw11 (by omega)).keep hw12 (by omega)
     have g10:=(g10.keep hw13 (by omega)).keep hw14 (by omega)
     have m12:=(m12.below (hw13.mono (by omega))).below (hw14.mono (by omega))
     have h:=h.below (hw14.mono (by omega))
     have u:=Un u hw14
     exact fun a ha=>⟨_,⟨rfl,h,u,((g10.rowS (by omega)).more (B':=w14.heap.size) (by omega)),(m11.more (B':=w14.heap.size) (by omega)),(m12.more (B':=w14.heap.size) (by omega)),(m13.more (B':=w14.heap.size) (by omega)),(m14.more (B':=w14.heap.size) (by omega))⟩,ha.keep (fk rfl (fk rfl (fk rfl (fk rfl (fk rfl (fk rfl (fk rfl (fk rfl (fk rfl (fk rfl fn))))))))))⟩
    refine Zt 81 (yb (nd_t c23) yi_neq) ?_
    refine Zt 81 y_move ?_
    refine Zt 84 y_move ?_
    have m12:=(m12.below (hw13.mono (by omega))).below (hw14.mono (by omega))
    refine Zt 84 (y_lenM (el:=50) m12.len) ?_
    refine Zt 84 (yb (dF (show ¬(0<((remL (trAs Ls) ix).length:Int)) from (len_none (rem_no c23)))) yi_gtr) ?_
    refine Zt 81 (y_pick true) ?_
    refine Za (y_pick false) ?_
    refine ZM ?_
    refine Zt 90 y_move ?_
    by_cases c27:(chaE (trAs Ls) ix lf)=0
    ·refine Zt 90 (yb (nd_f c27) yi_neq) ?_
     refine Zt 90 y_move ?_
     refine Zf 93 ?_
     refine Zf 93 ?_
     refine Zf 93 ?_
     refine Zt 90 (y_pick false) ?_
     refine Za (y_pick false) ?_
     refine ZM ?_
     refine Zt 99 y_move ?_
     by_cases c28:(comE (trAs Ls) ix lf ks)=0
     ·refine Zt 99 (yb (nd_f c28) yi_neq) ?_
      refine Zt 99 y_move ?_
      refine Zf 102 ?_
      refine Zf 102 ?_
      refine Zf 102 ?_
      refine Zt 99 (y_pick false) ?_
      refine Za (y_pick false) ?_
      refine Qk ?_
      have g10:=(g10.keep hw11 (by omega)).keep hw12 (by omega)
      have g10:=(g10.keep hw13 (by omega)).keep hw14 (by omega)
      have m13:=m13.below (hw14.mono (by omega))
      have h:=h.below (hw14.mono (by omega))
      have u:=Un u hw14
      exact fun a ha=>⟨_,⟨rfl,h,u,((g10.rowS (by omega)).more (B':=w14.heap.size) (by omega)),(m11.more (B':=w14.heap.size) (by omega)),(m12.more (B':=w14.heap.size) (by omega)),(m13.more (B':=w14.heap.size) (by omega)),(m14.more (B':=w14.heap.size) (by omega))⟩,ha.keep (fk rfl (fk rfl (fk rfl (fk rfl (fk rfl (fk rfl (fk rfl (fk rfl (fk rfl (fk rfl fn))))))))))⟩
     refine Zt 99 (yb (nd_t c28) yi_neq) ?_
     refine Zt 99 y_move ?_
     refine Zt 102 y_move ?_
     refine Zt 102 (y_lenM (el:=50) m14.len) ?_
     refine Zt 102 (yb (dF (show ¬(0<((comL (trAs Ls) ix lf ks).length:Int)) from (len_none (comi_no c28)))) yi_gtr) ?_
     refine Zt 99 (y_pick true) ?_
     refine Za (y_pick false) ?_
     refine Qk ?_
     have g10:=(g10.keep hw11 (by omega)).keep hw12 (by omega)
     have g10:=(g10.keep hw13 (by omega)).keep hw14 (by omega)
     have m13:=m13.below (hw14.mono (by omega))
     have h:=h.below (hw14.mono (by omega))
     have u:=Un u hw14
     exact fun a ha=>⟨_,⟨rfl,h,u,((g10.rowS (by omega)).more (B':=w14.heap.size) (by omega)),(m11.more (B':=w14.heap.size) (by omega)),(m12.more (B':=w14.heap.size) (by omega)),(m13.more (B':=w14.heap.size) (by omega)),(m14.more (B':=w14.heap.size) (by omega))⟩,ha.keep (fk rfl (fk rfl (fk rfl (fk rfl (fk rfl (fk rfl (fk rfl (fk rfl (fk rfl (fk rfl fn))))))))))⟩
    refine Zt 90 (yb (nd_t c27) yi_neq) ?_
    refine Zt 90 y_move ?_
    refine Zt 93 y_move ?_
    have m13:=m13.below (hw14.mono (by omega))
    refine Zt 93 (y_lenM (el:=50) m13.len) ?_
    refine Zt 93 (yb (dF (show ¬(0<((chaL (trAs Ls) ix lf).length:Int)) from (len_none (cha_no c27)))) yi_gtr) ?_
    refine Zt 90 (y_pick true) ?_
    refine Za (y_pick false) ?_
    refine ZM ?_
    refine Zt 99 y_move ?_
    by_cases c29:(comE (trAs Ls) ix lf ks)=0
    ·refine Zt 99 (yb (nd_f c29) yi_neq) ?_
     refine Zt 99 y_move ?_
     refine Zf 102 ?_
     refine Zf 102 ?_
     refine Zf 102 ?_
     refine Zt 99 (y_pick false) ?_
     refine Za (y_pick false) ?_
     refine Qk ?_
     have g10:=(g10.keep hw11 (by omega)).keep hw12 (by omega)
     have g10:=(g10.keep hw13 (by omega)).keep hw14 (by omega)
     have h:=h.below (hw14.mono (by omega))
     have u:=Un u hw14
     exact fun a ha=>⟨_,⟨rfl,h,u,((g10.rowS (by omega)).more (B':=w14.heap.size) (by omega)),(m11.more (B':=w14.heap.size) (by omega)),(m12.more (B':=w14.heap.size) (by omega)),(m13.more (B':=w14.heap.size) (by omega)),(m14.more (B':=w14.heap.size) (by omega))⟩,ha.keep (fk rfl (fk rfl (fk rfl (fk rfl (fk rfl (fk rfl (fk rfl (fk rfl (fk rfl (fk rfl fn))))))))))⟩
    refine Zt 99 (yb (nd_t c29) yi_neq) ?_
    refine Zt 99 y_move ?_
    refine Zt 102 y_move ?_
    refine Zt 102 (y_lenM (el:=50) m14.len) ?_
    refine Zt 102 (yb (dF (show ¬(0<((comL (trAs Ls) ix lf ks).length:Int)) from (len_none (comi_no c29)))) yi_gtr) ?_
    refine Zt 99 (y_pick true) ?_
    refine Za (y_pick false) ?_
    refine Qk ?_
    have g10:=(g10.keep hw11 (by omega)).keep hw12 (by omega)
    have g10:=(g10.keep hw13 (by omega)).keep hw14 (by omega)
    have h:=h.below (hw14.mono (by omega))
    have u:=Un u hw14
    exact fun a ha=>⟨_,⟨rfl,h,u,((g10.rowS (by omega)).more (B':=w14.heap.size) (by omega)),(m11.more (B':=w14.heap.size) (by omega)),(m12.more (B':=w14.heap.size) (by omega)),(m13.more (B':=w14.heap.size) (by omega)),(m14.more (B':=w14.heap.size) (by omega))⟩,ha.keep (fk rfl (fk rfl (fk rfl (fk rfl (fk rfl (fk rfl (fk rfl (fk rfl (fk rfl (fk rfl fn))))))))))⟩
   rintro vc30 _ ⟨rfl,h,u,y6,y7,y10,y12,y14⟩
   have zv:=u.size
   refine Zcf [0,5,6,7,8,9,10,12,14] ?_
   refine ZrM ?_
   refine ZM ?_
   refine Zt 109 y_move ?_
   refine Zct 109 (sane_any (y7.more (B':=vc30.heap.size) (by omega)) (Nat.le_refl _)) rfl rfl ?_
   rintro u31 w31 ⟨e31,hw31⟩
   have zw31:=hw31.size
   obtain rfl:u31=.bool true:=e31.trans (congrArg Value.bool (decide_eq_true (show trIs (addL (trAs Ls) lf) from (addL_is (trAs_is Ls) _))))
   refine Za (y_pick true) ?_
   refine ZM ?_
   refine Zt 113 y_move ?_
   have y10:=y10.below (hw31.mono (by omega))
   refine Zct 113 (sane_any (y10.more (B':=w31.heap.size) (by omega)) (Nat.le_refl _)) rfl rfl ?_
   rintro u32 w32 ⟨e32,hw32⟩
   have zw32:=hw32.size
   obtain rfl:u32=.bool true:=e32.trans (congrArg Value.bool (decide_eq_true (show trIs (remL (trAs Ls) ix) from (remL_is _))))
   refine Za (y_pick true) ?_
   refine ZM ?_
   refine Zt 117 y_move ?_
   have y12:=(y12.below (hw31.mono (by omega))).below (hw32.mono (by omega))
   refine Zct 117 (sane_any (y12.more (B':=w32.heap.size) (by omega)) (Nat.le_refl _)) rfl rfl ?_
   rintro u33 w33 ⟨e33,hw33⟩
   have zw33:=hw33.size
   obtain rfl:u33=.bool true:=e33.trans (congrArg Value.bool (decide_eq_true (show trIs (chaL (trAs Ls) ix lf) from (chaL_is (trAs_is Ls) _ _))))
   refine Za (y_pick true) ?_
   refine ZM ?_
   refine Zt 121 y_move ?_
   have y14:=((y14.below (hw31.mono (by omega))).below (hw32.mono (by omega))).below (hw33.mono (by omega))
   refine Zct 121 (sane_any (y14.more (B':=w33.heap.size) (by omega)) (Nat.le_refl _)) rfl rfl ?_
   rintro u34 w34 ⟨e34,hw34⟩
   have zw34:=hw34.size
   obtain rfl:u34=.bool true:=e34.trans (congrArg Value.bool (decide_eq_true (show trIs (comL (trAs Ls) ix lf ks) from (comL_is (trAs_is Ls) _ _ _))))
   refine Za (y_pick true) ?_
   refine ZM ?_
   refine Zt 125 y_move ?_
   refine Zt 125 y_move ?_
   have y6:=(y6.below (hw31.mono (by omega))).below (hw32.mono (by omega))
   have y6:=(y6.below (hw33.mono (by omega))).below (hw34.mono (by omega))
   have h:=(h.below (hw31.mono (by omega))).below (hw32.mono (by omega))
   have h:=(h.below (hw33.mono (by omega))).below (hw34.mono (by omega))
   refine Zct 125 (sameR_any (y6.more (B':=w34.heap.size) (by omega)) (h.more (B':=w34.heap.size) (by omega)) (Nat.le_refl _)) rfl rfl ?_
   rintro u35 w35 ⟨e35,hw35⟩
   have zw35:=hw35.size
   obtain rfl:u35=.bool true:=e35.trans (congrArg Value.bool (decide_eq_true (tr_same _)))
   refine Za (y_pick true) ?_
   refine ZM ?_
   refine Zt 130 y_move ?_
   by_cases c36:(addE (trAs Ls) lf)=0
   ·obtain ⟨sp0,sp1,sp2,sp3,sp4⟩:=add_spot (trAs_is Ls) c36
    have sal:=trIs_le (addL_is (trAs_is Ls) lf)
    refine Zt 130 (yb (nd_f c36) yi_neq) ?_
    refine Zt 130 y_move ?_
    refine Zt 133 y_move ?_
    refine Zt 133 (yb (dT sp0) yi_geq) ?_
    refine Zt 133 y_move ?_
    refine Zt 136 y_move ?_
    refine Zt 136 y_move ?_
    have y7:=(y7.below (hw31.mono (by omega))).below (hw32.mono (by omega))
    have y7:=((y7.below (hw33.mono (by omega))).below (hw34.mono (by omega))).below (hw35.mono (by omega))
    refine Zt 136 (y_lenM (el:=50) y7.len) ?_
    refine Zt 136 (yi_quo rfl rfl rfl (by omega) (by omega) (by omega)) ?_
    refine Zt 136 (yb (dT (show (addI (trAs Ls) lf)≤(((addL (trAs Ls) lf).length:Int) / 2) from (by omega))) (yi_leq rfl rfl rfl)) ?_
    refine Zt 133 (y_pick true) ?_
    refine Zt 133 y_move ?_
    refine Zt 143 y_move ?_
    refine Zt 143 (yi_mul rfl rfl rfl (by omega) (by omega)) ?_
    refine Zt 143 y_move ?_
    refine Zt 143 (y_lenM (el:=50) y7.len) ?_
    refine Zt 143 (yb (dT sp2) yi_lss) ?_
    refine Zt 133 (y_pick true) ?_
    refine Zt 133 y_move ?_
    refine Zt 150 y_move ?_
    refine Zt 150 y_move ?_
    refine Zt 150 (yi_mul rfl rfl rfl (by omega) (by omega)) ?_
    obtain ⟨eb37,eo37,el37,eL37,eA37,eB37,eg37,eh37,ec37⟩:=y7.at ((2*(addI (trAs Ls) lf)).toNat) (by have:=y7.len;omega)
    refine Zt 150 (y_ixR (s:=s11) (el:=50) (k:=8) (i:=(2*(addI (trAs Ls) lf)).toNat) (iI:=(2*(addI (trAs Ls) lf))) eA37 (by kernel_rfl) (by kernel_rfl) (by omega) (by have:=y7.len;omega) rfl rfl rfl) ?_
    refine Zt 150 (y_fld (off:=0)) ?_
    refine Zt 150 (y_celld (ec37 0 _ rfl)) ?_
    refine Zt 150 (yb (dT (show eL37.kind=1 from (show eL37.kind=1 from by rw [←atN_some eg37,sp4]))) (yi_eql rfl rfl rfl)) ?_
    refine Zt 133 (y_pick true) ?_
    refine Zt 130 (y_pick false) ?_
    refine Za (y_pick true) ?_
    refine ZAnr [4] ?_
    have u:=Un (Un u hw31) hw32
    have u:=Un (Un (Un u hw33) hw34) hw35
    exact Qa rfl rfl ⟨_,rfl,rfl,u⟩
   refine Zt 130 (yb (nd_t c36) yi_neq) ?_
   refine Zt 130 y_move ?_
   refine Zf 133 ?_
   refine Zf 133 ?_
   refine Zf 133 ?_
   refine Zu 136 ?_
   refine Zu 136 ?_
   refine Zu 136 ?_
   refine Zu 136 ?_
   refine Zu 136 ?_
   refine Zf 133 ?_
   refine Zf 133 ?_
   refine Zu 143 ?_
   refine Zu 143 ?_
   refine Zu 143 ?_
   refine Zu 143 ?_
   refine Zu 143 ?_
   refine Zf 133 ?_
   refine Zf 133 ?_
   refine Zu 150 ?_
   refine Zu 150 ?_
   refine Zu 150 ?_
   refine Zu 150 ?_
   refine Zu 150 ?_
   refine Zu 150 ?_
   refine Zu 150 ?_
   refine Zf 133 ?_
   refine Zt 130 (y_pick true) ?_
   refine Za (y_pick true) ?_
   refine ZAnr [4] ?_
   have u:=Un (Un u hw31) hw32
   have u:=Un (Un (Un u hw33) hw34) hw35
   exact Qa rfl rfl ⟨_,rfl,rfl,u⟩
  refine Zct 25 (fewO_any (hl.keys.more (B':=w4.heap.size) (by omega)) (Nat.le_refl _)) rfl rfl ?_
  rintro u38 w38 ⟨e38,hw38⟩
  have zw38:=hw38.size
  obtain rfl:u38=.bool false:=e38.trans (congrArg Value.bool (decide_eq_false c6))
  refine Zt 25 y_bnot ?_
  refine Zan (y_pick false) [0,3,4,5,30] ?_
  refine cg_ct rfl ?_
  refine ZrM ?_
  refine ZAnr [0,3,5,4] ?_
  refine Qc ?_
  have u:=Un (Un (Un u hw2) hw4) hw38
  exact Qa rfl rfl ⟨_,rfl,rfl,u⟩
 refine Zc (fewR_any (h.more (B':=w2.heap.size) (by omega)) (Nat.le_refl _)) rfl rfl ?_
 rintro u39 w39 ⟨e39,hw39⟩
 have zw39:=hw39.size
 obtain rfl:u39=.bool false:=e39.trans (congrArg Value.bool (decide_eq_false c3))
 refine Za y_bnot ?_
 refine ZM ?_
 refine Zf 20 ?_
 refine Zf 20 ?_
 refine Zf 20 ?_
 refine Za (y_pick true) ?_
 refine ZM ?_
 refine Zf 25 ?_
 refine Zf 25 ?_
 refine Zf 25 ?_
 refine Zf 25 ?_
 refine Zan (y_pick true) [0,3,4,5,30] ?_
 refine cg_ct rfl ?_
 refine ZrM ?_
 refine ZAnr [0,3,5,4] ?_
 refine Qc ?_
 have u:=Un (Un u hw2) hw39
 exact Qa rfl rfl ⟨_,rfl,rfl,u⟩
end Go.Proofs.YtfdmhdnlmndhdaaGreatDoor
