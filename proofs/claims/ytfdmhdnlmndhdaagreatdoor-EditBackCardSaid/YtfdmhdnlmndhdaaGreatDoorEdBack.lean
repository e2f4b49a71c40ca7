/-
  Who comes and goes leaves nothing of itself.
-/
import Derived.Test.YtfdmhdnlmndhdaaGreatDoorEdAwake
import Derived.Test.YtfdmhdnlmndhdaaGreatDoorTrRef
import Derived.Test.YtfdmhdnlmndhdaaGreatDoorEdMore
namespace Go.Proofs.YtfdmhdnlmndhdaaGreatDoor
open Go.ChangeShapes Go.WideShapes Go.ChangeAt Go.RowKit
set_option linter.unusedVariables false

set_option maxRecDepth 20000
set_option maxHeartbeats 4000000 in
theorem editBack_any {W:World} {s:SlV} {Ls:List Nd} (h:RwNd W W.heap.size s Ls) {l:LfV} {L:Lf} (hl:IsLf W W.heap.size l L) (rg:Tt W):Calls Tryz.prog 6 #[s.v,.agg (l.cs L)] W fun e W'=>∃ v,e=.returned v∧v=.bool true∧Below W.heap.size W W':=by
 refine Qf (n:=92) Tryz.func6 rfl Tryz.ntmps6 (by simp) ?_
 show CG _ _ _ [(0,s.v),(1,.agg (l.cs L))] _ _
 have u:=Below.refl W.heap.size W
 have q1:=h.len
 have q2:=h.cap
 refine Zr ?_
 refine lg_boxw Wn rfl rfl (by kernel_rfl) rfl (by decide) fun b1 w1 n1=>?_
 have r1:=n1.row
 have k1:=n1.blk
 have z1:=n1.size
 have lt1:b1<w1.heap.size:=by omega
 refine ZAn [0,3,4] ?_
 refine Zr ?_
 have u:=Un u n1.below
 refine Zc (awakeE_any _ (Tt.up u rg)) rfl rfl ?_
 rintro _ w2 ⟨rfl,hw2⟩
 have zw2:=hw2.size
 refine ZAn [0,3,4,5] ?_
 refine Qd ?_
 refine ZrM ?_
 have h:=(h.below (n1.below.mono (by omega))).below (hw2.mono (by omega))
 by_cases c3:trFew Ls
 ·refine Zc (fewR_any (h.more (B':=w2.heap.size) (by omega)) (Nat.le_refl _)) rfl rfl ?_
  rintro u4 w4 ⟨e4,hw4⟩
  have zw4:=hw4.size
  obtain rfl:u4=.bool true:=e4.trans (congrArg Value.bool (decide_eq_true c3))
  refine Za y_bnot ?_
  refine ZM ?_
  refine Zt 17 y_move ?_
  have h:=h.below (hw4.mono (by omega))
  by_cases c5:trIs Ls
  ·have htr:=c5
   have htl:=trIs_le htr
   have hta:=trAs_ok htr
   have htA:=trAs_is Ls
   refine Zct 17 (sane_any (h.more (B':=w4.heap.size) (by omega)) (Nat.le_refl _)) rfl rfl ?_
   rintro u6 w6 ⟨e6,hw6⟩
   have zw6:=hw6.size
   obtain rfl:u6=.bool true:=e6.trans (congrArg Value.bool (decide_eq_true c5))
   refine Zt 17 y_bnot ?_
   refine Zan (y_pick false) [0,3,4,5,21] ?_
   refine Zcf [0,3,4,5] ?_
   refine ZrM ?_
   have r1:=RowAt.below hw2 r1.lt r1
   have r1:=RowAt.below hw4 r1.lt r1
   have r1:=RowAt.below hw6 r1.lt r1
   refine Za (y_loadA r1) ?_
   have h:=h.below (hw6.mono (by omega))
   have hl:=(hl.below (n1.below.mono (by omega))).below (hw2.mono (by omega))
   have hl:=(hl.below (hw4.mono (by omega))).below (hw6.mono (by omega))
   have u:=Un (Un (Un u hw2) hw4) hw6
   refine Zc (add_any (h.more (B':=w6.heap.size) (by omega)) (hl.more (B':=w6.heap.size) (by omega)) (Nat.le_refl _) (Tt.up u rg)) rfl rfl ?_
   rintro _ w7 ⟨s7,rfl,m7,hw7⟩
   have zw7:=hw7.size
   refine ZM ?_
   refine Za y_extract ?_
   refine Za y_extract ?_
   refine Za y_extract ?_
   refine ZA ?_
   refine ZA ?_
   refine ZAn [0,4,5,6,7,8] ?_
   refine Qd ?_
   refine ZrM ?_
   by_cases c8:(addE (trAs Ls) L)=0
   ·have hz:=c8
    have y0:=addL_is htA L
    have y1:=trAs_ok y0
    have y2:=back_had htA hz
    have y3:=(rem_pre y0 y2).2
    have y4:=rem_trim y2
    obtain ⟨sp0,sp1,sp2,sp3,sp4⟩:=add_spot htA hz
    have y5:=trIs_le y0
    refine Zan (yb (nd_f c8) yi_neq) [0,4,5,6,7,31] ?_
    refine Zcf [0,4,5,6,7] ?_
    refine ZrM ?_
    refine ZM ?_
    have u:=Un u hw7
    refine Zc ((by have z:=rem_any (m7.more (B':=w7.heap.size) (by omega)) (addI (trAs Ls) L) (Nat.le_refl _) (Tt.up u rg);rwa [y1] at z)) rfl rfl ?_
    rintro _ w9 ⟨s9,rfl,m9,hw9⟩
    have zw9:=hw9.size
    refine ZM ?_
    refine Za y_extract ?_
    refine Za y_extract ?_
    refine ZA ?_
    refine ZAn [0,4,5,6,7,9,10] ?_
    refine Qd ?_
    refine ZrM ?_
    refine Za (yb (nd_f y2) yi_neq) ?_
    refine ZM ?_
    refine Zt 41 y_move ?_
    refine Zt 41 (y_lenM (el:=50) m9.len) ?_
    refine Zt 41 y_move ?_
    have m7:=m7.below (hw9.mono (by omega))
    refine Zt 41 (y_lenM (el:=50) m7.len) ?_
    refine Zt 41 (yb (dF (show ¬(((addL (trAs Ls) L).length:Int)<((remL (addL (trAs Ls) L) (addI (trAs Ls) L)).length:Int)) from (by omega))) (yi_gtr rfl rfl rfl)) ?_
    refine Za (y_pick false) ?_
    refine ZM ?_
    refine Zt 48 y_move ?_
    refine Zt 48 (yb (dF (show ¬((addI (trAs Ls) L)<0) from (by omega))) (yi_lss rfl rfl rfl)) ?_
    refine Zan (y_pick false) [0,4,5,6,7,9,51] ?_
    refine Zcf [0,4,5,6,7,9] ?_
    refine Qd ?_
    refine ZrA ?_
    refine Zn [0,4,5,6,7,9,11] ?_
    refine Qj ?_
    obtain ⟨C,hC⟩:∃ q,q=w9.heap.size:=⟨_,rfl⟩
    have h:=(h.below (hw7.mono (by omega))).below (hw9.mono (by omega))
    have u:=Un u hw9
    refine Qr (fun x a v=>Holds 92 [(0,s.v),(5,.bool true),(6,s7.v),(7,nv (addI (trAs Ls) L)),(9,s9.v),(11,nv ((x:Nat):Int))] a∧RwNd v W.heap.size s Ls∧Below W.heap.size W v∧C≤v.heap.size∧RwNd v C s7 (addL (trAs Ls) L)∧RwNd v C s9 (remL (addL (trAs Ls) L) (addI (trAs Ls) L))∧x≤(remL (addL (trAs Ls) L) (addI (trAs Ls) L)).length) (Ls.length+200) (fun a ha=>⟨ha.keep (fk rfl (fk rfl (fk rfl (fk rfl (fk rfl (fk rfl fn)))))),h,u,(Nat.le_of_eq hC),(m7.more (by omega)),(m9.more (by omega)),(Nat.zero_le _)⟩) ?_
    rintro x a v ht ⟨ha,h,u,cC,ra,rb,xle⟩
    refine cg_at ha ?_
    clear ha a
    have zv:=u.size
    have q1:=h.len
    have q2:=h.cap
    have qb:=rb.len
    have qb2:=rb.cap
    refine Qd ?_
    refine ZrM ?_
    refine ZM ?_
    refine Za (y_lenM (el:=50) rb.len) ?_
    by_cases c10:((x:Nat):Int)<((remL (addL (trAs Ls) L) (addI (trAs Ls) L)).length:Int)
    ·refine Zan (yb (dT c10) yi_lss) [0,5,6,7,9,11,55] ?_
     refine cg_ct rfl ?_
     refine Zki [0,5,6,7,9,11] ?_
     refine Qd ?_
     refine Qj ?_
     refine Zr ?_
     refine Za (y_build (cs:=NdV.zero.cs Nd.zero)) ?_
     refine lg_allocw (cs:=NdV.zero.cs Nd.zero) Wn rfl (by kernel_rfl) rfl (by decide) fun b11 w11 n11=>?_
     have r11:=n11.row
     have k11:=n11.blk
     have z11:=n11.size
     have lt11:b11<w11.heap.size:=by omega
     have o12:=r11
     refine lg_stw Wn r11 rfl rfl rfl (by kernel_rfl) (by kernel_rfl) rfl rfl fun w12 s12=>?_
     have r11:=s12.row
     have z12:=s12.size
     refine Zn [0,5,6,7,9,11,12] ?_
     refine Qd ?_
     refine Qd ?_
     have hxb:x<(remL (addL (trAs Ls) L) (addI (trAs Ls) L)).length:=by omega
     refine Qe ?_
     refine ZM ?_
     refine ZM ?_
     have h:=(h.below (n11.below.mono (by omega))).below (s12.below _ (by omega))
     refine Za (y_lenM (el:=50) h.len) ?_
     by_cases c13:((x:Nat):Int)<(Ls.length:Int)
     ·refine Za (yb (dT c13) yi_lss) ?_
      refine ZM ?_
      refine Zt 63 y_move ?_
      refine Zt 63 (yi_mul rfl rfl rfl (by omega) (by omega)) ?_
      refine Zt 63 y_move ?_
      refine Zt 63 y_move ?_
      have ra:=(ra.below (n11.below.mono (by omega))).below (s12.below _ (by omega))
      refine Zt 63 (y_lenM (el:=50) ra.len) ?_
      have u:=Un u n11.below
      have u:=u.trans (s12.below _ (by omega))
      by_cases c14:undI (2*(addI (trAs Ls) L)) ((x:Nat):Int) ((addL (trAs Ls) L).length:Int)
      ·refine Zct 63 (under_any (2*(addI (trAs Ls) L)) ((x:Nat):Int) ((addL (trAs Ls) L).length:Int) _ (Tt.up u rg).b) rfl rfl ?_
       rintro u15 w15 ⟨e15,hw15⟩
       have zw15:=hw15.size
       obtain rfl:u15=.bool true:=e15.trans (congrArg Value.bool (decide_eq_true c14))
       refine Zt 63 y_bnot ?_
       refine Zan (y_pick true) [0,5,6,7,9,11,12,71] ?_
       refine Zcf [0,5,6,7,9,11,12] ?_
       refine Qd ?_
       refine cg_held (by kernel_rfl) fun W16 eW16=>?_
       have dW16:=below_drew _ _ eW16
       have zW16:=size_drew _ _ eW16
       clear eW16
       refine Zh 0 (fun q hq=>y_move rfl rfl) ?_
       refine Zh 1 (fun q hq=>y_move rfl rfl) ?_
       refine Zh 2 (fun q hq=>y_move rfl rfl) ?_
       refine Zh 3 (fun q hq=>yv (congrArg nv (show ((x:Nat):Int)+1=((x+1:Nat):Int) by omega)) (yi_add rfl rfl rfl (by omega) (by omega))) ?_
       have rb:=(rb.below (n11.below.mono (by omega))).below (s12.below _ (by omega))
       have rb:=(rb.below (hw15.mono (by omega))).below (dW16.mono (by omega))
       have cu17:=rb.cut x (x+1) s9.c (by have q1:=rb.len;have q2:=rb.cap;omega) (by have q1:=rb.len;have q2:=rb.cap;omega) (by have q1:=rb.len;have q2:=rb.cap;omega) (by have q1:=rb.len;have q2:=rb.cap;omega)
       refine Zh 4 (fun q hq=>y_cutR_lh (s:=s9) x (x+1) (lo:=((x:Nat):Int)) (hi:=((x+1:Nat):Int)) (by have q1:=rb.len;have q2:=rb.cap;omega) (by have q1:=rb.len;have q2:=rb.cap;omega) (by have q1:=rb.len;have q2:=rb.cap;omega) (by have q1:=rb.len;have q2:=rb.cap;omega) rfl rfl rfl rfl) ?_
       have r11:=RowAt.below hw15 r11.lt r11
       have r11:=RowAt.below dW16 r11.lt r11
       refine Zh 5 (fun q hq=>y_loadA (RowAt.below hq r11.lt r11) (by kernel_rfl) (by kernel_rfl) rfl rfl) ?_
       refine Zo 6 ?_
       refine lg_bs1R (l:=NdV.zero) (L:=Nd.zero) Wn rfl rfl rfl (by decide) fun b18 w18 n18=>?_
       have m18:=new_row n18 ((IsNd.zero _ 0).more (B':=W16.heap.size) (by omega)) (Nat.le_refl _)
       have k18:=n18.blk
       have z18:=n18.size
       refine hg_next n18.below ?_
       refine hg_up n18.below ?_
       have cu17:=cu17.below (n18.below.mono (by omega))
       refine Zo 7 ?_
       refine Zc (sameR_any (cu17.more (B':=w18.heap.size) (by omega)) (m18.more (B':=w18.heap.size) (by omega)) (Nat.le_refl _)) rfl rfl ?_
       rintro u19 w19 ⟨e19,hw19⟩
       have zw19:=hw19.size
       obtain rfl:u19=.bool true:=e19.trans (congrArg Value.bool (decide_eq_true (show trSame (((remL (addL (trAs Ls) L) (addI (trAs Ls) L)).take (x+1)).drop x) [Nd.zero] from (same_one hxb (by rw [back_at htA hz hxb,if_neg (fun q=>q.2 c14)])))))
       refine hg_next hw19 ?_
       refine hg_up hw19 ?_
       refine Zh 8 (fun q hq=>y_bnot rfl rfl) ?_
       refine hg_done (by kernel_rfl) ?_
       refine Nx [0,5,6,7,9,11,84] ?_
       refine cg_cf rfl ?_
       refine cg_skip ?_
       refine Qi ?_
       refine Nx [0,5,6,7,9,11] ?_
       refine Qe ?_
       refine ZM ?_
       refine Za (yv (congrArg nv (show ((x:Nat):Int)+1=((x+1:Nat):Int) by omega)) (yi_add rfl rfl rfl (by omega) (by omega))) ?_
       refine ZA ?_
       refine Qk ?_
       have h:=(h.below (hw15.mono (by omega))).below (dW16.mono (by omega))
       have h:=(h.below (n18.below.mono (by omega))).below (hw19.mono (by omega))
       have u:=Un (Un u hw15) dW16
       have u:=Un (Un u n18.below) hw19
       have cC:=(show C≤w11.heap.size by omega)
       have cC:=(show C≤w12.heap.size by omega)
       have cC:=(show C≤w15.heap.size by omega)
       have cC:=(show C≤W16.heap.size by omega)
       have cC:=(show C≤w18.heap.size by omega)
       have cC:=(show C≤w19.heap.size by omega)
       have ra:=(ra.below (hw15.mono (by omega))).below (dW16.mono (by omega))
       have ra:=(ra.below (n18.below.mono (by omega))).below (hw19.mono (by omega))
       have rb:=(rb.below (n18.below.mono (by omega))).below (hw19.mono (by omega))
       exact fun a ha=>(show x<(Ls.length+200)∧_ from ⟨(by omega),ha.keep (fk rfl (fk rfl (fk rfl (fk rfl (fk rfl (fk rfl fn)))))),h,u,cC,ra,rb,(by omega)⟩)
      refine Zct 63 (under_any (2*(addI (trAs Ls) L)) ((x:Nat):Int) ((addL (trAs Ls) L).length:Int) _ (Tt.up u rg).b) rfl rfl ?_
      rintro u20 w20 ⟨e20,hw20⟩
      have zw20:=hw20.size
      obtain rfl:u20=.bool false:=e20.trans (congrArg Value.bool (decide_eq_false c14))
      refine Zt 63 y_bnot ?_
      refine Zan (y_pick true) [0,5,6,7,9,11,12,71] ?_
      refine cg_ct rfl ?_
      refine Qe ?_
      refine ZM ?_
      refine ZM ?_
      have h:=h.below (hw20.mono (by omega))
      obtain ⟨eb21,eo21,el21,eL21,eA21,eB21,eg21,eh21,ec21⟩:=h.at (x) (by have:=h.len;omega)
      refine Za (y_ixR (s:=s) (el:=50) (k:=8) (i:=x) (iI:=((x:Nat):Int)) eA21 (by kernel_rfl) (by kernel_rfl) (by omega) (by have:=h.len;omega) rfl rfl rfl) ?_
      refine Za (y_loadC (cs:=el21.cs eL21) ec21) ?_
      have r11:=RowAt.below hw20 r11.lt r11
      have o22:=r11
      refine lg_stw Wn r11 rfl rfl rfl (by kernel_rfl) (by kernel_rfl) rfl rfl fun w22 s22=>?_
      have r11:=s22.row
      have z22:=s22.size
      refine Zn [0,5,6,7,9,11,12] ?_
      refine Qd ?_
      refine cg_held (by kernel_rfl) fun W23 eW23=>?_
      have dW23:=below_drew _ _ eW23
      have zW23:=size_drew _ _ eW23
      clear eW23
      refine Zh 0 (fun q hq=>y_move rfl rfl) ?_
      refine Zh 1 (fun q hq=>y_move rfl rfl) ?_
      refine Zh 2 (fun q hq=>y_move rfl rfl) ?_
      refine Zh 3 (fun q hq=>yv (congrArg nv (show ((x:Nat):Int)+1=((x+1:Nat):Int) by omega)) (yi_add rfl rfl rfl (by omega) (by omega))) ?_
      have rb:=(rb.below (n11.below.mono (by omega))).below (s12.below _ (by omega))
      have rb:=((rb.below (hw20.mono (by omega))).below (s22.below _ (by omega))).below (dW23.mono (by omega))
      have cu24:=rb.cut x (x+1) s9.c (by have q1:=rb.len;have q2:=rb.cap;omega) (by have q1:=rb.len;have q2:=rb.cap;omega) (by have q1:=rb.len;have q2:=rb.cap;omega) (by have q1:=rb.len;have q2:=rb.cap;omega)
      refine Zh 4 (fun q hq=>y_cutR_lh (s:=s9) x (x+1) (lo:=((x:Nat):Int)) (hi:=((x+1:Nat):Int)) (by have q1:=rb.len;have q2:=rb.cap;omega) (by have q1:=rb.len;have q2:=rb.cap;omega) (by have q1:=rb.len;have q2:=rb.cap;omega) (by have q1:=rb.len;have q2:=rb.cap;omega) rfl rfl rfl rfl) ?_
      have r11:=RowAt.below dW23 r11.lt r11
      refine Zh 5 (fun q hq=>y_loadA (RowAt.below hq r11.lt r11) (by kernel_rfl) (by kernel_rfl) rfl rfl) ?_
      refine Zo 6 ?_
      have eh21:=(eh21.below (s22.below _ (by omega))).below (dW23.mono (by omega))
      refine lg_bs1R (l:=el21) (L:=eL21) Wn rfl rfl rfl (by decide) fun b25 w25 n25=>?_
      have m25:=new_row n25 (eh21.more (B':=W23.heap.size) (by omega)) (Nat.le_refl _)
      have k25:=n25.blk
      have z25:=n25.size
      refine hg_next n25.below ?_
      refine hg_up n25.below ?_
      have cu24:=cu24.below (n25.below.mono (by omega))
      refine Zo 7 ?_
      refine Zc (sameR_any (cu24.more (B':=w25.heap.size) (by omega)) (m25.more (B':=w25.heap.size) (by omega)) (Nat.le_refl _)) rfl rfl ?_
      rintro u26 w26 ⟨e26,hw26⟩
      have zw26:=hw26.size
      obtain rfl:u26=.bool true:=e26.trans (congrArg Value.bool (decide_eq_true (show trSame (((remL (addL (trAs Ls) L) (addI (trAs Ls) L)).take (x+1)).drop x) [eL21] from (same_one hxb (by rw [back_at htA hz hxb,if_pos ⟨by rw [hta];omega,c14⟩,hta];exact atN_some eg21)))))
      refine hg_next hw26 ?_
      refine hg_up hw26 ?_
      refine Zh 8 (fun q hq=>y_bnot rfl rfl) ?_
      refine hg_done (by kernel_rfl) ?_
      refine Nx [0,5,6,7,9,11,84] ?_
      refine cg_cf rfl ?_
      refine cg_skip ?_
      refine Qi ?_
      refine Nx [0,5,6,7,9,11] ?_
      refine Qe ?_
      refine ZM ?_
      refine Za (yv (congrArg nv (show ((x:Nat):Int)+1=((x+1:Nat):Int) by omega)) (yi_add rfl rfl rfl (by omega) (by omega))) ?_
      refine ZA ?_
      refine Qk ?_
      have h:=(h.below (s22.below _ (by omega))).below (dW23.mono (by omega))
      have h:=(h.below (n25.below.mono (by omega))).below (hw26.mono (by omega))
      have u:=Un u hw20
      have u:=u.trans (s22.below _ (by omega))
      have u:=Un (Un (Un u dW23) n25.below) hw26
      have cC:=(show C≤w11.heap.size by omega)
      have cC:=(show C≤w12.heap.size by omega)
      have cC:=(show C≤w20.heap.size by omega)
      have cC:=(show C≤w22.heap.size by omega)
      have cC:=(show C≤W23.heap.size by omega)
      have cC:=(show C≤w25.heap.size by omega)
      have cC:=(show C≤w26.heap.size by omega)
      have ra:=(ra.below (hw20.mono (by omega))).below (s22.below _ (by omega))
      have ra:=((ra.below (dW23.mono (by omega))).below (n25.below.mono (by omega))).below (hw26.mono (by omega))
      have rb:=(rb.below (n25.below.mono (by omega))).below (hw26.mono (by omega))
      exact fun a ha=>(show x<(Ls.length+200)∧_ from ⟨(by omega),ha.keep (fk rfl (fk rfl (fk rfl (fk rfl (fk rfl (fk rfl fn)))))),h,u,cC,ra,rb,(by omega)⟩)
     refine Za (yb (dF c13) yi_lss) ?_
     refine ZM ?_
     refine Zf 63 ?_
     refine Zf 63 ?_
     refine Zf 63 ?_
     refine Zf 63 ?_
     refine Zf 63 ?_
     refine Zf 63 ?_
     refine Zf 63 ?_
     refine Zan (y_pick false) [0,5,6,7,9,11,12,71] ?_
     refine Zcf [0,5,6,7,9,11,12] ?_
     refine Qd ?_
     refine cg_held (by kernel_rfl) fun W27 eW27=>?_
     have dW27:=below_drew _ _ eW27
     have zW27:=size_drew _ _ eW27
     clear eW27
     refine Zh 0 (fun q hq=>y_move rfl rfl) ?_
     refine Zh 1 (fun q hq=>y_move rfl rfl) ?_
     refine Zh 2 (fun q hq=>y_move rfl rfl) ?_
     refine Zh 3 (fun q hq=>yv (congrArg nv (show ((x:Nat):Int)+1=((x+1:Nat):Int) by omega)) (yi_add rfl rfl rfl (by omega) (by omega))) ?_
     have rb:=((rb.below (n11.below.mono (by omega))).below (s12.below _ (by omega))).below (dW27.mono (by omega))
     have cu28:=rb.cut x (x+1) s9.c (by have q1:=rb.len;have q2:=rb.cap;omega) (by have q1:=rb.len;have q2:=rb.cap;omega) (by have q1:=rb.len;have q2:=rb.cap;omega) (by have q1:=rb.len;have q2:=rb.cap;omega)
     refine Zh 4 (fun q hq=>y_cutR_lh (s:=s9) x (x+1) (lo:=((x:Nat):Int)) (hi:=((x+1:Nat):Int)) (by have q1:=rb.len;have q2:=rb.cap;omega) (by have q1:=rb.len;have q2:=rb.cap;omega) (by have q1:=rb.len;have q2:=rb.cap;omega) (by have q1:=rb.len;have q2:=rb.cap;omega) rfl rfl rfl rfl) ?_
     have r11:=RowAt.below dW27 r11.lt r11
     refine Zh 5 (fun q hq=>y_loadA (RowAt.below hq r11.lt r11) (by kernel_rfl) (by kernel_rfl) rfl rfl) ?_
     refine Zo 6 ?_
     refine lg_bs1R (l:=NdV.zero) (L:=Nd.zero) Wn rfl rfl rfl (by decide) fun b29 w29 n29=>?_
     have m29:=new_row n29 ((IsNd.zero _ 0).more (B':=W27.heap.size) (by omega)) (Nat.le_refl _)
     have k29:=n29.blk
     have z29:=n29.size
     refine hg_next n29.below ?_
     refine hg_up n29.below ?_
     have cu28:=cu28.below (n29.below.mono (by omega))
     refine Zo 7 ?_
     refine Zc (sameR_any (cu28.more (B':=w29.heap.size) (by omega)) (m29.more (B':=w29.heap.size) (by omega)) (Nat.le_refl _)) rfl rfl ?_
     rintro u30 w30 ⟨e30,hw30⟩
     have zw30:=hw30.size
     obtain rfl:u30=.bool true:=e30.trans (congrArg Value.bool (decide_eq_true (show trSame (((remL (addL (trAs Ls) L) (addI (trAs Ls) L)).take (x+1)).drop x) [Nd.zero] from (same_one hxb (by rw [back_at htA hz hxb,if_neg (fun q=>by have:=q.1;rw [hta] at this;omega)])))))
     refine hg_next hw30 ?_
     refine hg_up hw30 ?_
     refine Zh 8 (fun q hq=>y_bnot rfl rfl) ?_
     refine hg_done (by kernel_rfl) ?_
     refine Nx [0,5,6,7,9,11,84] ?_
     refine cg_cf rfl ?_
     refine cg_skip ?_
     refine Qi ?_
     refine Nx [0,5,6,7,9,11] ?_
     refine Qe ?_
     refine ZM ?_
     refine Za (yv (congrArg nv (show ((x:Nat):Int)+1=((x+1:Nat):Int) by omega)) (yi_add rfl rfl rfl (by omega) (by omega))) ?_
     refine ZA ?_
     refine Qk ?_
     have h:=((h.below (dW27.mono (by omega))).below (n29.below.mono (by omega))).below (hw30.mono (by omega))
     have u:=Un u n11.below
     have u:=u.trans (s12.below _ (by omega))
     have u:=Un (Un (Un u dW27) n29.below) hw30
     have cC:=(show C≤w11.heap.size by omega)
     have cC:=(show C≤w12.heap.size by omega)
     have cC:=(show C≤W27.heap.size by omega)
     have cC:=(show C≤w29.heap.size by omega)
     have cC:=(show C≤w30.heap.size by omega)
     have ra:=(ra.below (n11.below.mono (by omega))).below (s12.below _ (by omega))
     have ra:=((ra.below (dW27.mono (by omega))).below (n29.below.mono (by omega))).below (hw30.mono (by omega))
     have rb:=(rb.below (n29.below.mono (by omega))).below (hw30.mono (by omega))
     exact fun a ha=>(show x<(Ls.length+200)∧_ from ⟨(by omega),ha.keep (fk rfl (fk rfl (fk rfl (fk rfl (fk rfl (fk rfl fn)))))),h,u,cC,ra,rb,(by omega)⟩)
    refine Zan (yb (dF c10) yi_lss) [0,5,6,7,9,11,55] ?_
    refine cg_cf rfl ?_
    refine cg_exit ?_
    refine Qh ?_
    refine Qh ?_
    refine Ql ?_
    refine Nx [5,9] ?_
    refine ZrM ?_
    refine ZM ?_
    refine Zt 86 y_move ?_
    refine Zct 86 (trim_any rb (by omega)) rfl rfl ?_
    rintro _ w31 ⟨s31,rfl,m31,hw31⟩
    have zw31:=hw31.size
    refine Zt 86 y_move ?_
    have rb:=rb.below (hw31.mono (by omega))
    refine Zct 86 (sameR_any (m31.more (B':=w31.heap.size) (by omega)) (rb.more (B':=w31.heap.size) (by omega)) (Nat.le_refl _)) rfl rfl ?_
    rintro u32 w32 ⟨e32,hw32⟩
    have zw32:=hw32.size
    obtain rfl:u32=.bool true:=e32.trans (congrArg Value.bool (decide_eq_true (show trSame (trimL (remL (addL (trAs Ls) L) (addI (trAs Ls) L))) (remL (addL (trAs Ls) L) (addI (trAs Ls) L)) from (by rw [y4];exact tr_same _))))
    refine Za (y_pick true) ?_
    refine ZAnr [4] ?_
    have u:=Un (Un u hw31) hw32
    exact Qa rfl rfl ⟨_,rfl,rfl,u⟩
   refine Zan (yb (nd_t c8) yi_neq) [0,4,5,6,7,31] ?_
   refine cg_ct rfl ?_
   refine ZrM ?_
   refine ZAnr [0,5,6,7,4] ?_
   refine Qc ?_
   have u:=Un u hw7
   exact Qa rfl rfl ⟨_,rfl,rfl,u⟩
  refine Zct 17 (sane_any (h.more (B':=w4.heap.size) (by omega)) (Nat.le_refl _)) rfl rfl ?_
  rintro u33 w33 ⟨e33,hw33⟩
  have zw33:=hw33.size
  obtain rfl:u33=.bool false:=e33.trans (congrArg Value.bool (decide_eq_false c5))
  refine Zt 17 y_bnot ?_
  refine Zan (y_pick false) [0,3,4,5,21] ?_
  refine cg_ct rfl ?_
  refine ZrM ?_
  refine ZAnr [0,3,5,4] ?_
  refine Qc ?_
  have u:=Un (Un (Un u hw2) hw4) hw33
  exact Qa rfl rfl ⟨_,rfl,rfl,u⟩
 refine Zc (fewR_any (h.more (B':=w2.heap.size) (by omega)) (Nat.le_refl _)) rfl rfl ?_
 rintro u34 w34 ⟨e34,hw34⟩
 have zw34:=hw34.size
 obtain rfl:u34=.bool false:=e34.trans (congrArg Value.bool (decide_eq_false c3))
 refine Za y_bnot ?_
 refine ZM ?_
 refine Zf 17 ?_
 refine Zf 17 ?_
 refine Zf 17 ?_
 refine Zan (y_pick true) [0,3,4,5,21] ?_
 refine cg_ct rfl ?_
 refine ZrM ?_
 refine ZAnr [0,3,5,4] ?_
 refine Qc ?_
 have u:=Un (Un u hw2) hw34
 exact Qa rfl rfl ⟨_,rfl,rfl,u⟩
end Go.Proofs.YtfdmhdnlmndhdaaGreatDoor
