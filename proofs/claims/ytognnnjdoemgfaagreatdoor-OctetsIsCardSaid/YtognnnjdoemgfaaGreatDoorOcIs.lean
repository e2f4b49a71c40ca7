/-
  Of any row and octets the answers are the document's.
-/
import Derived.Test.YtognnnjdoemgfaaGreatDoorOcAwake
import Derived.Test.YtognnnjdoemgfaaGreatDoorTrRef
import Derived.Test.YtognnnjdoemgfaaGreatDoorOcRef
namespace Go.Proofs.YtognnnjdoemgfaaGreatDoor
open Go.ChangeShapes Go.WideShapes Go.ChangeAt Go.RowKit
set_option linter.unusedVariables false

set_option maxRecDepth 20000
set_option maxHeartbeats 4000000 in
theorem octetsIs_any {W:World} {s:SlV} {Ls:List Nd} (h:RwNd W W.heap.size s Ls) {r:SlV} {xs:List Int} (hb:Sl W W.heap.size r xs) (rg:Tb W):Calls Tryz.prog 3 #[s.v,r.v] W fun e W'=>∃ v,e=.returned v∧v=.bool true∧Below W.heap.size W W':=by
 refine Qf (n:=57) Tryz.func3 rfl Tryz.ntmps3 (by simp) ?_
 show CG _ _ _ [(0,s.v),(1,r.v)] _ _
 have u:=Below.refl W.heap.size W
 have q1:=h.len
 have q2:=h.cap
 have q3:=hb.len
 have q4:=hb.cap
 refine ZrA ?_
 refine Zn [0,1,4] ?_
 refine Zr ?_
 refine Zc (awakeO_any _ (rg.up u)) rfl rfl ?_
 rintro _ w1 ⟨rfl,hw1⟩
 have zw1:=hw1.size
 refine ZAn [0,1,4,5] ?_
 refine Qd ?_
 refine ZrM ?_
 have h:=h.below (hw1.mono (by omega))
 by_cases c2:trFew Ls
 ·refine Zc (fewR_any (h.more (B':=w1.heap.size) (by omega)) (Nat.le_refl _)) rfl rfl ?_
  rintro u3 w3 ⟨e3,hw3⟩
  have zw3:=hw3.size
  obtain rfl:u3=.bool true:=e3.trans (congrArg Value.bool (decide_eq_true c2))
  refine Za y_bnot ?_
  refine ZM ?_
  refine Zt 14 y_move ?_
  have hb:=(hb.below (hw1.mono (by omega))).below (hw3.mono (by omega))
  refine Zt 14 (y_lenS (el:=5) hb) ?_
  by_cases c4:20000<(xs.length:Int)
  ·refine Zt 14 (yb (dT c4) yi_gtr) ?_
   refine Zan (y_pick false) [0,1,4,5,18] ?_
   refine cg_ct rfl ?_
   refine ZrM ?_
   refine ZAnr [0,1,5,4] ?_
   refine Qc ?_
   have u:=Un (Un u hw1) hw3
   exact Qa rfl rfl ⟨_,rfl,rfl,u⟩
  refine Zt 14 (yb (dF c4) yi_gtr) ?_
  refine Zan (y_pick false) [0,1,4,5,18] ?_
  refine Zcf [0,1,4,5] ?_
  refine ZrM ?_
  have u:=Un (Un u hw1) hw3
  refine Zc (getO_any (hb.more (B':=w3.heap.size) (by omega)) (Nat.le_refl _) (rg.up u)) rfl rfl ?_
  rintro _ w5 ⟨s5,rfl,m5,hw5⟩
  have zw5:=hw5.size
  refine ZM ?_
  refine Za y_extract ?_
  refine Za y_extract ?_
  refine ZA ?_
  refine ZAn [0,1,4,5,6,7] ?_
  refine ZrM ?_
  have hb:=hb.below (hw5.mono (by omega))
  have u:=Un u hw5
  refine Zc (rgetO_any (hb.more (B':=w5.heap.size) (by omega)) (Nat.le_refl _) (rg.up u)) rfl rfl ?_
  rintro _ w6 ⟨s6,rfl,m6,hw6⟩
  have zw6:=hw6.size
  refine ZM ?_
  refine Za y_extract ?_
  refine Za y_extract ?_
  refine ZA ?_
  refine ZAn [0,4,5,6,7,8,9] ?_
  refine Qd ?_
  refine cg_held (by kernel_rfl) fun W7 eW7=>?_
  have dW7:=below_drew _ _ eW7
  have zW7:=size_drew _ _ eW7
  clear eW7
  refine Zh 0 (fun q hq=>y_move rfl rfl) ?_
  refine Zh 1 (fun q hq=>y_move rfl rfl) ?_
  refine Zht 2 31 (fun q hq=>y_move rfl rfl) ?_
  refine Zht 3 31 (fun q hq=>y_move rfl rfl) ?_
  have m5:=(m5.below (hw6.mono (by omega))).below (dW7.mono (by omega))
  have m6:=m6.below (dW7.mono (by omega))
  refine Zot 4 31 ?_
  refine Zct 31 (sameR_any (m5.more (B':=W7.heap.size) (by omega)) (m6.more (B':=W7.heap.size) (by omega)) (Nat.le_refl _)) rfl rfl ?_
  rintro u8 w8 ⟨e8,hw8⟩
  have zw8:=hw8.size
  obtain rfl:u8=.bool true:=e8.trans (congrArg Value.bool (decide_eq_true (tr_same _)))
  refine hg_next hw8 ?_
  refine hg_up hw8 ?_
  refine Zh 5 (fun q hq=>y_pick true rfl rfl rfl) ?_
  refine Zh 6 (fun q hq=>y_move rfl rfl) ?_
  refine Zht 7 36 (fun q hq=>y_move rfl rfl) ?_
  refine Zht 8 36 (fun q hq=>y_move rfl rfl) ?_
  refine Zht 9 36 (fun q hq=>yb (dT rfl) (yi_eql rfl rfl rfl)) ?_
  refine Zh 10 (fun q hq=>y_pick true rfl rfl rfl) ?_
  refine Zh 11 (fun q hq=>y_move rfl rfl) ?_
  refine Zht 12 41 (fun q hq=>y_move rfl rfl) ?_
  refine Zht 14 41 (fun q hq=>y_move rfl rfl) ?_
  have h:=(h.below (hw3.mono (by omega))).below (hw5.mono (by omega))
  have h:=((h.below (hw6.mono (by omega))).below (dW7.mono (by omega))).below (hw8.mono (by omega))
  have u:=Un (Un (Un u hw6) dW7) hw8
  by_cases c9:namedL (trAs Ls)
  ·refine Zot 13 41 ?_
   refine Zct 41 (namedO_any (h.more (B':=w8.heap.size) (by omega)) (Nat.le_refl _) (rg.up u)) rfl rfl ?_
   rintro u10 w10 ⟨e10,hw10⟩
   have zw10:=hw10.size
   obtain rfl:u10=.bool true:=e10.trans (congrArg Value.bool (decide_eq_true c9))
   refine hg_next hw10 ?_
   refine hg_up hw10 ?_
   have h:=h.below (hw10.mono (by omega))
   have u:=Un u hw10
   refine Zot 15 41 ?_
   refine Zct 41 (rnamedO_any (h.more (B':=w10.heap.size) (by omega)) (Nat.le_refl _) (rg.up u)) rfl rfl ?_
   rintro u11 w11 ⟨e11,hw11⟩
   have zw11:=hw11.size
   obtain rfl:u11=.bool true:=e11.trans (congrArg Value.bool (decide_eq_true c9))
   refine hg_next hw11 ?_
   refine hg_up hw11 ?_
   refine Zht 16 41 (fun q hq=>yb (b:=(true == true)) (show (true == true)=true from rfl) (y_beq (a:=true) (b:=true) hubo rfl rfl rfl)) ?_
   refine Zh 17 (fun q hq=>y_pick true rfl rfl rfl) ?_
   refine Zh 18 (fun q hq=>y_move rfl rfl) ?_
   refine Zht 19 48 (fun q hq=>y_move rfl rfl) ?_
   refine Zht 22 48 (fun q hq=>y_move rfl rfl) ?_
   have h:=h.below (hw11.mono (by omega))
   refine Zot 20 48 ?_
   refine Zct 48 (putO_any (h.more (B':=w11.heap.size) (by omega)) (Nat.le_refl _)) rfl rfl ?_
   rintro _ w12 ⟨r12,rfl,m12,hw12⟩
   have zw12:=hw12.size
   refine hg_next hw12 ?_
   refine hg_up hw12 ?_
   have by13:Bytes (opL (trAs Ls)):=m12.bytes
   refine Zht 21 48 (fun q hq=>y_strS (m12.below (hq.mono (by omega))) rfl rfl) ?_
   have h:=h.below (hw12.mono (by omega))
   refine Zot 23 48 ?_
   refine Zct 48 (rputO_any (h.more (B':=w12.heap.size) (by omega)) (Nat.le_refl _)) rfl rfl ?_
   rintro _ w14 ⟨r14,rfl,m14,hw14⟩
   have zw14:=hw14.size
   refine hg_next hw14 ?_
   refine hg_up hw14 ?_
   have by15:Bytes (opL (trAs Ls)):=m14.bytes
   refine Zht 24 48 (fun q hq=>y_strS (m14.below (hq.mono (by omega))) rfl rfl) ?_
   refine Zht 25 48 (fun q hq=>yb (dT rfl) (y_seqS (xs:=(opL (trAs Ls))) (ys:=(opL (trAs Ls))) by13 by15 rfl rfl rfl)) ?_
   refine Zh 26 (fun q hq=>y_pick true rfl rfl rfl) ?_
   refine Zh 27 (fun q hq=>y_assign rfl rfl) ?_
   refine hg_done (by kernel_rfl) ?_
   refine Nx [4] ?_
   refine cg_ret ?_
   have u:=Un (Un (Un u hw11) hw12) hw14
   exact Qa rfl rfl ⟨_,rfl,rfl,u⟩
  refine Zot 13 41 ?_
  refine Zct 41 (namedO_any (h.more (B':=w8.heap.size) (by omega)) (Nat.le_refl _) (rg.up u)) rfl rfl ?_
  rintro u16 w16 ⟨e16,hw16⟩
  have zw16:=hw16.size
  obtain rfl:u16=.bool false:=e16.trans (congrArg Value.bool (decide_eq_false c9))
  refine hg_next hw16 ?_
  refine hg_up hw16 ?_
  have h:=h.below (hw16.mono (by omega))
  have u:=Un u hw16
  refine Zot 15 41 ?_
  refine Zct 41 (rnamedO_any (h.more (B':=w16.heap.size) (by omega)) (Nat.le_refl _) (rg.up u)) rfl rfl ?_
  rintro u17 w17 ⟨e17,hw17⟩
  have zw17:=hw17.size
  obtain rfl:u17=.bool false:=e17.trans (congrArg Value.bool (decide_eq_false c9))
  refine hg_next hw17 ?_
  refine hg_up hw17 ?_
  refine Zht 16 41 (fun q hq=>yb (b:=(false == false)) (show (false == false)=true from rfl) (y_beq (a:=false) (b:=false) hubo rfl rfl rfl)) ?_
  refine Zh 17 (fun q hq=>y_pick true rfl rfl rfl) ?_
  refine Zh 18 (fun q hq=>y_move rfl rfl) ?_
  refine Zht 19 48 (fun q hq=>y_move rfl rfl) ?_
  refine Zht 22 48 (fun q hq=>y_move rfl rfl) ?_
  have h:=h.below (hw17.mono (by omega))
  refine Zot 20 48 ?_
  refine Zct 48 (putO_any (h.more (B':=w17.heap.size) (by omega)) (Nat.le_refl _)) rfl rfl ?_
  rintro _ w18 ⟨r18,rfl,m18,hw18⟩
  have zw18:=hw18.size
  refine hg_next hw18 ?_
  refine hg_up hw18 ?_
  have by19:Bytes (opL (trAs Ls)):=m18.bytes
  refine Zht 21 48 (fun q hq=>y_strS (m18.below (hq.mono (by omega))) rfl rfl) ?_
  have h:=h.below (hw18.mono (by omega))
  refine Zot 23 48 ?_
  refine Zct 48 (rputO_any (h.more (B':=w18.heap.size) (by omega)) (Nat.le_refl _)) rfl rfl ?_
  rintro _ w20 ⟨r20,rfl,m20,hw20⟩
  have zw20:=hw20.size
  refine hg_next hw20 ?_
  refine hg_up hw20 ?_
  have by21:Bytes (opL (trAs Ls)):=m20.bytes
  refine Zht 24 48 (fun q hq=>y_strS (m20.below (hq.mono (by omega))) rfl rfl) ?_
  refine Zht 25 48 (fun q hq=>yb (dT rfl) (y_seqS (xs:=(opL (trAs Ls))) (ys:=(opL (trAs Ls))) by19 by21 rfl rfl rfl)) ?_
  refine Zh 26 (fun q hq=>y_pick true rfl rfl rfl) ?_
  refine Zh 27 (fun q hq=>y_assign rfl rfl) ?_
  refine hg_done (by kernel_rfl) ?_
  refine Nx [4] ?_
  refine cg_ret ?_
  have u:=Un (Un (Un u hw17) hw18) hw20
  exact Qa rfl rfl ⟨_,rfl,rfl,u⟩
 refine Zc (fewR_any (h.more (B':=w1.heap.size) (by omega)) (Nat.le_refl _)) rfl rfl ?_
 rintro u22 w22 ⟨e22,hw22⟩
 have zw22:=hw22.size
 obtain rfl:u22=.bool false:=e22.trans (congrArg Value.bool (decide_eq_false c2))
 refine Za y_bnot ?_
 refine ZM ?_
 refine Zf 14 ?_
 refine Zf 14 ?_
 refine Zf 14 ?_
 refine Zan (y_pick true) [0,1,4,5,18] ?_
 refine cg_ct rfl ?_
 refine ZrM ?_
 refine ZAnr [0,1,5,4] ?_
 refine Qc ?_
 have u:=Un (Un u hw1) hw22
 exact Qa rfl rfl ⟨_,rfl,rfl,u⟩
end Go.Proofs.YtognnnjdoemgfaaGreatDoor
