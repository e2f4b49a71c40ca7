/-
  The small functions of package octets.
-/
import Derived.Test.YtognnnjdoemgfaaGreatDoorOcWk
import Derived.Test.YtognnnjdoemgfaaGreatDoorOcMath
namespace Go.Proofs.YtognnnjdoemgfaaGreatDoor
open Go.ChangeShapes Go.WideShapes Go.ChangeAt Go.RowKit
set_option linter.unusedVariables false

theorem lvl_even {x:Int} (h:isL x):lvl x=0↔x % 2=0:=fin1 (p:=fun x=>lvl x=0↔x % 2=0) (by kernel_rfl) h
theorem mayStandO_any {W:World} {B:Nat} {l:NdV} {L:Nd} {x:Nat} (hl:IsNd W B l L) (hB:B≤W.heap.size) (hx:x<127) (rg:Tb W):Calls Tryz.prog 82 #[nv (x:Int),.agg (l.cs L)] W fun e W'=>∃ v,e=.returned v∧v=.bool (decide (fitK x L.kind))∧Below W.heap.size W W':=by
 refine Qf (n:=14) Tryz.func82 rfl Tryz.ntmps82 (by simp) ?_
 show CG _ _ _ [(0,nv (x:Int)),(1,.agg (l.cs L))] _ _
 have u:=Below.refl W.heap.size W
 have hl:=hl.more hB
 have lv:=lvl_even (x:=(x:Int)) ⟨by omega,by omega⟩
 refine Zr ?_
 refine lg_boxw Wn rfl rfl (by kernel_rfl) rfl (by decide) fun b1 w1 n1=>?_
 have r1:=n1.row
 have k1:=n1.blk
 have z1:=n1.size
 have lt1:b1<w1.heap.size:=by omega
 refine ZAn [0,3,4] ?_
 refine Qd ?_
 refine ZrM ?_
 have u:=Un u n1.below
 refine Za (Qp (level_any ((x:Nat):Int) _ (rg.up u))) ?_
 by_cases c2:(lvl ((x:Nat):Int))=0
 ·refine Zan (yb (dT c2) yi_eql) [3,4,7] ?_
  refine cg_ct rfl ?_
  refine Zr ?_
  refine Za (y_fld (off:=0)) ?_
  refine Za (Qo (v:=nv L.kind) r1 rfl (by kernel_rfl) rfl rfl) ?_
  by_cases c3:L.kind=2
  ·refine Za (yb (nd_f c3) yi_neq) ?_
   refine ZAnr [3,4] ?_
   refine Qc ?_
   exact Qa rfl rfl ⟨_,rfl,congrArg Value.bool (dF (by unfold fitK;omega)).symm,u⟩
  refine Za (yb (nd_t c3) yi_neq) ?_
  refine ZAnr [3,4] ?_
  refine Qc ?_
  exact Qa rfl rfl ⟨_,rfl,congrArg Value.bool (dT (by unfold fitK;omega)).symm,u⟩
 refine Zan (yb (dF c2) yi_eql) [3,4,7] ?_
 refine Zcf [3,4] ?_
 refine Zr ?_
 refine Za (y_fld (off:=0)) ?_
 refine Za (Qo (v:=nv L.kind) r1 rfl (by kernel_rfl) rfl rfl) ?_
 by_cases c4:L.kind=1
 ·refine Za (yb (nd_f c4) yi_neq) ?_
  refine ZAnr [4] ?_
  exact Qa rfl rfl ⟨_,rfl,congrArg Value.bool (dF (by unfold fitK;omega)).symm,u⟩
 refine Za (yb (nd_t c4) yi_neq) ?_
 refine ZAnr [4] ?_
 exact Qa rfl rfl ⟨_,rfl,congrArg Value.bool (dT (by unfold fitK;omega)).symm,u⟩
theorem inside_any {W:World} {B:Nat} {s:SlV} {xs:List Int} (h:Sl W B s xs) (hB:B≤W.heap.size):Calls Tryz.prog 18 #[s.v] W fun e W'=>∃ v,e=.returned v∧∃ p:SlV,v=.tuple #[p.v,nv (ogI xs)]∧Sl W' B p (ogP xs)∧Below W.heap.size W W':=by
 refine Qf (n:=26) Tryz.func18 rfl Tryz.ntmps18 (by simp) ?_
 show CG _ _ _ [(0,s.v)] _ _
 have u:=Below.refl W.heap.size W
 refine ZrA ?_
 refine ZAn [0,2,3] ?_
 refine ZrM ?_
 refine Zc (getBytes_S h (by omega)) rfl rfl ?_
 rintro _ w1 ⟨p1,r1,rfl,m1,l1,hw1⟩
 have zw1:=hw1.size
 refine ZM ?_
 refine Za y_extract ?_
 refine Za y_extract ?_
 refine Za y_extract ?_
 refine ZA ?_
 refine ZA ?_
 refine ZAn [2,3,4,5,6] ?_
 refine Qd ?_
 refine Qj ?_
 refine ZrM ?_
 by_cases c2:(bytesE xs)=0
 ·refine Za (yb (nd_f c2) yi_neq) ?_
  refine ZAn [2,3,4,5,6,13] ?_
  refine cg_cf rfl ?_
  refine ZrM ?_
  refine Za (y_lenS (el:=5) l1) ?_
  by_cases c3:0<((bytesR xs).length:Int)
  ·refine Za (yb (dT c3) yi_gtr) ?_
   refine ZAnt [2,3,4,17] ?_
   refine ZrA ?_
   refine ZAnr [4,2,3] ?_
   refine Qg ?_
   refine Qc ?_
   have hI:ogI xs=2:=by rw [ogI,if_neg (not_not_intro c2),if_pos (by have:=c3;omega)]
   have u:=Un u hw1
   exact eg_ret_tmp2 rfl rfl rfl ⟨_,rfl,nilS,congrArg (fun q=>Value.tuple #[_,nv q]) hI.symm,(Sl.nil _ _).cast (by rw [ogP,if_neg (by rw [hI];decide)]),u⟩
  refine Za (yb (dF c3) yi_gtr) ?_
  refine ZAn [2,3,4,17] ?_
  refine cg_cf rfl ?_
  refine ZrM ?_
  refine Za (y_lenS (el:=5) m1) ?_
  by_cases c4:((bytesP xs).length:Int)=0
  ·refine Za (yb (dT c4) yi_eql) ?_
   refine ZAnt [2,3,4,21] ?_
   refine ZrA ?_
   refine ZAnr [4,2,3] ?_
   refine Qg ?_
   refine Qc ?_
   have hI:ogI xs=5:=by rw [ogI,if_neg (not_not_intro c2),if_neg (by have:=c3;omega),if_pos (by have:=c4;omega)]
   have u:=Un u hw1
   exact eg_ret_tmp2 rfl rfl rfl ⟨_,rfl,nilS,congrArg (fun q=>Value.tuple #[_,nv q]) hI.symm,(Sl.nil _ _).cast (by rw [ogP,if_neg (by rw [hI];decide)]),u⟩
  refine Za (yb (dF c4) yi_eql) ?_
  refine ZAn [2,3,4,21] ?_
  refine cg_cf rfl ?_
  refine cg_skip ?_
  refine Qi ?_
  refine Nx [2,3,4] ?_
  refine ZrM ?_
  refine ZA ?_
  refine ZAnr [2,3] ?_
  have hI:ogI xs=0:=by rw [ogI,if_neg (not_not_intro c2),if_neg (by have:=c3;omega),if_neg (by have:=c4;omega)]
  have u:=Un u hw1
  exact eg_ret_tmp2 rfl rfl rfl ⟨_,rfl,p1,congrArg (fun q=>Value.tuple #[_,nv q]) hI.symm,m1.cast (ogP_ok hI).symm,u⟩
 refine Za (yb (nd_t c2) yi_neq) ?_
 refine ZAnt [2,3,4,5,6,13] ?_
 refine ZrM ?_
 refine ZA ?_
 refine ZAnr [4,2,3] ?_
 refine Qg ?_
 refine Qc ?_
 have hI:ogI xs=(bytesE xs):=by rw [ogI,if_pos c2]
 have u:=Un u hw1
 exact eg_ret_tmp2 rfl rfl rfl ⟨_,rfl,nilS,congrArg (fun q=>Value.tuple #[_,nv q]) hI.symm,(Sl.nil _ _).cast (by rw [ogP,if_neg (by rw [hI];assumption)]),u⟩
theorem atO_any {W:World} {B x:Nat} {s:SlV} {xs:List Int} (h:Sl W B s xs) (hB:B≤W.heap.size) (hx:x≤127) (rg:Tb W):Calls Tryz.prog 47 #[nv (x:Int),s.v] W fun e W'=>∃ v,e=.returned v∧∃ (l:NdV) (r:SlV),v=.tuple #[.agg (l.cs (ocAt x xs).2.1),r.v,nv (ocAt x xs).1]∧IsNd W' W'.heap.size l (ocAt x xs).2.1∧Sl W' B r (ocAt x xs).2.2∧l.fresh W.heap.size∧l.old B∧Below W.heap.size W W':=by
 refine Qf (n:=33) Tryz.func47 rfl Tryz.ntmps47 (by simp) ?_
 show CG _ _ _ [(0,nv (x:Int)),(1,s.v)] _ _
 have u:=Below.refl W.heap.size W
 have seven:¬(7:Int)=0:=by decide
 refine Zr ?_
 refine lg_allocw (cs:=NdV.zero.cs Nd.zero) Wn rfl (by kernel_rfl) rfl (by decide) fun b1 w1 n1=>?_
 have r1:=n1.row
 have k1:=n1.blk
 have z1:=n1.size
 have lt1:b1<w1.heap.size:=by omega
 refine ZA ?_
 refine ZAn [0,1,4,5,6] ?_
 refine Qd ?_
 refine ZrM ?_
 by_cases c2:((x:Nat):Int)=127
 ·refine Zan (yb (dT c2) yi_eql) [0,1,4,5,6,11] ?_
  refine cg_ct rfl ?_
  refine Zr ?_
  refine Za (y_build (cs:=NdV.zero.cs Nd.zero)) ?_
  have o3:=r1
  refine lg_stw Wn r1 rfl rfl rfl (by kernel_rfl) (by kernel_rfl) rfl rfl fun w3 s3=>?_
  have r1:=s3.row
  have z3:=s3.size
  refine ZA ?_
  refine ZAnr [0,1,4,5,6] ?_
  refine Qc ?_
  have hst:ocAt x xs=(10,Nd.zero,[]):=by rw [ocAt,if_pos (by omega)]
  refine eg_ret_agg3 rfl rfl r1 (by kernel_rfl) (by kernel_rfl) rfl rfl ?_
  rw [hst]
  have u:=Un u n1.below
  have u:=u.trans (s3.below _ (by omega))
  exact ⟨_,rfl,NdV.zero,nilS,rfl,((IsNd.zero _ 0).more (B':=w3.heap.size) (by omega)),(Sl.nil _ _),Fr.nil _,NdV.old_zero _,u⟩
 refine Zan (yb (dF c2) yi_eql) [0,1,4,5,6,11] ?_
 refine Zcf [0,1,4,5,6] ?_
 refine ZrM ?_
 have h:=h.below (n1.below.mono (by omega))
 refine Zc (getN_anyO h (by omega)) rfl rfl ?_
 rintro _ w4 ⟨l4,r4,rfl,m4,n4,f4,o4,hw4⟩
 have zw4:=hw4.size
 refine ZM ?_
 refine Za y_extract ?_
 refine Za y_extract ?_
 refine Za y_extract ?_
 refine lg_allocw (cs:=NdV.zero.cs Nd.zero) Wn rfl (by kernel_rfl) rfl (by decide) fun b5 w5 n5=>?_
 have r5:=n5.row
 have k5:=n5.blk
 have z5:=n5.size
 have lt5:b5<w5.heap.size:=by omega
 have o6:=r5
 refine lg_stw Wn r5 rfl rfl rfl (by kernel_rfl) (by kernel_rfl) rfl rfl fun w6 s6=>?_
 have r5:=s6.row
 have z6:=s6.size
 refine ZA ?_
 refine ZAn [0,4,5,6,7,8,9] ?_
 refine Qd ?_
 refine ZrM ?_
 by_cases c7:(ndGet xs).1=0
 ·refine Za (yb (dT c7) yi_eql) ?_
  refine ZM ?_
  refine Zt 21 y_move ?_
  refine Zt 21 (y_loadA r5) ?_
  have m4:=(m4.below (n5.below.mono (by omega))).below (s6.below _ (by omega))
  have u:=Un (Un (Un u n1.below) hw4) n5.below
  have u:=u.trans (s6.below _ (by omega))
  by_cases c8:fitK x ((ndGet xs).2.1).kind
  ·refine Zct 21 (mayStandO_any (m4.more (B':=w6.heap.size) (by omega)) (Nat.le_refl _) (by omega) (rg.up u)) rfl rfl ?_
   rintro u9 w9 ⟨e9,hw9⟩
   have zw9:=hw9.size
   obtain rfl:u9=.bool true:=e9.trans (congrArg Value.bool (decide_eq_true c8))
   refine Zt 21 y_bnot ?_
   refine Zan (y_pick true) [4,5,6,7,8,9,26] ?_
   refine Zcf [4,5,6,7,8,9] ?_
   refine Qd ?_
   refine ZrM ?_
   refine Zan (yb (nd_f c7) yi_neq) [4,5,6,7,8,9,28] ?_
   refine Zcf [4,5,6,7,8] ?_
   refine Zr ?_
   have r5:=RowAt.below hw9 r5.lt r5
   refine Za (y_loadA r5) ?_
   refine ZM ?_
   have r1:=RowAt.below hw4 r1.lt r1
   have r1:=n5.keep r1
   have r1:=s6.keep r1 (by omega)
   have r1:=RowAt.below hw9 r1.lt r1
   have o10:=r1
   refine lg_stw Wn r1 rfl rfl rfl (by kernel_rfl) (by kernel_rfl) rfl rfl fun w10 s10=>?_
   have r1:=s10.row
   have z10:=s10.size
   refine ZA ?_
   refine ZAnr [4,5,6] ?_
   have hst:ocAt x xs=(0,(ndGet xs).2.1,(ndGet xs).2.2):=by rw [ocAt,if_neg (by omega),if_neg (not_not_intro c7),if_neg (not_not_intro c8)]
   refine eg_ret_agg3 rfl rfl r1 (by kernel_rfl) (by kernel_rfl) rfl rfl ?_
   rw [hst]
   have m4:=(m4.below (hw9.mono (by omega))).setf o10 rfl f4 (by omega) s10
   have n4:=(n4.below (n5.below.mono (by omega))).set o6 rfl s6
   have n4:=(n4.below (hw9.mono (by omega))).set o10 rfl s10
   have u:=Un u hw9
   have u:=u.trans (s10.below _ (by omega))
   exact ⟨_,rfl,l4,r4,rfl,(m4.more (B':=w10.heap.size) (by omega)),n4,Fr.le f4 (by omega),o4,u⟩
  refine Zct 21 (mayStandO_any (m4.more (B':=w6.heap.size) (by omega)) (Nat.le_refl _) (by omega) (rg.up u)) rfl rfl ?_
  rintro u11 w11 ⟨e11,hw11⟩
  have zw11:=hw11.size
  obtain rfl:u11=.bool false:=e11.trans (congrArg Value.bool (decide_eq_false c8))
  refine Zt 21 y_bnot ?_
  refine Zan (y_pick true) [4,5,6,7,8,9,26] ?_
  refine cg_ct rfl ?_
  refine Qe ?_
  refine Zan (yv rfl y_assign) [4,5,6,7,8,9] ?_
  refine Qd ?_
  refine ZrM ?_
  refine Zan (yb (nd_t seven) yi_neq) [4,5,6,7,8,9,28] ?_
  refine cg_ct rfl ?_
  refine Zr ?_
  refine Za (y_build (cs:=NdV.zero.cs Nd.zero)) ?_
  refine ZM ?_
  have r1:=RowAt.below hw4 r1.lt r1
  have r1:=n5.keep r1
  have r1:=s6.keep r1 (by omega)
  have r1:=RowAt.below hw11 r1.lt r1
  have o12:=r1
  refine lg_stw Wn r1 rfl rfl rfl (by kernel_rfl) (by kernel_rfl) rfl rfl fun w12 s12=>?_
  have r1:=s12.row
  have z12:=s12.size
  refine ZA ?_
  refine ZAnr [4,7,8,5,6] ?_
  refine Qc ?_
  have hst:ocAt x xs=((7:Int),Nd.zero,[]):=by rw [ocAt,if_neg (by omega),if_neg (not_not_intro c7),if_pos c8]
  refine eg_ret_agg3 rfl rfl r1 (by kernel_rfl) (by kernel_rfl) rfl rfl ?_
  rw [hst]
  have u:=Un u hw11
  have u:=u.trans (s12.below _ (by omega))
  exact ⟨_,rfl,NdV.zero,nilS,rfl,((IsNd.zero _ 0).more (B':=w12.heap.size) (by omega)),(Sl.nil _ _),Fr.nil _,NdV.old_zero _,u⟩
 refine Za (yb (dF c7) yi_eql) ?_
 refine ZM ?_
 refine Zf 21 ?_
 refine Zf 21 ?_
 refine Zf 21 ?_
 refine Zf 21 ?_
 refine Zan (y_pick false) [4,5,6,7,8,9,26] ?_
 refine Zcf [4,5,6,7,8,9] ?_
 refine Qd ?_
 refine ZrM ?_
 refine Zan (yb (nd_t c7) yi_neq) [4,5,6,7,8,9,28] ?_
 refine cg_ct rfl ?_
 refine Zr ?_
 refine Za (y_build (cs:=NdV.zero.cs Nd.zero)) ?_
 refine ZM ?_
 have r1:=RowAt.below hw4 r1.lt r1
 have r1:=n5.keep r1
 have r1:=s6.keep r1 (by omega)
 have o13:=r1
 refine lg_stw Wn r1 rfl rfl rfl (by kernel_rfl) (by kernel_rfl) rfl rfl fun w13 s13=>?_
 have r1:=s13.row
 have z13:=s13.size
 refine ZA ?_
 refine ZAnr [4,7,8,5,6] ?_
 refine Qc ?_
 have hst:ocAt x xs=((ndGet xs).1,Nd.zero,[]):=by rw [ocAt,if_neg (by omega),if_pos c7]
 refine eg_ret_agg3 rfl rfl r1 (by kernel_rfl) (by kernel_rfl) rfl rfl ?_
 rw [hst]
 have u:=Un (Un (Un u n1.below) hw4) n5.below
 have u:=(u.trans (s6.below _ (by omega))).trans (s13.below _ (by omega))
 exact ⟨_,rfl,NdV.zero,nilS,rfl,((IsNd.zero _ 0).more (B':=w13.heap.size) (by omega)),(Sl.nil _ _),Fr.nil _,NdV.old_zero _,u⟩
theorem named1_any {W:World} {B:Nat} {s:SlV} {Ls:List Nd} (h:RwNd W B s Ls) (i x:Int) (hB:B≤W.heap.size) (hi:0≤i∧i<64) (rg:Tb W):Calls Tryz.prog 25 #[s.v,nv i,nv x] W fun e W'=>∃ v,e=.returned v∧v=.bool (decide (nmP Ls i x))∧Below W.heap.size W W':=by
 refine Qf (n:=56) Tryz.func25 rfl Tryz.ntmps25 (by simp) ?_
 show CG _ _ _ [(0,s.v),(1,nv i),(2,nv x)] _ _
 have u:=Below.refl W.heap.size W
 have h:=h.more hB
 have q1:=h.len
 have q2:=h.cap
 refine ZrA ?_
 refine Zn [0,1,2,6] ?_
 refine Qd ?_
 refine ZrM ?_
 refine Za (yi_mul rfl rfl rfl (by omega) (by omega)) ?_
 refine ZM ?_
 refine ZM ?_
 refine Za (y_lenM (el:=38) h.len) ?_
 by_cases c1:undI (2*i) x (Ls.length:Int)
 ·have hu:=c1
  have hin:=hu.1.le
  have hun:=hu.1
  refine Zc (under_any (2*i) x (Ls.length:Int) _ (rg.up u)) rfl rfl ?_
  rintro u2 w2 ⟨e2,hw2⟩
  have zw2:=hw2.size
  obtain rfl:u2=.bool true:=e2.trans (congrArg Value.bool (decide_eq_true c1))
  refine Za y_bnot ?_
  refine ZM ?_
  refine Zt 16 y_move ?_
  refine Zt 16 y_move ?_
  refine Zt 16 (yi_mul rfl rfl rfl (by omega) (by omega)) ?_
  have h:=h.below (hw2.mono (by omega))
  obtain ⟨eb3,eo3,el3,eL3,eA3,eB3,eg3,eh3,ec3⟩:=h.at ((2*i).toNat) (by have:=h.len;omega)
  refine Zt 16 (y_ixR (s:=s) (el:=38) (k:=8) (i:=(2*i).toNat) (iI:=(2*i)) eA3 (by kernel_rfl) (by kernel_rfl) (by omega) (by have:=h.len;omega) rfl rfl rfl) ?_
  refine Zt 16 (y_fld (off:=0)) ?_
  refine Zt 16 (y_celld (ec3 0 _ rfl)) ?_
  by_cases c4:eL3.kind=0
  ·refine Zt 16 (yb (dT c4) yi_eql) ?_
   refine Zan (y_pick false) [0,1,2,6,24] ?_
   refine cg_ct rfl ?_
   refine ZrA ?_
   refine Znr [0,1,2,6] ?_
   refine Qc ?_
   have u:=Un u hw2
   exact Qa rfl rfl ⟨_,rfl,congrArg Value.bool (dF (fun q=>q.2.1 (by rw [atN_some eg3];exact c4))).symm,u⟩
  refine Zt 16 (yb (dF c4) yi_eql) ?_
  refine Zan (y_pick false) [0,1,2,6,24] ?_
  refine Zcf [0,1,2,6] ?_
  refine Qd ?_
  refine ZrM ?_
  refine Za (yi_mul rfl rfl rfl (by omega) (by omega)) ?_
  refine ZM ?_
  refine Za (y_lenM (el:=38) h.len) ?_
  have u:=Un u hw2
  refine Zc (directF (2*i) (Ls.length:Int) _ (rg.up u)) rfl rfl ?_
  rintro _ w5 ⟨s5,rfl,m5,f5,hw5⟩
  have zw5:=hw5.size
  refine Za (y_lenM (el:=3) m5.len) ?_
  refine ZM ?_
  refine Zn [0,1,2,6,29,30,31] ?_
  refine Qj ?_
  obtain ⟨C,hC⟩:∃ q,q=w5.heap.size:=⟨_,rfl⟩
  have h:=h.below (hw5.mono (by omega))
  have u:=Un u hw5
  refine Qr (fun t a v=>Holds 56 [(0,s.v),(1,nv i),(2,nv x),(29,s5.v),(30,nv ((dirI (2*i) (Ls.length:Int)).length:Int)),(31,nv ((t:Nat):Int))] a∧RwNd v W.heap.size s Ls∧SlN v C s5 (dirI (2*i) (Ls.length:Int))∧Below W.heap.size W v∧C≤v.heap.size∧t≤ahead x (dirI (2*i) (Ls.length:Int))∧(∀ j,j<t→¬badN Ls i ((dirI (2*i) (Ls.length:Int)).getD j 0))) ((dirI (2*i) (Ls.length:Int)).length+1) (fun a ha=>⟨ha.keep (fk rfl (fk rfl (fk rfl (fk rfl (fk rfl (fk rfl fn)))))),h,(m5.more (by omega)),u,(by omega),(Nat.zero_le _),(fun j hj=>absurd hj (by omega))⟩) ?_
  rintro t a v ht ⟨ha,h,hd,u,cC,ta,hk⟩
  refine cg_at ha ?_
  clear ha a
  have zv:=u.size
  have q1:=h.len
  have q2:=h.cap
  have qd:=hd.len
  have al:=ahead_le x (dirI (2*i) (Ls.length:Int))
  have dl:=dirL (2*i) (Ls.length:Int)
  refine Zr ?_
  by_cases c6:((t:Nat):Int)<((dirI (2*i) (Ls.length:Int)).length:Int)
  ·refine Zan (yb (dT c6) yi_lss) [0,1,2,29,30,31,32] ?_
   refine Qd ?_
   refine cg_ct rfl ?_
   refine Zki [0,1,2,29,30,31] ?_
   refine Qd ?_
   refine Qj ?_
   refine Qd ?_
   have htn:t<(dirI (2*i) (Ls.length:Int)).length:=by omega
   have hdn:=(wayO_in hun _ (getD_in htn)).1.le
   refine Qe ?_
   refine Za (y_ixT (i:=t) (iI:=((t:Nat):Int)) hd (by omega) (by first | omega | (simp only [List.length_append,List.length_cons,List.length_nil];omega)) rfl rfl rfl) ?_
   refine Za (y_ldT (i:=t) hd (by first | omega | (simp only [List.length_append,List.length_cons,List.length_nil];omega)) rfl rfl) ?_
   refine ZAn [0,1,2,29,30,31,8] ?_
   refine Qd ?_
   refine ZrM ?_
   refine ZM ?_
   by_cases c7:((dirI (2*i) (Ls.length:Int)).getD t 0)=x
   ·refine Zan (yb (dT c7) yi_eql) [0,1,2,29,30,31,8,37] ?_
    refine cg_ct rfl ?_
    refine cg_exit ?_
    refine Qh ?_
    refine eg_block_other (by decide) ?_
    refine Qh ?_
    refine Qh ?_
    refine Ql ?_
    refine nx (E':=[]) fn ?_
    refine ZrA ?_
    refine Znr [6] ?_
    exact Qa rfl rfl ⟨_,rfl,congrArg Value.bool (dT ⟨hu,by rw [atN_some eg3];exact c4,fun j hj=>hk j (by rw [(ahead_is ta c7 htn)] at hj;exact hj)⟩).symm,u⟩
   refine Zan (yb (dF c7) yi_eql) [0,1,2,29,30,31,8,37] ?_
   refine Zcf [0,1,2,29,30,31,8] ?_
   refine ZrM ?_
   refine ZM ?_
   obtain ⟨eb8,eo8,el8,eL8,eA8,eB8,eg8,eh8,ec8⟩:=h.at (((dirI (2*i) (Ls.length:Int)).getD t 0).toNat) (by have:=h.len;omega)
   refine Za (y_ixR (s:=s) (el:=38) (k:=8) (i:=((dirI (2*i) (Ls.length:Int)).getD t 0).toNat) (iI:=((dirI (2*i) (Ls.length:Int)).getD t 0)) eA8 (by kernel_rfl) (by kernel_rfl) (by omega) (by have:=h.len;omega) rfl rfl rfl) ?_
   refine Za (y_fld (off:=0)) ?_
   refine Za (y_celld (ec8 0 _ rfl)) ?_
   by_cases c9:eL8.kind=2
   ·refine Za (yb (dT c9) yi_eql) ?_
    refine ZM ?_
    refine Zt 44 y_move ?_
    refine Zt 44 y_move ?_
    obtain ⟨eb10,eo10,el10,eL10,eA10,eB10,eg10,eh10,ec10⟩:=h.at (((dirI (2*i) (Ls.length:Int)).getD t 0).toNat) (by have:=h.len;omega)
    obtain rfl:eL8=eL10:=Option.some.inj (eg8.symm.trans eg10)
    refine Zt 44 (y_ixR (s:=s) (el:=38) (k:=8) (i:=((dirI (2*i) (Ls.length:Int)).getD t 0).toNat) (iI:=((dirI (2*i) (Ls.length:Int)).getD t 0)) eA10 (by kernel_rfl) (by kernel_rfl) (by omega) (by have:=h.len;omega) rfl rfl rfl) ?_
    refine Zt 44 (y_fld (off:=5)) ?_
    refine Zt 44 (y_fld (off:=2)) ?_
    refine Zt 44 (y_celld (ec10 7 _ rfl)) ?_
    refine Zt 44 y_move ?_
    by_cases c11:i∈eL8.inner.unm
    ·refine Zt 44 (yb (dT c11) (Qp (containsI_any eh10.inner.unm i))) ?_
     refine Zt 44 y_bnot ?_
     refine Zan (y_pick true) [0,1,2,29,30,31,54] ?_
     refine cg_cf rfl ?_
     refine cg_skip ?_
     refine Qi ?_
     refine Nx [0,1,2,29,30,31] ?_
     refine Qe ?_
     refine Za (yv (congrArg nv (show ((t:Nat):Int)+1=((t+1:Nat):Int) by omega)) (yi_add rfl rfl rfl (by omega) (by omega))) ?_
     refine ZM ?_
     refine Qk ?_
     have nb:¬badN Ls i ((dirI (2*i) (Ls.length:Int)).getD t 0):=(fun q=>q.2 (by rw [atN_some eg8];exact c11))
     exact fun a ha=>(show t<((dirI (2*i) (Ls.length:Int)).length+1)∧_ from ⟨(by omega),ha.keep (fk rfl (fk rfl (fk rfl (fk rfl (fk rfl (fk rfl fn)))))),h,hd,u,(by omega),(ahead_next ta c7 htn),(fun j hj=>if q:j<t then hk j q else (show j=t by omega)▸nb)⟩)
    refine Zt 44 (yb (dF c11) (Qp (containsI_any eh10.inner.unm i))) ?_
    refine Zt 44 y_bnot ?_
    refine Zan (y_pick true) [0,1,2,29,30,31,54] ?_
    refine cg_ct rfl ?_
    refine ZrA ?_
    refine Znr [0,1,2,29,30,31,6] ?_
    refine Qg ?_
    refine Qc ?_
    refine Qc ?_
    refine Qg ?_
    refine Qc ?_
    exact Qa rfl rfl ⟨_,rfl,congrArg Value.bool (dF (fun q=>q.2.2 t (ahead_next ta c7 htn) ⟨by rw [atN_some eg8];exact c9,by rw [atN_some eg8];exact c11⟩)).symm,u⟩
   refine Za (yb (dF c9) yi_eql) ?_
   refine ZM ?_
   refine Zf 44 ?_
   refine Zf 44 ?_
   refine Zf 44 ?_
   refine Zf 44 ?_
   refine Zf 44 ?_
   refine Zf 44 ?_
   refine Zf 44 ?_
   refine Zf 44 ?_
   refine Zf 44 ?_
   refine Zan (y_pick false) [0,1,2,29,30,31,54] ?_
   refine cg_cf rfl ?_
   refine cg_skip ?_
   refine Qi ?_
   refine Nx [0,1,2,29,30,31] ?_
   refine Qe ?_
   refine Za (yv (congrArg nv (show ((t:Nat):Int)+1=((t+1:Nat):Int) by omega)) (yi_add rfl rfl rfl (by omega) (by omega))) ?_
   refine ZM ?_
   refine Qk ?_
   have nb:¬badN Ls i ((dirI (2*i) (Ls.length:Int)).getD t 0):=(fun q=>c9 (by have z:=q.1;rwa [atN_some eg8] at z))
   exact fun a ha=>(show t<((dirI (2*i) (Ls.length:Int)).length+1)∧_ from ⟨(by omega),ha.keep (fk rfl (fk rfl (fk rfl (fk rfl (fk rfl (fk rfl fn)))))),h,hd,u,(by omega),(ahead_next ta c7 htn),(fun j hj=>if q:j<t then hk j q else (show j=t by omega)▸nb)⟩)
  refine Zan (yb (dF c6) yi_lss) [0,1,2,29,30,31,32] ?_
  refine Qd ?_
  refine cg_cf rfl ?_
  refine cg_exit ?_
  refine Qh ?_
  refine Qh ?_
  refine Ql ?_
  refine nx (E':=[]) fn ?_
  refine ZrA ?_
  refine Znr [6] ?_
  exact Qa rfl rfl ⟨_,rfl,congrArg Value.bool (dT ⟨hu,by rw [atN_some eg3];exact c4,fun j hj=>hk j (by rw [(show ahead x (dirI (2*i) (Ls.length:Int))=t by omega)] at hj;exact hj)⟩).symm,u⟩
 refine Zc (under_any (2*i) x (Ls.length:Int) _ (rg.up u)) rfl rfl ?_
 rintro u12 w12 ⟨e12,hw12⟩
 have zw12:=hw12.size
 obtain rfl:u12=.bool false:=e12.trans (congrArg Value.bool (decide_eq_false c1))
 refine Za y_bnot ?_
 refine ZM ?_
 refine Zf 16 ?_
 refine Zf 16 ?_
 refine Zf 16 ?_
 refine Zf 16 ?_
 refine Zf 16 ?_
 refine Zf 16 ?_
 refine Zf 16 ?_
 refine Zan (y_pick true) [0,1,2,6,24] ?_
 refine cg_ct rfl ?_
 refine ZrA ?_
 refine Znr [0,1,2,6] ?_
 refine Qc ?_
 have u:=Un u hw12
 exact Qa rfl rfl ⟨_,rfl,congrArg Value.bool (dF (fun q=>c1 q.1)).symm,u⟩
theorem namedO_any {W:World} {B:Nat} {s:SlV} {Ls:List Nd} (h:RwNd W B s Ls) (hB:B≤W.heap.size) (rg:Tb W):Calls Tryz.prog 10 #[s.v] W fun e W'=>∃ v,e=.returned v∧v=.bool (decide (namedL (trAs Ls)))∧Below W.heap.size W W':=by
 refine Qf (n:=32) Tryz.func10 rfl Tryz.ntmps10 (by simp) ?_
 show CG _ _ _ [(0,s.v)] _ _
 have u:=Below.refl W.heap.size W
 have h:=h.more hB
 have q1:=h.len
 have q2:=h.cap
 refine ZrA ?_
 refine Zn [0,2] ?_
 refine Qd ?_
 refine ZrM ?_
 by_cases c1:trIs Ls
 ·have hti:=c1
  have hll:=trIs_le hti
  refine Zc (sane_any (h.more (B':=W.heap.size) (by omega)) (Nat.le_refl _)) rfl rfl ?_
  rintro u2 w2 ⟨e2,hw2⟩
  have zw2:=hw2.size
  obtain rfl:u2=.bool true:=e2.trans (congrArg Value.bool (decide_eq_true c1))
  refine Zan y_bnot [0,2,9] ?_
  refine Zcf [0,2] ?_
  refine Qd ?_
  refine ZrM ?_
  have h:=h.below (hw2.mono (by omega))
  refine Za (y_lenM (el:=38) h.len) ?_
  refine ZM ?_
  refine Zn [0,2,10,11,12] ?_
  refine Qj ?_
  have u:=Un u hw2
  refine Qr (fun t a v=>Holds 32 [(0,s.v),(10,s.v),(11,nv (Ls.length:Int)),(12,nv ((t:Nat):Int))] a∧RwNd v W.heap.size s Ls∧Below W.heap.size W v∧t≤Ls.length∧(∀ y,y<t→∀ k,k<(atN Ls y).inner.unm.length→nmP Ls ((atN Ls y).inner.unm.getD k 0) (y:Int))) (Ls.length+1) (fun a ha=>⟨ha.keep (fk rfl (fk rfl (fk rfl (fk rfl fn)))),h,u,(Nat.zero_le _),(fun y hy=>absurd hy (Nat.not_lt_zero _))⟩) ?_
  rintro t a v ht ⟨ha,h,u,tle,hx⟩
  refine cg_at ha ?_
  clear ha a
  have zv:=u.size
  have q1:=h.len
  have q2:=h.cap
  refine Zr ?_
  by_cases c3:((t:Nat):Int)<(Ls.length:Int)
  ·refine Zan (yb (dT c3) yi_lss) [0,10,11,12,13] ?_
   refine Qd ?_
   refine cg_ct rfl ?_
   refine Zki [0,10,11,12] ?_
   refine Qd ?_
   refine Qj ?_
   refine Qd ?_
   have htn:t<Ls.length:=by omega
   obtain ⟨um,ul,uo⟩:=unmT_ok hti t
   obtain ⟨ebz4,eoz4,elz4,eLz4,eAz4,eBz4,egz4,ehz4,ecz4⟩:=h.at (t) (by have:=h.len;omega)
   have enz4:eLz4=atN Ls (t):=(atN_some egz4).symm
   subst enz4
   refine Qe ?_
   refine ZM ?_
   obtain ⟨eb5,eo5,el5,eL5,eA5,eB5,eg5,eh5,ec5⟩:=h.at (t) (by have:=h.len;omega)
   obtain rfl:(atN Ls t)=eL5:=Option.some.inj (egz4.symm.trans eg5)
   refine Za (y_ixR (s:=s) (el:=38) (k:=8) (i:=t) (iI:=((t:Nat):Int)) eA5 (by kernel_rfl) (by kernel_rfl) (by omega) (by have:=h.len;omega) rfl rfl rfl) ?_
   refine Za (y_loadC (cs:=el5.cs (atN Ls t)) ec5) ?_
   refine lg_allocw (cs:=NdV.zero.cs Nd.zero) Wn rfl (by kernel_rfl) rfl (by decide) fun b6 w6 n6=>?_
   have r6:=n6.row
   have k6:=n6.blk
   have z6:=n6.size
   have lt6:b6<w6.heap.size:=by omega
   refine ZA ?_
   have o7:=r6
   refine lg_stw Wn r6 rfl rfl rfl (by kernel_rfl) (by kernel_rfl) rfl rfl fun w7 s7=>?_
   have r6:=s7.row
   have z7:=s7.size
   refine Zn [0,10,11,12,4,3] ?_
   refine Zr ?_
   refine Za (y_fld (off:=5)) ?_
   refine Za (y_fld (off:=2)) ?_
   refine Za (Qo (v:=el5.inner.unm.v) r6 rfl (by kernel_rfl) rfl rfl) ?_
   have eh5:=(eh5.below (n6.below.mono (by omega))).below (s7.below _ (by omega))
   refine Za (y_lenM (el:=3) eh5.inner.unm.len) ?_
   refine ZM ?_
   refine Zn [0,10,11,12,3,19,20,21] ?_
   refine Qj ?_
   obtain ⟨C,hC⟩:∃ q,q=w7.heap.size:=⟨_,rfl⟩
   have h:=(h.below (n6.below.mono (by omega))).below (s7.below _ (by omega))
   have u:=Un u n6.below
   have u:=u.trans (s7.below _ (by omega))
   refine Qr (fun k a v=>Holds 32 [(0,s.v),(3,nv ((t:Nat):Int)),(10,s.v),(11,nv (Ls.length:Int)),(12,nv ((t:Nat):Int)),(19,el5.inner.unm.v),(20,nv ((atN Ls t).inner.unm.length:Int)),(21,nv ((k:Nat):Int))] a∧RwNd v W.heap.size s Ls∧SlN v C el5.inner.unm (atN Ls t).inner.unm∧Below W.heap.size W v∧C≤v.heap.size∧k≤(atN Ls t).inner.unm.length∧(∀ j,j<k→nmP Ls ((atN Ls t).inner.unm.getD j 0) (t:Int))) ((atN Ls t).inner.unm.length+1) (fun a ha=>⟨ha.keep (fk rfl (fk rfl (fk rfl (fk rfl (fk rfl (fk rfl (fk rfl (fk rfl fn)))))))),h,(eh5.inner.unm.more (by omega)),u,(by omega),(Nat.zero_le _),(fun j hj=>absurd hj (Nat.not_lt_zero _))⟩) ?_
   rintro k a v ht ⟨ha,h,hn,u,cC,kle,hy⟩
   refine cg_at ha ?_
   clear ha a
   have zv:=u.size
   have q1:=h.len
   have q2:=h.cap
   have qn:=hn.len
   refine Zr ?_
   by_cases c8:((k:Nat):Int)<((atN Ls t).inner.unm.length:Int)
   ·refine Zan (yb (dT c8) yi_lss) [0,3,10,11,12,19,20,21,22] ?_
    refine Qd ?_
    refine cg_ct rfl ?_
    refine Zki [0,3,10,11,12,19,20,21] ?_
    refine Qd ?_
    refine Qj ?_
    refine Qd ?_
    have hkn:k<(atN Ls t).inner.unm.length:=by omega
    have hi:=unmT_at hti hkn
    refine Qe ?_
    refine Za (y_ixT (i:=k) (iI:=((k:Nat):Int)) hn (by omega) (by first | omega | (simp only [List.length_append,List.length_cons,List.length_nil];omega)) rfl rfl rfl) ?_
    refine Za (y_ldT (i:=k) hn (by first | omega | (simp only [List.length_append,List.length_cons,List.length_nil];omega)) rfl rfl) ?_
    refine ZAn [0,3,10,11,12,19,20,21,6] ?_
    refine ZrM ?_
    refine ZM ?_
    refine ZM ?_
    by_cases c9:nmP Ls (((atN Ls t).inner.unm).getD k 0) ((t:Nat):Int)
    ·refine Zc (named1_any (h.more (B':=v.heap.size) (by omega)) (((atN Ls t).inner.unm).getD k 0) ((t:Nat):Int) (Nat.le_refl _) hi (rg.up u)) rfl rfl ?_
     rintro u10 w10 ⟨e10,hw10⟩
     have zw10:=hw10.size
     obtain rfl:u10=.bool true:=e10.trans (congrArg Value.bool (decide_eq_true c9))
     refine Zan y_bnot [0,3,10,11,12,19,20,21,29] ?_
     refine cg_cf rfl ?_
     refine cg_skip ?_
     refine Qi ?_
     refine Nx [0,3,10,11,12,19,20,21] ?_
     refine Qe ?_
     refine Za (yv (congrArg nv (show ((k:Nat):Int)+1=((k+1:Nat):Int) by omega)) (yi_add rfl rfl rfl (by omega) (by omega))) ?_
     refine ZM ?_
     refine Qk ?_
     have h:=h.below (hw10.mono (by omega))
     have hn:=hn.below (hw10.mono (by omega))
     have u:=Un u hw10
     exact fun a ha=>(show k<((atN Ls t).inner.unm.length+1)∧_ from ⟨(by omega),ha.keep (fk rfl (fk rfl (fk rfl (fk rfl (fk rfl (fk rfl (fk rfl (fk rfl fn)))))))),h,hn,u,(by omega),(by omega),(fun j hj=>if q:j<k then hy j q else (show j=k by omega)▸c9)⟩)
    refine Zc (named1_any (h.more (B':=v.heap.size) (by omega)) (((atN Ls t).inner.unm).getD k 0) ((t:Nat):Int) (Nat.le_refl _) hi (rg.up u)) rfl rfl ?_
    rintro u11 w11 ⟨e11,hw11⟩
    have zw11:=hw11.size
    obtain rfl:u11=.bool false:=e11.trans (congrArg Value.bool (decide_eq_false c9))
    refine Zan y_bnot [0,3,10,11,12,19,20,21,29] ?_
    refine cg_ct rfl ?_
    refine ZrA ?_
    refine Znr [0,3,10,11,12,19,20,21,2] ?_
    refine Qg ?_
    refine Qc ?_
    refine Qc ?_
    refine Qg ?_
    refine Qg ?_
    refine Qc ?_
    refine Qc ?_
    refine Qg ?_
    refine Qc ?_
    have u:=Un u hw11
    exact Qa rfl rfl ⟨_,rfl,congrArg Value.bool (dF (by rw [trAs_ok hti];exact fun q=>c9 (q t htn k hkn))).symm,u⟩
   refine Zan (yb (dF c8) yi_lss) [0,3,10,11,12,19,20,21,22] ?_
   refine Qd ?_
   refine cg_cf rfl ?_
   refine cg_exit ?_
   refine Qh ?_
   refine Qh ?_
   refine Ql ?_
   refine Qi ?_
   refine Nx [0,10,11,12] ?_
   refine Qe ?_
   refine Za (yv (congrArg nv (show ((t:Nat):Int)+1=((t+1:Nat):Int) by omega)) (yi_add rfl rfl rfl (by omega) (by omega))) ?_
   refine ZM ?_
   refine Qk ?_
   exact fun a ha=>(show t<(Ls.length+1)∧_ from ⟨(by omega),ha.keep (fk rfl (fk rfl (fk rfl (fk rfl fn)))),h,u,(by omega),(fun y hy'=>if q:y<t then hx y q else (show y=t by omega)▸fun j hj=>hy j (by omega))⟩)
  refine Zan (yb (dF c3) yi_lss) [0,10,11,12,13] ?_
  refine Qd ?_
  refine cg_cf rfl ?_
  refine cg_exit ?_
  refine Qh ?_
  refine Qh ?_
  refine Ql ?_
  refine nx (E':=[]) fn ?_
  refine ZrA ?_
  refine Znr [2] ?_
  exact Qa rfl rfl ⟨_,rfl,congrArg Value.bool (dT (by rw [trAs_ok hti];exact fun y hy k hk=>hx y (by omega) k hk)).symm,u⟩
 refine Zc (sane_any (h.more (B':=W.heap.size) (by omega)) (Nat.le_refl _)) rfl rfl ?_
 rintro u12 w12 ⟨e12,hw12⟩
 have zw12:=hw12.size
 obtain rfl:u12=.bool false:=e12.trans (congrArg Value.bool (decide_eq_false c1))
 refine Zan y_bnot [0,2,9] ?_
 refine cg_ct rfl ?_
 refine ZrA ?_
 refine Znr [0,2] ?_
 refine Qc ?_
 have u:=Un u hw12
 exact Qa rfl rfl ⟨_,rfl,congrArg Value.bool (dT (by rw [trAs_no c1];exact named_nil)).symm,u⟩
theorem putO_any {W:World} {B:Nat} {s:SlV} {Ls:List Nd} (h:RwNd W B s Ls) (hB:B≤W.heap.size):Calls Tryz.prog 12 #[s.v] W fun e W'=>∃ v,e=.returned v∧PutS W (opL (trAs Ls)) v W':=by
 refine Qf (n:=23) Tryz.func12 rfl Tryz.ntmps12 (by simp) ?_
 show CG _ _ _ [(0,s.v)] _ _
 have u:=Below.refl W.heap.size W
 have h:=h.more hB
 have q1:=h.len
 have q2:=h.cap
 obtain ⟨n1,n2⟩:=numO_le (trAs Ls)
 have n3:=trAs_le Ls
 have n4:=trAs_lel Ls
 have n5:(Ls.take (numO (trAs Ls))).length=(numO (trAs Ls)):=by rw [List.length_take];omega
 refine ZrA ?_
 refine Zn [0,2] ?_
 refine ZrA ?_
 refine Zn [0,2,3] ?_
 refine Qd ?_
 refine ZrM ?_
 refine ZM ?_
 refine Zc (last_any (h.more (B':=W.heap.size) (by omega)) (Nat.le_refl _)) rfl rfl ?_
 rintro _ w1 ⟨rfl,hw1⟩
 have zw1:=hw1.size
 refine Za (yv (congrArg nv n2) (yi_add rfl rfl rfl (by omega) (by omega))) ?_
 have h:=h.below (hw1.mono (by omega))
 have cu2:=RwNd.cast (Ms:=(Ls.take ((numO (trAs Ls))))) (h.cut 0 ((numO (trAs Ls))) s.c (by have q1:=h.len;have q2:=h.cap;omega) (by have q1:=h.len;have q2:=h.cap;omega) (by have q1:=h.len;have q2:=h.cap;omega) (by have q1:=h.len;have q2:=h.cap;omega)) (by rw [List.drop_zero])
 refine Za (y_cutR_h (s:=s) ((numO (trAs Ls))) (hi:=(((numO (trAs Ls)):Nat):Int)) (by have q1:=h.len;have q2:=h.cap;omega) (by have q1:=h.len;have q2:=h.cap;omega) rfl rfl rfl) ?_
 refine Za (y_lenM (el:=38) cu2.len) ?_
 refine ZM ?_
 refine Zn [2,3,10,11,12] ?_
 refine Qj ?_
 obtain ⟨C,hC⟩:∃ q,q=w1.heap.size:=⟨_,rfl⟩
 have u:=Un u hw1
 refine Qr (fun t a v=>∃ (qr:SlV),Holds 23 [(3,qr.v),(10,(⟨cutR s.A 0 s.c,((numO (trAs Ls)))-0,s.c-0⟩:SlV).v),(11,nv ((Ls.take (numO (trAs Ls))).length:Int)),(12,nv ((t:Nat):Int))] a∧RwNd v W.heap.size (⟨cutR s.A 0 s.c,((numO (trAs Ls)))-0,s.c-0⟩:SlV) (Ls.take (numO (trAs Ls)))∧v.ownsRow C 5 1 qr.v (putT ((Ls.take (numO (trAs Ls))).take t)).length ((putT ((Ls.take (numO (trAs Ls))).take t)).map (Value.int .u8))∧Sl v v.heap.size qr (putT ((Ls.take (numO (trAs Ls))).take t))∧Below W.heap.size W v∧C≤v.heap.size∧t≤(numO (trAs Ls))∧W.heap.size≤C) ((numO (trAs Ls))+1) (fun a ha=>⟨nilS,ha.keep (fk rfl (fk rfl (fk rfl (fk rfl fn)))),cu2,⟨rfl,.inl ⟨rfl,rfl⟩⟩,(Sl.nil _ _),u,(by omega),(Nat.zero_le _),(by omega)⟩) ?_
 rintro t a v ht ⟨qr,ha,hc,g0,hq,u,cC,tle,cW⟩
 refine cg_at ha ?_
 clear ha a
 have zv:=u.size
 have q1:=hc.len
 have q2:=hc.cap
 have pl:=putT_le ((Ls.take (numO (trAs Ls))).take t)
 have pt:((Ls.take (numO (trAs Ls))).take t).length≤127:=by rw [List.length_take];omega
 refine Zr ?_
 by_cases c3:((t:Nat):Int)<((Ls.take (numO (trAs Ls))).length:Int)
 ·refine Zan (yb (dT c3) yi_lss) [3,10,11,12,13] ?_
  refine Qd ?_
  refine cg_ct rfl ?_
  refine Zki [3,10,11,12] ?_
  refine Qd ?_
  refine Qj ?_
  refine Qd ?_
  have htn:t<(Ls.take (numO (trAs Ls))).length:=by omega
  obtain ⟨ebz4,eoz4,elz4,eLz4,eAz4,eBz4,egz4,ehz4,ecz4⟩:=hc.at (t) (by have:=hc.len;omega)
  have enz4:eLz4=atN (Ls.take (numO (trAs Ls))) (t):=(atN_some egz4).symm
  subst enz4
  refine Qe ?_
  obtain ⟨eb5,eo5,el5,eL5,eA5,eB5,eg5,eh5,ec5⟩:=hc.at (t) (by have:=hc.len;omega)
  obtain rfl:(atN (Ls.take (numO (trAs Ls))) t)=eL5:=Option.some.inj (egz4.symm.trans eg5)
  refine Za (y_ixR (s:=(⟨cutR s.A 0 s.c,((numO (trAs Ls)))-0,s.c-0⟩:SlV)) (el:=38) (k:=8) (i:=t) (iI:=((t:Nat):Int)) eA5 (by kernel_rfl) (by kernel_rfl) (by omega) (by have:=hc.len;omega) rfl rfl rfl) ?_
  refine Za (y_loadC (cs:=el5.cs (atN (Ls.take (numO (trAs Ls))) t)) ec5) ?_
  refine lg_allocw (cs:=NdV.zero.cs Nd.zero) Wn rfl (by kernel_rfl) rfl (by decide) fun b6 w6 n6=>?_
  have r6:=n6.row
  have k6:=n6.blk
  have z6:=n6.size
  have lt6:b6<w6.heap.size:=by omega
  have o7:=r6
  refine lg_stw Wn r6 rfl rfl rfl (by kernel_rfl) (by kernel_rfl) rfl rfl fun w7 s7=>?_
  have r6:=s7.row
  have z7:=s7.size
  refine Zn [3,10,11,12,5] ?_
  refine Qe ?_
  refine ZM ?_
  refine Za (y_loadA r6) ?_
  have eh5:=(eh5.below (n6.below.mono (by omega))).below (s7.below _ (by omega))
  refine Zc (putN_any ((Sl.nil _ 0).more (B':=w7.heap.size) (by omega)) (eh5.more (B':=w7.heap.size) (by omega)) (Nat.le_refl _) (by first | omega | (simp only [List.length_nil];omega))) rfl rfl ?_
  rintro _ w8 ⟨r8,rfl,m8,hw8⟩
  have zw8:=hw8.size
  rw [List.nil_append] at m8
  have lp8:=ndPut_le (atN (Ls.take (numO (trAs Ls))) t)
  have obg0n6:=own_newb n6 g0
  have g0:=own_below g0 n6.below
  have g0:=own_setN g0 s7 obg0n6
  have g0:=own_below g0 hw8
  refine lg_appS g0 hq.bytes m8 (by first | omega | (simp only [List.length_append,List.length_nil];omega)) (by omega) Wn rfl rfl rfl rfl rfl (by decide) fun r9 w9 m9 g9 l9 z9=>?_
  refine ZA ?_
  refine Qk ?_
  refine Qi ?_
  refine Nx [10,11,12,3] ?_
  refine Qe ?_
  refine Za (yv (congrArg nv (show ((t:Nat):Int)+1=((t+1:Nat):Int) by omega)) (yi_add rfl rfl rfl (by omega) (by omega))) ?_
  refine ZM ?_
  refine Qk ?_
  have hc:=(hc.below (n6.below.mono (by omega))).below (s7.below _ (by omega))
  have hc:=(hc.below (hw8.mono (by omega))).below (l9.mono (by omega))
  have u:=Un u n6.below
  have u:=u.trans (s7.below _ (by omega))
  have u:=Un u hw8
  have u:=u.trans (l9.mono (by omega))
  exact fun a ha=>(show t<((numO (trAs Ls))+1)∧_ from ⟨(by omega),r9,ha.keep (fk rfl (fk rfl (fk rfl (fk rfl fn)))),hc,(by rw [putT_step htn];exact g9),(by rw [putT_step htn];exact m9.more (by omega)),u,(by omega),(by omega),cW⟩)
 refine Zan (yb (dF c3) yi_lss) [3,10,11,12,13] ?_
 refine Qd ?_
 refine cg_cf rfl ?_
 refine cg_exit ?_
 refine Qh ?_
 refine Qh ?_
 refine Ql ?_
 refine Nx [3] ?_
 refine ZrM ?_
 refine Zc (putBytes_S (Sl.nil _ 0) hq (by omega) (by omega) (by first | omega | (simp only [List.length_nil];omega))) rfl rfl ?_
 rintro _ w10 ⟨r10,rfl,m10,hw10⟩
 have zw10:=hw10.size
 rw [List.nil_append] at m10
 have lb10:=bytesOct_le (putT ((Ls.take (numO (trAs Ls))).take t))
 refine ZAnr [2] ?_
 have u:=Un u hw10
 obtain rfl:t=(numO (trAs Ls)):=by omega
 exact Qa rfl rfl ⟨_,rfl,r10,rfl,(m10.more (by omega)).cast (by rw [opL,←take_as,List.take_take,Nat.min_self]),u⟩
end Go.Proofs.YtognnnjdoemgfaaGreatDoor
