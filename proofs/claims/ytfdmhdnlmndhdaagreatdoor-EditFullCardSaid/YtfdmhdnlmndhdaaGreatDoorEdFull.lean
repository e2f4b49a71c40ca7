/-
  There is room for sixty-four.
-/
import Derived.Test.YtfdmhdnlmndhdaaGreatDoorEdAwake
import Derived.Test.YtfdmhdnlmndhdaaGreatDoorTrRef
import Derived.Test.YtfdmhdnlmndhdaaGreatDoorEdMore
namespace Go.Proofs.YtfdmhdnlmndhdaaGreatDoor
open Go.ChangeShapes Go.WideShapes Go.ChangeAt Go.RowKit
set_option linter.unusedVariables false

set_option maxRecDepth 20000
set_option maxHeartbeats 4000000 in
theorem editFull_any {W:World} (n k:Int) (rg:Tt W):Calls Tryz.prog 7 #[nv n,nv k] W fun e W'=>∃ v,e=.returned v∧v=.bool true∧Below W.heap.size W W':=by
 refine Qf (n:=66) Tryz.func7 rfl Tryz.ntmps7 (by simp) ?_
 show CG _ _ _ [(0,nv n),(1,nv k)] _ _
 have u:=Below.refl W.heap.size W
 refine ZrA ?_
 refine Zn [0,1,4] ?_
 refine Zr ?_
 refine Zc (awakeE_any _ (Tt.up u rg)) rfl rfl ?_
 rintro _ w1 ⟨rfl,hw1⟩
 have zw1:=hw1.size
 refine ZAn [0,1,4,5] ?_
 refine Qd ?_
 refine ZrM ?_
 by_cases c2:n<0
 ·refine Za (yb (dT c2) yi_lss) ?_
  refine ZM ?_
  refine Zf 15 ?_
  refine Zf 15 ?_
  refine Zan (y_pick true) [0,1,4,5,18] ?_
  refine cg_ct rfl ?_
  refine ZrM ?_
  refine ZAnr [0,1,5,4] ?_
  refine Qc ?_
  have u:=Un u hw1
  exact Qa rfl rfl ⟨_,rfl,rfl,u⟩
 refine Za (yb (dF c2) yi_lss) ?_
 refine ZM ?_
 refine Zt 15 y_move ?_
 by_cases c3:70<n
 ·refine Zt 15 (yb (dT c3) yi_gtr) ?_
  refine Zan (y_pick false) [0,1,4,5,18] ?_
  refine cg_ct rfl ?_
  refine ZrM ?_
  refine ZAnr [0,1,5,4] ?_
  refine Qc ?_
  have u:=Un u hw1
  exact Qa rfl rfl ⟨_,rfl,rfl,u⟩
 refine Zt 15 (yb (dF c3) yi_gtr) ?_
 refine Zan (y_pick false) [0,1,4,5,18] ?_
 refine Zcf [0,1,4,5] ?_
 refine ZrA ?_
 refine Zn [0,1,4,5,6] ?_
 refine ZrA ?_
 refine Zn [0,1,4,5,6,7] ?_
 refine Qd ?_
 refine ZrA ?_
 refine Zn [0,1,4,5,6,7,8] ?_
 refine Qj ?_
 have u:=Un u hw1
 refine Qr (fun t a v=>∃ (sT:SlV) (T:List Nd) (w:Int),Holds 66 [(0,nv n),(1,nv k),(5,.bool true),(6,sT.v),(7,nv w),(8,nv ((t:Nat):Int))] a∧Below W.heap.size W v∧RwNd v v.heap.size sT T∧fullT (min t 64) T∧w=wN (min t 64)∧(t:Int)≤n) 80 (fun a ha=>⟨nilS,[],0,ha.keep (fk rfl (fk rfl (fk rfl (fk rfl (fk rfl (fk rfl fn)))))),u,(RwNd.nil _ _),full_nil,rfl,(by omega)⟩) ?_
 rintro t a v ht ⟨sT,T,w,ha,u,hT,hf,hw,tle⟩
 refine cg_at ha ?_
 clear ha a
 have zv:=u.size
 have hTa:=trAs_ok hf.1
 have hTl:=trIs_le hf.1
 have hwl:=wN_le (min t 64)
 have q1:=hT.len
 refine Qd ?_
 refine ZrM ?_
 refine ZM ?_
 by_cases c4:((t:Nat):Int)<n
 ·refine Zan (yb (dT c4) yi_lss) [0,1,5,6,7,8,22] ?_
  refine cg_ct rfl ?_
  refine Zki [0,1,5,6,7,8] ?_
  refine Qd ?_
  refine Qj ?_
  refine ZrM ?_
  refine ZM ?_
  refine Zc (leafK_any k 1 _) rfl rfl ?_
  rintro _ w5 ⟨l5,rfl,m5,hw5⟩
  have zw5:=hw5.size
  have hT:=hT.below (hw5.mono (by omega))
  have u:=Un u hw5
  refine Zc ((by have z:=add_any (hT.more (B':=w5.heap.size) (by omega)) (m5.more (B':=w5.heap.size) (by omega)) (Nat.le_refl _) (Tt.up u rg);rwa [hTa] at z)) rfl rfl ?_
  rintro _ w6 ⟨s6,rfl,m6,hw6⟩
  have zw6:=hw6.size
  refine ZM ?_
  refine Za y_extract ?_
  refine Za y_extract ?_
  refine Za y_extract ?_
  refine ZA ?_
  refine ZA ?_
  refine ZAn [0,1,5,6,7,8,9,10,11] ?_
  refine Qd ?_
  refine ZrM ?_
  by_cases c7:64≤((t:Nat):Int)
  ·have hfe:=full_end (l:=(leafK k 1)) (by rw [show min t 64=64 by omega] at hf;exact hf) (srcE_is (leafK_ok k) rfl)
   refine Zan (yb (dT c7) yi_geq) [0,1,5,6,7,8,9,10,11,34] ?_
   refine cg_ct rfl ?_
   refine Qd ?_
   refine ZrM ?_
   refine Za (yb (nd_f (show (addE T (leafK k 1))=10 from hfe.1)) yi_neq) ?_
   refine ZM ?_
   refine Zt 37 y_move ?_
   refine Zt 37 (y_lenM (el:=50) m6.len) ?_
   refine Zt 37 (yb (dF (show ¬(0<((addL T (leafK k 1)).length:Int)) from (len_none hfe.2))) yi_gtr) ?_
   refine Zan (y_pick false) [0,1,5,6,7,8,9,10,11,41] ?_
   refine Zcf [0,1,5,6,7,8,9,10,11] ?_
   refine cg_exit ?_
   refine Qh ?_
   refine Ql ?_
   refine Nx [0,1,5,6,7,8] ?_
   refine Qe ?_
   refine ZM ?_
   refine Za (yv (congrArg nv (show ((t:Nat):Int)+1=((t+1:Nat):Int) by omega)) (yi_add rfl rfl rfl (by omega) (by omega))) ?_
   refine ZA ?_
   refine Qk ?_
   have hT:=hT.below (hw6.mono (by omega))
   have u:=Un u hw6
   exact fun a ha=>(show t<80∧_ from ⟨(by omega),sT,T,w,ha.keep (fk rfl (fk rfl (fk rfl (fk rfl (fk rfl (fk rfl fn)))))),u,((hT.more (B':=w6.heap.size) (by omega))),(by rw [show min (t+1) 64=min t 64 by omega];exact hf),(by rw [show min (t+1) 64=min t 64 by omega];exact hw),(by omega)⟩)
  have hm:min t 64=t:=by omega
  rw [hm] at hf hw hwl
  have hst:=wN_step (n:=t) (by omega)
  have hfa:=full_add (l:=(leafK k 1)) hf (by omega) (srcE_is (leafK_ok k) rfl)
  refine Zan (yb (dF c7) yi_geq) [0,1,5,6,7,8,9,10,11,34] ?_
  refine Zcf [0,1,5,6,7,8,9,10,11] ?_
  refine Qd ?_
  refine ZrM ?_
  by_cases c8:w=0
  ·refine Zan (yb (dT c8) yi_eql) [0,1,5,6,7,8,9,10,11,43] ?_
   refine cg_ct rfl ?_
   refine Qe ?_
   refine ZAn [0,1,5,6,8,9,10,11,7] ?_
   refine Qd ?_
   refine Qj ?_
   obtain ⟨C,hC⟩:∃ q,q=w6.heap.size:=⟨_,rfl⟩
   have u:=Un u hw6
   refine Qr (fun q a v=>∃ (w2:Int),Holds 66 [(0,nv n),(1,nv k),(5,.bool true),(7,nv w2),(8,nv ((t:Nat):Int)),(9,s6.v),(10,nv (addI T (leafK k 1))),(11,nv (addE T (leafK k 1)))] a∧Below W.heap.size W v∧RwNd v v.heap.size s6 (addL T (leafK k 1))∧((q=0∧w2=1)∨(q=1∧w2=2*1+1∧1≤2*(t:Int)))) 3 (fun a ha=>⟨1,ha.keep (fk rfl (fk rfl (fk rfl (fk rfl (fk rfl (fk rfl (fk rfl (fk rfl fn)))))))),u,(m6.more (B':=w6.heap.size) (by omega)),(.inl ⟨rfl,rfl⟩)⟩) ?_
   rintro q a v ht ⟨w2,ha,u,hA,hq⟩
   refine cg_at ha ?_
   clear ha a
   have zv:=u.size
   refine Qd ?_
   refine ZrM ?_
   refine Za (yi_mul rfl rfl rfl (by omega) (by omega)) ?_
   refine ZM ?_
   by_cases c9:w2≤(2*((t:Nat):Int))
   ·refine Zan (yb (dT c9) yi_geq) [0,1,5,7,8,9,10,11,47] ?_
    refine cg_ct rfl ?_
    refine Zki [0,1,5,7,8,9,10,11] ?_
    refine Qj ?_
    refine Qe ?_
    refine ZM ?_
    refine Za (yi_mul rfl rfl rfl (by omega) (by omega)) ?_
    refine Za (yi_add rfl rfl rfl (by omega) (by omega)) ?_
    refine ZA ?_
    refine Qk ?_
    refine Qi ?_
    exact fun a ha=>(show q<3∧_ from ⟨(by omega),((2*w2)+1),ha.keep (fk rfl (fk rfl (fk rfl (fk rfl (fk rfl (fk rfl (fk rfl (fk rfl fn)))))))),u,hA,(by omega)⟩)
   have hw2:w2=wN (t+1):=by omega
   refine Zan (yb (dF c9) yi_geq) [0,1,5,7,8,9,10,11,47] ?_
   refine cg_cf rfl ?_
   refine cg_exit ?_
   refine Qh ?_
   refine Qh ?_
   refine Ql ?_
   refine Nx [0,1,5,7,8,9,10,11] ?_
   refine Qd ?_
   refine ZrM ?_
   refine Za (yb (nd_f (show (addE T (leafK k 1))=0 from hfa.1)) yi_neq) ?_
   refine ZM ?_
   refine Zt 53 y_move ?_
   refine Zt 53 y_move ?_
   refine Zt 53 (yb (nd_f (show (addI T (leafK k 1))=((t:Nat):Int) from hfa.2.1)) yi_neq) ?_
   refine Za (y_pick false) ?_
   refine ZM ?_
   refine Zt 58 y_move ?_
   refine Zt 58 (y_lenM (el:=50) hA.len) ?_
   refine Zt 58 y_move ?_
   refine Zt 58 (yb (nd_f (show ((addL T (leafK k 1)).length:Int)=w2 from (hfa.2.2.2.1.trans hw2.symm))) yi_neq) ?_
   refine Zan (y_pick false) [0,1,5,7,8,9,63] ?_
   refine Zcf [0,1,5,7,8,9] ?_
   refine Qe ?_
   refine ZM ?_
   refine ZA ?_
   refine Qk ?_
   refine Qi ?_
   refine Nx [0,1,5,7,8,6] ?_
   refine Qe ?_
   refine ZM ?_
   refine Za (yv (congrArg nv (show ((t:Nat):Int)+1=((t+1:Nat):Int) by omega)) (yi_add rfl rfl rfl (by omega) (by omega))) ?_
   refine ZA ?_
   refine Qk ?_
   exact fun a ha=>(show t<80∧_ from ⟨(by omega),s6,(addL T (leafK k 1)),w2,ha.keep (fk rfl (fk rfl (fk rfl (fk rfl (fk rfl (fk rfl fn)))))),u,(hA.more (B':=v.heap.size) (by omega)),(by rw [show min (t+1) 64=t+1 by omega];exact hfa.2.2),(by rw [show min (t+1) 64=t+1 by omega];exact hw2),(by omega)⟩)
  refine Zan (yb (dF c8) yi_eql) [0,1,5,6,7,8,9,10,11,43] ?_
  refine Zcf [0,1,5,6,7,8,9,10,11] ?_
  refine Qd ?_
  refine Qj ?_
  obtain ⟨C,hC⟩:∃ q,q=w6.heap.size:=⟨_,rfl⟩
  have u:=Un u hw6
  refine Qr (fun q a v=>∃ (w2:Int),Holds 66 [(0,nv n),(1,nv k),(5,.bool true),(7,nv w2),(8,nv ((t:Nat):Int)),(9,s6.v),(10,nv (addI T (leafK k 1))),(11,nv (addE T (leafK k 1)))] a∧Below W.heap.size W v∧RwNd v v.heap.size s6 (addL T (leafK k 1))∧((q=0∧w2=w)∨(q=1∧w2=2*w+1∧w≤2*(t:Int)))) 3 (fun a ha=>⟨w,ha.keep (fk rfl (fk rfl (fk rfl (fk rfl (fk rfl (fk rfl (fk rfl (fk rfl fn)))))))),u,(m6.more (B':=w6.heap.size) (by omega)),(.inl ⟨rfl,rfl⟩)⟩) ?_
  rintro q a v ht ⟨w2,ha,u,hA,hq⟩
  refine cg_at ha ?_
  clear ha a
  have zv:=u.size
  refine Qd ?_
  refine ZrM ?_
  refine Za (yi_mul rfl rfl rfl (by omega) (by omega)) ?_
  refine ZM ?_
  by_cases c10:w2≤(2*((t:Nat):Int))
  ·refine Zan (yb (dT c10) yi_geq) [0,1,5,7,8,9,10,11,47] ?_
   refine cg_ct rfl ?_
   refine Zki [0,1,5,7,8,9,10,11] ?_
   refine Qj ?_
   refine Qe ?_
   refine ZM ?_
   refine Za (yi_mul rfl rfl rfl (by omega) (by omega)) ?_
   refine Za (yi_add rfl rfl rfl (by omega) (by omega)) ?_
   refine ZA ?_
   refine Qk ?_
   refine Qi ?_
   exact fun a ha=>(show q<3∧_ from ⟨(by omega),((2*w2)+1),ha.keep (fk rfl (fk rfl (fk rfl (fk rfl (fk rfl (fk rfl (fk rfl (fk rfl fn)))))))),u,hA,(by omega)⟩)
  have hw2:w2=wN (t+1):=by omega
  refine Zan (yb (dF c10) yi_geq) [0,1,5,7,8,9,10,11,47] ?_
  refine cg_cf rfl ?_
  refine cg_exit ?_
  refine Qh ?_
  refine Qh ?_
  refine Ql ?_
  refine Nx [0,1,5,7,8,9,10,11] ?_
  refine Qd ?_
  refine ZrM ?_
  refine Za (yb (nd_f (show (addE T (leafK k 1))=0 from hfa.1)) yi_neq) ?_
  refine ZM ?_
  refine Zt 53 y_move ?_
  refine Zt 53 y_move ?_
  refine Zt 53 (yb (nd_f (show (addI T (leafK k 1))=((t:Nat):Int) from hfa.2.1)) yi_neq) ?_
  refine Za (y_pick false) ?_
  refine ZM ?_
  refine Zt 58 y_move ?_
  refine Zt 58 (y_lenM (el:=50) hA.len) ?_
  refine Zt 58 y_move ?_
  refine Zt 58 (yb (nd_f (show ((addL T (leafK k 1)).length:Int)=w2 from (hfa.2.2.2.1.trans hw2.symm))) yi_neq) ?_
  refine Zan (y_pick false) [0,1,5,7,8,9,63] ?_
  refine Zcf [0,1,5,7,8,9] ?_
  refine Qe ?_
  refine ZM ?_
  refine ZA ?_
  refine Qk ?_
  refine Qi ?_
  refine Nx [0,1,5,7,8,6] ?_
  refine Qe ?_
  refine ZM ?_
  refine Za (yv (congrArg nv (show ((t:Nat):Int)+1=((t+1:Nat):Int) by omega)) (yi_add rfl rfl rfl (by omega) (by omega))) ?_
  refine ZA ?_
  refine Qk ?_
  exact fun a ha=>(show t<80∧_ from ⟨(by omega),s6,(addL T (leafK k 1)),w2,ha.keep (fk rfl (fk rfl (fk rfl (fk rfl (fk rfl (fk rfl fn)))))),u,(hA.more (B':=v.heap.size) (by omega)),(by rw [show min (t+1) 64=t+1 by omega];exact hfa.2.2),(by rw [show min (t+1) 64=t+1 by omega];exact hw2),(by omega)⟩)
 refine Zan (yb (dF c4) yi_lss) [0,1,5,6,7,8,22] ?_
 refine cg_cf rfl ?_
 refine cg_exit ?_
 refine Qh ?_
 refine Qh ?_
 refine Ql ?_
 refine Nx [5] ?_
 refine ZrM ?_
 refine ZAnr [4] ?_
 exact Qa rfl rfl ⟨_,rfl,rfl,u⟩
end Go.Proofs.YtfdmhdnlmndhdaaGreatDoor
