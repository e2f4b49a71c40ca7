/-
  A leaf with a key; the document's example.
-/
import Derived.Test.YtfdmhdnlmndhdaaGreatDoorEdDo
namespace Go.Proofs.YtfdmhdnlmndhdaaGreatDoor
open Go.ChangeShapes Go.WideShapes Go.ChangeAt Go.RowKit
set_option linter.unusedVariables false

set_option maxRecDepth 20000
/-- A leaf with a key, from somewhere. -/
abbrev leafK (k f:Int):Lf:=⟨[((maskK k 127:Nat):Int)+1],[],f,[]⟩
theorem mask127 (m:Int):maskK m 127<128:=by
 unfold maskK
 rw [BitVec.toNat_and,BitVec.toNat_ofNat]
 exact Nat.lt_of_le_of_lt Nat.and_le_right (by decide)
theorem leafK_any (k f:Int) (W:World):Calls Tryz.prog 29 #[nv k,nv f] W fun e W'=>∃ v,e=.returned v∧∃ l:LfV,v=.agg (l.cs (leafK k f))∧IsLf W' W'.heap.size l (leafK k f)∧Below W.heap.size W W':=by
 refine Qf (n:=12) Tryz.func29 rfl Tryz.ntmps29 (by simp) ?_
 show CG _ _ _ [(0,nv k),(1,nv f)] _ _
 have u:=Below.refl W.heap.size W
 have mk:=mask127 k
 refine Zr ?_
 refine lg_allocw (cs:=LfV.zero.cs Lf.zero) Wn rfl (by kernel_rfl) rfl (by decide) fun b1 w1 n1=>?_
 have r1:=n1.row
 have k1:=n1.blk
 have z1:=n1.size
 have lt1:b1<w1.heap.size:=by omega
 refine Zn [0,1,4] ?_
 refine ZrM ?_
 refine Za (y_maskW 127 (by decide) rfl rfl rfl) ?_
 refine Za (yi_add rfl rfl rfl (by omega) (by omega)) ?_
 refine Za (yv (show ov (toB (((maskK k 127:Nat):Int)+1))=.int .u8 (((maskK k 127:Nat):Int)+1) from congrArg (Value.int .u8) (vb_toB ⟨by omega,by omega⟩)) (y_to8 (by kernel_rfl) rfl rfl)) ?_
 refine lg_bslice (z:=.int .u8 0) (cs:=#[.int .u8 (((maskK k 127:Nat):Int)+1)]) huo24 (by kernel_rfl) (by decide) (by decide) rfl rfl (by kernel_rfl) rfl rfl (by decide) fun b2 w2 n2=>?_
 have r2:=n2.row
 have k2:=n2.blk
 have z2:=n2.size
 have m2:Sl w2 (b2+1) ⟨some ⟨b2,0,none⟩,1,1⟩ [(((maskK k 127:Nat):Int)+1)]:=⟨Nat.le_refl _,of_decide_eq_true (by kernel_rfl),oct_lit r2 rfl (by intro z hz;obtain rfl:=List.mem_singleton.1 hz;omega)⟩
 refine ZM ?_
 refine Za (y_build (cs:=(⟨(⟨some ⟨b2,0,none⟩,1,1⟩:SlV),nilS,nilS⟩:LfV).cs (⟨([(((maskK k 127:Nat):Int)+1)]:List Int),[],f,[]⟩:Lf))) ?_
 have r1:=n2.keep r1
 have o3:=r1
 refine lg_stw Wn r1 rfl rfl rfl (by kernel_rfl) (by kernel_rfl) rfl rfl fun w3 s3=>?_
 have r1:=s3.row
 have z3:=s3.size
 refine Znr [4] ?_
 have m2:=m2.set o3 rfl s3
 have u:=Un (Un u n1.below) n2.below
 have u:=u.trans (s3.below _ (by omega))
 exact eg_ret_agg rfl rfl r1 (by kernel_rfl) (by kernel_rfl) ⟨_,rfl,(⟨(⟨some ⟨b2,0,none⟩,1,1⟩:SlV),nilS,nilS⟩:LfV),rfl,(show IsLf w3 w3.heap.size (⟨(⟨some ⟨b2,0,none⟩,1,1⟩:SlV),nilS,nilS⟩:LfV) (⟨([(((maskK k 127:Nat):Int)+1)]:List Int),[],f,[]⟩:Lf) from ⟨(m2.more (B':=w3.heap.size) (by omega)),((Sl.nil _ 0).more (B':=w3.heap.size) (by omega)),((Sl.nil _ 0).more (B':=w3.heap.size) (by omega))⟩),u⟩
abbrev aT0:List Nd:=[]
abbrev aT1:List Nd:=[leafN (leafK 1 1)]
abbrev aT2:List Nd:=[leafN (leafK 1 1),Nd.zero,leafN (leafK 2 1)]
abbrev aT3:List Nd:=[leafN (leafK 1 1),Nd.zero,leafN (leafK 2 1),Nd.zero,leafN (leafK 3 1),Nd.zero,Nd.zero]
abbrev aT4:List Nd:=[leafN (leafK 1 1),Nd.zero,Nd.zero,Nd.zero,leafN (leafK 3 1),Nd.zero,Nd.zero]
abbrev aT5:List Nd:=[leafN (leafK 1 1),Nd.zero,leafN (leafK 4 1),Nd.zero,leafN (leafK 3 1),Nd.zero,Nd.zero]
theorem aA0:addL (trAs aT0) (leafK 1 1)=aT1∧addI (trAs aT0) (leafK 1 1)=0∧addE (trAs aT0) (leafK 1 1)=0:=⟨by kernel_rfl,by kernel_rfl,by kernel_rfl⟩
theorem aA1:addL (trAs aT1) (leafK 2 1)=aT2∧addI (trAs aT1) (leafK 2 1)=1∧addE (trAs aT1) (leafK 2 1)=0:=⟨by kernel_rfl,by kernel_rfl,by kernel_rfl⟩
theorem aA2:addL (trAs aT2) (leafK 3 1)=aT3∧addI (trAs aT2) (leafK 3 1)=2∧addE (trAs aT2) (leafK 3 1)=0:=⟨by kernel_rfl,by kernel_rfl,by kernel_rfl⟩
theorem aA4:addL (trAs aT4) (leafK 4 1)=aT5∧addI (trAs aT4) (leafK 4 1)=1∧addE (trAs aT4) (leafK 4 1)=0:=⟨by kernel_rfl,by kernel_rfl,by kernel_rfl⟩
theorem aR:remL (trAs aT3) 1=aT4∧hadE (trAs aT3) 1=0:=⟨by kernel_rfl,by kernel_rfl⟩
theorem aC:chaL (trAs aT5) 9 (leafK 5 2)=[]∧chaE (trAs aT5) 9 (leafK 5 2)=3:=⟨by kernel_rfl,by kernel_rfl⟩
theorem aIs:trIs aT5:=of_decide_eq_true (by kernel_rfl)
theorem aV:verL (trAs aT5):=by
 rw [trAs_ok aIs]
 intro i hi
 refine ⟨isN_of aIs (by omega) (by omega),fun k=>?_⟩
 have key:∀ j,j<7→¬(atN aT5 j).kind=2:=of_decide_eq_true (by kernel_rfl)
 exact absurd k (key i hi)
set_option maxHeartbeats 4000000 in
theorem awakeE_any (W:World) (rg:Tt W):Calls Tryz.prog 10 #[] W fun e W'=>∃ v,e=.returned v∧v=.bool true∧Below W.heap.size W W':=by
 refine Qf (n:=102) Tryz.func10 rfl Tryz.ntmps10 (by simp) ?_
 show CG _ _ _ [] _ _
 have u:=Below.refl W.heap.size W
 refine ZrA ?_
 refine Zn [0] ?_
 refine Zr ?_
 refine Zc (leafK_any 1 1 _) rfl rfl ?_
 rintro _ w1 ⟨l1,rfl,m1,hw1⟩
 have zw1:=hw1.size
 have u:=Un u hw1
 refine Zc ((by have z:=add_any (RwNd.nil _ _) (m1.more (B':=w1.heap.size) (by omega)) (Nat.le_refl _) (Tt.up u rg);rwa [aA0.1,aA0.2.1,aA0.2.2] at z)) rfl rfl ?_
 rintro _ w2 ⟨s2,rfl,m2,hw2⟩
 have zw2:=hw2.size
 refine ZM ?_
 refine Za y_extract ?_
 refine Za y_extract ?_
 refine Za y_extract ?_
 refine ZA ?_
 refine ZA ?_
 refine ZAn [0,1,2,3] ?_
 refine ZrM ?_
 refine Zc (leafK_any 2 1 _) rfl rfl ?_
 rintro _ w3 ⟨l3,rfl,m3,hw3⟩
 have zw3:=hw3.size
 have m2:=m2.below (hw3.mono (by omega))
 have u:=Un (Un u hw2) hw3
 refine Zc ((by have z:=add_any (m2.more (B':=w3.heap.size) (by omega)) (m3.more (B':=w3.heap.size) (by omega)) (Nat.le_refl _) (Tt.up u rg);rwa [aA1.1,aA1.2.1,aA1.2.2] at z)) rfl rfl ?_
 rintro _ w4 ⟨s4,rfl,m4,hw4⟩
 have zw4:=hw4.size
 refine ZM ?_
 refine Za y_extract ?_
 refine Za y_extract ?_
 refine Za y_extract ?_
 refine ZA ?_
 refine ZA ?_
 refine ZAn [0,2,3,4,5,6] ?_
 refine ZrM ?_
 refine Zc (leafK_any 3 1 _) rfl rfl ?_
 rintro _ w5 ⟨l5,rfl,m5,hw5⟩
 have zw5:=hw5.size
 have m4:=m4.below (hw5.mono (by omega))
 have u:=Un (Un u hw4) hw5
 refine Zc ((by have z:=add_any (m4.more (B':=w5.heap.size) (by omega)) (m5.more (B':=w5.heap.size) (by omega)) (Nat.le_refl _) (Tt.up u rg);rwa [aA2.1,aA2.2.1,aA2.2.2] at z)) rfl rfl ?_
 rintro _ w6 ⟨s6,rfl,m6,hw6⟩
 have zw6:=hw6.size
 refine ZM ?_
 refine Za y_extract ?_
 refine Za y_extract ?_
 refine Za y_extract ?_
 refine ZA ?_
 refine ZA ?_
 refine ZAn [0,2,3,5,6,7,8,9] ?_
 refine ZrM ?_
 have u:=Un u hw6
 refine Zc ((by have z:=rem_any (m6.more (B':=w6.heap.size) (by omega)) 1 (Nat.le_refl _) (Tt.up u rg);rwa [aR.1,aR.2] at z)) rfl rfl ?_
 rintro _ w7 ⟨s7,rfl,m7,hw7⟩
 have zw7:=hw7.size
 refine ZM ?_
 refine Za y_extract ?_
 refine Za y_extract ?_
 refine ZA ?_
 refine ZAn [0,2,3,5,6,8,9,10,11] ?_
 refine ZrM ?_
 refine Zc (leafK_any 4 1 _) rfl rfl ?_
 rintro _ w8 ⟨l8,rfl,m8,hw8⟩
 have zw8:=hw8.size
 have m7:=m7.below (hw8.mono (by omega))
 have u:=Un (Un u hw7) hw8
 refine Zc ((by have z:=add_any (m7.more (B':=w8.heap.size) (by omega)) (m8.more (B':=w8.heap.size) (by omega)) (Nat.le_refl _) (Tt.up u rg);rwa [aA4.1,aA4.2.1,aA4.2.2] at z)) rfl rfl ?_
 rintro _ w9 ⟨s9,rfl,m9,hw9⟩
 have zw9:=hw9.size
 refine ZM ?_
 refine Za y_extract ?_
 refine Za y_extract ?_
 refine Za y_extract ?_
 refine ZA ?_
 refine ZA ?_
 refine ZAn [0,2,3,5,6,8,9,11,12,13,14] ?_
 refine ZrM ?_
 refine Zc (leafK_any 5 2 _) rfl rfl ?_
 rintro _ w10 ⟨l10,rfl,m10,hw10⟩
 have zw10:=hw10.size
 have m9:=m9.below (hw10.mono (by omega))
 have u:=Un (Un u hw9) hw10
 refine Zc ((by have z:=cha_any (m9.more (B':=w10.heap.size) (by omega)) 9 (m10.more (B':=w10.heap.size) (by omega)) (Nat.le_refl _) (Tt.up u rg);rwa [aC.1,aC.2] at z)) rfl rfl ?_
 rintro _ w11 ⟨s11,rfl,m11,hw11⟩
 have zw11:=hw11.size
 refine ZM ?_
 refine Za y_extract ?_
 refine Za y_extract ?_
 refine ZA ?_
 refine ZAn [0,2,3,5,6,8,9,11,12,13,14,16] ?_
 refine ZrM ?_
 refine Za (yb (dT rfl) yi_eql) ?_
 refine ZM ?_
 refine Zt 57 y_move ?_
 refine Zt 57 (yb (dT rfl) yi_eql) ?_
 refine Za (y_pick true) ?_
 refine ZM ?_
 refine Zt 61 y_move ?_
 refine Zt 61 (yb (dT rfl) yi_eql) ?_
 refine Za (y_pick true) ?_
 refine ZM ?_
 refine Zt 65 y_move ?_
 refine Zt 65 (yb (dT rfl) yi_eql) ?_
 refine Za (y_pick true) ?_
 refine ZM ?_
 refine Zt 69 y_move ?_
 refine Zt 69 (yb (dT rfl) yi_eql) ?_
 refine Za (y_pick true) ?_
 refine ZM ?_
 refine Zt 73 y_move ?_
 refine Zt 73 (yb (dT rfl) yi_eql) ?_
 refine Za (y_pick true) ?_
 refine ZM ?_
 refine Zt 77 y_move ?_
 refine Zt 77 (yb (dT rfl) yi_eql) ?_
 refine Za (y_pick true) ?_
 refine ZM ?_
 refine Zt 81 y_move ?_
 refine Zt 81 (yb (dT rfl) yi_eql) ?_
 refine Za (y_pick true) ?_
 refine ZM ?_
 refine Zt 85 y_move ?_
 refine Zt 85 (yb (dT rfl) yi_eql) ?_
 refine Za (y_pick true) ?_
 refine ZM ?_
 refine Zt 89 y_move ?_
 have m9:=m9.below (hw11.mono (by omega))
 refine Zt 89 (y_lenM (el:=50) m9.len) ?_
 refine Zt 89 (yb (dT (show (aT5.length:Int)=7 from (show (aT5.length:Int)=7 from rfl))) yi_eql) ?_
 refine Za (y_pick true) ?_
 refine ZM ?_
 refine Zt 94 y_move ?_
 refine Zt 94 (yb (dT rfl) yi_eql) ?_
 refine Za (y_pick true) ?_
 refine ZM ?_
 refine Zt 98 y_move ?_
 have u:=Un u hw11
 refine Zct 98 (verify_any (m9.more (B':=w11.heap.size) (by omega)) (Nat.le_refl _) (Tt.up u rg)) rfl rfl ?_
 rintro u12 w12 ⟨e12,hw12⟩
 have zw12:=hw12.size
 obtain rfl:u12=.bool true:=e12.trans (congrArg Value.bool (decide_eq_true aV))
 refine Za (y_pick true) ?_
 refine ZAnr [0] ?_
 have u:=Un u hw12
 exact Qa rfl rfl ⟨_,rfl,rfl,u⟩
end Go.Proofs.YtfdmhdnlmndhdaaGreatDoor
