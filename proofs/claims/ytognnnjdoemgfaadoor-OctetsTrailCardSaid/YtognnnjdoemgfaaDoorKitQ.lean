/-
  KitQ: LfRef, LfRefG, PnRef, NdRef.
-/
import Derived.Test.YtognnnjdoemgfaaDoorKitP
namespace Go.Proofs.YtognnnjdoemgfaaDoor
open Go.ChangeShapes Go.WideShapes Go.ChangeAt Go.RowKit
set_option linter.unusedVariables false

/- LfRef:
  The document's Few, Check, Same and Put.
-/
theorem few_any {W:World} {B:Nat} {l:LfV} {L:Lf} (hl:IsLf W B l L) (hB:B≤W.heap.size):Calls Tryd.prog 46 #[.agg (l.cs L)] W fun e W'=>∃ v,e=.returned v∧v=.bool (decide (lfFew L))∧Below W.heap.size W W':=by
 refine Qf (n:=15) Tryd.func46 rfl Tryd.ntmps46 (by simp) ?_
 show CG _ _ _ [(0,.agg (l.cs L))] _ _
 have u:=Below.refl W.heap.size W
 refine Zr ?_
 refine lg_boxw Wn rfl rfl (by kernel_rfl) rfl (by decide) fun b1 w1 n1=>?_
 have r1:=n1.row
 have k1:=n1.blk
 have z1:=n1.size
 have lt1:b1<w1.heap.size:=by omega
 refine ZAn [1,2] ?_
 refine Zr ?_
 refine Za (y_fld (off:=0)) ?_
 refine Za (Qo (v:=l.enc.v) r1 rfl (by kernel_rfl) rfl rfl) ?_
 have hl:=hl.below (n1.below.mono (by omega))
 refine Za (y_lenS (el:=5) hl.enc) ?_
 refine Za (y_fld (off:=1)) ?_
 refine Za (Qo (v:=l.cred.v) r1 rfl (by kernel_rfl) rfl rfl) ?_
 refine Za (y_lenS (el:=5) hl.cred) ?_
 refine Za yi_addW ?_
 refine Za (y_fld (off:=3)) ?_
 refine Za (Qo (v:=l.par.v) r1 rfl (by kernel_rfl) rfl rfl) ?_
 refine Za (y_lenS (el:=5) hl.par) ?_
 refine Za yi_addW ?_
 refine Za yi_leq ?_
 refine ZAnr [2] ?_
 have u:=Un u n1.below
 exact Qa rfl rfl ⟨_,rfl,rfl,u⟩
theorem rsame_any {W:World} {B:Nat} {l m:LfV} {L M:Lf} (hl:IsLf W B l L) (hm:IsLf W B m M) (hB:B≤W.heap.size):Calls Tryd.prog 48 #[.agg (l.cs L),.agg (m.cs M)] W fun e W'=>∃ v,e=.returned v∧v=.bool (decide (LfSame L M))∧Below W.heap.size W W':=by
 refine Qf (n:=37) Tryd.func48 rfl Tryd.ntmps48 (by simp) ?_
 show CG _ _ _ [(0,.agg (l.cs L)),(1,.agg (m.cs M))] _ _
 have u:=Below.refl W.heap.size W
 refine Zr ?_
 refine lg_boxw Wn rfl rfl (by kernel_rfl) rfl (by decide) fun b1 w1 n1=>?_
 have r1:=n1.row
 have k1:=n1.blk
 have z1:=n1.size
 have lt1:b1<w1.heap.size:=by omega
 refine lg_boxw Wn rfl rfl (by kernel_rfl) rfl (by decide) fun b2 w2 n2=>?_
 have r2:=n2.row
 have k2:=n2.blk
 have z2:=n2.size
 have lt2:b2<w2.heap.size:=by omega
 refine ZAn [2,3,4] ?_
 refine Zr ?_
 refine Za (y_fld (off:=0)) ?_
 have r1:=n2.keep r1
 refine Za (Qo (v:=l.enc.v) r1 rfl (by kernel_rfl) rfl rfl) ?_
 have hl:=(hl.below (n1.below.mono (by omega))).below (n2.below.mono (by omega))
 have by3:Bytes L.enc:=hl.enc.bytes
 refine Za (y_strS hl.enc) ?_
 refine Za (y_fld (off:=0)) ?_
 refine Za (Qo (v:=m.enc.v) r2 rfl (by kernel_rfl) rfl rfl) ?_
 have hm:=(hm.below (n1.below.mono (by omega))).below (n2.below.mono (by omega))
 have by4:Bytes M.enc:=hm.enc.bytes
 refine Za (y_strS hm.enc) ?_
 by_cases c5:L.enc=M.enc
 ·refine Za (yb (dT c5) (y_seqS (xs:=L.enc) (ys:=M.enc) by3 by4)) ?_
  refine ZM ?_
  refine Zt 12 (y_fld (off:=1)) ?_
  refine Zt 12 (Qo (v:=l.cred.v) r1 rfl (by kernel_rfl) rfl rfl) ?_
  have by6:Bytes L.cred:=hl.cred.bytes
  refine Zt 12 (y_strS hl.cred) ?_
  refine Zt 12 (y_fld (off:=1)) ?_
  refine Zt 12 (Qo (v:=m.cred.v) r2 rfl (by kernel_rfl) rfl rfl) ?_
  have by7:Bytes M.cred:=hm.cred.bytes
  refine Zt 12 (y_strS hm.cred) ?_
  by_cases c8:L.cred=M.cred
  ·refine Zt 12 (yb (dT c8) (y_seqS (xs:=L.cred) (ys:=M.cred) by6 by7)) ?_
   refine Za (y_pick true) ?_
   refine ZM ?_
   refine Zt 21 (y_fld (off:=2)) ?_
   refine Zt 21 (Qo (v:=nv L.src) r1 rfl (by kernel_rfl) rfl rfl) ?_
   refine Zt 21 (y_fld (off:=2)) ?_
   refine Zt 21 (Qo (v:=nv M.src) r2 rfl (by kernel_rfl) rfl rfl) ?_
   by_cases c9:L.src=M.src
   ·refine Zt 21 (yb (dT c9) yi_eql) ?_
    refine Za (y_pick true) ?_
    refine ZM ?_
    refine Zt 28 (y_fld (off:=3)) ?_
    refine Zt 28 (Qo (v:=l.par.v) r1 rfl (by kernel_rfl) rfl rfl) ?_
    have by10:Bytes L.par:=hl.par.bytes
    refine Zt 28 (y_strS hl.par) ?_
    refine Zt 28 (y_fld (off:=3)) ?_
    refine Zt 28 (Qo (v:=m.par.v) r2 rfl (by kernel_rfl) rfl rfl) ?_
    have by11:Bytes M.par:=hm.par.bytes
    refine Zt 28 (y_strS hm.par) ?_
    by_cases c12:L.par=M.par
    ·refine Zt 28 (yb (dT c12) (y_seqS (xs:=L.par) (ys:=M.par) by10 by11)) ?_
     refine Za (y_pick true) ?_
     refine ZAnr [4] ?_
     have u:=Un (Un u n1.below) n2.below
     exact Qa rfl rfl ⟨_,rfl,congrArg Value.bool (show true=decide (LfSame L M) from (dT (by simp [LfSame, *])).symm),u⟩
    refine Zt 28 (yb (dF c12) (y_seqS (xs:=L.par) (ys:=M.par) by10 by11)) ?_
    refine Za (y_pick true) ?_
    refine ZAnr [4] ?_
    have u:=Un (Un u n1.below) n2.below
    exact Qa rfl rfl ⟨_,rfl,congrArg Value.bool (show false=decide (LfSame L M) from (dF (by simp [LfSame, *])).symm),u⟩
   refine Zt 21 (yb (dF c9) yi_eql) ?_
   refine Za (y_pick true) ?_
   refine ZM ?_
   refine Zf 28 ?_
   refine Zf 28 ?_
   refine Zf 28 ?_
   refine Zf 28 ?_
   refine Zf 28 ?_
   refine Zf 28 ?_
   refine Zf 28 ?_
   refine Za (y_pick false) ?_
   refine ZAnr [4] ?_
   have u:=Un (Un u n1.below) n2.below
   exact Qa rfl rfl ⟨_,rfl,congrArg Value.bool (show false=decide (LfSame L M) from (dF (by simp [LfSame, *])).symm),u⟩
  refine Zt 12 (yb (dF c8) (y_seqS (xs:=L.cred) (ys:=M.cred) by6 by7)) ?_
  refine Za (y_pick true) ?_
  refine ZM ?_
  refine Zf 21 ?_
  refine Zf 21 ?_
  refine Zf 21 ?_
  refine Zf 21 ?_
  refine Zf 21 ?_
  refine Za (y_pick false) ?_
  refine ZM ?_
  refine Zf 28 ?_
  refine Zf 28 ?_
  refine Zf 28 ?_
  refine Zf 28 ?_
  refine Zf 28 ?_
  refine Zf 28 ?_
  refine Zf 28 ?_
  refine Za (y_pick false) ?_
  refine ZAnr [4] ?_
  have u:=Un (Un u n1.below) n2.below
  exact Qa rfl rfl ⟨_,rfl,congrArg Value.bool (show false=decide (LfSame L M) from (dF (by simp [LfSame, *])).symm),u⟩
 refine Za (yb (dF c5) (y_seqS (xs:=L.enc) (ys:=M.enc) by3 by4)) ?_
 refine ZM ?_
 refine Zf 12 ?_
 refine Zf 12 ?_
 refine Zf 12 ?_
 refine Zf 12 ?_
 refine Zf 12 ?_
 refine Zf 12 ?_
 refine Zf 12 ?_
 refine Za (y_pick false) ?_
 refine ZM ?_
 refine Zf 21 ?_
 refine Zf 21 ?_
 refine Zf 21 ?_
 refine Zf 21 ?_
 refine Zf 21 ?_
 refine Za (y_pick false) ?_
 refine ZM ?_
 refine Zf 28 ?_
 refine Zf 28 ?_
 refine Zf 28 ?_
 refine Zf 28 ?_
 refine Zf 28 ?_
 refine Zf 28 ?_
 refine Zf 28 ?_
 refine Za (y_pick false) ?_
 refine ZAnr [4] ?_
 have u:=Un (Un u n1.below) n2.below
 exact Qa rfl rfl ⟨_,rfl,congrArg Value.bool (show false=decide (LfSame L M) from (dF (by simp [LfSame, *])).symm),u⟩
/- LfRefG:
  The document's Get.
-/

/- PnRef:
  The document's Few, Check, Same, Put and Get.
-/
section
set_option maxHeartbeats 1000000
theorem fewP_any {W:World} {B:Nat} {l:PnV} {L:Pn} (hl:IsPn W B l L) (hB:B≤W.heap.size):Calls Tryd.prog 47 #[.agg (l.cs L)] W fun e W'=>∃ v,e=.returned v∧v=.bool (decide (pnFew L))∧Below W.heap.size W W':=by
 refine Qf (n:=15) Tryd.func47 rfl Tryd.ntmps47 (by simp) ?_
 show CG _ _ _ [(0,.agg (l.cs L))] _ _
 have u:=Below.refl W.heap.size W
 refine Zr ?_
 refine lg_boxw Wn rfl rfl (by kernel_rfl) rfl (by decide) fun b1 w1 n1=>?_
 have r1:=n1.row
 have k1:=n1.blk
 have z1:=n1.size
 have lt1:b1<w1.heap.size:=by omega
 refine ZAn [1,2] ?_
 refine Zr ?_
 refine Za (y_fld (off:=0)) ?_
 refine Za (Qo (v:=l.enc.v) r1 rfl (by kernel_rfl) rfl rfl) ?_
 have hl:=hl.below (n1.below.mono (by omega))
 refine Za (y_lenS (el:=5) hl.enc) ?_
 refine Za (y_fld (off:=1)) ?_
 refine Za (Qo (v:=l.hash.v) r1 rfl (by kernel_rfl) rfl rfl) ?_
 refine Za (y_lenS (el:=5) hl.hash) ?_
 refine Za yi_addW ?_
 refine Za (y_fld (off:=2)) ?_
 refine Za (Qo (v:=l.unm.v) r1 rfl (by kernel_rfl) rfl rfl) ?_
 refine Za (y_lenM (el:=3) hl.unm.len) ?_
 refine Za yi_addW ?_
 refine Za yi_leq ?_
 refine ZAnr [2] ?_
 have u:=Un u n1.below
 exact Qa rfl rfl ⟨_,rfl,rfl,u⟩
theorem rsameP_any {W:World} {B:Nat} {l m:PnV} {L M:Pn} (hl:IsPn W B l L) (hm:IsPn W B m M) (hB:B≤W.heap.size):Calls Tryd.prog 49 #[.agg (l.cs L),.agg (m.cs M)] W fun e W'=>∃ v,e=.returned v∧v=.bool (decide (PnSame L M))∧Below W.heap.size W W':=by
 refine Qf (n:=28) Tryd.func49 rfl Tryd.ntmps49 (by simp) ?_
 show CG _ _ _ [(0,.agg (l.cs L)),(1,.agg (m.cs M))] _ _
 have u:=Below.refl W.heap.size W
 refine Zr ?_
 refine lg_boxw Wn rfl rfl (by kernel_rfl) rfl (by decide) fun b1 w1 n1=>?_
 have r1:=n1.row
 have k1:=n1.blk
 have z1:=n1.size
 have lt1:b1<w1.heap.size:=by omega
 refine lg_boxw Wn rfl rfl (by kernel_rfl) rfl (by decide) fun b2 w2 n2=>?_
 have r2:=n2.row
 have k2:=n2.blk
 have z2:=n2.size
 have lt2:b2<w2.heap.size:=by omega
 refine ZAn [2,3,4] ?_
 refine Zr ?_
 refine Za (y_fld (off:=0)) ?_
 have r1:=n2.keep r1
 refine Za (Qo (v:=l.enc.v) r1 rfl (by kernel_rfl) rfl rfl) ?_
 have hl:=(hl.below (n1.below.mono (by omega))).below (n2.below.mono (by omega))
 have by3:Bytes L.enc:=hl.enc.bytes
 refine Za (y_strS hl.enc) ?_
 refine Za (y_fld (off:=0)) ?_
 refine Za (Qo (v:=m.enc.v) r2 rfl (by kernel_rfl) rfl rfl) ?_
 have hm:=(hm.below (n1.below.mono (by omega))).below (n2.below.mono (by omega))
 have by4:Bytes M.enc:=hm.enc.bytes
 refine Za (y_strS hm.enc) ?_
 by_cases c5:L.enc=M.enc
 ·refine Za (yb (dT c5) (y_seqS (xs:=L.enc) (ys:=M.enc) by3 by4)) ?_
  refine ZM ?_
  refine Zt 12 (y_fld (off:=1)) ?_
  refine Zt 12 (Qo (v:=l.hash.v) r1 rfl (by kernel_rfl) rfl rfl) ?_
  have by6:Bytes L.hash:=hl.hash.bytes
  refine Zt 12 (y_strS hl.hash) ?_
  refine Zt 12 (y_fld (off:=1)) ?_
  refine Zt 12 (Qo (v:=m.hash.v) r2 rfl (by kernel_rfl) rfl rfl) ?_
  have by7:Bytes M.hash:=hm.hash.bytes
  refine Zt 12 (y_strS hm.hash) ?_
  by_cases c8:L.hash=M.hash
  ·refine Zt 12 (yb (dT c8) (y_seqS (xs:=L.hash) (ys:=M.hash) by6 by7)) ?_
   refine Za (y_pick true) ?_
   refine ZM ?_
   refine Zt 21 (y_fld (off:=2)) ?_
   refine Zt 21 (Qo (v:=l.unm.v) r1 rfl (by kernel_rfl) rfl rfl) ?_
   refine Zt 21 (y_fld (off:=2)) ?_
   refine Zt 21 (Qo (v:=m.unm.v) r2 rfl (by kernel_rfl) rfl rfl) ?_
   by_cases c9:L.unm=M.unm
   ·refine Zct 21 (ints_S hl.unm hm.unm (by omega) (by omega)) rfl rfl ?_
    rintro u10 w10 ⟨e10,hw10⟩
    have zw10:=hw10.size
    obtain rfl:u10=.bool true:=e10.trans (congrArg Value.bool (decide_eq_true c9))
    refine Za (y_pick true) ?_
    refine ZAnr [4] ?_
    have u:=Un (Un (Un u n1.below) n2.below) hw10
    exact Qa rfl rfl ⟨_,rfl,congrArg Value.bool (show true=decide (PnSame L M) from (dT (by simp [PnSame, *])).symm),u⟩
   refine Zct 21 (ints_S hl.unm hm.unm (by omega) (by omega)) rfl rfl ?_
   rintro u11 w11 ⟨e11,hw11⟩
   have zw11:=hw11.size
   obtain rfl:u11=.bool false:=e11.trans (congrArg Value.bool (decide_eq_false c9))
   refine Za (y_pick true) ?_
   refine ZAnr [4] ?_
   have u:=Un (Un (Un u n1.below) n2.below) hw11
   exact Qa rfl rfl ⟨_,rfl,congrArg Value.bool (show false=decide (PnSame L M) from (dF (by simp [PnSame, *])).symm),u⟩
  refine Zt 12 (yb (dF c8) (y_seqS (xs:=L.hash) (ys:=M.hash) by6 by7)) ?_
  refine Za (y_pick true) ?_
  refine ZM ?_
  refine Zf 21 ?_
  refine Zf 21 ?_
  refine Zf 21 ?_
  refine Zf 21 ?_
  refine Zf 21 ?_
  refine Za (y_pick false) ?_
  refine ZAnr [4] ?_
  have u:=Un (Un u n1.below) n2.below
  exact Qa rfl rfl ⟨_,rfl,congrArg Value.bool (show false=decide (PnSame L M) from (dF (by simp [PnSame, *])).symm),u⟩
 refine Za (yb (dF c5) (y_seqS (xs:=L.enc) (ys:=M.enc) by3 by4)) ?_
 refine ZM ?_
 refine Zf 12 ?_
 refine Zf 12 ?_
 refine Zf 12 ?_
 refine Zf 12 ?_
 refine Zf 12 ?_
 refine Zf 12 ?_
 refine Zf 12 ?_
 refine Za (y_pick false) ?_
 refine ZM ?_
 refine Zf 21 ?_
 refine Zf 21 ?_
 refine Zf 21 ?_
 refine Zf 21 ?_
 refine Zf 21 ?_
 refine Za (y_pick false) ?_
 refine ZAnr [4] ?_
 have u:=Un (Un u n1.below) n2.below
 exact Qa rfl rfl ⟨_,rfl,congrArg Value.bool (show false=decide (PnSame L M) from (dF (by simp [PnSame, *])).symm),u⟩
end
/- NdRef:
  The document's Few, Check, As, Put, Get, Same, and what is summed up.
-/
section
set_option maxHeartbeats 1000000
theorem fewN_any {W:World} {B:Nat} {l:NdV} {L:Nd} (hl:IsNd W B l L) (hB:B≤W.heap.size):Calls Tryd.prog 28 #[.agg (l.cs L)] W fun e W'=>∃ v,e=.returned v∧v=.bool (decide (ndFew L))∧Below W.heap.size W W':=by
 refine Qf (n:=11) Tryd.func28 rfl Tryd.ntmps28 (by simp) ?_
 show CG _ _ _ [(0,.agg (l.cs L))] _ _
 have u:=Below.refl W.heap.size W
 refine Zr ?_
 refine lg_boxw Wn rfl rfl (by kernel_rfl) rfl (by decide) fun b1 w1 n1=>?_
 have r1:=n1.row
 have k1:=n1.blk
 have z1:=n1.size
 have lt1:b1<w1.heap.size:=by omega
 refine ZAn [1,2] ?_
 refine Zr ?_
 refine Za (y_fld (off:=1)) ?_
 refine Za (y_part r1 (m:=4) rfl (show 1+4≤8 by decide) (by kernel_rfl) (by kernel_rfl) rfl rfl) ?_
 have hl:=hl.below (n1.below.mono (by omega))
 by_cases c2:lfFew L.leaf
 ·refine Zc (few_any (hl.leaf.more (B':=w1.heap.size) (by omega)) (Nat.le_refl _)) rfl rfl ?_
  rintro u3 w3 ⟨e3,hw3⟩
  have zw3:=hw3.size
  obtain rfl:u3=.bool true:=e3.trans (congrArg Value.bool (decide_eq_true c2))
  refine ZM ?_
  refine Zt 6 (y_fld (off:=5)) ?_
  have r1:=RowAt.below hw3 r1.lt r1
  refine Zt 6 (y_part r1 (m:=3) rfl (show 5+3≤8 by decide) (by kernel_rfl) (by kernel_rfl) rfl rfl) ?_
  have hl:=hl.below (hw3.mono (by omega))
  by_cases c4:pnFew L.inner
  ·refine Zct 6 (fewP_any (hl.inner.more (B':=w3.heap.size) (by omega)) (Nat.le_refl _)) rfl rfl ?_
   rintro u5 w5 ⟨e5,hw5⟩
   have zw5:=hw5.size
   obtain rfl:u5=.bool true:=e5.trans (congrArg Value.bool (decide_eq_true c4))
   refine Za (y_pick true) ?_
   refine ZAnr [2] ?_
   have u:=Un (Un (Un u n1.below) hw3) hw5
   exact Qa rfl rfl ⟨_,rfl,congrArg Value.bool (show true=decide (ndFew L) from (dT (by simp [ndFew,c2,c4])).symm),u⟩
  refine Zct 6 (fewP_any (hl.inner.more (B':=w3.heap.size) (by omega)) (Nat.le_refl _)) rfl rfl ?_
  rintro u6 w6 ⟨e6,hw6⟩
  have zw6:=hw6.size
  obtain rfl:u6=.bool false:=e6.trans (congrArg Value.bool (decide_eq_false c4))
  refine Za (y_pick true) ?_
  refine ZAnr [2] ?_
  have u:=Un (Un (Un u n1.below) hw3) hw6
  exact Qa rfl rfl ⟨_,rfl,congrArg Value.bool (show false=decide (ndFew L) from (dF (by simp [ndFew,c2,c4])).symm),u⟩
 refine Zc (few_any (hl.leaf.more (B':=w1.heap.size) (by omega)) (Nat.le_refl _)) rfl rfl ?_
 rintro u7 w7 ⟨e7,hw7⟩
 have zw7:=hw7.size
 obtain rfl:u7=.bool false:=e7.trans (congrArg Value.bool (decide_eq_false c2))
 refine ZM ?_
 refine Zf 6 ?_
 refine Zf 6 ?_
 refine Zf 6 ?_
 refine Za (y_pick false) ?_
 refine ZAnr [2] ?_
 have u:=Un (Un u n1.below) hw7
 exact Qa rfl rfl ⟨_,rfl,congrArg Value.bool (show false=decide (ndFew L) from (dF (by simp [ndFew,c2])).symm),u⟩
theorem rsameN_any {W:World} {B:Nat} {l m:NdV} {L M:Nd} (hl:IsNd W B l L) (hm:IsNd W B m M) (hB:B≤W.heap.size):Calls Tryd.prog 29 #[.agg (l.cs L),.agg (m.cs M)] W fun e W'=>∃ v,e=.returned v∧v=.bool (decide (NdSame L M))∧Below W.heap.size W W':=by
 refine Qf (n:=24) Tryd.func29 rfl Tryd.ntmps29 (by simp) ?_
 show CG _ _ _ [(0,.agg (l.cs L)),(1,.agg (m.cs M))] _ _
 have u:=Below.refl W.heap.size W
 refine Zr ?_
 refine lg_boxw Wn rfl rfl (by kernel_rfl) rfl (by decide) fun b1 w1 n1=>?_
 have r1:=n1.row
 have k1:=n1.blk
 have z1:=n1.size
 have lt1:b1<w1.heap.size:=by omega
 refine lg_boxw Wn rfl rfl (by kernel_rfl) rfl (by decide) fun b2 w2 n2=>?_
 have r2:=n2.row
 have k2:=n2.blk
 have z2:=n2.size
 have lt2:b2<w2.heap.size:=by omega
 refine ZAn [2,3,4] ?_
 refine Zr ?_
 refine Za (y_fld (off:=0)) ?_
 have r1:=n2.keep r1
 refine Za (Qo (v:=nv L.kind) r1 rfl (by kernel_rfl) rfl rfl) ?_
 refine Za (y_fld (off:=0)) ?_
 refine Za (Qo (v:=nv M.kind) r2 rfl (by kernel_rfl) rfl rfl) ?_
 by_cases c3:L.kind=M.kind
 ·refine Za (yb (dT c3) yi_eql) ?_
  refine ZM ?_
  refine Zt 10 (y_fld (off:=1)) ?_
  refine Zt 10 (y_part r1 (m:=4) rfl (show 1+4≤8 by decide) (by kernel_rfl) (by kernel_rfl) rfl rfl) ?_
  refine Zt 10 (y_fld (off:=1)) ?_
  refine Zt 10 (y_part r2 (m:=4) rfl (show 1+4≤8 by decide) (by kernel_rfl) (by kernel_rfl) rfl rfl) ?_
  have hl:=(hl.below (n1.below.mono (by omega))).below (n2.below.mono (by omega))
  have hm:=(hm.below (n1.below.mono (by omega))).below (n2.below.mono (by omega))
  by_cases c4:LfSame L.leaf M.leaf
  ·refine Zct 10 (rsame_any (hl.leaf.more (B':=w2.heap.size) (by omega)) (hm.leaf.more (B':=w2.heap.size) (by omega)) (Nat.le_refl _)) rfl rfl ?_
   rintro u5 w5 ⟨e5,hw5⟩
   have zw5:=hw5.size
   obtain rfl:u5=.bool true:=e5.trans (congrArg Value.bool (decide_eq_true c4))
   refine Za (y_pick true) ?_
   refine ZM ?_
   refine Zt 17 (y_fld (off:=5)) ?_
   have r1:=RowAt.below hw5 r1.lt r1
   refine Zt 17 (y_part r1 (m:=3) rfl (show 5+3≤8 by decide) (by kernel_rfl) (by kernel_rfl) rfl rfl) ?_
   refine Zt 17 (y_fld (off:=5)) ?_
   have r2:=RowAt.below hw5 r2.lt r2
   refine Zt 17 (y_part r2 (m:=3) rfl (show 5+3≤8 by decide) (by kernel_rfl) (by kernel_rfl) rfl rfl) ?_
   have hl:=hl.below (hw5.mono (by omega))
   have hm:=hm.below (hw5.mono (by omega))
   by_cases c6:PnSame L.inner M.inner
   ·refine Zct 17 (rsameP_any (hl.inner.more (B':=w5.heap.size) (by omega)) (hm.inner.more (B':=w5.heap.size) (by omega)) (Nat.le_refl _)) rfl rfl ?_
    rintro u7 w7 ⟨e7,hw7⟩
    have zw7:=hw7.size
    obtain rfl:u7=.bool true:=e7.trans (congrArg Value.bool (decide_eq_true c6))
    refine Za (y_pick true) ?_
    refine ZAnr [4] ?_
    have u:=Un (Un u n1.below) n2.below
    have u:=Un (Un u hw5) hw7
    exact Qa rfl rfl ⟨_,rfl,congrArg Value.bool (show true=decide (NdSame L M) from (dT (by simp [NdSame,c3,c4,c6])).symm),u⟩
   refine Zct 17 (rsameP_any (hl.inner.more (B':=w5.heap.size) (by omega)) (hm.inner.more (B':=w5.heap.size) (by omega)) (Nat.le_refl _)) rfl rfl ?_
   rintro u8 w8 ⟨e8,hw8⟩
   have zw8:=hw8.size
   obtain rfl:u8=.bool false:=e8.trans (congrArg Value.bool (decide_eq_false c6))
   refine Za (y_pick true) ?_
   refine ZAnr [4] ?_
   have u:=Un (Un u n1.below) n2.below
   have u:=Un (Un u hw5) hw8
   exact Qa rfl rfl ⟨_,rfl,congrArg Value.bool (show false=decide (NdSame L M) from (dF (by simp [NdSame,c3,c4,c6])).symm),u⟩
  refine Zct 10 (rsame_any (hl.leaf.more (B':=w2.heap.size) (by omega)) (hm.leaf.more (B':=w2.heap.size) (by omega)) (Nat.le_refl _)) rfl rfl ?_
  rintro u9 w9 ⟨e9,hw9⟩
  have zw9:=hw9.size
  obtain rfl:u9=.bool false:=e9.trans (congrArg Value.bool (decide_eq_false c4))
  refine Za (y_pick true) ?_
  refine ZM ?_
  refine Zf 17 ?_
  refine Zf 17 ?_
  refine Zf 17 ?_
  refine Zf 17 ?_
  refine Zf 17 ?_
  refine Za (y_pick false) ?_
  refine ZAnr [4] ?_
  have u:=Un (Un (Un u n1.below) n2.below) hw9
  exact Qa rfl rfl ⟨_,rfl,congrArg Value.bool (show false=decide (NdSame L M) from (dF (by simp [NdSame,c3,c4])).symm),u⟩
 refine Za (yb (dF c3) yi_eql) ?_
 refine ZM ?_
 refine Zf 10 ?_
 refine Zf 10 ?_
 refine Zf 10 ?_
 refine Zf 10 ?_
 refine Zf 10 ?_
 refine Za (y_pick false) ?_
 refine ZM ?_
 refine Zf 17 ?_
 refine Zf 17 ?_
 refine Zf 17 ?_
 refine Zf 17 ?_
 refine Zf 17 ?_
 refine Za (y_pick false) ?_
 refine ZAnr [4] ?_
 have u:=Un (Un u n1.below) n2.below
 exact Qa rfl rfl ⟨_,rfl,congrArg Value.bool (show false=decide (NdSame L M) from (dF (by simp [NdSame,c3])).symm),u⟩
end
end Go.Proofs.YtognnnjdoemgfaaDoor
