/-
  KitQ: LfRef, LfRefG, PnRef, NdRef.
-/
import Derived.Test.YtognnnjdoemgfaaGreatDoorKitP
namespace Go.Proofs.YtognnnjdoemgfaaGreatDoor
open Go.ChangeShapes Go.WideShapes Go.ChangeAt Go.RowKit
set_option linter.unusedVariables false

/- LfRef:
  The document's Few, Check, Same and Put.
-/
theorem few_any {W:World} {B:Nat} {l:LfV} {L:Lf} (hl:IsLf W B l L) (hB:B≤W.heap.size):Calls Tryz.prog 43 #[.agg (l.cs L)] W fun e W'=>∃ v,e=.returned v∧v=.bool (decide (lfFew L))∧Below W.heap.size W W':=by
 refine Qf (n:=15) Tryz.func43 rfl Tryz.ntmps43 (by simp) ?_
 show CG _ _ _ [(0,.agg (l.cs L))] _ _
 have u:=Below.refl W.heap.size W
 refine Zr ?_
 refine lg_boxw Wn rfl rfl (by kernel_rfl) rfl (by decide) fun b1 w1 n1=>?_
 have r1:=n1.row
 have k1:=n1.blk
 have z1:=n1.size
 have lt1:b1<w1.heap.size:=by omega
 refine ZAn [1,2] ?_
 refine Zr ?_
 refine Za (y_fld (off:=0)) ?_
 refine Za (Qo (v:=l.enc.v) r1 rfl (by kernel_rfl) rfl rfl) ?_
 have hl:=hl.below (n1.below.mono (by omega))
 refine Za (y_lenS (el:=5) hl.enc) ?_
 refine Za (y_fld (off:=1)) ?_
 refine Za (Qo (v:=l.cred.v) r1 rfl (by kernel_rfl) rfl rfl) ?_
 refine Za (y_lenS (el:=5) hl.cred) ?_
 refine Za yi_addW ?_
 refine Za (y_fld (off:=3)) ?_
 refine Za (Qo (v:=l.par.v) r1 rfl (by kernel_rfl) rfl rfl) ?_
 refine Za (y_lenS (el:=5) hl.par) ?_
 refine Za yi_addW ?_
 refine Za yi_leq ?_
 refine ZAnr [2] ?_
 have u:=Un u n1.below
 exact Qa rfl rfl ⟨_,rfl,rfl,u⟩
theorem rcheck_any {W:World} {B:Nat} {l:LfV} {L:Lf} (hl:IsLf W B l L) (hB:B≤W.heap.size):Calls Tryz.prog 85 #[.agg (l.cs L)] W fun e W'=>∃ v,e=.returned v∧v=nv (lfCheck L)∧Below W.heap.size W W':=by
 refine Qf (n:=44) Tryz.func85 rfl Tryz.ntmps85 (by simp) ?_
 show CG _ _ _ [(0,.agg (l.cs L))] _ _
 have u:=Below.refl W.heap.size W
 refine Zr ?_
 refine lg_boxw Wn rfl rfl (by kernel_rfl) rfl (by decide) fun b1 w1 n1=>?_
 have r1:=n1.row
 have k1:=n1.blk
 have z1:=n1.size
 have lt1:b1<w1.heap.size:=by omega
 refine ZAn [1,2] ?_
 refine Qd ?_
 refine Qj ?_
 refine Zr ?_
 refine Za (y_fld (off:=0)) ?_
 refine Za (Qo (v:=l.enc.v) r1 rfl (by kernel_rfl) rfl rfl) ?_
 have hl:=hl.below (n1.below.mono (by omega))
 refine Za (y_lenS (el:=5) hl.enc) ?_
 by_cases c2:(L.enc.length:Int)=0
 ·refine Za (yb (dT c2) yi_eql) ?_
  refine ZAnt [1,2,3] ?_
  refine ZrA ?_
  refine Znr [2] ?_
  refine Qg ?_
  refine Qc ?_
  have u:=Un u n1.below
  exact Qa rfl rfl ⟨_,rfl,congrArg nv (show 5=lfCheck L by unfold lfCheck;(repeat' split)<;>omega),u⟩
 refine Za (yb (dF c2) yi_eql) ?_
 refine ZAn [1,2,3] ?_
 refine cg_cf rfl ?_
 refine Zr ?_
 refine Za (y_fld (off:=0)) ?_
 refine Za (Qo (v:=l.enc.v) r1 rfl (by kernel_rfl) rfl rfl) ?_
 refine Za (y_lenS (el:=5) hl.enc) ?_
 by_cases c3:200<(L.enc.length:Int)
 ·refine Za (yb (dT c3) yi_gtr) ?_
  refine ZM ?_
  refine Zf 13 ?_
  refine Zf 13 ?_
  refine Zf 13 ?_
  refine Zf 13 ?_
  refine Za (y_pick true) ?_
  refine ZM ?_
  refine Zf 19 ?_
  refine Zf 19 ?_
  refine Zf 19 ?_
  refine Zf 19 ?_
  refine Za (y_pick true) ?_
  refine ZAnt [1,2,8] ?_
  refine ZrA ?_
  refine Znr [2] ?_
  refine Qg ?_
  refine Qc ?_
  have u:=Un u n1.below
  exact Qa rfl rfl ⟨_,rfl,congrArg nv (show 4=lfCheck L by unfold lfCheck;(repeat' split)<;>omega),u⟩
 refine Za (yb (dF c3) yi_gtr) ?_
 refine ZM ?_
 refine Zt 13 (y_fld (off:=1)) ?_
 refine Zt 13 (Qo (v:=l.cred.v) r1 rfl (by kernel_rfl) rfl rfl) ?_
 refine Zt 13 (y_lenS (el:=5) hl.cred) ?_
 by_cases c4:200<(L.cred.length:Int)
 ·refine Zt 13 (yb (dT c4) yi_gtr) ?_
  refine Za (y_pick false) ?_
  refine ZM ?_
  refine Zf 19 ?_
  refine Zf 19 ?_
  refine Zf 19 ?_
  refine Zf 19 ?_
  refine Za (y_pick true) ?_
  refine ZAnt [1,2,8] ?_
  refine ZrA ?_
  refine Znr [2] ?_
  refine Qg ?_
  refine Qc ?_
  have u:=Un u n1.below
  exact Qa rfl rfl ⟨_,rfl,congrArg nv (show 4=lfCheck L by unfold lfCheck;(repeat' split)<;>omega),u⟩
 refine Zt 13 (yb (dF c4) yi_gtr) ?_
 refine Za (y_pick false) ?_
 refine ZM ?_
 refine Zt 19 (y_fld (off:=3)) ?_
 refine Zt 19 (Qo (v:=l.par.v) r1 rfl (by kernel_rfl) rfl rfl) ?_
 refine Zt 19 (y_lenS (el:=5) hl.par) ?_
 by_cases c5:200<(L.par.length:Int)
 ·refine Zt 19 (yb (dT c5) yi_gtr) ?_
  refine Za (y_pick false) ?_
  refine ZAnt [1,2,8] ?_
  refine ZrA ?_
  refine Znr [2] ?_
  refine Qg ?_
  refine Qc ?_
  have u:=Un u n1.below
  exact Qa rfl rfl ⟨_,rfl,congrArg nv (show 4=lfCheck L by unfold lfCheck;(repeat' split)<;>omega),u⟩
 refine Zt 19 (yb (dF c5) yi_gtr) ?_
 refine Za (y_pick false) ?_
 refine ZAn [1,2,8] ?_
 refine cg_cf rfl ?_
 refine Zr ?_
 refine Za (y_fld (off:=2)) ?_
 refine Za (Qo (v:=nv L.src) r1 rfl (by kernel_rfl) rfl rfl) ?_
 by_cases c6:L.src<1
 ·refine Za (yb (dT c6) yi_lss) ?_
  refine ZM ?_
  refine Zf 29 ?_
  refine Zf 29 ?_
  refine Zf 29 ?_
  refine Za (y_pick true) ?_
  refine ZAnt [1,2,25] ?_
  refine ZrA ?_
  refine Znr [2] ?_
  refine Qg ?_
  refine Qc ?_
  have u:=Un u n1.below
  exact Qa rfl rfl ⟨_,rfl,congrArg nv (show 7=lfCheck L by unfold lfCheck;(repeat' split)<;>omega),u⟩
 refine Za (yb (dF c6) yi_lss) ?_
 refine ZM ?_
 refine Zt 29 (y_fld (off:=2)) ?_
 refine Zt 29 (Qo (v:=nv L.src) r1 rfl (by kernel_rfl) rfl rfl) ?_
 by_cases c7:3<L.src
 ·refine Zt 29 (yb (dT c7) yi_gtr) ?_
  refine Za (y_pick false) ?_
  refine ZAnt [1,2,25] ?_
  refine ZrA ?_
  refine Znr [2] ?_
  refine Qg ?_
  refine Qc ?_
  have u:=Un u n1.below
  exact Qa rfl rfl ⟨_,rfl,congrArg nv (show 7=lfCheck L by unfold lfCheck;(repeat' split)<;>omega),u⟩
 refine Zt 29 (yb (dF c7) yi_gtr) ?_
 refine Za (y_pick false) ?_
 refine ZAn [1,2,25] ?_
 refine cg_cf rfl ?_
 refine Zr ?_
 refine Za (y_fld (off:=3)) ?_
 refine Za (Qo (v:=l.par.v) r1 rfl (by kernel_rfl) rfl rfl) ?_
 refine Za (y_lenS (el:=5) hl.par) ?_
 by_cases c8:0<(L.par.length:Int)
 ·refine Za (yb (dT c8) yi_gtr) ?_
  refine ZM ?_
  refine Zt 39 (y_fld (off:=2)) ?_
  refine Zt 39 (Qo (v:=nv L.src) r1 rfl (by kernel_rfl) rfl rfl) ?_
  by_cases c9:L.src=3
  ·refine Zt 39 (yb (nd_f c9) yi_neq) ?_
   refine Za (y_pick true) ?_
   refine ZAn [2,34] ?_
   refine cg_cf rfl ?_
   refine cg_skip ?_
   refine Qi ?_
   refine Nx [2] ?_
   refine ZrA ?_
   refine Znr [2] ?_
   have u:=Un u n1.below
   exact Qa rfl rfl ⟨_,rfl,congrArg nv (show 0=lfCheck L by unfold lfCheck;(repeat' split)<;>omega),u⟩
  refine Zt 39 (yb (nd_t c9) yi_neq) ?_
  refine Za (y_pick true) ?_
  refine ZAnt [2,34] ?_
  refine ZrA ?_
  refine Znr [2] ?_
  refine Qg ?_
  refine Qc ?_
  have u:=Un u n1.below
  exact Qa rfl rfl ⟨_,rfl,congrArg nv (show 2=lfCheck L by unfold lfCheck;(repeat' split)<;>omega),u⟩
 refine Za (yb (dF c8) yi_gtr) ?_
 refine ZM ?_
 refine Zf 39 ?_
 refine Zf 39 ?_
 refine Zf 39 ?_
 refine Za (y_pick false) ?_
 refine ZAn [2,34] ?_
 refine cg_cf rfl ?_
 refine cg_skip ?_
 refine Qi ?_
 refine Nx [2] ?_
 refine ZrA ?_
 refine Znr [2] ?_
 have u:=Un u n1.below
 exact Qa rfl rfl ⟨_,rfl,congrArg nv (show 0=lfCheck L by unfold lfCheck;(repeat' split)<;>omega),u⟩
theorem rsame_any {W:World} {B:Nat} {l m:LfV} {L M:Lf} (hl:IsLf W B l L) (hm:IsLf W B m M) (hB:B≤W.heap.size):Calls Tryz.prog 53 #[.agg (l.cs L),.agg (m.cs M)] W fun e W'=>∃ v,e=.returned v∧v=.bool (decide (LfSame L M))∧Below W.heap.size W W':=by
 refine Qf (n:=37) Tryz.func53 rfl Tryz.ntmps53 (by simp) ?_
 show CG _ _ _ [(0,.agg (l.cs L)),(1,.agg (m.cs M))] _ _
 have u:=Below.refl W.heap.size W
 refine Zr ?_
 refine lg_boxw Wn rfl rfl (by kernel_rfl) rfl (by decide) fun b1 w1 n1=>?_
 have r1:=n1.row
 have k1:=n1.blk
 have z1:=n1.size
 have lt1:b1<w1.heap.size:=by omega
 refine lg_boxw Wn rfl rfl (by kernel_rfl) rfl (by decide) fun b2 w2 n2=>?_
 have r2:=n2.row
 have k2:=n2.blk
 have z2:=n2.size
 have lt2:b2<w2.heap.size:=by omega
 refine ZAn [2,3,4] ?_
 refine Zr ?_
 refine Za (y_fld (off:=0)) ?_
 have r1:=n2.keep r1
 refine Za (Qo (v:=l.enc.v) r1 rfl (by kernel_rfl) rfl rfl) ?_
 have hl:=(hl.below (n1.below.mono (by omega))).below (n2.below.mono (by omega))
 have by3:Bytes L.enc:=hl.enc.bytes
 refine Za (y_strS hl.enc) ?_
 refine Za (y_fld (off:=0)) ?_
 refine Za (Qo (v:=m.enc.v) r2 rfl (by kernel_rfl) rfl rfl) ?_
 have hm:=(hm.below (n1.below.mono (by omega))).below (n2.below.mono (by omega))
 have by4:Bytes M.enc:=hm.enc.bytes
 refine Za (y_strS hm.enc) ?_
 by_cases c5:L.enc=M.enc
 ·refine Za (yb (dT c5) (y_seqS (xs:=L.enc) (ys:=M.enc) by3 by4)) ?_
  refine ZM ?_
  refine Zt 12 (y_fld (off:=1)) ?_
  refine Zt 12 (Qo (v:=l.cred.v) r1 rfl (by kernel_rfl) rfl rfl) ?_
  have by6:Bytes L.cred:=hl.cred.bytes
  refine Zt 12 (y_strS hl.cred) ?_
  refine Zt 12 (y_fld (off:=1)) ?_
  refine Zt 12 (Qo (v:=m.cred.v) r2 rfl (by kernel_rfl) rfl rfl) ?_
  have by7:Bytes M.cred:=hm.cred.bytes
  refine Zt 12 (y_strS hm.cred) ?_
  by_cases c8:L.cred=M.cred
  ·refine Zt 12 (yb (dT c8) (y_seqS (xs:=L.cred) (ys:=M.cred) by6 by7)) ?_
   refine Za (y_pick true) ?_
   refine ZM ?_
   refine Zt 21 (y_fld (off:=2)) ?_
   refine Zt 21 (Qo (v:=nv L.src) r1 rfl (by kernel_rfl) rfl rfl) ?_
   refine Zt 21 (y_fld (off:=2)) ?_
   refine Zt 21 (Qo (v:=nv M.src) r2 rfl (by kernel_rfl) rfl rfl) ?_
   by_cases c9:L.src=M.src
   ·refine Zt 21 (yb (dT c9) yi_eql) ?_
    refine Za (y_pick true) ?_
    refine ZM ?_
    refine Zt 28 (y_fld (off:=3)) ?_
    refine Zt 28 (Qo (v:=l.par.v) r1 rfl (by kernel_rfl) rfl rfl) ?_
    have by10:Bytes L.par:=hl.par.bytes
    refine Zt 28 (y_strS hl.par) ?_
    refine Zt 28 (y_fld (off:=3)) ?_
    refine Zt 28 (Qo (v:=m.par.v) r2 rfl (by kernel_rfl) rfl rfl) ?_
    have by11:Bytes M.par:=hm.par.bytes
    refine Zt 28 (y_strS hm.par) ?_
    by_cases c12:L.par=M.par
    ·refine Zt 28 (yb (dT c12) (y_seqS (xs:=L.par) (ys:=M.par) by10 by11)) ?_
     refine Za (y_pick true) ?_
     refine ZAnr [4] ?_
     have u:=Un (Un u n1.below) n2.below
     exact Qa rfl rfl ⟨_,rfl,congrArg Value.bool (show true=decide (LfSame L M) from (dT (by simp [LfSame, *])).symm),u⟩
    refine Zt 28 (yb (dF c12) (y_seqS (xs:=L.par) (ys:=M.par) by10 by11)) ?_
    refine Za (y_pick true) ?_
    refine ZAnr [4] ?_
    have u:=Un (Un u n1.below) n2.below
    exact Qa rfl rfl ⟨_,rfl,congrArg Value.bool (show false=decide (LfSame L M) from (dF (by simp [LfSame, *])).symm),u⟩
   refine Zt 21 (yb (dF c9) yi_eql) ?_
   refine Za (y_pick true) ?_
   refine ZM ?_
   refine Zf 28 ?_
   refine Zf 28 ?_
   refine Zf 28 ?_
   refine Zf 28 ?_
   refine Zf 28 ?_
   refine Zf 28 ?_
   refine Zf 28 ?_
   refine Za (y_pick false) ?_
   refine ZAnr [4] ?_
   have u:=Un (Un u n1.below) n2.below
   exact Qa rfl rfl ⟨_,rfl,congrArg Value.bool (show false=decide (LfSame L M) from (dF (by simp [LfSame, *])).symm),u⟩
  refine Zt 12 (yb (dF c8) (y_seqS (xs:=L.cred) (ys:=M.cred) by6 by7)) ?_
  refine Za (y_pick true) ?_
  refine ZM ?_
  refine Zf 21 ?_
  refine Zf 21 ?_
  refine Zf 21 ?_
  refine Zf 21 ?_
  refine Zf 21 ?_
  refine Za (y_pick false) ?_
  refine ZM ?_
  refine Zf 28 ?_
  refine Zf 28 ?_
  refine Zf 28 ?_
  refine Zf 28 ?_
  refine Zf 28 ?_
  refine Zf 28 ?_
  refine Zf 28 ?_
  refine Za (y_pick false) ?_
  refine ZAnr [4] ?_
  have u:=Un (Un u n1.below) n2.below
  exact Qa rfl rfl ⟨_,rfl,congrArg Value.bool (show false=decide (LfSame L M) from (dF (by simp [LfSame, *])).symm),u⟩
 refine Za (yb (dF c5) (y_seqS (xs:=L.enc) (ys:=M.enc) by3 by4)) ?_
 refine ZM ?_
 refine Zf 12 ?_
 refine Zf 12 ?_
 refine Zf 12 ?_
 refine Zf 12 ?_
 refine Zf 12 ?_
 refine Zf 12 ?_
 refine Zf 12 ?_
 refine Za (y_pick false) ?_
 refine ZM ?_
 refine Zf 21 ?_
 refine Zf 21 ?_
 refine Zf 21 ?_
 refine Zf 21 ?_
 refine Zf 21 ?_
 refine Za (y_pick false) ?_
 refine ZM ?_
 refine Zf 28 ?_
 refine Zf 28 ?_
 refine Zf 28 ?_
 refine Zf 28 ?_
 refine Zf 28 ?_
 refine Zf 28 ?_
 refine Zf 28 ?_
 refine Za (y_pick false) ?_
 refine ZAnr [4] ?_
 have u:=Un (Un u n1.below) n2.below
 exact Qa rfl rfl ⟨_,rfl,congrArg Value.bool (show false=decide (LfSame L M) from (dF (by simp [LfSame, *])).symm),u⟩
theorem rputL_any {W:World} {B:Nat} {s:SlV} {xs:List Int} {l:LfV} {L:Lf} (h:Sl W B s xs) (hl:IsLf W B l L) (hB:B≤W.heap.size) (hx:xs.length≤88000):Calls Tryz.prog 71 #[s.v,.agg (l.cs L)] W fun e W'=>∃ v,e=.returned v∧PutS W (xs++lfPut L) v W':=by
 refine Qf (n:=33) Tryz.func71 rfl Tryz.ntmps71 (by simp) ?_
 show CG _ _ _ [(0,s.v),(1,.agg (l.cs L))] _ _
 have u:=Below.refl W.heap.size W
 refine Zr ?_
 refine lg_boxw Wn rfl rfl (by kernel_rfl) rfl (by decide) fun b1 w1 n1=>?_
 have r1:=n1.row
 have k1:=n1.blk
 have z1:=n1.size
 have lt1:b1<w1.heap.size:=by omega
 refine ZAn [0,3,4] ?_
 refine Zr ?_
 obtain ⟨bs3,hbs3⟩:∃ q,q=w1.heap.size:=⟨_,rfl⟩
 refine lg_bs0 Wn rfl rfl (by decide) fun v2 w2 g2 l2=>?_
 rw [←hbs3] at g2
 have z2:=l2.size
 refine ZM ?_
 have h:=(h.below (n1.below.mono (by omega))).below (l2.mono (by omega))
 refine lg_appS g2 Bytes.nil h (by simp only [List.length_nil];omega) (by omega) Wn rfl rfl rfl rfl rfl (by decide) fun r4 w4 m4 g4 l4 z4=>?_
 simp only [List.nil_append] at m4 g4
 refine ZAn [3,4,5] ?_
 refine Qd ?_
 refine Zr ?_
 have r1:=RowAt.below l2 r1.lt r1
 have r1:=RowAt.below l4 (by omega) r1
 refine Za (y_loadA r1) ?_
 have hl:=((hl.below (n1.below.mono (by omega))).below (l2.mono (by omega))).below (l4.mono (by omega))
 refine Zc (rcheck_any (hl.more (B':=w4.heap.size) (by omega)) (Nat.le_refl _)) rfl rfl ?_
 rintro _ w5 ⟨rfl,hw5⟩
 have zw5:=hw5.size
 by_cases c6:(lfCheck L)=0
 ·have ok:=lfCheck_ok c6
  refine Zan (yb (nd_f c6) yi_neq) [3,4,5,11] ?_
  refine Zcf [3,4,5] ?_
  refine ZrM ?_
  refine Za (y_fld (off:=0)) ?_
  have r1:=RowAt.below hw5 r1.lt r1
  refine Za (Qo (v:=l.enc.v) r1 rfl (by kernel_rfl) rfl rfl) ?_
  have m4:=m4.below (hw5.mono (by omega))
  have hl:=hl.below (hw5.mono (by omega))
  refine Zc (rputBytes_S m4 hl.enc (by omega) (by omega) (by omega) (by omega)) rfl rfl ?_
  rintro _ w7 ⟨r7,rfl,m7,hw7⟩
  have zw7:=hw7.size
  have lb7:=bytesOct_le L.enc
  refine ZAn [3,4,5] ?_
  refine ZrM ?_
  refine Za (y_fld (off:=1)) ?_
  have r1:=RowAt.below hw7 r1.lt r1
  refine Za (Qo (v:=l.cred.v) r1 rfl (by kernel_rfl) rfl rfl) ?_
  have hl:=hl.below (hw7.mono (by omega))
  refine Zc (rputBytes_S m7 hl.cred (by omega) (by omega) (by simp only [List.length_append];omega) (by omega)) rfl rfl ?_
  rintro _ w8 ⟨r8,rfl,m8,hw8⟩
  have zw8:=hw8.size
  have lb8:=bytesOct_le L.cred
  refine ZAn [3,4,5] ?_
  refine ZrM ?_
  refine Za (y_fld (off:=2)) ?_
  have r1:=RowAt.below hw8 r1.lt r1
  refine Za (Qo (v:=nv L.src) r1 rfl (by kernel_rfl) rfl rfl) ?_
  refine Zc (rputNum_S L.src 1 m8 (by omega) (by simp only [List.length_append];omega)) rfl rfl ?_
  rintro _ w9 ⟨r9,rfl,m9,hw9⟩
  have zw9:=hw9.size
  have wk9:=widthK_le 1
  refine ZAn [3,4,5] ?_
  refine Qd ?_
  refine Zr ?_
  refine Za (y_fld (off:=2)) ?_
  have r1:=RowAt.below hw9 r1.lt r1
  refine Za (Qo (v:=nv L.src) r1 rfl (by kernel_rfl) rfl rfl) ?_
  by_cases c10:L.src=3
  ·refine Zan (yb (dT c10) yi_eql) [3,4,5,27] ?_
   refine cg_ct rfl ?_
   refine Qe ?_
   refine ZM ?_
   refine Za (y_fld (off:=3)) ?_
   refine Za (Qo (v:=l.par.v) r1 rfl (by kernel_rfl) rfl rfl) ?_
   have hl:=(hl.below (hw8.mono (by omega))).below (hw9.mono (by omega))
   refine Zc (rputBytes_S m9 hl.par (by omega) (by omega) (by simp only [List.length_append,numOct_length];omega) (by omega)) rfl rfl ?_
   rintro _ w11 ⟨r11,rfl,m11,hw11⟩
   have zw11:=hw11.size
   have lb11:=bytesOct_le L.par
   refine ZAn [4,5] ?_
   refine ZrM ?_
   refine ZAnr [4] ?_
   have u:=Un (Un u n1.below) l2
   have u:=u.trans (l4.mono (by omega))
   have u:=Un (Un u hw5) hw7
   have u:=Un (Un (Un u hw8) hw9) hw11
   exact Qa rfl rfl ⟨_,rfl,r11,rfl,(m11.more (by omega)).cast (by simp [lfPut,lfOct,c6,c10]),u⟩
  refine Zan (yb (dF c10) yi_eql) [3,4,5,27] ?_
  refine Zcf [4,5] ?_
  refine ZrM ?_
  refine ZAnr [4] ?_
  have u:=Un (Un u n1.below) l2
  have u:=u.trans (l4.mono (by omega))
  have u:=Un (Un u hw5) hw7
  have u:=Un (Un u hw8) hw9
  exact Qa rfl rfl ⟨_,rfl,r9,rfl,(m9.more (by omega)).cast (by simp [lfPut,lfOct,c6,c10]),u⟩
 refine Zan (yb (nd_t c6) yi_neq) [3,4,5,11] ?_
 refine cg_ct rfl ?_
 refine ZrM ?_
 refine ZAnr [3,5,4] ?_
 refine Qc ?_
 have m4:=m4.below (hw5.mono (by omega))
 have u:=Un (Un u n1.below) l2
 have u:=u.trans (l4.mono (by omega))
 have u:=Un u hw5
 exact Qa rfl rfl ⟨_,rfl,r4,rfl,(m4.more (by omega)).cast (by simp [lfPut,c6]),u⟩
/- LfRefG:
  The document's Get.
-/
set_option maxHeartbeats 2000000 in
theorem rgetL_any {W:World} {B:Nat} {s:SlV} {xs:List Int} (h:Sl W B s xs) (hB:B≤W.heap.size):Calls Tryz.prog 51 #[s.v] W fun e W'=>∃ v,e=.returned v∧∃ (l:LfV) (r:SlV),v=.tuple #[.agg (l.cs (lfGet xs).2.1),r.v,nv (lfGet xs).1]∧IsLf W' B l (lfGet xs).2.1∧Sl W' B r (lfGet xs).2.2∧Below W.heap.size W W':=by
 refine Qf (n:=86) Tryz.func51 rfl Tryz.ntmps51 (by simp) ?_
 show CG _ _ _ [(0,s.v)] _ _
 have u:=Below.refl W.heap.size W
 refine Zr ?_
 refine lg_allocw (cs:=LfV.zero.cs Lf.zero) Wn rfl (by kernel_rfl) rfl (by decide) fun b1 w1 n1=>?_
 have r1:=n1.row
 have k1:=n1.blk
 have z1:=n1.size
 have lt1:b1<w1.heap.size:=by omega
 refine ZA ?_
 refine ZAn [0,2,3,4] ?_
 refine Zr ?_
 refine Za (y_build (cs:=LfV.zero.cs Lf.zero)) ?_
 refine lg_allocw (cs:=LfV.zero.cs Lf.zero) Wn rfl (by kernel_rfl) rfl (by decide) fun b2 w2 n2=>?_
 have r2:=n2.row
 have k2:=n2.blk
 have z2:=n2.size
 have lt2:b2<w2.heap.size:=by omega
 have o3:=r2
 refine lg_stw Wn r2 rfl rfl rfl (by kernel_rfl) (by kernel_rfl) rfl rfl fun w3 s3=>?_
 have r2:=s3.row
 have z3:=s3.size
 refine Zn [0,2,3,4,5] ?_
 refine ZrM ?_
 have h:=((h.below (n1.below.mono (by omega))).below (n2.below.mono (by omega))).set o3 rfl s3
 refine Zc (rgetBytes_S h (by omega)) rfl rfl ?_
 rintro _ w4 ⟨p4,r4,rfl,m4,l4,hw4⟩
 have zw4:=hw4.size
 refine ZM ?_
 refine Za y_extract ?_
 refine Za y_extract ?_
 refine Za y_extract ?_
 refine ZA ?_
 refine ZA ?_
 refine ZAn [2,3,4,5,6,7,8] ?_
 refine Qd ?_
 refine ZrM ?_
 by_cases c5:(bytesE xs)=0
 ·refine Zan (yb (nd_f c5) yi_neq) [2,3,4,5,6,7,8,28] ?_
  refine Zcf [2,3,4,5,6,7] ?_
  refine ZrM ?_
  refine Zc (rgetBytes_S l4 (by omega)) rfl rfl ?_
  rintro _ w6 ⟨p6,r6,rfl,m6,l6,hw6⟩
  have zw6:=hw6.size
  refine ZM ?_
  refine Za y_extract ?_
  refine Za y_extract ?_
  refine Za y_extract ?_
  refine ZA ?_
  refine ZA ?_
  refine ZAn [2,3,4,5,6,9,10,11] ?_
  refine Qd ?_
  refine ZrM ?_
  by_cases c7:(bytesE (bytesR xs))=0
  ·refine Zan (yb (nd_f c7) yi_neq) [2,3,4,5,6,9,10,11,38] ?_
   refine Zcf [2,3,4,5,6,9,10] ?_
   refine ZrM ?_
   refine Zc (rgetNum_S 1 l6 (by omega)) rfl rfl ?_
   rintro _ w8 ⟨r8,rfl,l8,hw8⟩
   have zw8:=hw8.size
   refine ZM ?_
   refine Za y_extract ?_
   refine Za y_extract ?_
   refine Za y_extract ?_
   refine ZA ?_
   refine ZA ?_
   refine ZAn [2,3,4,5,6,9,12,13,14] ?_
   refine Qd ?_
   refine ZrM ?_
   by_cases c9:(numE (bytesR (bytesR xs)) 1)=0
   ·refine Zan (yb (nd_f c9) yi_neq) [2,3,4,5,6,9,12,13,14,48] ?_
    refine Zcf [2,3,4,5,6,9,12,13] ?_
    refine Qd ?_
    refine ZrM ?_
    by_cases c10:(numM (bytesR (bytesR xs)) 1)<1
    ·refine Za (yb (dT c10) yi_lss) ?_
     refine ZM ?_
     refine Zf 53 ?_
     refine Zf 53 ?_
     refine Zan (y_pick true) [2,3,4,5,6,9,12,13,56] ?_
     refine cg_ct rfl ?_
     refine Zr ?_
     have r2:=RowAt.below hw4 r2.lt r2
     have r2:=RowAt.below hw6 r2.lt r2
     have r2:=RowAt.below hw8 r2.lt r2
     refine Za (y_loadA r2) ?_
     have r1:=n2.keep r1
     have r1:=s3.keep r1 (by omega)
     have r1:=RowAt.below hw4 r1.lt r1
     have r1:=RowAt.below hw6 r1.lt r1
     have r1:=RowAt.below hw8 r1.lt r1
     have o11:=r1
     refine lg_stw Wn r1 rfl rfl rfl (by kernel_rfl) (by kernel_rfl) rfl rfl fun w11 s11=>?_
     have r1:=s11.row
     have z11:=s11.size
     refine ZA ?_
     refine ZAnr [2,5,6,9,12,13,3,4] ?_
     refine Qc ?_
     have hst:lfGet xs=(7,Lf.zero,[]):=((if_neg (not_not_intro c5)).trans ((if_neg (not_not_intro c7)).trans ((if_neg (not_not_intro c9)).trans (if_pos (by omega)))))
     refine eg_ret_agg3 rfl rfl r1 (by kernel_rfl) (by kernel_rfl) rfl rfl ?_
     rw [hst]
     have u:=Un (Un u n1.below) n2.below
     have u:=u.trans (s3.below _ (by omega))
     have u:=Un (Un (Un u hw4) hw6) hw8
     have u:=u.trans (s11.below _ (by omega))
     exact ⟨_,rfl,LfV.zero,nilS,rfl,(IsLf.zero _ _),(Sl.nil _ _),u⟩
    refine Za (yb (dF c10) yi_lss) ?_
    refine ZM ?_
    refine Zt 53 y_move ?_
    by_cases c12:3<(numM (bytesR (bytesR xs)) 1)
    ·refine Zt 53 (yb (dT c12) yi_gtr) ?_
     refine Zan (y_pick false) [2,3,4,5,6,9,12,13,56] ?_
     refine cg_ct rfl ?_
     refine Zr ?_
     have r2:=RowAt.below hw4 r2.lt r2
     have r2:=RowAt.below hw6 r2.lt r2
     have r2:=RowAt.below hw8 r2.lt r2
     refine Za (y_loadA r2) ?_
     have r1:=n2.keep r1
     have r1:=s3.keep r1 (by omega)
     have r1:=RowAt.below hw4 r1.lt r1
     have r1:=RowAt.below hw6 r1.lt r1
     have r1:=RowAt.below hw8 r1.lt r1
     have o13:=r1
     refine lg_stw Wn r1 rfl rfl rfl (by kernel_rfl) (by kernel_rfl) rfl rfl fun w13 s13=>?_
     have r1:=s13.row
     have z13:=s13.size
     refine ZA ?_
     refine ZAnr [2,5,6,9,12,13,3,4] ?_
     refine Qc ?_
     have hst:lfGet xs=(7,Lf.zero,[]):=((if_neg (not_not_intro c5)).trans ((if_neg (not_not_intro c7)).trans ((if_neg (not_not_intro c9)).trans (if_pos (by omega)))))
     refine eg_ret_agg3 rfl rfl r1 (by kernel_rfl) (by kernel_rfl) rfl rfl ?_
     rw [hst]
     have u:=Un (Un u n1.below) n2.below
     have u:=u.trans (s3.below _ (by omega))
     have u:=Un (Un (Un u hw4) hw6) hw8
     have u:=u.trans (s13.below _ (by omega))
     exact ⟨_,rfl,LfV.zero,nilS,rfl,(IsLf.zero _ _),(Sl.nil _ _),u⟩
    refine Zt 53 (yb (dF c12) yi_gtr) ?_
    refine Zan (y_pick false) [2,3,4,5,6,9,12,13,56] ?_
    refine Zcf [2,3,4,5,6,9,12,13] ?_
    refine ZrM ?_
    refine ZM ?_
    refine ZM ?_
    refine Za (y_build (cs:=(⟨p4,p6,nilS⟩:LfV).cs (⟨(bytesP xs),(bytesP (bytesR xs)),(numM (bytesR (bytesR xs)) 1),[]⟩:Lf))) ?_
    refine lg_allocw (cs:=LfV.zero.cs Lf.zero) Wn rfl (by kernel_rfl) rfl (by decide) fun b14 w14 n14=>?_
    have r14:=n14.row
    have k14:=n14.blk
    have z14:=n14.size
    have lt14:b14<w14.heap.size:=by omega
    have o15:=r14
    refine lg_stw Wn r14 rfl rfl rfl (by kernel_rfl) (by kernel_rfl) rfl rfl fun w15 s15=>?_
    have r14:=s15.row
    have z15:=s15.size
    refine Zn [2,3,4,5,12,13,15] ?_
    refine ZrM ?_
    refine ZAn [2,3,4,5,12,13,15,16] ?_
    refine Qd ?_
    refine ZrM ?_
    by_cases c16:(numM (bytesR (bytesR xs)) 1)=3
    ·refine Zan (yb (dT c16) yi_eql) [2,3,4,5,13,15,16,64] ?_
     refine cg_ct rfl ?_
     refine ZrM ?_
     have l8:=(l8.below (n14.below.mono (by omega))).set o15 rfl s15
     refine Zc (rgetBytes_S l8 (by omega)) rfl rfl ?_
     rintro _ w17 ⟨p17,r17,rfl,m17,l17,hw17⟩
     have zw17:=hw17.size
     refine ZM ?_
     refine Za y_extract ?_
     refine Za y_extract ?_
     refine Za y_extract ?_
     refine ZA ?_
     refine ZA ?_
     refine ZAn [2,3,4,5,15,16,17,18,19] ?_
     refine Qd ?_
     refine ZrM ?_
     by_cases c18:(bytesE (numR (bytesR (bytesR xs)) 1))=0
     ·refine Zan (yb (nd_f c18) yi_neq) [2,3,4,5,15,16,17,18,19,72] ?_
      refine Zcf [2,3,4,5,15,16,17,18] ?_
      refine ZrM ?_
      refine Za (y_fld (off:=3)) ?_
      have r14:=RowAt.below hw17 r14.lt r14
      have o19:=r14
      refine lg_st1 (new:=#[p4.v,p6.v,nv (numM (bytesR (bytesR xs)) 1),p17.v]) Wn r14 rfl rfl rfl (by kernel_rfl) rfl (show 3<4 by decide) rfl rfl fun w19 s19=>?_
      have r14:=s19.row
      have z19:=s19.size
      refine Zn [2,3,4,5,15,16,18] ?_
      refine Qe ?_
      refine ZM ?_
      refine ZAn [2,3,4,5,15,16] ?_
      refine Qd ?_
      refine Zr ?_
      refine Za (y_loadA r14) ?_
      have m4:=(m4.below (hw6.mono (by omega))).below (hw8.mono (by omega))
      have m4:=(m4.below (n14.below.mono (by omega))).set o15 rfl s15
      have m4:=(m4.below (hw17.mono (by omega))).set o19 rfl s19
      have m6:=(m6.below (hw8.mono (by omega))).below (n14.below.mono (by omega))
      have m6:=((m6.set o15 rfl s15).below (hw17.mono (by omega))).set o19 rfl s19
      have m17:=m17.set o19 rfl s19
      refine Zc (rcheck_any (show IsLf w19 w19.heap.size (⟨p4,p6,p17⟩:LfV) (⟨(bytesP xs),(bytesP (bytesR xs)),(numM (bytesR (bytesR xs)) 1),(bytesP (numR (bytesR (bytesR xs)) 1))⟩:Lf) from ⟨(m4.more (B':=w19.heap.size) (by omega)),(m6.more (B':=w19.heap.size) (by omega)),(m17.more (B':=w19.heap.size) (by omega))⟩) (Nat.le_refl _)) rfl rfl ?_
      rintro _ w20 ⟨rfl,hw20⟩
      have zw20:=hw20.size
      by_cases c21:(lfCheck (⟨(bytesP xs),(bytesP (bytesR xs)),(numM (bytesR (bytesR xs)) 1),(bytesP (numR (bytesR (bytesR xs)) 1))⟩:Lf))=0
      ·refine Zan (yb (nd_f c21) yi_neq) [2,3,4,5,15,16,80] ?_
       refine Zcf [2,3,4,15,16] ?_
       refine Zr ?_
       have r14:=RowAt.below hw20 r14.lt r14
       refine Za (y_loadA r14) ?_
       refine ZM ?_
       have r1:=n2.keep r1
       have r1:=s3.keep r1 (by omega)
       have r1:=RowAt.below hw4 r1.lt r1
       have r1:=RowAt.below hw6 r1.lt r1
       have r1:=RowAt.below hw8 r1.lt r1
       have r1:=n14.keep r1
       have r1:=s15.keep r1 (by omega)
       have r1:=RowAt.below hw17 r1.lt r1
       have r1:=s19.keep r1 (by omega)
       have r1:=RowAt.below hw20 r1.lt r1
       have o22:=r1
       refine lg_stw Wn r1 rfl rfl rfl (by kernel_rfl) (by kernel_rfl) rfl rfl fun w22 s22=>?_
       have r1:=s22.row
       have z22:=s22.size
       refine ZA ?_
       refine ZAnr [2,3,4] ?_
       have hst:lfGet xs=(0,(⟨(bytesP xs),(bytesP (bytesR xs)),(numM (bytesR (bytesR xs)) 1),(bytesP (numR (bytesR (bytesR xs)) 1))⟩:Lf),(bytesR (numR (bytesR (bytesR xs)) 1))):=((if_neg (not_not_intro c5)).trans ((if_neg (not_not_intro c7)).trans ((if_neg (not_not_intro c9)).trans ((if_neg (by omega)).trans ((if_pos c16).trans ((if_neg (not_not_intro c18)).trans (if_neg (not_not_intro c21))))))))
       refine eg_ret_agg3 rfl rfl r1 (by kernel_rfl) (by kernel_rfl) rfl rfl ?_
       rw [hst]
       have m4:=(m4.below (hw20.mono (by omega))).set o22 rfl s22
       have m6:=(m6.below (hw20.mono (by omega))).set o22 rfl s22
       have m17:=(m17.below (hw20.mono (by omega))).set o22 rfl s22
       have l17:=((l17.set o19 rfl s19).below (hw20.mono (by omega))).set o22 rfl s22
       have u:=Un (Un u n1.below) n2.below
       have u:=u.trans (s3.below _ (by omega))
       have u:=Un (Un u hw4) hw6
       have u:=Un (Un u hw8) n14.below
       have u:=u.trans (s15.below _ (by omega))
       have u:=Un u hw17
       have u:=u.trans (s19.below _ (by omega))
       have u:=Un u hw20
       have u:=u.trans (s22.below _ (by omega))
       exact ⟨_,rfl,(⟨p4,p6,p17⟩:LfV),r17,rfl,⟨m4,m6,m17⟩,l17,u⟩
      refine Zan (yb (nd_t c21) yi_neq) [2,3,4,5,15,16,80] ?_
      refine cg_ct rfl ?_
      refine Qd ?_
      refine cg_heldS (fun q=>RowAt q b2 36 (LfV.zero.cs Lf.zero)∧RowAt q b14 36 #[p4.v,p6.v,nv (numM (bytesR (bytesR xs)) 1),p17.v]) (by kernel_rfl) (fun W23 eW23=>?_) fun W23 eW23=>?_
      ·have dW23:=below_drew _ _ eW23
       have r2:=RowAt.below hw4 r2.lt r2
       have r2:=RowAt.below hw6 r2.lt r2
       have r2:=RowAt.below hw8 r2.lt r2
       have r2:=n14.keep r2
       have r2:=s15.keep r2 (by omega)
       have r2:=RowAt.below hw17 r2.lt r2
       have r2:=s19.keep r2 (by omega)
       have r2:=RowAt.below hw20 r2.lt r2
       have r2:=RowAt.below dW23 r2.lt r2
       have r14:=RowAt.below hw20 r14.lt r14
       have r14:=RowAt.below dW23 r14.lt r14
       exact ⟨r2,r14⟩
      have dW23:=below_drew _ _ eW23
      have zW23:=size_drew _ _ eW23
      clear eW23
      have r2:=RowAt.below hw4 r2.lt r2
      have r2:=RowAt.below hw6 r2.lt r2
      have r2:=RowAt.below hw8 r2.lt r2
      have r2:=n14.keep r2
      have r2:=s15.keep r2 (by omega)
      have r2:=RowAt.below hw17 r2.lt r2
      have r2:=s19.keep r2 (by omega)
      have r2:=RowAt.below hw20 r2.lt r2
      have r2:=RowAt.below dW23 r2.lt r2
      have r14:=RowAt.below hw20 r14.lt r14
      have r14:=RowAt.below dW23 r14.lt r14
      refine hgs_take 0 (by rfl) Wn (by rfl) rfl (by decide) (by kernel_rfl) (by kernel_rfl) (by kernel_rfl) (fun _ _ _ h=>h) ⟨r2,r14⟩ (fun q hq=>y_loadA hq.1 (by kernel_rfl) (by kernel_rfl) rfl rfl) ?_
      refine hgs_take 1 (by rfl) Wn (by rfl) rfl (by decide) (by kernel_rfl) (by kernel_rfl) (by kernel_rfl) (fun _ _ _ h=>h) ⟨r2,r14⟩ (fun q hq=>y_loadA hq.2 (by kernel_rfl) (by kernel_rfl) rfl rfl) ?_
      have m4:=(m4.below (hw20.mono (by omega))).below (dW23.mono (by omega))
      have m6:=(m6.below (hw20.mono (by omega))).below (dW23.mono (by omega))
      have m17:=(m17.below (hw20.mono (by omega))).below (dW23.mono (by omega))
      refine hgs_one 2 (by rfl) (by kernel_rfl) Wn ?_
      refine Zc (rcheck_any (show IsLf W23 W23.heap.size (⟨p4,p6,p17⟩:LfV) (⟨(bytesP xs),(bytesP (bytesR xs)),(numM (bytesR (bytesR xs)) 1),(bytesP (numR (bytesR (bytesR xs)) 1))⟩:Lf) from ⟨(m4.more (B':=W23.heap.size) (by omega)),(m6.more (B':=W23.heap.size) (by omega)),(m17.more (B':=W23.heap.size) (by omega))⟩) (Nat.le_refl _)) rfl rfl ?_
      rintro _ w24 ⟨rfl,hw24⟩
      have zw24:=hw24.size
      have r2:=RowAt.below hw24 r2.lt r2
      have r14:=RowAt.below hw24 r14.lt r14
      refine hgs_next ⟨r2,r14⟩ ?_
      refine hgs_one 3 (by rfl) (by kernel_rfl) Wn ?_
      have r1:=n2.keep r1
      have r1:=s3.keep r1 (by omega)
      have r1:=RowAt.below hw4 r1.lt r1
      have r1:=RowAt.below hw6 r1.lt r1
      have r1:=RowAt.below hw8 r1.lt r1
      have r1:=n14.keep r1
      have r1:=s15.keep r1 (by omega)
      have r1:=RowAt.below hw17 r1.lt r1
      have r1:=s19.keep r1 (by omega)
      have r1:=RowAt.below hw20 r1.lt r1
      have r1:=RowAt.below dW23 r1.lt r1
      have r1:=RowAt.below hw24 r1.lt r1
      have o25:=r1
      refine lg_stw Wn r1 rfl rfl rfl (by kernel_rfl) (by kernel_rfl) rfl rfl fun w25 s25=>?_
      have r1:=s25.row
      have z25:=s25.size
      have r2:=s25.keep r2 (by omega)
      have r14:=s25.keep r14 (by omega)
      refine hgs_next ⟨r2,r14⟩ ?_
      refine hgs_take 4 (by rfl) Wn (by rfl) rfl (by decide) (by kernel_rfl) (by kernel_rfl) (by kernel_rfl) (fun _ _ _ h=>h) ⟨r2,r14⟩ (fun q hq=>y_assign rfl rfl) ?_
      refine hgs_take 5 (by rfl) Wn (by rfl) rfl (by decide) (by kernel_rfl) (by kernel_rfl) (by kernel_rfl) (fun _ _ _ h=>h) ⟨r2,r14⟩ (fun q hq=>y_assign rfl rfl) ?_
      refine hgs_done (by kernel_rfl) ?_
      refine Nx [2,15,16,3,4] ?_
      refine cg_ret ?_
      refine Qc ?_
      have hst:lfGet xs=((lfCheck (⟨(bytesP xs),(bytesP (bytesR xs)),(numM (bytesR (bytesR xs)) 1),(bytesP (numR (bytesR (bytesR xs)) 1))⟩:Lf)),Lf.zero,[]):=((if_neg (not_not_intro c5)).trans ((if_neg (not_not_intro c7)).trans ((if_neg (not_not_intro c9)).trans ((if_neg (by omega)).trans ((if_pos c16).trans ((if_neg (not_not_intro c18)).trans (if_pos c21)))))))
      refine eg_ret_agg3 rfl rfl r1 (by kernel_rfl) (by kernel_rfl) rfl rfl ?_
      rw [hst]
      have u:=Un (Un u n1.below) n2.below
      have u:=u.trans (s3.below _ (by omega))
      have u:=Un (Un u hw4) hw6
      have u:=Un (Un u hw8) n14.below
      have u:=u.trans (s15.below _ (by omega))
      have u:=Un u hw17
      have u:=u.trans (s19.below _ (by omega))
      have u:=Un (Un (Un u hw20) dW23) hw24
      have u:=u.trans (s25.below _ (by omega))
      exact ⟨_,rfl,LfV.zero,nilS,rfl,(IsLf.zero _ _),(Sl.nil _ _),u⟩
     refine Zan (yb (nd_t c18) yi_neq) [2,3,4,5,15,16,17,18,19,72] ?_
     refine cg_ct rfl ?_
     refine Zr ?_
     have r2:=RowAt.below hw4 r2.lt r2
     have r2:=RowAt.below hw6 r2.lt r2
     have r2:=RowAt.below hw8 r2.lt r2
     have r2:=n14.keep r2
     have r2:=s15.keep r2 (by omega)
     have r2:=RowAt.below hw17 r2.lt r2
     refine Za (y_loadA r2) ?_
     refine ZM ?_
     have r1:=n2.keep r1
     have r1:=s3.keep r1 (by omega)
     have r1:=RowAt.below hw4 r1.lt r1
     have r1:=RowAt.below hw6 r1.lt r1
     have r1:=RowAt.below hw8 r1.lt r1
     have r1:=n14.keep r1
     have r1:=s15.keep r1 (by omega)
     have r1:=RowAt.below hw17 r1.lt r1
     have o26:=r1
     refine lg_stw Wn r1 rfl rfl rfl (by kernel_rfl) (by kernel_rfl) rfl rfl fun w26 s26=>?_
     have r1:=s26.row
     have z26:=s26.size
     refine ZA ?_
     refine ZAnr [2,5,15,16,17,18,3,4] ?_
     refine Qc ?_
     refine Qc ?_
     have hst:lfGet xs=((bytesE (numR (bytesR (bytesR xs)) 1)),Lf.zero,[]):=((if_neg (not_not_intro c5)).trans ((if_neg (not_not_intro c7)).trans ((if_neg (not_not_intro c9)).trans ((if_neg (by omega)).trans ((if_pos c16).trans (if_pos c18))))))
     refine eg_ret_agg3 rfl rfl r1 (by kernel_rfl) (by kernel_rfl) rfl rfl ?_
     rw [hst]
     have u:=Un (Un u n1.below) n2.below
     have u:=u.trans (s3.below _ (by omega))
     have u:=Un (Un u hw4) hw6
     have u:=Un (Un u hw8) n14.below
     have u:=u.trans (s15.below _ (by omega))
     have u:=Un u hw17
     have u:=u.trans (s26.below _ (by omega))
     exact ⟨_,rfl,LfV.zero,nilS,rfl,(IsLf.zero _ _),(Sl.nil _ _),u⟩
    refine Zan (yb (dF c16) yi_eql) [2,3,4,5,13,15,16,64] ?_
    refine Zcf [2,3,4,5,15,16] ?_
    refine Qd ?_
    refine Zr ?_
    refine Za (y_loadA r14) ?_
    have m4:=(m4.below (hw6.mono (by omega))).below (hw8.mono (by omega))
    have m4:=(m4.below (n14.below.mono (by omega))).set o15 rfl s15
    have m6:=((m6.below (hw8.mono (by omega))).below (n14.below.mono (by omega))).set o15 rfl s15
    refine Zc (rcheck_any (show IsLf w15 w15.heap.size (⟨p4,p6,nilS⟩:LfV) (⟨(bytesP xs),(bytesP (bytesR xs)),(numM (bytesR (bytesR xs)) 1),[]⟩:Lf) from ⟨(m4.more (B':=w15.heap.size) (by omega)),(m6.more (B':=w15.heap.size) (by omega)),((Sl.nil _ 0).more (B':=w15.heap.size) (by omega))⟩) (Nat.le_refl _)) rfl rfl ?_
    rintro _ w27 ⟨rfl,hw27⟩
    have zw27:=hw27.size
    by_cases c28:(lfCheck (⟨(bytesP xs),(bytesP (bytesR xs)),(numM (bytesR (bytesR xs)) 1),[]⟩:Lf))=0
    ·refine Zan (yb (nd_f c28) yi_neq) [2,3,4,5,15,16,80] ?_
     refine Zcf [2,3,4,15,16] ?_
     refine Zr ?_
     have r14:=RowAt.below hw27 r14.lt r14
     refine Za (y_loadA r14) ?_
     refine ZM ?_
     have r1:=n2.keep r1
     have r1:=s3.keep r1 (by omega)
     have r1:=RowAt.below hw4 r1.lt r1
     have r1:=RowAt.below hw6 r1.lt r1
     have r1:=RowAt.below hw8 r1.lt r1
     have r1:=n14.keep r1
     have r1:=s15.keep r1 (by omega)
     have r1:=RowAt.below hw27 r1.lt r1
     have o29:=r1
     refine lg_stw Wn r1 rfl rfl rfl (by kernel_rfl) (by kernel_rfl) rfl rfl fun w29 s29=>?_
     have r1:=s29.row
     have z29:=s29.size
     refine ZA ?_
     refine ZAnr [2,3,4] ?_
     have hst:lfGet xs=(0,(⟨(bytesP xs),(bytesP (bytesR xs)),(numM (bytesR (bytesR xs)) 1),[]⟩:Lf),(numR (bytesR (bytesR xs)) 1)):=((if_neg (not_not_intro c5)).trans ((if_neg (not_not_intro c7)).trans ((if_neg (not_not_intro c9)).trans ((if_neg (by omega)).trans ((if_neg c16).trans (if_neg (not_not_intro c28)))))))
     refine eg_ret_agg3 rfl rfl r1 (by kernel_rfl) (by kernel_rfl) rfl rfl ?_
     rw [hst]
     have m4:=(m4.below (hw27.mono (by omega))).set o29 rfl s29
     have m6:=(m6.below (hw27.mono (by omega))).set o29 rfl s29
     have l8:=(l8.below (n14.below.mono (by omega))).set o15 rfl s15
     have l8:=(l8.below (hw27.mono (by omega))).set o29 rfl s29
     have u:=Un (Un u n1.below) n2.below
     have u:=u.trans (s3.below _ (by omega))
     have u:=Un (Un u hw4) hw6
     have u:=Un (Un u hw8) n14.below
     have u:=u.trans (s15.below _ (by omega))
     have u:=Un u hw27
     have u:=u.trans (s29.below _ (by omega))
     exact ⟨_,rfl,(⟨p4,p6,nilS⟩:LfV),r8,rfl,⟨m4,m6,(Sl.nil _ _)⟩,l8,u⟩
    refine Zan (yb (nd_t c28) yi_neq) [2,3,4,5,15,16,80] ?_
    refine cg_ct rfl ?_
    refine Qd ?_
    refine cg_heldS (fun q=>RowAt q b2 36 (LfV.zero.cs Lf.zero)∧RowAt q b14 36 ((⟨p4,p6,nilS⟩:LfV).cs (⟨(bytesP xs),(bytesP (bytesR xs)),(numM (bytesR (bytesR xs)) 1),[]⟩:Lf))) (by kernel_rfl) (fun W30 eW30=>?_) fun W30 eW30=>?_
    ·have dW30:=below_drew _ _ eW30
     have r2:=RowAt.below hw4 r2.lt r2
     have r2:=RowAt.below hw6 r2.lt r2
     have r2:=RowAt.below hw8 r2.lt r2
     have r2:=n14.keep r2
     have r2:=s15.keep r2 (by omega)
     have r2:=RowAt.below hw27 r2.lt r2
     have r2:=RowAt.below dW30 r2.lt r2
     have r14:=RowAt.below hw27 r14.lt r14
     have r14:=RowAt.below dW30 r14.lt r14
     exact ⟨r2,r14⟩
    have dW30:=below_drew _ _ eW30
    have zW30:=size_drew _ _ eW30
    clear eW30
    have r2:=RowAt.below hw4 r2.lt r2
    have r2:=RowAt.below hw6 r2.lt r2
    have r2:=RowAt.below hw8 r2.lt r2
    have r2:=n14.keep r2
    have r2:=s15.keep r2 (by omega)
    have r2:=RowAt.below hw27 r2.lt r2
    have r2:=RowAt.below dW30 r2.lt r2
    have r14:=RowAt.below hw27 r14.lt r14
    have r14:=RowAt.below dW30 r14.lt r14
    refine hgs_take 0 (by rfl) Wn (by rfl) rfl (by decide) (by kernel_rfl) (by kernel_rfl) (by kernel_rfl) (fun _ _ _ h=>h) ⟨r2,r14⟩ (fun q hq=>y_loadA hq.1 (by kernel_rfl) (by kernel_rfl) rfl rfl) ?_
    refine hgs_take 1 (by rfl) Wn (by rfl) rfl (by decide) (by kernel_rfl) (by kernel_rfl) (by kernel_rfl) (fun _ _ _ h=>h) ⟨r2,r14⟩ (fun q hq=>y_loadA hq.2 (by kernel_rfl) (by kernel_rfl) rfl rfl) ?_
    have m4:=(m4.below (hw27.mono (by omega))).below (dW30.mono (by omega))
    have m6:=(m6.below (hw27.mono (by omega))).below (dW30.mono (by omega))
    refine hgs_one 2 (by rfl) (by kernel_rfl) Wn ?_
    refine Zc (rcheck_any (show IsLf W30 W30.heap.size (⟨p4,p6,nilS⟩:LfV) (⟨(bytesP xs),(bytesP (bytesR xs)),(numM (bytesR (bytesR xs)) 1),[]⟩:Lf) from ⟨(m4.more (B':=W30.heap.size) (by omega)),(m6.more (B':=W30.heap.size) (by omega)),((Sl.nil _ 0).more (B':=W30.heap.size) (by omega))⟩) (Nat.le_refl _)) rfl rfl ?_
    rintro _ w31 ⟨rfl,hw31⟩
    have zw31:=hw31.size
    have r2:=RowAt.below hw31 r2.lt r2
    have r14:=RowAt.below hw31 r14.lt r14
    refine hgs_next ⟨r2,r14⟩ ?_
    refine hgs_one 3 (by rfl) (by kernel_rfl) Wn ?_
    have r1:=n2.keep r1
    have r1:=s3.keep r1 (by omega)
    have r1:=RowAt.below hw4 r1.lt r1
    have r1:=RowAt.below hw6 r1.lt r1
    have r1:=RowAt.below hw8 r1.lt r1
    have r1:=n14.keep r1
    have r1:=s15.keep r1 (by omega)
    have r1:=RowAt.below hw27 r1.lt r1
    have r1:=RowAt.below dW30 r1.lt r1
    have r1:=RowAt.below hw31 r1.lt r1
    have o32:=r1
    refine lg_stw Wn r1 rfl rfl rfl (by kernel_rfl) (by kernel_rfl) rfl rfl fun w32 s32=>?_
    have r1:=s32.row
    have z32:=s32.size
    have r2:=s32.keep r2 (by omega)
    have r14:=s32.keep r14 (by omega)
    refine hgs_next ⟨r2,r14⟩ ?_
    refine hgs_take 4 (by rfl) Wn (by rfl) rfl (by decide) (by kernel_rfl) (by kernel_rfl) (by kernel_rfl) (fun _ _ _ h=>h) ⟨r2,r14⟩ (fun q hq=>y_assign rfl rfl) ?_
    refine hgs_take 5 (by rfl) Wn (by rfl) rfl (by decide) (by kernel_rfl) (by kernel_rfl) (by kernel_rfl) (fun _ _ _ h=>h) ⟨r2,r14⟩ (fun q hq=>y_assign rfl rfl) ?_
    refine hgs_done (by kernel_rfl) ?_
    refine Nx [2,15,16,3,4] ?_
    refine cg_ret ?_
    refine Qc ?_
    have hst:lfGet xs=((lfCheck (⟨(bytesP xs),(bytesP (bytesR xs)),(numM (bytesR (bytesR xs)) 1),[]⟩:Lf)),Lf.zero,[]):=((if_neg (not_not_intro c5)).trans ((if_neg (not_not_intro c7)).trans ((if_neg (not_not_intro c9)).trans ((if_neg (by omega)).trans ((if_neg c16).trans (if_pos c28))))))
    refine eg_ret_agg3 rfl rfl r1 (by kernel_rfl) (by kernel_rfl) rfl rfl ?_
    rw [hst]
    have u:=Un (Un u n1.below) n2.below
    have u:=u.trans (s3.below _ (by omega))
    have u:=Un (Un u hw4) hw6
    have u:=Un (Un u hw8) n14.below
    have u:=u.trans (s15.below _ (by omega))
    have u:=Un (Un (Un u hw27) dW30) hw31
    have u:=u.trans (s32.below _ (by omega))
    exact ⟨_,rfl,LfV.zero,nilS,rfl,(IsLf.zero _ _),(Sl.nil _ _),u⟩
   refine Zan (yb (nd_t c9) yi_neq) [2,3,4,5,6,9,12,13,14,48] ?_
   refine cg_ct rfl ?_
   refine Zr ?_
   have r2:=RowAt.below hw4 r2.lt r2
   have r2:=RowAt.below hw6 r2.lt r2
   have r2:=RowAt.below hw8 r2.lt r2
   refine Za (y_loadA r2) ?_
   refine ZM ?_
   have r1:=n2.keep r1
   have r1:=s3.keep r1 (by omega)
   have r1:=RowAt.below hw4 r1.lt r1
   have r1:=RowAt.below hw6 r1.lt r1
   have r1:=RowAt.below hw8 r1.lt r1
   have o33:=r1
   refine lg_stw Wn r1 rfl rfl rfl (by kernel_rfl) (by kernel_rfl) rfl rfl fun w33 s33=>?_
   have r1:=s33.row
   have z33:=s33.size
   refine ZA ?_
   refine ZAnr [2,5,6,9,12,13,3,4] ?_
   refine Qc ?_
   have hst:lfGet xs=((numE (bytesR (bytesR xs)) 1),Lf.zero,[]):=((if_neg (not_not_intro c5)).trans ((if_neg (not_not_intro c7)).trans (if_pos c9)))
   refine eg_ret_agg3 rfl rfl r1 (by kernel_rfl) (by kernel_rfl) rfl rfl ?_
   rw [hst]
   have u:=Un (Un u n1.below) n2.below
   have u:=u.trans (s3.below _ (by omega))
   have u:=Un (Un (Un u hw4) hw6) hw8
   have u:=u.trans (s33.below _ (by omega))
   exact ⟨_,rfl,LfV.zero,nilS,rfl,(IsLf.zero _ _),(Sl.nil _ _),u⟩
  refine Zan (yb (nd_t c7) yi_neq) [2,3,4,5,6,9,10,11,38] ?_
  refine cg_ct rfl ?_
  refine Zr ?_
  have r2:=RowAt.below hw4 r2.lt r2
  have r2:=RowAt.below hw6 r2.lt r2
  refine Za (y_loadA r2) ?_
  refine ZM ?_
  have r1:=n2.keep r1
  have r1:=s3.keep r1 (by omega)
  have r1:=RowAt.below hw4 r1.lt r1
  have r1:=RowAt.below hw6 r1.lt r1
  have o34:=r1
  refine lg_stw Wn r1 rfl rfl rfl (by kernel_rfl) (by kernel_rfl) rfl rfl fun w34 s34=>?_
  have r1:=s34.row
  have z34:=s34.size
  refine ZA ?_
  refine ZAnr [2,5,6,9,10,3,4] ?_
  refine Qc ?_
  have hst:lfGet xs=((bytesE (bytesR xs)),Lf.zero,[]):=((if_neg (not_not_intro c5)).trans (if_pos c7))
  refine eg_ret_agg3 rfl rfl r1 (by kernel_rfl) (by kernel_rfl) rfl rfl ?_
  rw [hst]
  have u:=Un (Un u n1.below) n2.below
  have u:=u.trans (s3.below _ (by omega))
  have u:=Un (Un u hw4) hw6
  have u:=u.trans (s34.below _ (by omega))
  exact ⟨_,rfl,LfV.zero,nilS,rfl,(IsLf.zero _ _),(Sl.nil _ _),u⟩
 refine Zan (yb (nd_t c5) yi_neq) [2,3,4,5,6,7,8,28] ?_
 refine cg_ct rfl ?_
 refine Zr ?_
 have r2:=RowAt.below hw4 r2.lt r2
 refine Za (y_loadA r2) ?_
 refine ZM ?_
 have r1:=n2.keep r1
 have r1:=s3.keep r1 (by omega)
 have r1:=RowAt.below hw4 r1.lt r1
 have o35:=r1
 refine lg_stw Wn r1 rfl rfl rfl (by kernel_rfl) (by kernel_rfl) rfl rfl fun w35 s35=>?_
 have r1:=s35.row
 have z35:=s35.size
 refine ZA ?_
 refine ZAnr [2,5,6,7,3,4] ?_
 refine Qc ?_
 have hst:lfGet xs=((bytesE xs),Lf.zero,[]):=(if_pos c5)
 refine eg_ret_agg3 rfl rfl r1 (by kernel_rfl) (by kernel_rfl) rfl rfl ?_
 rw [hst]
 have u:=Un (Un u n1.below) n2.below
 have u:=u.trans (s3.below _ (by omega))
 have u:=Un u hw4
 have u:=u.trans (s35.below _ (by omega))
 exact ⟨_,rfl,LfV.zero,nilS,rfl,(IsLf.zero _ _),(Sl.nil _ _),u⟩
/- PnRef:
  The document's Few, Check, Same, Put and Get.
-/
section
set_option maxHeartbeats 1000000
theorem fewP_any {W:World} {B:Nat} {l:PnV} {L:Pn} (hl:IsPn W B l L) (hB:B≤W.heap.size):Calls Tryz.prog 44 #[.agg (l.cs L)] W fun e W'=>∃ v,e=.returned v∧v=.bool (decide (pnFew L))∧Below W.heap.size W W':=by
 refine Qf (n:=15) Tryz.func44 rfl Tryz.ntmps44 (by simp) ?_
 show CG _ _ _ [(0,.agg (l.cs L))] _ _
 have u:=Below.refl W.heap.size W
 refine Zr ?_
 refine lg_boxw Wn rfl rfl (by kernel_rfl) rfl (by decide) fun b1 w1 n1=>?_
 have r1:=n1.row
 have k1:=n1.blk
 have z1:=n1.size
 have lt1:b1<w1.heap.size:=by omega
 refine ZAn [1,2] ?_
 refine Zr ?_
 refine Za (y_fld (off:=0)) ?_
 refine Za (Qo (v:=l.enc.v) r1 rfl (by kernel_rfl) rfl rfl) ?_
 have hl:=hl.below (n1.below.mono (by omega))
 refine Za (y_lenS (el:=5) hl.enc) ?_
 refine Za (y_fld (off:=1)) ?_
 refine Za (Qo (v:=l.hash.v) r1 rfl (by kernel_rfl) rfl rfl) ?_
 refine Za (y_lenS (el:=5) hl.hash) ?_
 refine Za yi_addW ?_
 refine Za (y_fld (off:=2)) ?_
 refine Za (Qo (v:=l.unm.v) r1 rfl (by kernel_rfl) rfl rfl) ?_
 refine Za (y_lenM (el:=3) hl.unm.len) ?_
 refine Za yi_addW ?_
 refine Za yi_leq ?_
 refine ZAnr [2] ?_
 have u:=Un u n1.below
 exact Qa rfl rfl ⟨_,rfl,rfl,u⟩
set_option maxRecDepth 20000 in
theorem rcheckP_any {W:World} {B:Nat} {l:PnV} {L:Pn} (hl:IsPn W B l L) (hB:B≤W.heap.size):Calls Tryz.prog 87 #[.agg (l.cs L)] W fun e W'=>∃ v,e=.returned v∧v=nv (pnCheck L)∧Below W.heap.size W W':=by
 refine Qf (n:=65) Tryz.func87 rfl Tryz.ntmps87 (by simp) ?_
 show CG _ _ _ [(0,.agg (l.cs L))] _ _
 have u:=Below.refl W.heap.size W
 have le_l:=hl.unm.len;have ca_l:=hl.unm.cap
 refine Zr ?_
 refine lg_boxw Wn rfl rfl (by kernel_rfl) rfl (by decide) fun b1 w1 n1=>?_
 have r1:=n1.row
 have k1:=n1.blk
 have z1:=n1.size
 have lt1:b1<w1.heap.size:=by omega
 refine ZAn [1,2] ?_
 refine Qd ?_
 refine Zr ?_
 refine Za (y_fld (off:=0)) ?_
 refine Za (Qo (v:=l.enc.v) r1 rfl (by kernel_rfl) rfl rfl) ?_
 have hl:=hl.below (n1.below.mono (by omega))
 refine Za (y_lenS (el:=5) hl.enc) ?_
 by_cases c2:(L.enc.length:Int)=0
 ·refine Zan (yb (dT c2) yi_eql) [1,2,8] ?_
  refine cg_ct rfl ?_
  refine ZrA ?_
  refine Znr [1,2] ?_
  refine Qc ?_
  have u:=Un u n1.below
  exact Qa rfl rfl ⟨_,rfl,congrArg nv (show pnCheck L=5 from (if_pos c2)).symm,u⟩
 refine Zan (yb (dF c2) yi_eql) [1,2,8] ?_
 refine Zcf [1,2] ?_
 refine Qd ?_
 refine Zr ?_
 refine Za (y_fld (off:=0)) ?_
 refine Za (Qo (v:=l.enc.v) r1 rfl (by kernel_rfl) rfl rfl) ?_
 refine Za (y_lenS (el:=5) hl.enc) ?_
 by_cases c3:200<(L.enc.length:Int)
 ·refine Za (yb (dT c3) yi_gtr) ?_
  refine ZM ?_
  refine Zf 13 ?_
  refine Zf 13 ?_
  refine Zf 13 ?_
  refine Zf 13 ?_
  refine Za (y_pick true) ?_
  refine ZM ?_
  refine Zf 19 ?_
  refine Zf 19 ?_
  refine Zf 19 ?_
  refine Zf 19 ?_
  refine Zan (y_pick true) [1,2,24] ?_
  refine cg_ct rfl ?_
  refine ZrA ?_
  refine Znr [1,2] ?_
  refine Qc ?_
  have u:=Un u n1.below
  exact Qa rfl rfl ⟨_,rfl,congrArg nv (show pnCheck L=4 from ((if_neg c2).trans (if_pos (by omega)))).symm,u⟩
 refine Za (yb (dF c3) yi_gtr) ?_
 refine ZM ?_
 refine Zt 13 (y_fld (off:=1)) ?_
 refine Zt 13 (Qo (v:=l.hash.v) r1 rfl (by kernel_rfl) rfl rfl) ?_
 refine Zt 13 (y_lenS (el:=5) hl.hash) ?_
 by_cases c4:200<(L.hash.length:Int)
 ·refine Zt 13 (yb (dT c4) yi_gtr) ?_
  refine Za (y_pick false) ?_
  refine ZM ?_
  refine Zf 19 ?_
  refine Zf 19 ?_
  refine Zf 19 ?_
  refine Zf 19 ?_
  refine Zan (y_pick true) [1,2,24] ?_
  refine cg_ct rfl ?_
  refine ZrA ?_
  refine Znr [1,2] ?_
  refine Qc ?_
  have u:=Un u n1.below
  exact Qa rfl rfl ⟨_,rfl,congrArg nv (show pnCheck L=4 from ((if_neg c2).trans (if_pos (by omega)))).symm,u⟩
 refine Zt 13 (yb (dF c4) yi_gtr) ?_
 refine Za (y_pick false) ?_
 refine ZM ?_
 refine Zt 19 (y_fld (off:=2)) ?_
 refine Zt 19 (Qo (v:=l.unm.v) r1 rfl (by kernel_rfl) rfl rfl) ?_
 refine Zt 19 (y_lenM (el:=3) hl.unm.len) ?_
 by_cases c5:64<(L.unm.length:Int)
 ·refine Zt 19 (yb (dT c5) yi_gtr) ?_
  refine Zan (y_pick false) [1,2,24] ?_
  refine cg_ct rfl ?_
  refine ZrA ?_
  refine Znr [1,2] ?_
  refine Qc ?_
  have u:=Un u n1.below
  exact Qa rfl rfl ⟨_,rfl,congrArg nv (show pnCheck L=4 from ((if_neg c2).trans (if_pos (by omega)))).symm,u⟩
 refine Zt 19 (yb (dF c5) yi_gtr) ?_
 refine Zan (y_pick false) [1,2,24] ?_
 refine Zcf [1,2] ?_
 refine Qd ?_
 refine ZrA ?_
 refine Zn [1,2,3] ?_
 refine Qj ?_
 have hb0:W.heap.size≤b1:=by omega
 have u:=Un u n1.below
 refine Qr (fun t a v=>Holds 65 [(1,pv b1 0),(3,nv ((t:Nat):Int))] a∧RowAt v b1 34 (l.cs L)∧IsPn v B l L∧Below W.heap.size W v∧t≤L.unm.length∧(∀ j,j<t→¬((L.unm.getD j 0)<0∨64≤(L.unm.getD j 0)))) L.unm.length (fun a ha=>⟨ha.keep (fk rfl (fk rfl fn)),r1,hl,u,(Nat.zero_le _),(fun j hj=>absurd hj (Nat.not_lt_zero _))⟩) ?_
 rintro t a v ht ⟨ha,r1,hl,u,tle,hno⟩
 refine cg_at ha ?_
 clear ha a
 have zv:=u.size
 have l_r1:=r1.lt
 refine Qd ?_
 refine ZrM ?_
 refine Za (y_fld (off:=2)) ?_
 refine Za (Qo (v:=l.unm.v) r1 rfl (by kernel_rfl) rfl rfl) ?_
 refine Za (y_lenM (el:=3) hl.unm.len) ?_
 by_cases c6:((t:Nat):Int)<(L.unm.length:Int)
 ·refine Zan (yb (dT c6) yi_lss) [1,3,25,26,27,28,29] ?_
  refine cg_ct rfl ?_
  refine Zki [1,3,25,26,27,28,29] ?_
  refine Qd ?_
  refine Qj ?_
  refine Zr ?_
  refine Za (y_fld (off:=2)) ?_
  refine Za (Qo (v:=l.unm.v) r1 rfl (by kernel_rfl) rfl rfl) ?_
  refine ZM ?_
  refine Za (y_ixT (i:=t) (iI:=((t:Nat):Int)) hl.unm (by omega) (by omega) rfl rfl rfl) ?_
  refine Za (y_ldT (i:=t) hl.unm (by omega) rfl rfl) ?_
  by_cases c7:(L.unm.getD t 0)<0
  ·refine Za (yb (dT c7) yi_lss) ?_
   refine ZM ?_
   refine Zf 38 ?_
   refine Zf 38 ?_
   refine Zf 38 ?_
   refine Zf 38 ?_
   refine Zf 38 ?_
   refine Zf 38 ?_
   refine Zan (y_pick true) [1,3,25,26,27,28,29,32,33,34,35,36,37,38,45] ?_
   refine cg_ct rfl ?_
   refine ZrA ?_
   refine Znr [1,3,25,26,27,28,29,32,33,34,35,36,37,38,45,2] ?_
   refine Qg ?_
   refine Qc ?_
   refine Qc ?_
   refine Qg ?_
   refine Qc ?_
   have ex:∃ x∈L.unm,x<0∨64≤x:=⟨_,getD_mem (i:=t) (by omega),by omega⟩
   exact Qa rfl rfl ⟨_,rfl,congrArg nv (show pnCheck L=3 from (((if_neg c2).trans (if_neg (by omega))).trans (if_pos ex))).symm,u⟩
  refine Za (yb (dF c7) yi_lss) ?_
  refine ZM ?_
  refine Zt 38 (y_fld (off:=2)) ?_
  refine Zt 38 (Qo (v:=l.unm.v) r1 rfl (by kernel_rfl) rfl rfl) ?_
  refine Zt 38 y_move ?_
  refine Zt 38 (y_ixT (i:=t) (iI:=((t:Nat):Int)) hl.unm (by omega) (by omega) rfl rfl rfl) ?_
  refine Zt 38 (y_ldT (i:=t) hl.unm (by omega) rfl rfl) ?_
  by_cases c8:63<(L.unm.getD t 0)
  ·refine Zt 38 (yb (dT c8) yi_gtr) ?_
   refine Zan (y_pick false) [1,3,25,26,27,28,29,32,33,34,35,36,37,38,39,40,41,42,43,44,45] ?_
   refine cg_ct rfl ?_
   refine ZrA ?_
   refine Znr [1,3,25,26,27,28,29,32,33,34,35,36,37,38,39,40,41,42,43,44,45,2] ?_
   refine Qg ?_
   refine Qc ?_
   refine Qc ?_
   refine Qg ?_
   refine Qc ?_
   have ex:∃ x∈L.unm,x<0∨64≤x:=⟨_,getD_mem (i:=t) (by omega),by omega⟩
   exact Qa rfl rfl ⟨_,rfl,congrArg nv (show pnCheck L=3 from (((if_neg c2).trans (if_neg (by omega))).trans (if_pos ex))).symm,u⟩
  refine Zt 38 (yb (dF c8) yi_gtr) ?_
  refine Zan (y_pick false) [1,3,25,26,27,28,29,32,33,34,35,36,37,38,39,40,41,42,43,44,45] ?_
  refine cg_cf rfl ?_
  refine cg_skip ?_
  refine Qi ?_
  refine Nx [1,3,25,26,27,28,29,32,33,34,35,36,37,38,39,40,41,42,43,44,45] ?_
  refine Qe ?_
  refine ZM ?_
  refine Za (yv (congrArg nv (show ((t:Nat):Int)+1=((t+1:Nat):Int) by omega)) (yi_add rfl rfl rfl (by omega) (by omega))) ?_
  refine ZA ?_
  refine Qk ?_
  exact fun a ha=>(show t<L.unm.length∧_ from ⟨(by omega),ha.keep (fk rfl (fk rfl fn)),r1,hl,u,(by omega),(fun j hj=>if q:j<t then hno j q else by
    obtain rfl:j=t:=by omega
    omega)⟩)
 refine Zan (yb (dF c6) yi_lss) [1,3,25,26,27,28,29] ?_
 refine cg_cf rfl ?_
 refine cg_exit ?_
 refine Qh ?_
 refine Qh ?_
 refine Ql ?_
 refine Nx [1] ?_
 refine Qd ?_
 refine ZrA ?_
 refine Zn [1,4] ?_
 refine Qj ?_
 have nex:¬∃ x∈L.unm,x<0∨64≤x:=by rintro ⟨x,hx,q⟩;obtain ⟨i,hi,rfl⟩:=mem_getD hx;exact hno i (by omega) q
 have hb0:W.heap.size≤b1:=by omega
 refine Qr (fun t a v=>Holds 65 [(1,pv b1 0),(4,nv (((t+1):Nat):Int))] a∧RowAt v b1 34 (l.cs L)∧IsPn v B l L∧Below W.heap.size W v∧(∀ i,i<t→L.unm.getD i 0<L.unm.getD (i+1) 0)∧(t=0∨t<L.unm.length)) L.unm.length (fun a ha=>⟨ha.keep (fk rfl (fk rfl fn)),r1,hl,u,(fun i hi=>absurd hi (Nat.not_lt_zero _)),(.inl rfl)⟩) ?_
 rintro t a v ht ⟨ha,r1,hl,u,he,tle⟩
 refine cg_at ha ?_
 clear ha a
 have zv:=u.size
 have l_r1:=r1.lt
 refine Qd ?_
 refine ZrM ?_
 refine Za (y_fld (off:=2)) ?_
 refine Za (Qo (v:=l.unm.v) r1 rfl (by kernel_rfl) rfl rfl) ?_
 refine Za (y_lenM (el:=3) hl.unm.len) ?_
 by_cases c9:(((t+1):Nat):Int)<(L.unm.length:Int)
 ·refine Zan (yb (dT c9) yi_lss) [1,4,46,47,48,49,50] ?_
  refine cg_ct rfl ?_
  refine Zki [1,4,46,47,48,49,50] ?_
  refine Qd ?_
  refine Qj ?_
  refine Qd ?_
  refine cg_still (by kernel_rfl) (by kernel_rfl) fun W10 eW10=>?_
  have dW10:=below_drew _ _ eW10
  have zW10:=size_drew _ _ eW10
  clear eW10
  refine Zsa (y_fld (off:=2)) ?_
  have r1:=RowAt.below dW10 r1.lt r1
  refine Zsa (Qo (v:=l.unm.v) r1 rfl (by kernel_rfl) rfl rfl) ?_
  refine Zsa y_move ?_
  refine Zsa (yv (congrArg nv (show ((t+1:Nat):Int)-1=((t:Nat):Int) by omega)) (yi_sub rfl rfl rfl (by omega) (by omega))) ?_
  have hl:=hl.below (dW10.mono (by omega))
  refine Zsa (y_ixT (i:=t) (iI:=((t:Nat):Int)) hl.unm (by omega) (by omega) rfl rfl rfl) ?_
  refine Zsa (y_ldT (i:=t) hl.unm (by omega) rfl rfl) ?_
  refine Zsa (y_fld (off:=2)) ?_
  refine Zsa (Qo (v:=l.unm.v) r1 rfl (by kernel_rfl) rfl rfl) ?_
  refine Zsa y_move ?_
  refine Zsa (y_ixT (i:=(t+1)) (iI:=(((t+1):Nat):Int)) hl.unm (by omega) (by omega) rfl rfl rfl) ?_
  refine Zsa (y_ldT (i:=(t+1)) hl.unm (by omega) rfl rfl) ?_
  by_cases c11:(L.unm.getD (t+1) 0)≤(L.unm.getD t 0)
  ·refine Zsa (yb (dT c11) yi_geq) ?_
   refine Zsn [1,4,46,47,48,49,50,53,54,55,56,57,58,59,60,61,62,63,64] ?_
   refine cg_ct rfl ?_
   refine ZrA ?_
   refine Znr [1,4,46,47,48,49,50,53,54,55,56,57,58,59,60,61,62,63,64,2] ?_
   refine Qg ?_
   refine Qc ?_
   refine Qc ?_
   refine Qg ?_
   refine Qc ?_
   have u:=Un u dW10
   exact Qa rfl rfl ⟨_,rfl,congrArg nv (show pnCheck L=8 from ((((if_neg c2).trans (if_neg (by omega))).trans (if_neg nex)).trans (if_pos (not_rising (by omega) c11)))).symm,u⟩
  refine Zsa (yb (dF c11) yi_geq) ?_
  refine Zsn [1,4,46,47,48,49,50,53,54,55,56,57,58,59,60,61,62,63,64] ?_
  refine cg_cf rfl ?_
  refine cg_skip ?_
  refine Qi ?_
  refine Nx [1,4,46,47,48,49,50,53,54,55,56,57,58,59,60,61,62,63,64] ?_
  refine Qe ?_
  refine ZM ?_
  refine Za (yv (congrArg nv (show ((t+1:Nat):Int)+1=((t+1+1:Nat):Int) by omega)) (yi_add rfl rfl rfl (by omega) (by omega))) ?_
  refine ZA ?_
  refine Qk ?_
  have u:=Un u dW10
  exact fun a ha=>(show t<L.unm.length∧_ from ⟨(by omega),ha.keep (fk rfl (fk rfl fn)),r1,hl,u,(fun i hi=>if q:i<t then he i q else by
    obtain rfl:i=t:=by omega
    exact Int.not_le.1 c11),(by omega)⟩)
 refine Zan (yb (dF c9) yi_lss) [1,4,46,47,48,49,50] ?_
 refine cg_cf rfl ?_
 refine cg_exit ?_
 refine Qh ?_
 refine Qh ?_
 refine Ql ?_
 refine nx (E':=[]) fn ?_
 refine ZrA ?_
 refine Znr [2] ?_
 exact Qa rfl rfl ⟨_,rfl,congrArg nv (show pnCheck L=0 from ((((if_neg c2).trans (if_neg (by omega))).trans (if_neg nex)).trans (if_neg (not_not_intro (rising_of fun i hi=>he i (by omega)))))).symm,u⟩
theorem rsameP_any {W:World} {B:Nat} {l m:PnV} {L M:Pn} (hl:IsPn W B l L) (hm:IsPn W B m M) (hB:B≤W.heap.size):Calls Tryz.prog 54 #[.agg (l.cs L),.agg (m.cs M)] W fun e W'=>∃ v,e=.returned v∧v=.bool (decide (PnSame L M))∧Below W.heap.size W W':=by
 refine Qf (n:=28) Tryz.func54 rfl Tryz.ntmps54 (by simp) ?_
 show CG _ _ _ [(0,.agg (l.cs L)),(1,.agg (m.cs M))] _ _
 have u:=Below.refl W.heap.size W
 refine Zr ?_
 refine lg_boxw Wn rfl rfl (by kernel_rfl) rfl (by decide) fun b1 w1 n1=>?_
 have r1:=n1.row
 have k1:=n1.blk
 have z1:=n1.size
 have lt1:b1<w1.heap.size:=by omega
 refine lg_boxw Wn rfl rfl (by kernel_rfl) rfl (by decide) fun b2 w2 n2=>?_
 have r2:=n2.row
 have k2:=n2.blk
 have z2:=n2.size
 have lt2:b2<w2.heap.size:=by omega
 refine ZAn [2,3,4] ?_
 refine Zr ?_
 refine Za (y_fld (off:=0)) ?_
 have r1:=n2.keep r1
 refine Za (Qo (v:=l.enc.v) r1 rfl (by kernel_rfl) rfl rfl) ?_
 have hl:=(hl.below (n1.below.mono (by omega))).below (n2.below.mono (by omega))
 have by3:Bytes L.enc:=hl.enc.bytes
 refine Za (y_strS hl.enc) ?_
 refine Za (y_fld (off:=0)) ?_
 refine Za (Qo (v:=m.enc.v) r2 rfl (by kernel_rfl) rfl rfl) ?_
 have hm:=(hm.below (n1.below.mono (by omega))).below (n2.below.mono (by omega))
 have by4:Bytes M.enc:=hm.enc.bytes
 refine Za (y_strS hm.enc) ?_
 by_cases c5:L.enc=M.enc
 ·refine Za (yb (dT c5) (y_seqS (xs:=L.enc) (ys:=M.enc) by3 by4)) ?_
  refine ZM ?_
  refine Zt 12 (y_fld (off:=1)) ?_
  refine Zt 12 (Qo (v:=l.hash.v) r1 rfl (by kernel_rfl) rfl rfl) ?_
  have by6:Bytes L.hash:=hl.hash.bytes
  refine Zt 12 (y_strS hl.hash) ?_
  refine Zt 12 (y_fld (off:=1)) ?_
  refine Zt 12 (Qo (v:=m.hash.v) r2 rfl (by kernel_rfl) rfl rfl) ?_
  have by7:Bytes M.hash:=hm.hash.bytes
  refine Zt 12 (y_strS hm.hash) ?_
  by_cases c8:L.hash=M.hash
  ·refine Zt 12 (yb (dT c8) (y_seqS (xs:=L.hash) (ys:=M.hash) by6 by7)) ?_
   refine Za (y_pick true) ?_
   refine ZM ?_
   refine Zt 21 (y_fld (off:=2)) ?_
   refine Zt 21 (Qo (v:=l.unm.v) r1 rfl (by kernel_rfl) rfl rfl) ?_
   refine Zt 21 (y_fld (off:=2)) ?_
   refine Zt 21 (Qo (v:=m.unm.v) r2 rfl (by kernel_rfl) rfl rfl) ?_
   by_cases c9:L.unm=M.unm
   ·refine Zct 21 (ints_S hl.unm hm.unm (by omega) (by omega)) rfl rfl ?_
    rintro u10 w10 ⟨e10,hw10⟩
    have zw10:=hw10.size
    obtain rfl:u10=.bool true:=e10.trans (congrArg Value.bool (decide_eq_true c9))
    refine Za (y_pick true) ?_
    refine ZAnr [4] ?_
    have u:=Un (Un (Un u n1.below) n2.below) hw10
    exact Qa rfl rfl ⟨_,rfl,congrArg Value.bool (show true=decide (PnSame L M) from (dT (by simp [PnSame, *])).symm),u⟩
   refine Zct 21 (ints_S hl.unm hm.unm (by omega) (by omega)) rfl rfl ?_
   rintro u11 w11 ⟨e11,hw11⟩
   have zw11:=hw11.size
   obtain rfl:u11=.bool false:=e11.trans (congrArg Value.bool (decide_eq_false c9))
   refine Za (y_pick true) ?_
   refine ZAnr [4] ?_
   have u:=Un (Un (Un u n1.below) n2.below) hw11
   exact Qa rfl rfl ⟨_,rfl,congrArg Value.bool (show false=decide (PnSame L M) from (dF (by simp [PnSame, *])).symm),u⟩
  refine Zt 12 (yb (dF c8) (y_seqS (xs:=L.hash) (ys:=M.hash) by6 by7)) ?_
  refine Za (y_pick true) ?_
  refine ZM ?_
  refine Zf 21 ?_
  refine Zf 21 ?_
  refine Zf 21 ?_
  refine Zf 21 ?_
  refine Zf 21 ?_
  refine Za (y_pick false) ?_
  refine ZAnr [4] ?_
  have u:=Un (Un u n1.below) n2.below
  exact Qa rfl rfl ⟨_,rfl,congrArg Value.bool (show false=decide (PnSame L M) from (dF (by simp [PnSame, *])).symm),u⟩
 refine Za (yb (dF c5) (y_seqS (xs:=L.enc) (ys:=M.enc) by3 by4)) ?_
 refine ZM ?_
 refine Zf 12 ?_
 refine Zf 12 ?_
 refine Zf 12 ?_
 refine Zf 12 ?_
 refine Zf 12 ?_
 refine Zf 12 ?_
 refine Zf 12 ?_
 refine Za (y_pick false) ?_
 refine ZM ?_
 refine Zf 21 ?_
 refine Zf 21 ?_
 refine Zf 21 ?_
 refine Zf 21 ?_
 refine Zf 21 ?_
 refine Za (y_pick false) ?_
 refine ZAnr [4] ?_
 have u:=Un (Un u n1.below) n2.below
 exact Qa rfl rfl ⟨_,rfl,congrArg Value.bool (show false=decide (PnSame L M) from (dF (by simp [PnSame, *])).symm),u⟩
theorem rputP_any {W:World} {B:Nat} {s:SlV} {xs:List Int} {l:PnV} {L:Pn} (h:Sl W B s xs) (hl:IsPn W B l L) (hB:B≤W.heap.size) (hx:xs.length≤88000):Calls Tryz.prog 72 #[s.v,.agg (l.cs L)] W fun e W'=>∃ v,e=.returned v∧PutS W (xs++pnPut L) v W':=by
 refine Qf (n:=25) Tryz.func72 rfl Tryz.ntmps72 (by simp) ?_
 show CG _ _ _ [(0,s.v),(1,.agg (l.cs L))] _ _
 have u:=Below.refl W.heap.size W
 refine Zr ?_
 refine lg_boxw Wn rfl rfl (by kernel_rfl) rfl (by decide) fun b1 w1 n1=>?_
 have r1:=n1.row
 have k1:=n1.blk
 have z1:=n1.size
 have lt1:b1<w1.heap.size:=by omega
 refine ZAn [0,3,4] ?_
 refine Zr ?_
 obtain ⟨bs3,hbs3⟩:∃ q,q=w1.heap.size:=⟨_,rfl⟩
 refine lg_bs0 Wn rfl rfl (by decide) fun v2 w2 g2 l2=>?_
 rw [←hbs3] at g2
 have z2:=l2.size
 refine ZM ?_
 have h:=(h.below (n1.below.mono (by omega))).below (l2.mono (by omega))
 refine lg_appS g2 Bytes.nil h (by simp only [List.length_nil];omega) (by omega) Wn rfl rfl rfl rfl rfl (by decide) fun r4 w4 m4 g4 l4 z4=>?_
 simp only [List.nil_append] at m4 g4
 refine ZAn [3,4,5] ?_
 refine Qd ?_
 refine Zr ?_
 have r1:=RowAt.below l2 r1.lt r1
 have r1:=RowAt.below l4 (by omega) r1
 refine Za (y_loadA r1) ?_
 have hl:=((hl.below (n1.below.mono (by omega))).below (l2.mono (by omega))).below (l4.mono (by omega))
 refine Zc (rcheckP_any (hl.more (B':=w4.heap.size) (by omega)) (Nat.le_refl _)) rfl rfl ?_
 rintro _ w5 ⟨rfl,hw5⟩
 have zw5:=hw5.size
 by_cases c6:(pnCheck L)=0
 ·have ok:=pnCheck_ok c6
  refine Zan (yb (nd_f c6) yi_neq) [3,4,5,11] ?_
  refine Zcf [3,4,5] ?_
  refine ZrM ?_
  refine Za (y_fld (off:=0)) ?_
  have r1:=RowAt.below hw5 r1.lt r1
  refine Za (Qo (v:=l.enc.v) r1 rfl (by kernel_rfl) rfl rfl) ?_
  have m4:=m4.below (hw5.mono (by omega))
  have hl:=hl.below (hw5.mono (by omega))
  refine Zc (rputBytes_S m4 hl.enc (by omega) (by omega) (by omega) (by omega)) rfl rfl ?_
  rintro _ w7 ⟨r7,rfl,m7,hw7⟩
  have zw7:=hw7.size
  have lb7:=bytesOct_le L.enc
  refine ZAn [3,4,5] ?_
  refine ZrM ?_
  refine Za (y_fld (off:=1)) ?_
  have r1:=RowAt.below hw7 r1.lt r1
  refine Za (Qo (v:=l.hash.v) r1 rfl (by kernel_rfl) rfl rfl) ?_
  have hl:=hl.below (hw7.mono (by omega))
  refine Zc (rputBytes_S m7 hl.hash (by omega) (by omega) (by simp only [List.length_append];omega) (by omega)) rfl rfl ?_
  rintro _ w8 ⟨r8,rfl,m8,hw8⟩
  have zw8:=hw8.size
  have lb8:=bytesOct_le L.hash
  refine ZAn [3,4,5] ?_
  refine ZrM ?_
  refine Za (y_fld (off:=2)) ?_
  have r1:=RowAt.below hw8 r1.lt r1
  refine Za (Qo (v:=l.unm.v) r1 rfl (by kernel_rfl) rfl rfl) ?_
  have hl:=hl.below (hw8.mono (by omega))
  refine Zc (rputNums_S m8 hl.unm (by omega) (by omega) (by simp only [List.length_append];omega) (by omega)) rfl rfl ?_
  rintro _ w9 ⟨r9,rfl,m9,hw9⟩
  have zw9:=hw9.size
  have lb9:=bytesOct_le (numsOct L.unm)
  have ln9:=numsOct_length L.unm
  refine ZAnr [4] ?_
  have u:=Un (Un u n1.below) l2
  have u:=u.trans (l4.mono (by omega))
  have u:=Un (Un u hw5) hw7
  have u:=Un (Un u hw8) hw9
  exact Qa rfl rfl ⟨_,rfl,r9,rfl,m9.cast (by rw [pnPut,if_pos c6];simp [pnOct]),u⟩
 refine Zan (yb (nd_t c6) yi_neq) [3,4,5,11] ?_
 refine cg_ct rfl ?_
 refine ZrM ?_
 refine ZAnr [3,5,4] ?_
 refine Qc ?_
 have m4:=m4.below (hw5.mono (by omega))
 have u:=Un (Un u n1.below) l2
 have u:=u.trans (l4.mono (by omega))
 have u:=Un u hw5
 exact Qa rfl rfl ⟨_,rfl,r4,rfl,(m4.more (by omega)).cast (by rw [pnPut,if_neg c6,List.append_nil]),u⟩
set_option maxHeartbeats 2000000 in
theorem rgetP_anyO {W:World} {B:Nat} {s:SlV} {xs:List Int} (h:Sl W B s xs) (hB:B≤W.heap.size):Calls Tryz.prog 52 #[s.v] W fun e W'=>∃ v,e=.returned v∧∃ (l:PnV) (r:SlV),v=.tuple #[.agg (l.cs (pnGet xs).2.1),r.v,nv (pnGet xs).1]∧IsPn W' W'.heap.size l (pnGet xs).2.1∧Sl W' B r (pnGet xs).2.2∧l.fresh W.heap.size∧l.old B∧Below W.heap.size W W':=by
 refine Qf (n:=59) Tryz.func52 rfl Tryz.ntmps52 (by simp) ?_
 show CG _ _ _ [(0,s.v)] _ _
 have u:=Below.refl W.heap.size W
 refine Zr ?_
 refine lg_allocw (cs:=PnV.zero.cs Pn.zero) Wn rfl (by kernel_rfl) rfl (by decide) fun b1 w1 n1=>?_
 have r1:=n1.row
 have k1:=n1.blk
 have z1:=n1.size
 have lt1:b1<w1.heap.size:=by omega
 refine ZA ?_
 refine ZAn [0,2,3,4] ?_
 refine Zr ?_
 refine Za (y_build (cs:=PnV.zero.cs Pn.zero)) ?_
 refine lg_allocw (cs:=PnV.zero.cs Pn.zero) Wn rfl (by kernel_rfl) rfl (by decide) fun b2 w2 n2=>?_
 have r2:=n2.row
 have k2:=n2.blk
 have z2:=n2.size
 have lt2:b2<w2.heap.size:=by omega
 have o3:=r2
 refine lg_stw Wn r2 rfl rfl rfl (by kernel_rfl) (by kernel_rfl) rfl rfl fun w3 s3=>?_
 have r2:=s3.row
 have z3:=s3.size
 refine Zn [0,2,3,4,5] ?_
 refine ZrM ?_
 have h:=((h.below (n1.below.mono (by omega))).below (n2.below.mono (by omega))).set o3 rfl s3
 refine Zc (rgetBytes_S h (by omega)) rfl rfl ?_
 rintro _ w4 ⟨p4,r4,rfl,m4,l4,hw4⟩
 have zw4:=hw4.size
 refine ZM ?_
 refine Za y_extract ?_
 refine Za y_extract ?_
 refine Za y_extract ?_
 refine ZA ?_
 refine ZA ?_
 refine ZAn [2,3,4,5,6,7,8] ?_
 refine Qd ?_
 refine ZrM ?_
 by_cases c5:(bytesE xs)=0
 ·refine Zan (yb (nd_f c5) yi_neq) [2,3,4,5,6,7,8,24] ?_
  refine Zcf [2,3,4,5,6,7] ?_
  refine ZrM ?_
  refine Zc (rgetBytes_S l4 (by omega)) rfl rfl ?_
  rintro _ w6 ⟨p6,r6,rfl,m6,l6,hw6⟩
  have zw6:=hw6.size
  refine ZM ?_
  refine Za y_extract ?_
  refine Za y_extract ?_
  refine Za y_extract ?_
  refine ZA ?_
  refine ZA ?_
  refine ZAn [2,3,4,5,6,9,10,11] ?_
  refine Qd ?_
  refine ZrM ?_
  by_cases c7:(bytesE (bytesR xs))=0
  ·refine Zan (yb (nd_f c7) yi_neq) [2,3,4,5,6,9,10,11,34] ?_
   refine Zcf [2,3,4,5,6,9,10] ?_
   refine ZrM ?_
   refine Zc (rgetNums_SF l6 (by omega)) rfl rfl ?_
   rintro _ w8 ⟨p8,r8,rfl,m8,l8,f8,hw8⟩
   have zw8:=hw8.size
   refine ZM ?_
   refine Za y_extract ?_
   refine Za y_extract ?_
   refine Za y_extract ?_
   refine ZA ?_
   refine ZA ?_
   refine ZAn [2,3,4,5,6,9,12,13,14] ?_
   refine Qd ?_
   refine ZrM ?_
   by_cases c9:(numsE (bytesR (bytesR xs)))=0
   ·refine Zan (yb (nd_f c9) yi_neq) [2,3,4,5,6,9,12,13,14,44] ?_
    refine Zcf [2,3,4,5,6,9,12,13] ?_
    refine ZrM ?_
    refine ZM ?_
    refine ZM ?_
    refine Za (y_build (cs:=(⟨p4,p6,p8⟩:PnV).cs (⟨(bytesP xs),(bytesP (bytesR xs)),(numsL (bytesR (bytesR xs)))⟩:Pn))) ?_
    refine lg_allocw (cs:=PnV.zero.cs Pn.zero) Wn rfl (by kernel_rfl) rfl (by decide) fun b10 w10 n10=>?_
    have r10:=n10.row
    have k10:=n10.blk
    have z10:=n10.size
    have lt10:b10<w10.heap.size:=by omega
    have o11:=r10
    refine lg_stw Wn r10 rfl rfl rfl (by kernel_rfl) (by kernel_rfl) rfl rfl fun w11 s11=>?_
    have r10:=s11.row
    have z11:=s11.size
    refine Zn [2,3,4,5,13,15] ?_
    refine Qd ?_
    refine Zr ?_
    refine Za (y_loadA r10) ?_
    have m4:=(m4.below (hw6.mono (by omega))).below (hw8.mono (by omega))
    have m4:=(m4.below (n10.below.mono (by omega))).set o11 rfl s11
    have m6:=((m6.below (hw8.mono (by omega))).below (n10.below.mono (by omega))).set o11 rfl s11
    have m8:=(m8.below (n10.below.mono (by omega))).set o11 rfl s11
    refine Zc (rcheckP_any (show IsPn w11 w11.heap.size (⟨p4,p6,p8⟩:PnV) (⟨(bytesP xs),(bytesP (bytesR xs)),(numsL (bytesR (bytesR xs)))⟩:Pn) from ⟨(m4.more (B':=w11.heap.size) (by omega)),(m6.more (B':=w11.heap.size) (by omega)),(m8.more (B':=w11.heap.size) (by omega))⟩) (Nat.le_refl _)) rfl rfl ?_
    rintro _ w12 ⟨rfl,hw12⟩
    have zw12:=hw12.size
    by_cases c13:(pnCheck (⟨(bytesP xs),(bytesP (bytesR xs)),(numsL (bytesR (bytesR xs)))⟩:Pn))=0
    ·refine Zan (yb (nd_f c13) yi_neq) [2,3,4,5,13,15,53] ?_
     refine Zcf [2,3,4,13,15] ?_
     refine Zr ?_
     have r10:=RowAt.below hw12 r10.lt r10
     refine Za (y_loadA r10) ?_
     refine ZM ?_
     have r1:=n2.keep r1
     have r1:=s3.keep r1 (by omega)
     have r1:=RowAt.below hw4 r1.lt r1
     have r1:=RowAt.below hw6 r1.lt r1
     have r1:=RowAt.below hw8 r1.lt r1
     have r1:=n10.keep r1
     have r1:=s11.keep r1 (by omega)
     have r1:=RowAt.below hw12 r1.lt r1
     have o14:=r1
     refine lg_stw Wn r1 rfl rfl rfl (by kernel_rfl) (by kernel_rfl) rfl rfl fun w14 s14=>?_
     have r1:=s14.row
     have z14:=s14.size
     refine ZA ?_
     refine ZAnr [2,3,4] ?_
     have hst:pnGet xs=(0,(⟨(bytesP xs),(bytesP (bytesR xs)),(numsL (bytesR (bytesR xs)))⟩:Pn),(numsR (bytesR (bytesR xs)))):=((if_neg (not_not_intro c5)).trans ((if_neg (not_not_intro c7)).trans ((if_neg (not_not_intro c9)).trans (if_neg (not_not_intro c13)))))
     refine eg_ret_agg3 rfl rfl r1 (by kernel_rfl) (by kernel_rfl) rfl rfl ?_
     rw [hst]
     have m4:=(m4.below (hw12.mono (by omega))).set o14 rfl s14
     have m6:=(m6.below (hw12.mono (by omega))).set o14 rfl s14
     have m8:=(m8.below (hw12.mono (by omega))).set o14 rfl s14
     have l8:=(l8.below (n10.below.mono (by omega))).set o11 rfl s11
     have l8:=(l8.below (hw12.mono (by omega))).set o14 rfl s14
     have u:=Un (Un u n1.below) n2.below
     have u:=u.trans (s3.below _ (by omega))
     have u:=Un (Un u hw4) hw6
     have u:=Un (Un u hw8) n10.below
     have u:=u.trans (s11.below _ (by omega))
     have u:=Un u hw12
     have u:=u.trans (s14.below _ (by omega))
     exact ⟨_,rfl,(⟨p4,p6,p8⟩:PnV),r8,rfl,(show IsPn w14 w14.heap.size (⟨p4,p6,p8⟩:PnV) (⟨(bytesP xs),(bytesP (bytesR xs)),(numsL (bytesR (bytesR xs)))⟩:Pn) from ⟨(m4.more (B':=w14.heap.size) (by omega)),(m6.more (B':=w14.heap.size) (by omega)),(m8.more (B':=w14.heap.size) (by omega))⟩),l8,f8.le (by omega),⟨m4.old,m6.old⟩,u⟩
    refine Zan (yb (nd_t c13) yi_neq) [2,3,4,5,13,15,53] ?_
    refine cg_ct rfl ?_
    refine Qd ?_
    refine cg_heldS (fun q=>RowAt q b2 34 (PnV.zero.cs Pn.zero)∧RowAt q b10 34 ((⟨p4,p6,p8⟩:PnV).cs (⟨(bytesP xs),(bytesP (bytesR xs)),(numsL (bytesR (bytesR xs)))⟩:Pn))) (by kernel_rfl) (fun W15 eW15=>?_) fun W15 eW15=>?_
    ·have dW15:=below_drew _ _ eW15
     have r2:=RowAt.below hw4 r2.lt r2
     have r2:=RowAt.below hw6 r2.lt r2
     have r2:=RowAt.below hw8 r2.lt r2
     have r2:=n10.keep r2
     have r2:=s11.keep r2 (by omega)
     have r2:=RowAt.below hw12 r2.lt r2
     have r2:=RowAt.below dW15 r2.lt r2
     have r10:=RowAt.below hw12 r10.lt r10
     have r10:=RowAt.below dW15 r10.lt r10
     exact ⟨r2,r10⟩
    have dW15:=below_drew _ _ eW15
    have zW15:=size_drew _ _ eW15
    clear eW15
    have r2:=RowAt.below hw4 r2.lt r2
    have r2:=RowAt.below hw6 r2.lt r2
    have r2:=RowAt.below hw8 r2.lt r2
    have r2:=n10.keep r2
    have r2:=s11.keep r2 (by omega)
    have r2:=RowAt.below hw12 r2.lt r2
    have r2:=RowAt.below dW15 r2.lt r2
    have r10:=RowAt.below hw12 r10.lt r10
    have r10:=RowAt.below dW15 r10.lt r10
    refine hgs_take 0 (by rfl) Wn (by rfl) rfl (by decide) (by kernel_rfl) (by kernel_rfl) (by kernel_rfl) (fun _ _ _ h=>h) ⟨r2,r10⟩ (fun q hq=>y_loadA hq.1 (by kernel_rfl) (by kernel_rfl) rfl rfl) ?_
    refine hgs_take 1 (by rfl) Wn (by rfl) rfl (by decide) (by kernel_rfl) (by kernel_rfl) (by kernel_rfl) (fun _ _ _ h=>h) ⟨r2,r10⟩ (fun q hq=>y_loadA hq.2 (by kernel_rfl) (by kernel_rfl) rfl rfl) ?_
    have m4:=(m4.below (hw12.mono (by omega))).below (dW15.mono (by omega))
    have m6:=(m6.below (hw12.mono (by omega))).below (dW15.mono (by omega))
    have m8:=(m8.below (hw12.mono (by omega))).below (dW15.mono (by omega))
    refine hgs_one 2 (by rfl) (by kernel_rfl) Wn ?_
    refine Zc (rcheckP_any (show IsPn W15 W15.heap.size (⟨p4,p6,p8⟩:PnV) (⟨(bytesP xs),(bytesP (bytesR xs)),(numsL (bytesR (bytesR xs)))⟩:Pn) from ⟨(m4.more (B':=W15.heap.size) (by omega)),(m6.more (B':=W15.heap.size) (by omega)),(m8.more (B':=W15.heap.size) (by omega))⟩) (Nat.le_refl _)) rfl rfl ?_
    rintro _ w16 ⟨rfl,hw16⟩
    have zw16:=hw16.size
    have r2:=RowAt.below hw16 r2.lt r2
    have r10:=RowAt.below hw16 r10.lt r10
    refine hgs_next ⟨r2,r10⟩ ?_
    refine hgs_one 3 (by rfl) (by kernel_rfl) Wn ?_
    have r1:=n2.keep r1
    have r1:=s3.keep r1 (by omega)
    have r1:=RowAt.below hw4 r1.lt r1
    have r1:=RowAt.below hw6 r1.lt r1
    have r1:=RowAt.below hw8 r1.lt r1
    have r1:=n10.keep r1
    have r1:=s11.keep r1 (by omega)
    have r1:=RowAt.below hw12 r1.lt r1
    have r1:=RowAt.below dW15 r1.lt r1
    have r1:=RowAt.below hw16 r1.lt r1
    have o17:=r1
    refine lg_stw Wn r1 rfl rfl rfl (by kernel_rfl) (by kernel_rfl) rfl rfl fun w17 s17=>?_
    have r1:=s17.row
    have z17:=s17.size
    have r2:=s17.keep r2 (by omega)
    have r10:=s17.keep r10 (by omega)
    refine hgs_next ⟨r2,r10⟩ ?_
    refine hgs_take 4 (by rfl) Wn (by rfl) rfl (by decide) (by kernel_rfl) (by kernel_rfl) (by kernel_rfl) (fun _ _ _ h=>h) ⟨r2,r10⟩ (fun q hq=>y_assign rfl rfl) ?_
    refine hgs_take 5 (by rfl) Wn (by rfl) rfl (by decide) (by kernel_rfl) (by kernel_rfl) (by kernel_rfl) (fun _ _ _ h=>h) ⟨r2,r10⟩ (fun q hq=>y_assign rfl rfl) ?_
    refine hgs_done (by kernel_rfl) ?_
    refine Nx [2,13,15,3,4] ?_
    refine cg_ret ?_
    refine Qc ?_
    have hst:pnGet xs=((pnCheck (⟨(bytesP xs),(bytesP (bytesR xs)),(numsL (bytesR (bytesR xs)))⟩:Pn)),Pn.zero,[]):=((if_neg (not_not_intro c5)).trans ((if_neg (not_not_intro c7)).trans ((if_neg (not_not_intro c9)).trans (if_pos c13))))
    refine eg_ret_agg3 rfl rfl r1 (by kernel_rfl) (by kernel_rfl) rfl rfl ?_
    rw [hst]
    have u:=Un (Un u n1.below) n2.below
    have u:=u.trans (s3.below _ (by omega))
    have u:=Un (Un u hw4) hw6
    have u:=Un (Un u hw8) n10.below
    have u:=u.trans (s11.below _ (by omega))
    have u:=Un (Un (Un u hw12) dW15) hw16
    have u:=u.trans (s17.below _ (by omega))
    exact ⟨_,rfl,PnV.zero,nilS,rfl,((IsPn.zero _ 0).more (B':=w17.heap.size) (by omega)),(Sl.nil _ _),Fr.nil _,⟨Old.nil _,Old.nil _⟩,u⟩
   refine Zan (yb (nd_t c9) yi_neq) [2,3,4,5,6,9,12,13,14,44] ?_
   refine cg_ct rfl ?_
   refine Zr ?_
   have r2:=RowAt.below hw4 r2.lt r2
   have r2:=RowAt.below hw6 r2.lt r2
   have r2:=RowAt.below hw8 r2.lt r2
   refine Za (y_loadA r2) ?_
   refine ZM ?_
   have r1:=n2.keep r1
   have r1:=s3.keep r1 (by omega)
   have r1:=RowAt.below hw4 r1.lt r1
   have r1:=RowAt.below hw6 r1.lt r1
   have r1:=RowAt.below hw8 r1.lt r1
   have o18:=r1
   refine lg_stw Wn r1 rfl rfl rfl (by kernel_rfl) (by kernel_rfl) rfl rfl fun w18 s18=>?_
   have r1:=s18.row
   have z18:=s18.size
   refine ZA ?_
   refine ZAnr [2,5,6,9,12,13,3,4] ?_
   refine Qc ?_
   have hst:pnGet xs=((numsE (bytesR (bytesR xs))),Pn.zero,[]):=((if_neg (not_not_intro c5)).trans ((if_neg (not_not_intro c7)).trans (if_pos c9)))
   refine eg_ret_agg3 rfl rfl r1 (by kernel_rfl) (by kernel_rfl) rfl rfl ?_
   rw [hst]
   have u:=Un (Un u n1.below) n2.below
   have u:=u.trans (s3.below _ (by omega))
   have u:=Un (Un (Un u hw4) hw6) hw8
   have u:=u.trans (s18.below _ (by omega))
   exact ⟨_,rfl,PnV.zero,nilS,rfl,((IsPn.zero _ 0).more (B':=w18.heap.size) (by omega)),(Sl.nil _ _),Fr.nil _,⟨Old.nil _,Old.nil _⟩,u⟩
  refine Zan (yb (nd_t c7) yi_neq) [2,3,4,5,6,9,10,11,34] ?_
  refine cg_ct rfl ?_
  refine Zr ?_
  have r2:=RowAt.below hw4 r2.lt r2
  have r2:=RowAt.below hw6 r2.lt r2
  refine Za (y_loadA r2) ?_
  refine ZM ?_
  have r1:=n2.keep r1
  have r1:=s3.keep r1 (by omega)
  have r1:=RowAt.below hw4 r1.lt r1
  have r1:=RowAt.below hw6 r1.lt r1
  have o19:=r1
  refine lg_stw Wn r1 rfl rfl rfl (by kernel_rfl) (by kernel_rfl) rfl rfl fun w19 s19=>?_
  have r1:=s19.row
  have z19:=s19.size
  refine ZA ?_
  refine ZAnr [2,5,6,9,10,3,4] ?_
  refine Qc ?_
  have hst:pnGet xs=((bytesE (bytesR xs)),Pn.zero,[]):=((if_neg (not_not_intro c5)).trans (if_pos c7))
  refine eg_ret_agg3 rfl rfl r1 (by kernel_rfl) (by kernel_rfl) rfl rfl ?_
  rw [hst]
  have u:=Un (Un u n1.below) n2.below
  have u:=u.trans (s3.below _ (by omega))
  have u:=Un (Un u hw4) hw6
  have u:=u.trans (s19.below _ (by omega))
  exact ⟨_,rfl,PnV.zero,nilS,rfl,((IsPn.zero _ 0).more (B':=w19.heap.size) (by omega)),(Sl.nil _ _),Fr.nil _,⟨Old.nil _,Old.nil _⟩,u⟩
 refine Zan (yb (nd_t c5) yi_neq) [2,3,4,5,6,7,8,24] ?_
 refine cg_ct rfl ?_
 refine Zr ?_
 have r2:=RowAt.below hw4 r2.lt r2
 refine Za (y_loadA r2) ?_
 refine ZM ?_
 have r1:=n2.keep r1
 have r1:=s3.keep r1 (by omega)
 have r1:=RowAt.below hw4 r1.lt r1
 have o20:=r1
 refine lg_stw Wn r1 rfl rfl rfl (by kernel_rfl) (by kernel_rfl) rfl rfl fun w20 s20=>?_
 have r1:=s20.row
 have z20:=s20.size
 refine ZA ?_
 refine ZAnr [2,5,6,7,3,4] ?_
 refine Qc ?_
 have hst:pnGet xs=((bytesE xs),Pn.zero,[]):=(if_pos c5)
 refine eg_ret_agg3 rfl rfl r1 (by kernel_rfl) (by kernel_rfl) rfl rfl ?_
 rw [hst]
 have u:=Un (Un u n1.below) n2.below
 have u:=u.trans (s3.below _ (by omega))
 have u:=Un u hw4
 have u:=u.trans (s20.below _ (by omega))
 exact ⟨_,rfl,PnV.zero,nilS,rfl,((IsPn.zero _ 0).more (B':=w20.heap.size) (by omega)),(Sl.nil _ _),Fr.nil _,⟨Old.nil _,Old.nil _⟩,u⟩
end
/- NdRef:
  The document's Few, Check, As, Put, Get, Same, and what is summed up.
-/
section
set_option maxHeartbeats 1000000
theorem fewN_any {W:World} {B:Nat} {l:NdV} {L:Nd} (hl:IsNd W B l L) (hB:B≤W.heap.size):Calls Tryz.prog 17 #[.agg (l.cs L)] W fun e W'=>∃ v,e=.returned v∧v=.bool (decide (ndFew L))∧Below W.heap.size W W':=by
 refine Qf (n:=11) Tryz.func17 rfl Tryz.ntmps17 (by simp) ?_
 show CG _ _ _ [(0,.agg (l.cs L))] _ _
 have u:=Below.refl W.heap.size W
 refine Zr ?_
 refine lg_boxw Wn rfl rfl (by kernel_rfl) rfl (by decide) fun b1 w1 n1=>?_
 have r1:=n1.row
 have k1:=n1.blk
 have z1:=n1.size
 have lt1:b1<w1.heap.size:=by omega
 refine ZAn [1,2] ?_
 refine Zr ?_
 refine Za (y_fld (off:=1)) ?_
 refine Za (y_part r1 (m:=4) rfl (show 1+4≤8 by decide) (by kernel_rfl) (by kernel_rfl) rfl rfl) ?_
 have hl:=hl.below (n1.below.mono (by omega))
 by_cases c2:lfFew L.leaf
 ·refine Zc (few_any (hl.leaf.more (B':=w1.heap.size) (by omega)) (Nat.le_refl _)) rfl rfl ?_
  rintro u3 w3 ⟨e3,hw3⟩
  have zw3:=hw3.size
  obtain rfl:u3=.bool true:=e3.trans (congrArg Value.bool (decide_eq_true c2))
  refine ZM ?_
  refine Zt 6 (y_fld (off:=5)) ?_
  have r1:=RowAt.below hw3 r1.lt r1
  refine Zt 6 (y_part r1 (m:=3) rfl (show 5+3≤8 by decide) (by kernel_rfl) (by kernel_rfl) rfl rfl) ?_
  have hl:=hl.below (hw3.mono (by omega))
  by_cases c4:pnFew L.inner
  ·refine Zct 6 (fewP_any (hl.inner.more (B':=w3.heap.size) (by omega)) (Nat.le_refl _)) rfl rfl ?_
   rintro u5 w5 ⟨e5,hw5⟩
   have zw5:=hw5.size
   obtain rfl:u5=.bool true:=e5.trans (congrArg Value.bool (decide_eq_true c4))
   refine Za (y_pick true) ?_
   refine ZAnr [2] ?_
   have u:=Un (Un (Un u n1.below) hw3) hw5
   exact Qa rfl rfl ⟨_,rfl,congrArg Value.bool (show true=decide (ndFew L) from (dT (by simp [ndFew,c2,c4])).symm),u⟩
  refine Zct 6 (fewP_any (hl.inner.more (B':=w3.heap.size) (by omega)) (Nat.le_refl _)) rfl rfl ?_
  rintro u6 w6 ⟨e6,hw6⟩
  have zw6:=hw6.size
  obtain rfl:u6=.bool false:=e6.trans (congrArg Value.bool (decide_eq_false c4))
  refine Za (y_pick true) ?_
  refine ZAnr [2] ?_
  have u:=Un (Un (Un u n1.below) hw3) hw6
  exact Qa rfl rfl ⟨_,rfl,congrArg Value.bool (show false=decide (ndFew L) from (dF (by simp [ndFew,c2,c4])).symm),u⟩
 refine Zc (few_any (hl.leaf.more (B':=w1.heap.size) (by omega)) (Nat.le_refl _)) rfl rfl ?_
 rintro u7 w7 ⟨e7,hw7⟩
 have zw7:=hw7.size
 obtain rfl:u7=.bool false:=e7.trans (congrArg Value.bool (decide_eq_false c2))
 refine ZM ?_
 refine Zf 6 ?_
 refine Zf 6 ?_
 refine Zf 6 ?_
 refine Za (y_pick false) ?_
 refine ZAnr [2] ?_
 have u:=Un (Un u n1.below) hw7
 exact Qa rfl rfl ⟨_,rfl,congrArg Value.bool (show false=decide (ndFew L) from (dF (by simp [ndFew,c2])).symm),u⟩
theorem rcheckN_any {W:World} {B:Nat} {l:NdV} {L:Nd} (hl:IsNd W B l L) (hB:B≤W.heap.size):Calls Tryz.prog 92 #[.agg (l.cs L)] W fun e W'=>∃ v,e=.returned v∧v=nv (ndCheck L)∧Below W.heap.size W W':=by
 refine Qf (n:=53) Tryz.func92 rfl Tryz.ntmps92 (by simp) ?_
 show CG _ _ _ [(0,.agg (l.cs L))] _ _
 have u:=Below.refl W.heap.size W
 refine Zr ?_
 refine lg_boxw Wn rfl rfl (by kernel_rfl) rfl (by decide) fun b1 w1 n1=>?_
 have r1:=n1.row
 have k1:=n1.blk
 have z1:=n1.size
 have lt1:b1<w1.heap.size:=by omega
 refine ZAn [1,2] ?_
 refine Zr ?_
 refine Za (y_fld (off:=1)) ?_
 refine Za (y_part r1 (m:=4) rfl (show 1+4≤8 by decide) (by kernel_rfl) (by kernel_rfl) rfl rfl) ?_
 refine Za (y_build (cs:=LfV.zero.cs Lf.zero)) ?_
 have hl:=hl.below (n1.below.mono (by omega))
 by_cases c2:LfSame L.leaf Lf.zero
 ·refine Zc (rsame_any (hl.leaf.more (B':=w1.heap.size) (by omega)) ((IsLf.zero _ 0).more (B':=w1.heap.size) (by omega)) (Nat.le_refl _)) rfl rfl ?_
  rintro u3 w3 ⟨e3,hw3⟩
  have zw3:=hw3.size
  obtain rfl:u3=.bool true:=e3.trans (congrArg Value.bool (decide_eq_true c2))
  refine Za y_bnot ?_
  refine ZAn [1,2,3] ?_
  refine Zr ?_
  refine Za (y_fld (off:=5)) ?_
  have r1:=RowAt.below hw3 r1.lt r1
  refine Za (y_part r1 (m:=3) rfl (show 5+3≤8 by decide) (by kernel_rfl) (by kernel_rfl) rfl rfl) ?_
  refine Za (y_build (cs:=PnV.zero.cs Pn.zero)) ?_
  have hl:=hl.below (hw3.mono (by omega))
  by_cases c4:PnSame L.inner Pn.zero
  ·refine Zc (rsameP_any (hl.inner.more (B':=w3.heap.size) (by omega)) ((IsPn.zero _ 0).more (B':=w3.heap.size) (by omega)) (Nat.le_refl _)) rfl rfl ?_
   rintro u5 w5 ⟨e5,hw5⟩
   have zw5:=hw5.size
   obtain rfl:u5=.bool true:=e5.trans (congrArg Value.bool (decide_eq_true c4))
   refine Za y_bnot ?_
   refine ZAn [1,2,3,4] ?_
   refine Qd ?_
   refine Qj ?_
   refine Zr ?_
   refine Za (y_fld (off:=0)) ?_
   have r1:=RowAt.below hw5 r1.lt r1
   refine Za (Qo (v:=nv L.kind) r1 rfl (by kernel_rfl) rfl rfl) ?_
   by_cases c6:L.kind<0
   ·refine Za (yb (dT c6) yi_lss) ?_
    refine ZM ?_
    refine Zf 19 ?_
    refine Zf 19 ?_
    refine Zf 19 ?_
    refine Za (y_pick true) ?_
    refine ZAnt [1,2,3,4,15] ?_
    refine ZrA ?_
    refine Znr [2] ?_
    refine Qg ?_
    refine Qc ?_
    have u:=Un (Un (Un u n1.below) hw3) hw5
    exact Qa rfl rfl ⟨_,rfl,congrArg nv (show 7=ndCheck L by simp [ndCheck,c6]),u⟩
   refine Za (yb (dF c6) yi_lss) ?_
   refine ZM ?_
   refine Zt 19 (y_fld (off:=0)) ?_
   refine Zt 19 (Qo (v:=nv L.kind) r1 rfl (by kernel_rfl) rfl rfl) ?_
   by_cases c7:2<L.kind
   ·refine Zt 19 (yb (dT c7) yi_gtr) ?_
    refine Za (y_pick false) ?_
    refine ZAnt [1,2,3,4,15] ?_
    refine ZrA ?_
    refine Znr [2] ?_
    refine Qg ?_
    refine Qc ?_
    have u:=Un (Un (Un u n1.below) hw3) hw5
    exact Qa rfl rfl ⟨_,rfl,congrArg nv (show 7=ndCheck L by simp [ndCheck,c6,c7]),u⟩
   refine Zt 19 (yb (dF c7) yi_gtr) ?_
   refine Za (y_pick false) ?_
   refine ZAn [1,2,3,4,15] ?_
   refine cg_cf rfl ?_
   refine ZrM ?_
   refine ZM ?_
   refine Zf 26 ?_
   refine Zf 26 ?_
   refine Zf 26 ?_
   refine Za (y_pick false) ?_
   refine ZM ?_
   refine Zt 31 y_move ?_
   refine Zt 31 y_move ?_
   refine Zf 33 ?_
   refine Zf 33 ?_
   refine Zf 33 ?_
   refine Zt 31 (y_pick false) ?_
   refine Za (y_pick false) ?_
   refine ZAn [1,2,24] ?_
   refine cg_cf rfl ?_
   refine Zr ?_
   refine Za (y_fld (off:=0)) ?_
   refine Za (Qo (v:=nv L.kind) r1 rfl (by kernel_rfl) rfl rfl) ?_
   by_cases c8:L.kind=1
   ·refine Za (yb (dT c8) yi_eql) ?_
    refine ZAnt [1,2,39] ?_
    refine Zr ?_
    refine Za (y_fld (off:=1)) ?_
    refine Za (y_part r1 (m:=4) rfl (show 1+4≤8 by decide) (by kernel_rfl) (by kernel_rfl) rfl rfl) ?_
    have hl:=hl.below (hw5.mono (by omega))
    refine Zc (rcheck_any (hl.leaf.more (B':=w5.heap.size) (by omega)) (Nat.le_refl _)) rfl rfl ?_
    rintro _ w9 ⟨rfl,hw9⟩
    have zw9:=hw9.size
    refine ZAnr [2] ?_
    refine Qg ?_
    refine Qc ?_
    have u:=Un (Un u n1.below) hw3
    have u:=Un (Un u hw5) hw9
    exact Qa rfl rfl ⟨_,rfl,congrArg nv (show (lfCheck L.leaf)=ndCheck L by simp [ndCheck,c2,c4,c8]),u⟩
   refine Za (yb (dF c8) yi_eql) ?_
   refine ZAn [1,2,39] ?_
   refine cg_cf rfl ?_
   refine Zr ?_
   refine Za (y_fld (off:=0)) ?_
   refine Za (Qo (v:=nv L.kind) r1 rfl (by kernel_rfl) rfl rfl) ?_
   by_cases c10:L.kind=2
   ·refine Za (yb (dT c10) yi_eql) ?_
    refine ZAnt [1,2,46] ?_
    refine Zr ?_
    refine Za (y_fld (off:=5)) ?_
    refine Za (y_part r1 (m:=3) rfl (show 5+3≤8 by decide) (by kernel_rfl) (by kernel_rfl) rfl rfl) ?_
    have hl:=hl.below (hw5.mono (by omega))
    refine Zc (rcheckP_any (hl.inner.more (B':=w5.heap.size) (by omega)) (Nat.le_refl _)) rfl rfl ?_
    rintro _ w11 ⟨rfl,hw11⟩
    have zw11:=hw11.size
    refine ZAnr [2] ?_
    refine Qg ?_
    refine Qc ?_
    have u:=Un (Un u n1.below) hw3
    have u:=Un (Un u hw5) hw11
    exact Qa rfl rfl ⟨_,rfl,congrArg nv (show (pnCheck L.inner)=ndCheck L by simp [ndCheck,c2,c4,c10]),u⟩
   refine Za (yb (dF c10) yi_eql) ?_
   refine ZAn [1,2,46] ?_
   refine cg_cf rfl ?_
   refine cg_skip ?_
   refine Qi ?_
   refine Nx [2] ?_
   refine ZrA ?_
   refine Znr [2] ?_
   have u:=Un (Un (Un u n1.below) hw3) hw5
   exact Qa rfl rfl ⟨_,rfl,congrArg nv (show 0=ndCheck L by simp [ndCheck,c2,c4,c6,c7,c8,c10]),u⟩
  refine Zc (rsameP_any (hl.inner.more (B':=w3.heap.size) (by omega)) ((IsPn.zero _ 0).more (B':=w3.heap.size) (by omega)) (Nat.le_refl _)) rfl rfl ?_
  rintro u12 w12 ⟨e12,hw12⟩
  have zw12:=hw12.size
  obtain rfl:u12=.bool false:=e12.trans (congrArg Value.bool (decide_eq_false c4))
  refine Za y_bnot ?_
  refine ZAn [1,2,3,4] ?_
  refine Qd ?_
  refine Qj ?_
  refine Zr ?_
  refine Za (y_fld (off:=0)) ?_
  have r1:=RowAt.below hw12 r1.lt r1
  refine Za (Qo (v:=nv L.kind) r1 rfl (by kernel_rfl) rfl rfl) ?_
  by_cases c13:L.kind<0
  ·refine Za (yb (dT c13) yi_lss) ?_
   refine ZM ?_
   refine Zf 19 ?_
   refine Zf 19 ?_
   refine Zf 19 ?_
   refine Za (y_pick true) ?_
   refine ZAnt [1,2,3,4,15] ?_
   refine ZrA ?_
   refine Znr [2] ?_
   refine Qg ?_
   refine Qc ?_
   have u:=Un (Un (Un u n1.below) hw3) hw12
   exact Qa rfl rfl ⟨_,rfl,congrArg nv (show 7=ndCheck L by simp [ndCheck,c13]),u⟩
  refine Za (yb (dF c13) yi_lss) ?_
  refine ZM ?_
  refine Zt 19 (y_fld (off:=0)) ?_
  refine Zt 19 (Qo (v:=nv L.kind) r1 rfl (by kernel_rfl) rfl rfl) ?_
  by_cases c14:2<L.kind
  ·refine Zt 19 (yb (dT c14) yi_gtr) ?_
   refine Za (y_pick false) ?_
   refine ZAnt [1,2,3,4,15] ?_
   refine ZrA ?_
   refine Znr [2] ?_
   refine Qg ?_
   refine Qc ?_
   have u:=Un (Un (Un u n1.below) hw3) hw12
   exact Qa rfl rfl ⟨_,rfl,congrArg nv (show 7=ndCheck L by simp [ndCheck,c13,c14]),u⟩
  refine Zt 19 (yb (dF c14) yi_gtr) ?_
  refine Za (y_pick false) ?_
  refine ZAn [1,2,3,4,15] ?_
  refine cg_cf rfl ?_
  refine ZrM ?_
  refine ZM ?_
  refine Zf 26 ?_
  refine Zf 26 ?_
  refine Zf 26 ?_
  refine Za (y_pick false) ?_
  refine ZM ?_
  refine Zt 31 y_move ?_
  refine Zt 31 y_move ?_
  refine Zt 33 (y_fld (off:=0)) ?_
  refine Zt 33 (Qo (v:=nv L.kind) r1 rfl (by kernel_rfl) rfl rfl) ?_
  by_cases c15:L.kind=2
  ·refine Zt 33 (yb (nd_f c15) yi_neq) ?_
   refine Zt 31 (y_pick true) ?_
   refine Za (y_pick false) ?_
   refine ZAn [1,2,24] ?_
   refine cg_cf rfl ?_
   refine Zr ?_
   refine Za (y_fld (off:=0)) ?_
   refine Za (Qo (v:=nv L.kind) r1 rfl (by kernel_rfl) rfl rfl) ?_
   refine Za (yb (dF (show ¬(L.kind=1) from (show ¬(L.kind=1) by omega))) (yi_eql rfl rfl rfl)) ?_
   refine ZAn [1,2,39] ?_
   refine cg_cf rfl ?_
   refine Zr ?_
   refine Za (y_fld (off:=0)) ?_
   refine Za (Qo (v:=nv L.kind) r1 rfl (by kernel_rfl) rfl rfl) ?_
   refine Za (yb (dT c15) yi_eql) ?_
   refine ZAnt [1,2,46] ?_
   refine Zr ?_
   refine Za (y_fld (off:=5)) ?_
   refine Za (y_part r1 (m:=3) rfl (show 5+3≤8 by decide) (by kernel_rfl) (by kernel_rfl) rfl rfl) ?_
   have hl:=hl.below (hw12.mono (by omega))
   refine Zc (rcheckP_any (hl.inner.more (B':=w12.heap.size) (by omega)) (Nat.le_refl _)) rfl rfl ?_
   rintro _ w16 ⟨rfl,hw16⟩
   have zw16:=hw16.size
   refine ZAnr [2] ?_
   refine Qg ?_
   refine Qc ?_
   have u:=Un (Un u n1.below) hw3
   have u:=Un (Un u hw12) hw16
   exact Qa rfl rfl ⟨_,rfl,congrArg nv (show (pnCheck L.inner)=ndCheck L by simp [ndCheck,c2,c4,c15]),u⟩
  refine Zt 33 (yb (nd_t c15) yi_neq) ?_
  refine Zt 31 (y_pick true) ?_
  refine Za (y_pick false) ?_
  refine ZAnt [1,2,24] ?_
  refine ZrA ?_
  refine Znr [2] ?_
  refine Qg ?_
  refine Qc ?_
  have u:=Un (Un (Un u n1.below) hw3) hw12
  exact Qa rfl rfl ⟨_,rfl,congrArg nv (show 2=ndCheck L by simp [ndCheck,c2,c4,c13,c14,c15]),u⟩
 refine Zc (rsame_any (hl.leaf.more (B':=w1.heap.size) (by omega)) ((IsLf.zero _ 0).more (B':=w1.heap.size) (by omega)) (Nat.le_refl _)) rfl rfl ?_
 rintro u17 w17 ⟨e17,hw17⟩
 have zw17:=hw17.size
 obtain rfl:u17=.bool false:=e17.trans (congrArg Value.bool (decide_eq_false c2))
 refine Za y_bnot ?_
 refine ZAn [1,2,3] ?_
 refine Zr ?_
 refine Za (y_fld (off:=5)) ?_
 have r1:=RowAt.below hw17 r1.lt r1
 refine Za (y_part r1 (m:=3) rfl (show 5+3≤8 by decide) (by kernel_rfl) (by kernel_rfl) rfl rfl) ?_
 refine Za (y_build (cs:=PnV.zero.cs Pn.zero)) ?_
 have hl:=hl.below (hw17.mono (by omega))
 by_cases c18:PnSame L.inner Pn.zero
 ·refine Zc (rsameP_any (hl.inner.more (B':=w17.heap.size) (by omega)) ((IsPn.zero _ 0).more (B':=w17.heap.size) (by omega)) (Nat.le_refl _)) rfl rfl ?_
  rintro u19 w19 ⟨e19,hw19⟩
  have zw19:=hw19.size
  obtain rfl:u19=.bool true:=e19.trans (congrArg Value.bool (decide_eq_true c18))
  refine Za y_bnot ?_
  refine ZAn [1,2,3,4] ?_
  refine Qd ?_
  refine Qj ?_
  refine Zr ?_
  refine Za (y_fld (off:=0)) ?_
  have r1:=RowAt.below hw19 r1.lt r1
  refine Za (Qo (v:=nv L.kind) r1 rfl (by kernel_rfl) rfl rfl) ?_
  by_cases c20:L.kind<0
  ·refine Za (yb (dT c20) yi_lss) ?_
   refine ZM ?_
   refine Zf 19 ?_
   refine Zf 19 ?_
   refine Zf 19 ?_
   refine Za (y_pick true) ?_
   refine ZAnt [1,2,3,4,15] ?_
   refine ZrA ?_
   refine Znr [2] ?_
   refine Qg ?_
   refine Qc ?_
   have u:=Un (Un (Un u n1.below) hw17) hw19
   exact Qa rfl rfl ⟨_,rfl,congrArg nv (show 7=ndCheck L by simp [ndCheck,c20]),u⟩
  refine Za (yb (dF c20) yi_lss) ?_
  refine ZM ?_
  refine Zt 19 (y_fld (off:=0)) ?_
  refine Zt 19 (Qo (v:=nv L.kind) r1 rfl (by kernel_rfl) rfl rfl) ?_
  by_cases c21:2<L.kind
  ·refine Zt 19 (yb (dT c21) yi_gtr) ?_
   refine Za (y_pick false) ?_
   refine ZAnt [1,2,3,4,15] ?_
   refine ZrA ?_
   refine Znr [2] ?_
   refine Qg ?_
   refine Qc ?_
   have u:=Un (Un (Un u n1.below) hw17) hw19
   exact Qa rfl rfl ⟨_,rfl,congrArg nv (show 7=ndCheck L by simp [ndCheck,c20,c21]),u⟩
  refine Zt 19 (yb (dF c21) yi_gtr) ?_
  refine Za (y_pick false) ?_
  refine ZAn [1,2,3,4,15] ?_
  refine cg_cf rfl ?_
  refine ZrM ?_
  refine ZM ?_
  refine Zt 26 (y_fld (off:=0)) ?_
  refine Zt 26 (Qo (v:=nv L.kind) r1 rfl (by kernel_rfl) rfl rfl) ?_
  by_cases c22:L.kind=1
  ·refine Zt 26 (yb (nd_f c22) yi_neq) ?_
   refine Za (y_pick true) ?_
   refine ZM ?_
   refine Zt 31 y_move ?_
   refine Zt 31 y_move ?_
   refine Zf 33 ?_
   refine Zf 33 ?_
   refine Zf 33 ?_
   refine Zt 31 (y_pick false) ?_
   refine Za (y_pick false) ?_
   refine ZAn [1,2,24] ?_
   refine cg_cf rfl ?_
   refine Zr ?_
   refine Za (y_fld (off:=0)) ?_
   refine Za (Qo (v:=nv L.kind) r1 rfl (by kernel_rfl) rfl rfl) ?_
   refine Za (yb (dT c22) yi_eql) ?_
   refine ZAnt [1,2,39] ?_
   refine Zr ?_
   refine Za (y_fld (off:=1)) ?_
   refine Za (y_part r1 (m:=4) rfl (show 1+4≤8 by decide) (by kernel_rfl) (by kernel_rfl) rfl rfl) ?_
   have hl:=hl.below (hw19.mono (by omega))
   refine Zc (rcheck_any (hl.leaf.more (B':=w19.heap.size) (by omega)) (Nat.le_refl _)) rfl rfl ?_
   rintro _ w23 ⟨rfl,hw23⟩
   have zw23:=hw23.size
   refine ZAnr [2] ?_
   refine Qg ?_
   refine Qc ?_
   have u:=Un (Un u n1.below) hw17
   have u:=Un (Un u hw19) hw23
   exact Qa rfl rfl ⟨_,rfl,congrArg nv (show (lfCheck L.leaf)=ndCheck L by simp [ndCheck,c2,c18,c22]),u⟩
  refine Zt 26 (yb (nd_t c22) yi_neq) ?_
  refine Za (y_pick true) ?_
  refine ZM ?_
  refine Zf 31 ?_
  refine Zf 31 ?_
  refine Zu 33 ?_
  refine Zu 33 ?_
  refine Zu 33 ?_
  refine Zf 31 ?_
  refine Za (y_pick true) ?_
  refine ZAnt [1,2,24] ?_
  refine ZrA ?_
  refine Znr [2] ?_
  refine Qg ?_
  refine Qc ?_
  have u:=Un (Un (Un u n1.below) hw17) hw19
  exact Qa rfl rfl ⟨_,rfl,congrArg nv (show 2=ndCheck L by simp [ndCheck,c2,c18,c20,c21,c22]),u⟩
 refine Zc (rsameP_any (hl.inner.more (B':=w17.heap.size) (by omega)) ((IsPn.zero _ 0).more (B':=w17.heap.size) (by omega)) (Nat.le_refl _)) rfl rfl ?_
 rintro u24 w24 ⟨e24,hw24⟩
 have zw24:=hw24.size
 obtain rfl:u24=.bool false:=e24.trans (congrArg Value.bool (decide_eq_false c18))
 refine Za y_bnot ?_
 refine ZAn [1,2,3,4] ?_
 refine Qd ?_
 refine Qj ?_
 refine Zr ?_
 refine Za (y_fld (off:=0)) ?_
 have r1:=RowAt.below hw24 r1.lt r1
 refine Za (Qo (v:=nv L.kind) r1 rfl (by kernel_rfl) rfl rfl) ?_
 by_cases c25:L.kind<0
 ·refine Za (yb (dT c25) yi_lss) ?_
  refine ZM ?_
  refine Zf 19 ?_
  refine Zf 19 ?_
  refine Zf 19 ?_
  refine Za (y_pick true) ?_
  refine ZAnt [1,2,3,4,15] ?_
  refine ZrA ?_
  refine Znr [2] ?_
  refine Qg ?_
  refine Qc ?_
  have u:=Un (Un (Un u n1.below) hw17) hw24
  exact Qa rfl rfl ⟨_,rfl,congrArg nv (show 7=ndCheck L by simp [ndCheck,c25]),u⟩
 refine Za (yb (dF c25) yi_lss) ?_
 refine ZM ?_
 refine Zt 19 (y_fld (off:=0)) ?_
 refine Zt 19 (Qo (v:=nv L.kind) r1 rfl (by kernel_rfl) rfl rfl) ?_
 by_cases c26:2<L.kind
 ·refine Zt 19 (yb (dT c26) yi_gtr) ?_
  refine Za (y_pick false) ?_
  refine ZAnt [1,2,3,4,15] ?_
  refine ZrA ?_
  refine Znr [2] ?_
  refine Qg ?_
  refine Qc ?_
  have u:=Un (Un (Un u n1.below) hw17) hw24
  exact Qa rfl rfl ⟨_,rfl,congrArg nv (show 7=ndCheck L by simp [ndCheck,c25,c26]),u⟩
 refine Zt 19 (yb (dF c26) yi_gtr) ?_
 refine Za (y_pick false) ?_
 refine ZAn [1,2,3,4,15] ?_
 refine cg_cf rfl ?_
 refine ZrM ?_
 refine ZM ?_
 refine Zt 26 (y_fld (off:=0)) ?_
 refine Zt 26 (Qo (v:=nv L.kind) r1 rfl (by kernel_rfl) rfl rfl) ?_
 by_cases c27:L.kind=1
 ·refine Zt 26 (yb (nd_f c27) yi_neq) ?_
  refine Za (y_pick true) ?_
  refine ZM ?_
  refine Zt 31 y_move ?_
  refine Zt 31 y_move ?_
  refine Zt 33 (y_fld (off:=0)) ?_
  refine Zt 33 (Qo (v:=nv L.kind) r1 rfl (by kernel_rfl) rfl rfl) ?_
  refine Zt 33 (yb (nd_t (show ¬(L.kind=2) from (show ¬(L.kind=2) by omega))) (yi_neq rfl rfl rfl)) ?_
  refine Zt 31 (y_pick true) ?_
  refine Za (y_pick false) ?_
  refine ZAnt [1,2,24] ?_
  refine ZrA ?_
  refine Znr [2] ?_
  refine Qg ?_
  refine Qc ?_
  have u:=Un (Un (Un u n1.below) hw17) hw24
  exact Qa rfl rfl ⟨_,rfl,congrArg nv (show 2=ndCheck L by simp [ndCheck,c2,c18,c27]),u⟩
 refine Zt 26 (yb (nd_t c27) yi_neq) ?_
 refine Za (y_pick true) ?_
 refine ZM ?_
 refine Zf 31 ?_
 refine Zf 31 ?_
 refine Zu 33 ?_
 refine Zu 33 ?_
 refine Zu 33 ?_
 refine Zf 31 ?_
 refine Za (y_pick true) ?_
 refine ZAnt [1,2,24] ?_
 refine ZrA ?_
 refine Znr [2] ?_
 refine Qg ?_
 refine Qc ?_
 have u:=Un (Un (Un u n1.below) hw17) hw24
 exact Qa rfl rfl ⟨_,rfl,congrArg nv (show 2=ndCheck L by simp [ndCheck,c2,c18,c25,c26,c27]),u⟩
theorem rsameN_any {W:World} {B:Nat} {l m:NdV} {L M:Nd} (hl:IsNd W B l L) (hm:IsNd W B m M) (hB:B≤W.heap.size):Calls Tryz.prog 24 #[.agg (l.cs L),.agg (m.cs M)] W fun e W'=>∃ v,e=.returned v∧v=.bool (decide (NdSame L M))∧Below W.heap.size W W':=by
 refine Qf (n:=24) Tryz.func24 rfl Tryz.ntmps24 (by simp) ?_
 show CG _ _ _ [(0,.agg (l.cs L)),(1,.agg (m.cs M))] _ _
 have u:=Below.refl W.heap.size W
 refine Zr ?_
 refine lg_boxw Wn rfl rfl (by kernel_rfl) rfl (by decide) fun b1 w1 n1=>?_
 have r1:=n1.row
 have k1:=n1.blk
 have z1:=n1.size
 have lt1:b1<w1.heap.size:=by omega
 refine lg_boxw Wn rfl rfl (by kernel_rfl) rfl (by decide) fun b2 w2 n2=>?_
 have r2:=n2.row
 have k2:=n2.blk
 have z2:=n2.size
 have lt2:b2<w2.heap.size:=by omega
 refine ZAn [2,3,4] ?_
 refine Zr ?_
 refine Za (y_fld (off:=0)) ?_
 have r1:=n2.keep r1
 refine Za (Qo (v:=nv L.kind) r1 rfl (by kernel_rfl) rfl rfl) ?_
 refine Za (y_fld (off:=0)) ?_
 refine Za (Qo (v:=nv M.kind) r2 rfl (by kernel_rfl) rfl rfl) ?_
 by_cases c3:L.kind=M.kind
 ·refine Za (yb (dT c3) yi_eql) ?_
  refine ZM ?_
  refine Zt 10 (y_fld (off:=1)) ?_
  refine Zt 10 (y_part r1 (m:=4) rfl (show 1+4≤8 by decide) (by kernel_rfl) (by kernel_rfl) rfl rfl) ?_
  refine Zt 10 (y_fld (off:=1)) ?_
  refine Zt 10 (y_part r2 (m:=4) rfl (show 1+4≤8 by decide) (by kernel_rfl) (by kernel_rfl) rfl rfl) ?_
  have hl:=(hl.below (n1.below.mono (by omega))).below (n2.below.mono (by omega))
  have hm:=(hm.below (n1.below.mono (by omega))).below (n2.below.mono (by omega))
  by_cases c4:LfSame L.leaf M.leaf
  ·refine Zct 10 (rsame_any (hl.leaf.more (B':=w2.heap.size) (by omega)) (hm.leaf.more (B':=w2.heap.size) (by omega)) (Nat.le_refl _)) rfl rfl ?_
   rintro u5 w5 ⟨e5,hw5⟩
   have zw5:=hw5.size
   obtain rfl:u5=.bool true:=e5.trans (congrArg Value.bool (decide_eq_true c4))
   refine Za (y_pick true) ?_
   refine ZM ?_
   refine Zt 17 (y_fld (off:=5)) ?_
   have r1:=RowAt.below hw5 r1.lt r1
   refine Zt 17 (y_part r1 (m:=3) rfl (show 5+3≤8 by decide) (by kernel_rfl) (by kernel_rfl) rfl rfl) ?_
   refine Zt 17 (y_fld (off:=5)) ?_
   have r2:=RowAt.below hw5 r2.lt r2
   refine Zt 17 (y_part r2 (m:=3) rfl (show 5+3≤8 by decide) (by kernel_rfl) (by kernel_rfl) rfl rfl) ?_
   have hl:=hl.below (hw5.mono (by omega))
   have hm:=hm.below (hw5.mono (by omega))
   by_cases c6:PnSame L.inner M.inner
   ·refine Zct 17 (rsameP_any (hl.inner.more (B':=w5.heap.size) (by omega)) (hm.inner.more (B':=w5.heap.size) (by omega)) (Nat.le_refl _)) rfl rfl ?_
    rintro u7 w7 ⟨e7,hw7⟩
    have zw7:=hw7.size
    obtain rfl:u7=.bool true:=e7.trans (congrArg Value.bool (decide_eq_true c6))
    refine Za (y_pick true) ?_
    refine ZAnr [4] ?_
    have u:=Un (Un u n1.below) n2.below
    have u:=Un (Un u hw5) hw7
    exact Qa rfl rfl ⟨_,rfl,congrArg Value.bool (show true=decide (NdSame L M) from (dT (by simp [NdSame,c3,c4,c6])).symm),u⟩
   refine Zct 17 (rsameP_any (hl.inner.more (B':=w5.heap.size) (by omega)) (hm.inner.more (B':=w5.heap.size) (by omega)) (Nat.le_refl _)) rfl rfl ?_
   rintro u8 w8 ⟨e8,hw8⟩
   have zw8:=hw8.size
   obtain rfl:u8=.bool false:=e8.trans (congrArg Value.bool (decide_eq_false c6))
   refine Za (y_pick true) ?_
   refine ZAnr [4] ?_
   have u:=Un (Un u n1.below) n2.below
   have u:=Un (Un u hw5) hw8
   exact Qa rfl rfl ⟨_,rfl,congrArg Value.bool (show false=decide (NdSame L M) from (dF (by simp [NdSame,c3,c4,c6])).symm),u⟩
  refine Zct 10 (rsame_any (hl.leaf.more (B':=w2.heap.size) (by omega)) (hm.leaf.more (B':=w2.heap.size) (by omega)) (Nat.le_refl _)) rfl rfl ?_
  rintro u9 w9 ⟨e9,hw9⟩
  have zw9:=hw9.size
  obtain rfl:u9=.bool false:=e9.trans (congrArg Value.bool (decide_eq_false c4))
  refine Za (y_pick true) ?_
  refine ZM ?_
  refine Zf 17 ?_
  refine Zf 17 ?_
  refine Zf 17 ?_
  refine Zf 17 ?_
  refine Zf 17 ?_
  refine Za (y_pick false) ?_
  refine ZAnr [4] ?_
  have u:=Un (Un (Un u n1.below) n2.below) hw9
  exact Qa rfl rfl ⟨_,rfl,congrArg Value.bool (show false=decide (NdSame L M) from (dF (by simp [NdSame,c3,c4])).symm),u⟩
 refine Za (yb (dF c3) yi_eql) ?_
 refine ZM ?_
 refine Zf 10 ?_
 refine Zf 10 ?_
 refine Zf 10 ?_
 refine Zf 10 ?_
 refine Zf 10 ?_
 refine Za (y_pick false) ?_
 refine ZM ?_
 refine Zf 17 ?_
 refine Zf 17 ?_
 refine Zf 17 ?_
 refine Zf 17 ?_
 refine Zf 17 ?_
 refine Za (y_pick false) ?_
 refine ZAnr [4] ?_
 have u:=Un (Un u n1.below) n2.below
 exact Qa rfl rfl ⟨_,rfl,congrArg Value.bool (show false=decide (NdSame L M) from (dF (by simp [NdSame,c3])).symm),u⟩
theorem rasN_any {W:World} {B:Nat} {l:NdV} {L:Nd} (hl:IsNd W B l L) (hB:B≤W.heap.size):Calls Tryz.prog 68 #[.agg (l.cs L)] W fun e W'=>∃ v,e=.returned v∧∃ l':NdV,v=.agg (l'.cs (ndAs L))∧IsNd W' B l' (ndAs L)∧Below W.heap.size W W':=by
 refine Qf (n:=8) Tryz.func68 rfl Tryz.ntmps68 (by simp) ?_
 show CG _ _ _ [(0,.agg (l.cs L))] _ _
 have u:=Below.refl W.heap.size W
 refine Zr ?_
 refine lg_boxw Wn rfl rfl (by kernel_rfl) rfl (by decide) fun b1 w1 n1=>?_
 have r1:=n1.row
 have k1:=n1.blk
 have z1:=n1.size
 have lt1:b1<w1.heap.size:=by omega
 refine lg_allocw (cs:=NdV.zero.cs Nd.zero) Wn rfl (by kernel_rfl) rfl (by decide) fun b2 w2 n2=>?_
 have r2:=n2.row
 have k2:=n2.blk
 have z2:=n2.size
 have lt2:b2<w2.heap.size:=by omega
 refine Zn [1,2] ?_
 refine Qd ?_
 refine Zr ?_
 have r1:=n2.keep r1
 refine Za (y_loadA r1) ?_
 have hl:=(hl.below (n1.below.mono (by omega))).below (n2.below.mono (by omega))
 refine Zc (rcheckN_any (hl.more (B':=w2.heap.size) (by omega)) (Nat.le_refl _)) rfl rfl ?_
 rintro _ w3 ⟨rfl,hw3⟩
 have zw3:=hw3.size
 by_cases c4:(ndCheck L)=0
 ·refine Zan (yb (nd_f c4) yi_neq) [1,2,5] ?_
  refine Zcf [1,2] ?_
  refine Zr ?_
  have r1:=RowAt.below hw3 r1.lt r1
  refine Za (y_loadA r1) ?_
  have r2:=RowAt.below hw3 r2.lt r2
  have o5:=r2
  refine lg_stw Wn r2 rfl rfl rfl (by kernel_rfl) (by kernel_rfl) rfl rfl fun w5 s5=>?_
  have r2:=s5.row
  have z5:=s5.size
  refine Znr [2] ?_
  have hl:=(hl.below (hw3.mono (by omega))).below (s5.below _ (by omega))
  have u:=Un (Un (Un u n1.below) n2.below) hw3
  have u:=u.trans (s5.below _ (by omega))
  refine eg_ret_agg rfl rfl r2 (by kernel_rfl) (by kernel_rfl) ?_
  rw [ndAs_ok c4]
  exact ⟨_,rfl,l,rfl,hl,u⟩
 refine Zan (yb (nd_t c4) yi_neq) [1,2,5] ?_
 refine cg_ct rfl ?_
 refine Zr ?_
 refine Za (y_build (cs:=NdV.zero.cs Nd.zero)) ?_
 have r2:=RowAt.below hw3 r2.lt r2
 have o6:=r2
 refine lg_stw Wn r2 rfl rfl rfl (by kernel_rfl) (by kernel_rfl) rfl rfl fun w6 s6=>?_
 have r2:=s6.row
 have z6:=s6.size
 refine Znr [1,2] ?_
 refine Qc ?_
 have u:=Un (Un (Un u n1.below) n2.below) hw3
 have u:=u.trans (s6.below _ (by omega))
 refine eg_ret_agg rfl rfl r2 (by kernel_rfl) (by kernel_rfl) ?_
 rw [ndAs_no c4]
 exact ⟨_,rfl,NdV.zero,rfl,(IsNd.zero _ _),u⟩
theorem rputN_any {W:World} {B:Nat} {s:SlV} {xs:List Int} {l:NdV} {L:Nd} (h:Sl W B s xs) (hl:IsNd W B l L) (hB:B≤W.heap.size) (hx:xs.length≤87000):Calls Tryz.prog 32 #[s.v,.agg (l.cs L)] W fun e W'=>∃ v,e=.returned v∧PutS W (xs++ndPut L) v W':=by
 refine Qf (n:=36) Tryz.func32 rfl Tryz.ntmps32 (by simp) ?_
 show CG _ _ _ [(0,s.v),(1,.agg (l.cs L))] _ _
 have u:=Below.refl W.heap.size W
 refine Zr ?_
 refine lg_boxw Wn rfl rfl (by kernel_rfl) rfl (by decide) fun b1 w1 n1=>?_
 have r1:=n1.row
 have k1:=n1.blk
 have z1:=n1.size
 have lt1:b1<w1.heap.size:=by omega
 refine ZAn [0,3,4] ?_
 refine Zr ?_
 refine Za (y_loadA r1) ?_
 have hl:=hl.below (n1.below.mono (by omega))
 refine Zc (rasN_any (hl.more (B':=w1.heap.size) (by omega)) (Nat.le_refl _)) rfl rfl ?_
 rintro _ w2 ⟨l2,rfl,m2,hw2⟩
 have zw2:=hw2.size
 refine lg_allocw (cs:=NdV.zero.cs Nd.zero) Wn rfl (by kernel_rfl) rfl (by decide) fun b3 w3 n3=>?_
 have r3:=n3.row
 have k3:=n3.blk
 have z3:=n3.size
 have lt3:b3<w3.heap.size:=by omega
 have o4:=r3
 refine lg_stw Wn r3 rfl rfl rfl (by kernel_rfl) (by kernel_rfl) rfl rfl fun w4 s4=>?_
 have r3:=s4.row
 have z4:=s4.size
 refine Zn [0,4,5] ?_
 refine ZrM ?_
 refine Za (y_fld (off:=0)) ?_
 refine Za (Qo (v:=nv ((ndAs L).kind)) r3 rfl (by kernel_rfl) rfl rfl) ?_
 by_cases c5:(ndAs L).kind=0
 ·refine Za (yb (nd_f c5) yi_neq) ?_
  have h:=(h.below (n1.below.mono (by omega))).below (hw2.mono (by omega))
  have h:=(h.below (n3.below.mono (by omega))).set o4 rfl s4
  refine Zc (rputFlag_S false h (by omega) (by first | omega | (simp only [List.length_append,List.length_cons,List.length_nil,numOct_length,flagOct_length];omega))) rfl rfl ?_
  rintro _ w6 ⟨r6,rfl,m6,hw6⟩
  have zw6:=hw6.size
  refine ZAn [4,5,6] ?_
  refine Qd ?_
  refine Zr ?_
  refine Za (y_fld (off:=0)) ?_
  have r3:=RowAt.below hw6 r3.lt r3
  refine Za (Qo (v:=nv ((ndAs L).kind)) r3 rfl (by kernel_rfl) rfl rfl) ?_
  refine Zan (yb (nd_f c5) yi_neq) [4,5,6,16] ?_
  refine Zcf [4,5,6] ?_
  refine Qd ?_
  refine Zr ?_
  refine Za (y_fld (off:=0)) ?_
  refine Za (Qo (v:=nv ((ndAs L).kind)) r3 rfl (by kernel_rfl) rfl rfl) ?_
  refine Zan (yb (dF (show ¬((ndAs L).kind=1) from (show ¬((ndAs L).kind=1) by omega))) (yi_eql rfl rfl rfl)) [4,5,6,23] ?_
  refine Zcf [4,5,6] ?_
  refine Qd ?_
  refine Zr ?_
  refine Za (y_fld (off:=0)) ?_
  refine Za (Qo (v:=nv ((ndAs L).kind)) r3 rfl (by kernel_rfl) rfl rfl) ?_
  refine Zan (yb (dF (show ¬((ndAs L).kind=2) from (show ¬((ndAs L).kind=2) by omega))) (yi_eql rfl rfl rfl)) [4,5,6,30] ?_
  refine Zcf [4,6] ?_
  refine ZrM ?_
  refine ZAnr [4] ?_
  have u:=Un (Un (Un u n1.below) hw2) n3.below
  have u:=u.trans (s4.below _ (by omega))
  have u:=Un u hw6
  exact Qa rfl rfl ⟨_,rfl,r6,rfl,(m6.more (by omega)).cast (by rw [ndPut,if_neg (show ¬((ndAs L).kind=1) by omega),if_neg (show ¬((ndAs L).kind=2) by omega)]),u⟩
 refine Za (yb (nd_t c5) yi_neq) ?_
 have h:=(h.below (n1.below.mono (by omega))).below (hw2.mono (by omega))
 have h:=(h.below (n3.below.mono (by omega))).set o4 rfl s4
 refine Zc (rputFlag_S true h (by omega) (by first | omega | (simp only [List.length_append,List.length_cons,List.length_nil,numOct_length,flagOct_length];omega))) rfl rfl ?_
 rintro _ w7 ⟨r7,rfl,m7,hw7⟩
 have zw7:=hw7.size
 refine ZAn [4,5,6] ?_
 refine Qd ?_
 refine Zr ?_
 refine Za (y_fld (off:=0)) ?_
 have r3:=RowAt.below hw7 r3.lt r3
 refine Za (Qo (v:=nv ((ndAs L).kind)) r3 rfl (by kernel_rfl) rfl rfl) ?_
 refine Zan (yb (nd_t c5) yi_neq) [4,5,6,16] ?_
 refine cg_ct rfl ?_
 refine Qe ?_
 refine ZM ?_
 refine Za (y_fld (off:=0)) ?_
 refine Za (Qo (v:=nv ((ndAs L).kind)) r3 rfl (by kernel_rfl) rfl rfl) ?_
 refine Zc (rputNum_S ((ndAs L).kind) 1 m7 (by omega) (by first | omega | (simp only [List.length_append,flagOct_length];omega))) rfl rfl ?_
 rintro _ w8 ⟨r8,rfl,m8,hw8⟩
 have zw8:=hw8.size
 have wk8:=widthK_le 1
 refine ZAn [4,5,6] ?_
 refine Qd ?_
 refine Zr ?_
 refine Za (y_fld (off:=0)) ?_
 have r3:=RowAt.below hw8 r3.lt r3
 refine Za (Qo (v:=nv ((ndAs L).kind)) r3 rfl (by kernel_rfl) rfl rfl) ?_
 by_cases c9:(ndAs L).kind=1
 ·obtain ⟨eaL,ckL⟩:=ndAs_kind (L:=L) (by omega)
  have kL:L.kind=1:=(congrArg Nd.kind eaL).symm.trans c9
  refine Zan (yb (dT c9) yi_eql) [4,5,6,23] ?_
  refine cg_ct rfl ?_
  refine Qe ?_
  refine ZM ?_
  refine Za (y_fld (off:=1)) ?_
  refine Za (y_part r3 (m:=4) rfl (show 1+4≤8 by decide) (by kernel_rfl) (by kernel_rfl) rfl rfl) ?_
  have m2:=(m2.below (n3.below.mono (by omega))).below (s4.below _ (by omega))
  have m2:=(m2.below (hw7.mono (by omega))).below (hw8.mono (by omega))
  refine Zc (rputL_any (m8.more (B':=w8.heap.size) (by omega)) (m2.leaf.more (B':=w8.heap.size) (by omega)) (Nat.le_refl _) (by first | omega | (simp only [List.length_append,numOct_length,flagOct_length];omega))) rfl rfl ?_
  rintro _ w10 ⟨r10,rfl,m10,hw10⟩
  have zw10:=hw10.size
  have lp10:=lfPut_le ((ndAs L).leaf)
  refine ZAn [4,5,6] ?_
  refine Qd ?_
  refine Zr ?_
  refine Za (y_fld (off:=0)) ?_
  have r3:=RowAt.below hw10 r3.lt r3
  refine Za (Qo (v:=nv ((ndAs L).kind)) r3 rfl (by kernel_rfl) rfl rfl) ?_
  refine Zan (yb (dF (show ¬((ndAs L).kind=2) from (show ¬((ndAs L).kind=2) by omega))) (yi_eql rfl rfl rfl)) [4,5,6,30] ?_
  refine Zcf [4,6] ?_
  refine ZrM ?_
  refine ZAnr [4] ?_
  have u:=Un (Un (Un u n1.below) hw2) n3.below
  have u:=u.trans (s4.below _ (by omega))
  have u:=Un (Un (Un u hw7) hw8) hw10
  exact Qa rfl rfl ⟨_,rfl,r10,rfl,(m10.more (by omega)).cast (by rw [ndPut,if_pos c9,eaL,kL];simp only [List.append_assoc]),u⟩
 refine Zan (yb (dF c9) yi_eql) [4,5,6,23] ?_
 refine Zcf [4,5,6] ?_
 refine Qd ?_
 refine Zr ?_
 refine Za (y_fld (off:=0)) ?_
 refine Za (Qo (v:=nv ((ndAs L).kind)) r3 rfl (by kernel_rfl) rfl rfl) ?_
 by_cases c11:(ndAs L).kind=2
 ·obtain ⟨eaL,ckL⟩:=ndAs_kind (L:=L) (by omega)
  have kL:L.kind=2:=(congrArg Nd.kind eaL).symm.trans c11
  refine Zan (yb (dT c11) yi_eql) [4,5,6,30] ?_
  refine cg_ct rfl ?_
  refine Qe ?_
  refine ZM ?_
  refine Za (y_fld (off:=5)) ?_
  refine Za (y_part r3 (m:=3) rfl (show 5+3≤8 by decide) (by kernel_rfl) (by kernel_rfl) rfl rfl) ?_
  have m2:=(m2.below (n3.below.mono (by omega))).below (s4.below _ (by omega))
  have m2:=(m2.below (hw7.mono (by omega))).below (hw8.mono (by omega))
  refine Zc (rputP_any (m8.more (B':=w8.heap.size) (by omega)) (m2.inner.more (B':=w8.heap.size) (by omega)) (Nat.le_refl _) (by first | omega | (simp only [List.length_append,numOct_length,flagOct_length];omega))) rfl rfl ?_
  rintro _ w12 ⟨r12,rfl,m12,hw12⟩
  have zw12:=hw12.size
  have lp12:=pnPut_le ((ndAs L).inner)
  refine ZAn [4,6] ?_
  refine ZrM ?_
  refine ZAnr [4] ?_
  have u:=Un (Un (Un u n1.below) hw2) n3.below
  have u:=u.trans (s4.below _ (by omega))
  have u:=Un (Un (Un u hw7) hw8) hw12
  exact Qa rfl rfl ⟨_,rfl,r12,rfl,(m12.more (by omega)).cast (by rw [ndPut,if_neg c9,if_pos c11,eaL,kL];simp only [List.append_assoc]),u⟩
 exact absurd (ndAs_range L) (by omega)
set_option maxHeartbeats 4000000 in
theorem rgetN_anyO {W:World} {B:Nat} {s:SlV} {xs:List Int} (h:Sl W B s xs) (hB:B≤W.heap.size):Calls Tryz.prog 22 #[s.v] W fun e W'=>∃ v,e=.returned v∧∃ (l:NdV) (r:SlV),v=.tuple #[.agg (l.cs (ndGet xs).2.1),r.v,nv (ndGet xs).1]∧IsNd W' W'.heap.size l (ndGet xs).2.1∧Sl W' B r (ndGet xs).2.2∧l.fresh W.heap.size∧l.old B∧Below W.heap.size W W':=by
 refine Qf (n:=78) Tryz.func22 rfl Tryz.ntmps22 (by simp) ?_
 show CG _ _ _ [(0,s.v)] _ _
 have u:=Below.refl W.heap.size W
 refine Zr ?_
 refine lg_allocw (cs:=NdV.zero.cs Nd.zero) Wn rfl (by kernel_rfl) rfl (by decide) fun b1 w1 n1=>?_
 have r1:=n1.row
 have k1:=n1.blk
 have z1:=n1.size
 have lt1:b1<w1.heap.size:=by omega
 refine ZA ?_
 refine ZAn [0,2,3,4] ?_
 refine Zr ?_
 refine Za (y_build (cs:=NdV.zero.cs Nd.zero)) ?_
 refine lg_allocw (cs:=NdV.zero.cs Nd.zero) Wn rfl (by kernel_rfl) rfl (by decide) fun b2 w2 n2=>?_
 have r2:=n2.row
 have k2:=n2.blk
 have z2:=n2.size
 have lt2:b2<w2.heap.size:=by omega
 have o3:=r2
 refine lg_stw Wn r2 rfl rfl rfl (by kernel_rfl) (by kernel_rfl) rfl rfl fun w3 s3=>?_
 have r2:=s3.row
 have z3:=s3.size
 refine Zn [0,2,3,4,5] ?_
 refine ZrM ?_
 have h:=((h.below (n1.below.mono (by omega))).below (n2.below.mono (by omega))).set o3 rfl s3
 by_cases c4:flagB xs=true
 ·refine Zc (rgetFlag_S h) rfl rfl ?_
  rintro _ w5 ⟨bb5,r5,rfl,e5,l5,hw5⟩
  have zw5:=hw5.size
  obtain rfl:bb5=true:=e5.trans (decide_eq_true c4)
  refine ZM ?_
  refine Za y_extract ?_
  refine Za y_extract ?_
  refine Za y_extract ?_
  refine ZA ?_
  refine ZA ?_
  refine ZAn [2,3,4,5,6,7,8] ?_
  refine Qd ?_
  refine ZrM ?_
  by_cases c6:(flagE xs)=0
  ·refine Zan (yb (nd_f c6) yi_neq) [2,3,4,5,6,7,8,26] ?_
   refine Zcf [2,3,4,5,6,7] ?_
   refine Qd ?_
   refine ZrM ?_
   refine Zan y_bnot [2,3,4,5,7,30] ?_
   refine Zcf [2,3,4,5,7] ?_
   refine ZrM ?_
   refine Zc (rgetNum_S 1 l5 (by omega)) rfl rfl ?_
   rintro _ w7 ⟨r7,rfl,l7,hw7⟩
   have zw7:=hw7.size
   refine ZM ?_
   refine Za y_extract ?_
   refine Za y_extract ?_
   refine Za y_extract ?_
   refine ZA ?_
   refine ZA ?_
   refine ZAn [2,3,4,5,9,10,11] ?_
   refine Qd ?_
   refine ZrM ?_
   by_cases c8:(numE (flagR xs) 1)=0
   ·refine Zan (yb (nd_f c8) yi_neq) [2,3,4,5,9,10,11,40] ?_
    refine Zcf [2,3,4,5,9,10] ?_
    refine Qd ?_
    refine ZrM ?_
    by_cases c9:(numM (flagR xs) 1)=1
    ·refine Za (yb (nd_f c9) yi_neq) ?_
     refine ZM ?_
     refine Zf 45 ?_
     refine Zf 45 ?_
     refine Zan (y_pick false) [2,3,4,5,9,10,48] ?_
     refine Zcf [2,3,4,5,9,10] ?_
     refine Qd ?_
     refine ZrM ?_
     refine Zan (yb (dT c9) yi_eql) [2,3,4,5,10,51] ?_
     refine cg_ct rfl ?_
     refine ZrM ?_
     refine Zc (rgetL_any l7 (by omega)) rfl rfl ?_
     rintro _ w10 ⟨l10,r10,rfl,m10,n10,hw10⟩
     have zw10:=hw10.size
     refine ZM ?_
     refine Za y_extract ?_
     refine Za y_extract ?_
     refine Za y_extract ?_
     refine lg_allocw (cs:=LfV.zero.cs Lf.zero) Wn rfl (by kernel_rfl) rfl (by decide) fun b11 w11 n11=>?_
     have r11:=n11.row
     have k11:=n11.blk
     have z11:=n11.size
     have lt11:b11<w11.heap.size:=by omega
     have o12:=r11
     refine lg_stw Wn r11 rfl rfl rfl (by kernel_rfl) (by kernel_rfl) rfl rfl fun w12 s12=>?_
     have r11:=s12.row
     have z12:=s12.size
     refine ZA ?_
     refine ZAn [2,3,4,5,10,12,13,14] ?_
     refine Qd ?_
     refine ZrM ?_
     by_cases c13:(lfGet (numR (flagR xs) 1)).1=0
     ·refine Zan (yb (nd_f c13) yi_neq) [2,3,4,5,10,12,13,14,59] ?_
      refine Zcf [2,3,4,5,10,12,13] ?_
      refine Zr ?_
      refine Za (y_loadA r11) ?_
      refine Za (y_build (cs:=(⟨l10,PnV.zero⟩:NdV).cs (⟨1,(lfGet (numR (flagR xs) 1)).2.1,Pn.zero⟩:Nd))) ?_
      refine ZM ?_
      have r1:=n2.keep r1
      have r1:=s3.keep r1 (by omega)
      have r1:=RowAt.below hw5 r1.lt r1
      have r1:=RowAt.below hw7 r1.lt r1
      have r1:=RowAt.below hw10 r1.lt r1
      have r1:=n11.keep r1
      have r1:=s12.keep r1 (by omega)
      have o14:=r1
      refine lg_stw Wn r1 rfl rfl rfl (by kernel_rfl) (by kernel_rfl) rfl rfl fun w14 s14=>?_
      have r1:=s14.row
      have z14:=s14.size
      refine ZA ?_
      refine ZAnr [2,5,10,3,4] ?_
      refine Qc ?_
      have hst:ndGet xs=(0,(⟨1,(lfGet (numR (flagR xs) 1)).2.1,Pn.zero⟩:Nd),(lfGet (numR (flagR xs) 1)).2.2):=by rw [ndGet,if_neg (not_not_intro c6),if_neg (not_not_intro c4),if_neg (not_not_intro c8),if_pos c9,if_neg (not_not_intro c13)]
      refine eg_ret_agg3 rfl rfl r1 (by kernel_rfl) (by kernel_rfl) rfl rfl ?_
      rw [hst]
      have m10:=((m10.below (n11.below.mono (by omega))).set o12 rfl s12).set o14 rfl s14
      have n10:=((n10.below (n11.below.mono (by omega))).set o12 rfl s12).set o14 rfl s14
      have u:=Un (Un u n1.below) n2.below
      have u:=u.trans (s3.below _ (by omega))
      have u:=Un (Un u hw5) hw7
      have u:=Un (Un u hw10) n11.below
      have u:=(u.trans (s12.below _ (by omega))).trans (s14.below _ (by omega))
      exact ⟨_,rfl,(⟨l10,PnV.zero⟩:NdV),r10,rfl,(show IsNd w14 w14.heap.size (⟨l10,PnV.zero⟩:NdV) (⟨1,(lfGet (numR (flagR xs) 1)).2.1,Pn.zero⟩:Nd) from ⟨(m10.more (B':=w14.heap.size) (by omega)),((IsPn.zero _ 0).more (B':=w14.heap.size) (by omega))⟩),n10,(Fr.nil _),⟨m10.old,Old.nil _,Old.nil _⟩,u⟩
     refine Zan (yb (nd_t c13) yi_neq) [2,3,4,5,10,12,13,14,59] ?_
     refine cg_ct rfl ?_
     refine Zr ?_
     have r2:=RowAt.below hw5 r2.lt r2
     have r2:=RowAt.below hw7 r2.lt r2
     have r2:=RowAt.below hw10 r2.lt r2
     have r2:=n11.keep r2
     have r2:=s12.keep r2 (by omega)
     refine Za (y_loadA r2) ?_
     refine ZM ?_
     have r1:=n2.keep r1
     have r1:=s3.keep r1 (by omega)
     have r1:=RowAt.below hw5 r1.lt r1
     have r1:=RowAt.below hw7 r1.lt r1
     have r1:=RowAt.below hw10 r1.lt r1
     have r1:=n11.keep r1
     have r1:=s12.keep r1 (by omega)
     have o15:=r1
     refine lg_stw Wn r1 rfl rfl rfl (by kernel_rfl) (by kernel_rfl) rfl rfl fun w15 s15=>?_
     have r1:=s15.row
     have z15:=s15.size
     refine ZA ?_
     refine ZAnr [2,5,10,12,13,3,4] ?_
     refine Qc ?_
     refine Qc ?_
     have hst:ndGet xs=((lfGet (numR (flagR xs) 1)).1,Nd.zero,[]):=by rw [ndGet,if_neg (not_not_intro c6),if_neg (not_not_intro c4),if_neg (not_not_intro c8),if_pos c9,if_pos c13]
     refine eg_ret_agg3 rfl rfl r1 (by kernel_rfl) (by kernel_rfl) rfl rfl ?_
     rw [hst]
     have u:=Un (Un u n1.below) n2.below
     have u:=u.trans (s3.below _ (by omega))
     have u:=Un (Un u hw5) hw7
     have u:=Un (Un u hw10) n11.below
     have u:=(u.trans (s12.below _ (by omega))).trans (s15.below _ (by omega))
     exact ⟨_,rfl,NdV.zero,nilS,rfl,((IsNd.zero _ 0).more (B':=w15.heap.size) (by omega)),(Sl.nil _ _),(Fr.nil _),NdV.old_zero _,u⟩
    refine Za (yb (nd_t c9) yi_neq) ?_
    refine ZM ?_
    refine Zt 45 y_move ?_
    by_cases c16:(numM (flagR xs) 1)=2
    ·refine Zt 45 (yb (nd_f c16) yi_neq) ?_
     refine Zan (y_pick true) [2,3,4,5,9,10,48] ?_
     refine Zcf [2,3,4,5,9,10] ?_
     refine Qd ?_
     refine ZrM ?_
     refine Zan (yb (dF c9) yi_eql) [2,3,4,5,10,51] ?_
     refine Zcf [2,3,4,5,10] ?_
     refine ZrM ?_
     refine Zc (rgetP_anyO l7 (by omega)) rfl rfl ?_
     rintro _ w17 ⟨l17,r17,rfl,m17,n17,f17,o17,hw17⟩
     have zw17:=hw17.size
     refine ZM ?_
     refine Za y_extract ?_
     refine Za y_extract ?_
     refine Za y_extract ?_
     refine lg_allocw (cs:=PnV.zero.cs Pn.zero) Wn rfl (by kernel_rfl) rfl (by decide) fun b18 w18 n18=>?_
     have r18:=n18.row
     have k18:=n18.blk
     have z18:=n18.size
     have lt18:b18<w18.heap.size:=by omega
     have o19:=r18
     refine lg_stw Wn r18 rfl rfl rfl (by kernel_rfl) (by kernel_rfl) rfl rfl fun w19 s19=>?_
     have r18:=s19.row
     have z19:=s19.size
     refine ZA ?_
     refine ZAn [2,3,4,5,15,16,17] ?_
     refine Qd ?_
     refine ZrM ?_
     by_cases c20:(pnGet (numR (flagR xs) 1)).1=0
     ·refine Zan (yb (nd_f c20) yi_neq) [2,3,4,5,15,16,17,72] ?_
      refine Zcf [2,3,4,15,16] ?_
      refine Zr ?_
      refine Za (y_loadA r18) ?_
      refine Za (y_build (cs:=(⟨LfV.zero,l17⟩:NdV).cs (⟨2,Lf.zero,(pnGet (numR (flagR xs) 1)).2.1⟩:Nd))) ?_
      refine ZM ?_
      have r1:=n2.keep r1
      have r1:=s3.keep r1 (by omega)
      have r1:=RowAt.below hw5 r1.lt r1
      have r1:=RowAt.below hw7 r1.lt r1
      have r1:=RowAt.below hw17 r1.lt r1
      have r1:=n18.keep r1
      have r1:=s19.keep r1 (by omega)
      have o21:=r1
      refine lg_stw Wn r1 rfl rfl rfl (by kernel_rfl) (by kernel_rfl) rfl rfl fun w21 s21=>?_
      have r1:=s21.row
      have z21:=s21.size
      refine ZA ?_
      refine ZAnr [2,3,4] ?_
      have hst:ndGet xs=(0,(⟨2,Lf.zero,(pnGet (numR (flagR xs) 1)).2.1⟩:Nd),(pnGet (numR (flagR xs) 1)).2.2):=by rw [ndGet,if_neg (not_not_intro c6),if_neg (not_not_intro c4),if_neg (not_not_intro c8),if_neg c9,if_pos c16,if_neg (not_not_intro c20)]
      refine eg_ret_agg3 rfl rfl r1 (by kernel_rfl) (by kernel_rfl) rfl rfl ?_
      rw [hst]
      have m17:=((m17.below (n18.below.mono (by omega))).below (s19.below _ (by omega))).setf o21 rfl f17 (by omega) s21
      have n17:=((n17.below (n18.below.mono (by omega))).set o19 rfl s19).set o21 rfl s21
      have u:=Un (Un u n1.below) n2.below
      have u:=u.trans (s3.below _ (by omega))
      have u:=Un (Un u hw5) hw7
      have u:=Un (Un u hw17) n18.below
      have u:=(u.trans (s19.below _ (by omega))).trans (s21.below _ (by omega))
      exact ⟨_,rfl,(⟨LfV.zero,l17⟩:NdV),r17,rfl,(show IsNd w21 w21.heap.size (⟨LfV.zero,l17⟩:NdV) (⟨2,Lf.zero,(pnGet (numR (flagR xs) 1)).2.1⟩:Nd) from ⟨((IsLf.zero _ 0).more (B':=w21.heap.size) (by omega)),(m17.more (B':=w21.heap.size) (by omega))⟩),n17,f17.le (by omega),⟨⟨Old.nil _,Old.nil _,Old.nil _⟩,o17⟩,u⟩
     refine Zan (yb (nd_t c20) yi_neq) [2,3,4,5,15,16,17,72] ?_
     refine cg_ct rfl ?_
     refine Zr ?_
     have r2:=RowAt.below hw5 r2.lt r2
     have r2:=RowAt.below hw7 r2.lt r2
     have r2:=RowAt.below hw17 r2.lt r2
     have r2:=n18.keep r2
     have r2:=s19.keep r2 (by omega)
     refine Za (y_loadA r2) ?_
     refine ZM ?_
     have r1:=n2.keep r1
     have r1:=s3.keep r1 (by omega)
     have r1:=RowAt.below hw5 r1.lt r1
     have r1:=RowAt.below hw7 r1.lt r1
     have r1:=RowAt.below hw17 r1.lt r1
     have r1:=n18.keep r1
     have r1:=s19.keep r1 (by omega)
     have o22:=r1
     refine lg_stw Wn r1 rfl rfl rfl (by kernel_rfl) (by kernel_rfl) rfl rfl fun w22 s22=>?_
     have r1:=s22.row
     have z22:=s22.size
     refine ZA ?_
     refine ZAnr [2,15,16,3,4] ?_
     refine Qc ?_
     have hst:ndGet xs=((pnGet (numR (flagR xs) 1)).1,Nd.zero,[]):=by rw [ndGet,if_neg (not_not_intro c6),if_neg (not_not_intro c4),if_neg (not_not_intro c8),if_neg c9,if_pos c16,if_pos c20]
     refine eg_ret_agg3 rfl rfl r1 (by kernel_rfl) (by kernel_rfl) rfl rfl ?_
     rw [hst]
     have u:=Un (Un u n1.below) n2.below
     have u:=u.trans (s3.below _ (by omega))
     have u:=Un (Un u hw5) hw7
     have u:=Un (Un u hw17) n18.below
     have u:=(u.trans (s19.below _ (by omega))).trans (s22.below _ (by omega))
     exact ⟨_,rfl,NdV.zero,nilS,rfl,((IsNd.zero _ 0).more (B':=w22.heap.size) (by omega)),(Sl.nil _ _),(Fr.nil _),NdV.old_zero _,u⟩
    refine Zt 45 (yb (nd_t c16) yi_neq) ?_
    refine Zan (y_pick true) [2,3,4,5,9,10,48] ?_
    refine cg_ct rfl ?_
    refine Zr ?_
    have r2:=RowAt.below hw5 r2.lt r2
    have r2:=RowAt.below hw7 r2.lt r2
    refine Za (y_loadA r2) ?_
    have r1:=n2.keep r1
    have r1:=s3.keep r1 (by omega)
    have r1:=RowAt.below hw5 r1.lt r1
    have r1:=RowAt.below hw7 r1.lt r1
    have o23:=r1
    refine lg_stw Wn r1 rfl rfl rfl (by kernel_rfl) (by kernel_rfl) rfl rfl fun w23 s23=>?_
    have r1:=s23.row
    have z23:=s23.size
    refine ZA ?_
    refine ZAnr [2,5,9,10,3,4] ?_
    refine Qc ?_
    have hst:ndGet xs=(7,Nd.zero,[]):=by rw [ndGet,if_neg (not_not_intro c6),if_neg (not_not_intro c4),if_neg (not_not_intro c8),if_neg c9,if_neg c16]
    refine eg_ret_agg3 rfl rfl r1 (by kernel_rfl) (by kernel_rfl) rfl rfl ?_
    rw [hst]
    have u:=Un (Un u n1.below) n2.below
    have u:=u.trans (s3.below _ (by omega))
    have u:=Un (Un u hw5) hw7
    have u:=u.trans (s23.below _ (by omega))
    exact ⟨_,rfl,NdV.zero,nilS,rfl,((IsNd.zero _ 0).more (B':=w23.heap.size) (by omega)),(Sl.nil _ _),(Fr.nil _),NdV.old_zero _,u⟩
   refine Zan (yb (nd_t c8) yi_neq) [2,3,4,5,9,10,11,40] ?_
   refine cg_ct rfl ?_
   refine Zr ?_
   have r2:=RowAt.below hw5 r2.lt r2
   have r2:=RowAt.below hw7 r2.lt r2
   refine Za (y_loadA r2) ?_
   refine ZM ?_
   have r1:=n2.keep r1
   have r1:=s3.keep r1 (by omega)
   have r1:=RowAt.below hw5 r1.lt r1
   have r1:=RowAt.below hw7 r1.lt r1
   have o24:=r1
   refine lg_stw Wn r1 rfl rfl rfl (by kernel_rfl) (by kernel_rfl) rfl rfl fun w24 s24=>?_
   have r1:=s24.row
   have z24:=s24.size
   refine ZA ?_
   refine ZAnr [2,5,9,10,3,4] ?_
   refine Qc ?_
   have hst:ndGet xs=((numE (flagR xs) 1),Nd.zero,[]):=by rw [ndGet,if_neg (not_not_intro c6),if_neg (not_not_intro c4),if_pos c8]
   refine eg_ret_agg3 rfl rfl r1 (by kernel_rfl) (by kernel_rfl) rfl rfl ?_
   rw [hst]
   have u:=Un (Un u n1.below) n2.below
   have u:=u.trans (s3.below _ (by omega))
   have u:=Un (Un u hw5) hw7
   have u:=u.trans (s24.below _ (by omega))
   exact ⟨_,rfl,NdV.zero,nilS,rfl,((IsNd.zero _ 0).more (B':=w24.heap.size) (by omega)),(Sl.nil _ _),(Fr.nil _),NdV.old_zero _,u⟩
  refine Zan (yb (nd_t c6) yi_neq) [2,3,4,5,6,7,8,26] ?_
  refine cg_ct rfl ?_
  refine Zr ?_
  have r2:=RowAt.below hw5 r2.lt r2
  refine Za (y_loadA r2) ?_
  refine ZM ?_
  have r1:=n2.keep r1
  have r1:=s3.keep r1 (by omega)
  have r1:=RowAt.below hw5 r1.lt r1
  have o25:=r1
  refine lg_stw Wn r1 rfl rfl rfl (by kernel_rfl) (by kernel_rfl) rfl rfl fun w25 s25=>?_
  have r1:=s25.row
  have z25:=s25.size
  refine ZA ?_
  refine ZAnr [2,5,6,7,3,4] ?_
  refine Qc ?_
  have hst:ndGet xs=((flagE xs),Nd.zero,[]):=by rw [ndGet,if_pos c6]
  refine eg_ret_agg3 rfl rfl r1 (by kernel_rfl) (by kernel_rfl) rfl rfl ?_
  rw [hst]
  have u:=Un (Un u n1.below) n2.below
  have u:=u.trans (s3.below _ (by omega))
  have u:=Un u hw5
  have u:=u.trans (s25.below _ (by omega))
  exact ⟨_,rfl,NdV.zero,nilS,rfl,((IsNd.zero _ 0).more (B':=w25.heap.size) (by omega)),(Sl.nil _ _),(Fr.nil _),NdV.old_zero _,u⟩
 refine Zc (rgetFlag_S h) rfl rfl ?_
 rintro _ w26 ⟨bb26,r26,rfl,e26,l26,hw26⟩
 have zw26:=hw26.size
 obtain rfl:bb26=false:=e26.trans (decide_eq_false c4)
 refine ZM ?_
 refine Za y_extract ?_
 refine Za y_extract ?_
 refine Za y_extract ?_
 refine ZA ?_
 refine ZA ?_
 refine ZAn [2,3,4,5,6,7,8] ?_
 refine Qd ?_
 refine ZrM ?_
 by_cases c27:(flagE xs)=0
 ·refine Zan (yb (nd_f c27) yi_neq) [2,3,4,5,6,7,8,26] ?_
  refine Zcf [2,3,4,5,6,7] ?_
  refine Qd ?_
  refine ZrM ?_
  refine Zan y_bnot [2,3,4,5,7,30] ?_
  refine cg_ct rfl ?_
  refine Zr ?_
  have r2:=RowAt.below hw26 r2.lt r2
  refine Za (y_loadA r2) ?_
  refine ZM ?_
  have r1:=n2.keep r1
  have r1:=s3.keep r1 (by omega)
  have r1:=RowAt.below hw26 r1.lt r1
  have o28:=r1
  refine lg_stw Wn r1 rfl rfl rfl (by kernel_rfl) (by kernel_rfl) rfl rfl fun w28 s28=>?_
  have r1:=s28.row
  have z28:=s28.size
  refine ZA ?_
  refine ZAnr [2,5,7,3,4] ?_
  refine Qc ?_
  have hst:ndGet xs=(0,Nd.zero,(flagR xs)):=by rw [ndGet,if_neg (not_not_intro c27),if_pos c4]
  refine eg_ret_agg3 rfl rfl r1 (by kernel_rfl) (by kernel_rfl) rfl rfl ?_
  rw [hst]
  have l26:=l26.set o28 rfl s28
  have u:=Un (Un u n1.below) n2.below
  have u:=u.trans (s3.below _ (by omega))
  have u:=Un u hw26
  have u:=u.trans (s28.below _ (by omega))
  exact ⟨_,rfl,NdV.zero,r26,rfl,((IsNd.zero _ 0).more (B':=w28.heap.size) (by omega)),l26,(Fr.nil _),NdV.old_zero _,u⟩
 refine Zan (yb (nd_t c27) yi_neq) [2,3,4,5,6,7,8,26] ?_
 refine cg_ct rfl ?_
 refine Zr ?_
 have r2:=RowAt.below hw26 r2.lt r2
 refine Za (y_loadA r2) ?_
 refine ZM ?_
 have r1:=n2.keep r1
 have r1:=s3.keep r1 (by omega)
 have r1:=RowAt.below hw26 r1.lt r1
 have o29:=r1
 refine lg_stw Wn r1 rfl rfl rfl (by kernel_rfl) (by kernel_rfl) rfl rfl fun w29 s29=>?_
 have r1:=s29.row
 have z29:=s29.size
 refine ZA ?_
 refine ZAnr [2,5,6,7,3,4] ?_
 refine Qc ?_
 have hst:ndGet xs=((flagE xs),Nd.zero,[]):=by rw [ndGet,if_pos c27]
 refine eg_ret_agg3 rfl rfl r1 (by kernel_rfl) (by kernel_rfl) rfl rfl ?_
 rw [hst]
 have u:=Un (Un u n1.below) n2.below
 have u:=u.trans (s3.below _ (by omega))
 have u:=Un u hw26
 have u:=u.trans (s29.below _ (by omega))
 exact ⟨_,rfl,NdV.zero,nilS,rfl,((IsNd.zero _ 0).more (B':=w29.heap.size) (by omega)),(Sl.nil _ _),(Fr.nil _),NdV.old_zero _,u⟩
end
end Go.Proofs.YtognnnjdoemgfaaGreatDoor
