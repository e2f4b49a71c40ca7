/-
  KitP: LfProg, LfGet, LfPut, PnNum, PnProg, NdProg, NdPut.
-/
import Derived.Test.YtfdmhdnlmndhdaaGreatDoorKitN
namespace Go.Proofs.YtfdmhdnlmndhdaaGreatDoor
open Go.ChangeShapes Go.WideShapes Go.ChangeAt Go.RowKit
set_option linter.unusedVariables false

/- LfProg:
  leaf.Check and leaf.Same.
-/
theorem large_any {w:World} {B:Nat} {s:SlV} {xs:List Int} (h:Sl w B s xs):Calls Tryz.prog 111 #[s.v] w fun e w'=>e=.returned (.bool (decide (200<(xs.length:Int))))∧w'=w:=by
 refine Qf (n:=6) Tryz.func111 rfl Tryz.ntmps111 (by simp) ?_
 show CG _ _ _ [(0,s.v)] _ _
 refine ZrA ?_
 refine Zn [0,2] ?_
 refine ZrM ?_
 refine Za (y_lenS (el:=5) h) ?_
 refine Za yi_gtr ?_
 refine ZAnr [2] ?_
 exact Qa rfl rfl ⟨rfl,rfl⟩
theorem known_any (n:Int) (w:World):Calls Tryz.prog 112 #[nv n] w fun e w'=>e=.returned (.bool (decide (1≤n∧n≤3)))∧w'=w:=by
 refine Qf (n:=9) Tryz.func112 rfl Tryz.ntmps112 (by simp) ?_
 show CG _ _ _ [(0,nv n)] _ _
 refine ZrA ?_
 refine Zn [0,2] ?_
 refine ZrM ?_
 by_cases c1:1≤n
 ·refine Za (yb (dT c1) yi_geq) ?_
  refine ZM ?_
  refine Zt 5 y_move ?_
  by_cases c2:n≤3
  ·refine Zt 5 (yb (dT c2) yi_leq) ?_
   refine Za (y_pick true) ?_
   refine ZAnr [2] ?_
   exact Qa rfl rfl ⟨congrArg (fun b=>Ending.returned (.bool b)) (show true=decide (1≤n∧n≤3) from (dT (by omega)).symm),rfl⟩
  refine Zt 5 (yb (dF c2) yi_leq) ?_
  refine Za (y_pick true) ?_
  refine ZAnr [2] ?_
  exact Qa rfl rfl ⟨congrArg (fun b=>Ending.returned (.bool b)) (show false=decide (1≤n∧n≤3) from (dF (by omega)).symm),rfl⟩
 refine Za (yb (dF c1) yi_geq) ?_
 refine ZM ?_
 refine Zf 5 ?_
 refine Zf 5 ?_
 refine Za (y_pick false) ?_
 refine ZAnr [2] ?_
 exact Qa rfl rfl ⟨congrArg (fun b=>Ending.returned (.bool b)) (show false=decide (1≤n∧n≤3) from (dF (by omega)).symm),rfl⟩
theorem check_any {W:World} {B:Nat} {l:LfV} {L:Lf} (hl:IsLf W B l L) (hB:B≤W.heap.size):Calls Tryz.prog 73 #[.agg (l.cs L)] W fun e W'=>∃ v,e=.returned v∧v=nv (lfCheck L)∧Below W.heap.size W W':=by
 refine Qf (n:=37) Tryz.func73 rfl Tryz.ntmps73 (by simp) ?_
 show CG _ _ _ [(0,.agg (l.cs L))] _ _
 have u:=Below.refl W.heap.size W
 refine Zr ?_
 refine lg_boxw Wn rfl rfl (by kernel_rfl) rfl (by decide) fun b1 w1 n1=>?_
 have r1:=n1.row
 have k1:=n1.blk
 have z1:=n1.size
 have lt1:b1<w1.heap.size:=by omega
 refine ZAn [1,2] ?_
 refine Qd ?_
 refine Qj ?_
 refine Zr ?_
 refine Za (y_fld (off:=0)) ?_
 refine Za (Qo (v:=l.enc.v) r1 rfl (by kernel_rfl) rfl rfl) ?_
 have hl:=hl.below (n1.below.mono (by omega))
 refine Za (y_lenS (el:=5) hl.enc) ?_
 by_cases c2:(L.enc.length:Int)=0
 ·refine Za (yb (dT c2) yi_eql) ?_
  refine ZAnt [1,2,3] ?_
  refine ZrA ?_
  refine Znr [2] ?_
  refine Qg ?_
  refine Qc ?_
  have u:=Un u n1.below
  exact Qa rfl rfl ⟨_,rfl,congrArg nv (show 5=lfCheck L by unfold lfCheck;(repeat' split)<;>omega),u⟩
 refine Za (yb (dF c2) yi_eql) ?_
 refine ZAn [1,2,3] ?_
 refine cg_cf rfl ?_
 refine Zr ?_
 refine Za (y_fld (off:=0)) ?_
 refine Za (Qo (v:=l.enc.v) r1 rfl (by kernel_rfl) rfl rfl) ?_
 by_cases c3:200<(L.enc.length:Int)
 ·refine Za (yb (dT c3) (Qp (large_any hl.enc))) ?_
  refine ZM ?_
  refine Zf 12 ?_
  refine Zf 12 ?_
  refine Zf 12 ?_
  refine Za (y_pick true) ?_
  refine ZM ?_
  refine Zf 17 ?_
  refine Zf 17 ?_
  refine Zf 17 ?_
  refine Za (y_pick true) ?_
  refine ZAnt [1,2,8] ?_
  refine ZrA ?_
  refine Znr [2] ?_
  refine Qg ?_
  refine Qc ?_
  have u:=Un u n1.below
  exact Qa rfl rfl ⟨_,rfl,congrArg nv (show 4=lfCheck L by unfold lfCheck;(repeat' split)<;>omega),u⟩
 refine Za (yb (dF c3) (Qp (large_any hl.enc))) ?_
 refine ZM ?_
 refine Zt 12 (y_fld (off:=1)) ?_
 refine Zt 12 (Qo (v:=l.cred.v) r1 rfl (by kernel_rfl) rfl rfl) ?_
 by_cases c4:200<(L.cred.length:Int)
 ·refine Zt 12 (yb (dT c4) (Qp (large_any hl.cred))) ?_
  refine Za (y_pick false) ?_
  refine ZM ?_
  refine Zf 17 ?_
  refine Zf 17 ?_
  refine Zf 17 ?_
  refine Za (y_pick true) ?_
  refine ZAnt [1,2,8] ?_
  refine ZrA ?_
  refine Znr [2] ?_
  refine Qg ?_
  refine Qc ?_
  have u:=Un u n1.below
  exact Qa rfl rfl ⟨_,rfl,congrArg nv (show 4=lfCheck L by unfold lfCheck;(repeat' split)<;>omega),u⟩
 refine Zt 12 (yb (dF c4) (Qp (large_any hl.cred))) ?_
 refine Za (y_pick false) ?_
 refine ZM ?_
 refine Zt 17 (y_fld (off:=3)) ?_
 refine Zt 17 (Qo (v:=l.par.v) r1 rfl (by kernel_rfl) rfl rfl) ?_
 by_cases c5:200<(L.par.length:Int)
 ·refine Zt 17 (yb (dT c5) (Qp (large_any hl.par))) ?_
  refine Za (y_pick false) ?_
  refine ZAnt [1,2,8] ?_
  refine ZrA ?_
  refine Znr [2] ?_
  refine Qg ?_
  refine Qc ?_
  have u:=Un u n1.below
  exact Qa rfl rfl ⟨_,rfl,congrArg nv (show 4=lfCheck L by unfold lfCheck;(repeat' split)<;>omega),u⟩
 refine Zt 17 (yb (dF c5) (Qp (large_any hl.par))) ?_
 refine Za (y_pick false) ?_
 refine ZAn [1,2,8] ?_
 refine cg_cf rfl ?_
 refine Zr ?_
 refine Za (y_fld (off:=2)) ?_
 refine Za (Qo (v:=nv L.src) r1 rfl (by kernel_rfl) rfl rfl) ?_
 by_cases c6:1≤L.src∧L.src≤3
 ·refine Za (yb (dT c6) (Qp (known_any L.src _))) ?_
  refine Za y_bnot ?_
  refine ZAn [1,2,22] ?_
  refine cg_cf rfl ?_
  refine Zr ?_
  refine Za (y_fld (off:=3)) ?_
  refine Za (Qo (v:=l.par.v) r1 rfl (by kernel_rfl) rfl rfl) ?_
  refine Za (y_lenS (el:=5) hl.par) ?_
  by_cases c7:0<(L.par.length:Int)
  ·refine Za (yb (dT c7) yi_gtr) ?_
   refine ZM ?_
   refine Zt 32 (y_fld (off:=2)) ?_
   refine Zt 32 (Qo (v:=nv L.src) r1 rfl (by kernel_rfl) rfl rfl) ?_
   by_cases c8:L.src=3
   ·refine Zt 32 (yb (nd_f c8) yi_neq) ?_
    refine Za (y_pick true) ?_
    refine ZAn [2,27] ?_
    refine cg_cf rfl ?_
    refine cg_skip ?_
    refine Qi ?_
    refine Nx [2] ?_
    refine ZrA ?_
    refine Znr [2] ?_
    have u:=Un u n1.below
    exact Qa rfl rfl ⟨_,rfl,congrArg nv (show 0=lfCheck L by unfold lfCheck;(repeat' split)<;>omega),u⟩
   refine Zt 32 (yb (nd_t c8) yi_neq) ?_
   refine Za (y_pick true) ?_
   refine ZAnt [2,27] ?_
   refine ZrA ?_
   refine Znr [2] ?_
   refine Qg ?_
   refine Qc ?_
   have u:=Un u n1.below
   exact Qa rfl rfl ⟨_,rfl,congrArg nv (show 2=lfCheck L by unfold lfCheck;(repeat' split)<;>omega),u⟩
  refine Za (yb (dF c7) yi_gtr) ?_
  refine ZM ?_
  refine Zf 32 ?_
  refine Zf 32 ?_
  refine Zf 32 ?_
  refine Za (y_pick false) ?_
  refine ZAn [2,27] ?_
  refine cg_cf rfl ?_
  refine cg_skip ?_
  refine Qi ?_
  refine Nx [2] ?_
  refine ZrA ?_
  refine Znr [2] ?_
  have u:=Un u n1.below
  exact Qa rfl rfl ⟨_,rfl,congrArg nv (show 0=lfCheck L by unfold lfCheck;(repeat' split)<;>omega),u⟩
 refine Za (yb (dF c6) (Qp (known_any L.src _))) ?_
 refine Za y_bnot ?_
 refine ZAnt [1,2,22] ?_
 refine ZrA ?_
 refine Znr [2] ?_
 refine Qg ?_
 refine Qc ?_
 have u:=Un u n1.below
 exact Qa rfl rfl ⟨_,rfl,congrArg nv (show 7=lfCheck L by unfold lfCheck;(repeat' split)<;>omega),u⟩
theorem same_any {W:World} {B:Nat} {l m:LfV} {L M:Lf} (hl:IsLf W B l L) (hm:IsLf W B m M) (hB:B≤W.heap.size):Calls Tryz.prog 98 #[.agg (l.cs L),.agg (m.cs M)] W fun e W'=>∃ v,e=.returned v∧v=.bool (decide (LfSame L M))∧Below W.heap.size W W':=by
 refine Qf (n:=31) Tryz.func98 rfl Tryz.ntmps98 (by simp) ?_
 show CG _ _ _ [(0,.agg (l.cs L)),(1,.agg (m.cs M))] _ _
 have u:=Below.refl W.heap.size W
 refine Zr ?_
 refine lg_boxw Wn rfl rfl (by kernel_rfl) rfl (by decide) fun b1 w1 n1=>?_
 have r1:=n1.row
 have k1:=n1.blk
 have z1:=n1.size
 have lt1:b1<w1.heap.size:=by omega
 refine lg_boxw Wn rfl rfl (by kernel_rfl) rfl (by decide) fun b2 w2 n2=>?_
 have r2:=n2.row
 have k2:=n2.blk
 have z2:=n2.size
 have lt2:b2<w2.heap.size:=by omega
 refine ZAn [2,3,4] ?_
 refine Zr ?_
 refine Za (y_fld (off:=0)) ?_
 have r1:=n2.keep r1
 refine Za (Qo (v:=l.enc.v) r1 rfl (by kernel_rfl) rfl rfl) ?_
 refine Za (y_fld (off:=0)) ?_
 refine Za (Qo (v:=m.enc.v) r2 rfl (by kernel_rfl) rfl rfl) ?_
 have hl:=(hl.below (n1.below.mono (by omega))).below (n2.below.mono (by omega))
 have hm:=(hm.below (n1.below.mono (by omega))).below (n2.below.mono (by omega))
 by_cases c3:L.enc=M.enc
 ·refine Za (yb (dT c3) (Qp (bytesEq_S hl.enc hm.enc))) ?_
  refine ZM ?_
  refine Zt 10 (y_fld (off:=1)) ?_
  refine Zt 10 (Qo (v:=l.cred.v) r1 rfl (by kernel_rfl) rfl rfl) ?_
  refine Zt 10 (y_fld (off:=1)) ?_
  refine Zt 10 (Qo (v:=m.cred.v) r2 rfl (by kernel_rfl) rfl rfl) ?_
  by_cases c4:L.cred=M.cred
  ·refine Zt 10 (yb (dT c4) (Qp (bytesEq_S hl.cred hm.cred))) ?_
   refine Za (y_pick true) ?_
   refine ZM ?_
   refine Zt 17 (y_fld (off:=2)) ?_
   refine Zt 17 (Qo (v:=nv L.src) r1 rfl (by kernel_rfl) rfl rfl) ?_
   refine Zt 17 (y_fld (off:=2)) ?_
   refine Zt 17 (Qo (v:=nv M.src) r2 rfl (by kernel_rfl) rfl rfl) ?_
   by_cases c5:L.src=M.src
   ·refine Zt 17 (yb (dT c5) yi_eql) ?_
    refine Za (y_pick true) ?_
    refine ZM ?_
    refine Zt 24 (y_fld (off:=3)) ?_
    refine Zt 24 (Qo (v:=l.par.v) r1 rfl (by kernel_rfl) rfl rfl) ?_
    refine Zt 24 (y_fld (off:=3)) ?_
    refine Zt 24 (Qo (v:=m.par.v) r2 rfl (by kernel_rfl) rfl rfl) ?_
    by_cases c6:L.par=M.par
    ·refine Zt 24 (yb (dT c6) (Qp (bytesEq_S hl.par hm.par))) ?_
     refine Za (y_pick true) ?_
     refine ZAnr [4] ?_
     have u:=Un (Un u n1.below) n2.below
     exact Qa rfl rfl ⟨_,rfl,congrArg Value.bool (show true=decide (LfSame L M) from (dT (by simp [LfSame, *])).symm),u⟩
    refine Zt 24 (yb (dF c6) (Qp (bytesEq_S hl.par hm.par))) ?_
    refine Za (y_pick true) ?_
    refine ZAnr [4] ?_
    have u:=Un (Un u n1.below) n2.below
    exact Qa rfl rfl ⟨_,rfl,congrArg Value.bool (show false=decide (LfSame L M) from (dF (by simp [LfSame, *])).symm),u⟩
   refine Zt 17 (yb (dF c5) yi_eql) ?_
   refine Za (y_pick true) ?_
   refine ZM ?_
   refine Zf 24 ?_
   refine Zf 24 ?_
   refine Zf 24 ?_
   refine Zf 24 ?_
   refine Zf 24 ?_
   refine Za (y_pick false) ?_
   refine ZAnr [4] ?_
   have u:=Un (Un u n1.below) n2.below
   exact Qa rfl rfl ⟨_,rfl,congrArg Value.bool (show false=decide (LfSame L M) from (dF (by simp [LfSame, *])).symm),u⟩
  refine Zt 10 (yb (dF c4) (Qp (bytesEq_S hl.cred hm.cred))) ?_
  refine Za (y_pick true) ?_
  refine ZM ?_
  refine Zf 17 ?_
  refine Zf 17 ?_
  refine Zf 17 ?_
  refine Zf 17 ?_
  refine Zf 17 ?_
  refine Za (y_pick false) ?_
  refine ZM ?_
  refine Zf 24 ?_
  refine Zf 24 ?_
  refine Zf 24 ?_
  refine Zf 24 ?_
  refine Zf 24 ?_
  refine Za (y_pick false) ?_
  refine ZAnr [4] ?_
  have u:=Un (Un u n1.below) n2.below
  exact Qa rfl rfl ⟨_,rfl,congrArg Value.bool (show false=decide (LfSame L M) from (dF (by simp [LfSame, *])).symm),u⟩
 refine Za (yb (dF c3) (Qp (bytesEq_S hl.enc hm.enc))) ?_
 refine ZM ?_
 refine Zf 10 ?_
 refine Zf 10 ?_
 refine Zf 10 ?_
 refine Zf 10 ?_
 refine Zf 10 ?_
 refine Za (y_pick false) ?_
 refine ZM ?_
 refine Zf 17 ?_
 refine Zf 17 ?_
 refine Zf 17 ?_
 refine Zf 17 ?_
 refine Zf 17 ?_
 refine Za (y_pick false) ?_
 refine ZM ?_
 refine Zf 24 ?_
 refine Zf 24 ?_
 refine Zf 24 ?_
 refine Zf 24 ?_
 refine Zf 24 ?_
 refine Za (y_pick false) ?_
 refine ZAnr [4] ?_
 have u:=Un (Un u n1.below) n2.below
 exact Qa rfl rfl ⟨_,rfl,congrArg Value.bool (show false=decide (LfSame L M) from (dF (by simp [LfSame, *])).symm),u⟩
/- LfGet:
  leaf.Get, and its closures.
-/
/- LfPut:
  leaf.Put.
-/
theorem putL_any {W:World} {B:Nat} {s:SlV} {xs:List Int} {l:LfV} {L:Lf} (h:Sl W B s xs) (hl:IsLf W B l L) (hB:B≤W.heap.size) (hx:xs.length≤1000000):Calls Tryz.prog 259 #[s.v,.agg (l.cs L)] W fun e W'=>∃ v,e=.returned v∧PutS W (xs++lfPut L) v W':=by
 refine Qf (n:=32) Tryz.func259 rfl Tryz.ntmps259 (by simp) ?_
 show CG _ _ _ [(0,s.v),(1,.agg (l.cs L))] _ _
 have u:=Below.refl W.heap.size W
 refine Zr ?_
 refine lg_boxw Wn rfl rfl (by kernel_rfl) rfl (by decide) fun b1 w1 n1=>?_
 have r1:=n1.row
 have k1:=n1.blk
 have z1:=n1.size
 have lt1:b1<w1.heap.size:=by omega
 refine ZAn [0,3,4] ?_
 refine Qd ?_
 refine Zr ?_
 refine Za (y_loadA r1) ?_
 have hl:=hl.below (n1.below.mono (by omega))
 refine Zc (check_any (hl.more (B':=w1.heap.size) (by omega)) (Nat.le_refl _)) rfl rfl ?_
 rintro _ w2 ⟨rfl,hw2⟩
 have zw2:=hw2.size
 by_cases c3:(lfCheck L)=0
 ·have ok:=lfCheck_ok c3
  refine Zan (yb (nd_f c3) yi_neq) [0,3,4,8] ?_
  refine Zcf [0,3,4] ?_
  refine Zr ?_
  refine Za (y_fld (off:=0)) ?_
  have r1:=RowAt.below hw2 r1.lt r1
  refine Za (Qo (v:=l.enc.v) r1 rfl (by kernel_rfl) rfl rfl) ?_
  have hl:=hl.below (hw2.mono (by omega))
  refine Zc (putBytes_S (Sl.nil _ _) hl.enc (by omega) (by omega) (by first | omega | (simp only [List.length_nil];omega))) rfl rfl ?_
  rintro _ w4 ⟨r4,rfl,m4,hw4⟩
  have zw4:=hw4.size
  have lb4:=bytesOct_le L.enc
  refine ZAn [0,3,4,5] ?_
  refine ZrM ?_
  refine Za (y_fld (off:=1)) ?_
  have r1:=RowAt.below hw4 r1.lt r1
  refine Za (Qo (v:=l.cred.v) r1 rfl (by kernel_rfl) rfl rfl) ?_
  have hl:=hl.below (hw4.mono (by omega))
  refine Zc (putBytes_S m4 hl.cred (by omega) (by omega) (by first | omega | (simp only [List.length_append,List.length_nil];omega))) rfl rfl ?_
  rintro _ w5 ⟨r5,rfl,m5,hw5⟩
  have zw5:=hw5.size
  have lb5:=bytesOct_le L.cred
  refine ZAn [0,3,4,5] ?_
  refine ZrM ?_
  refine Za (y_fld (off:=2)) ?_
  have r1:=RowAt.below hw5 r1.lt r1
  refine Za (Qo (v:=nv L.src) r1 rfl (by kernel_rfl) rfl rfl) ?_
  refine Zc (putNum_S L.src 1 m5 (by omega) (by first | omega | (simp only [List.length_append,List.length_nil];omega))) rfl rfl ?_
  rintro _ w6 ⟨r6,rfl,m6,hw6⟩
  have zw6:=hw6.size
  have wk6:=widthK_le 1
  refine ZAn [0,3,4,5] ?_
  refine Qd ?_
  refine Zr ?_
  refine Za (y_fld (off:=2)) ?_
  have r1:=RowAt.below hw6 r1.lt r1
  refine Za (Qo (v:=nv L.src) r1 rfl (by kernel_rfl) rfl rfl) ?_
  by_cases c7:L.src=3
  ·refine Zan (yb (dT c7) yi_eql) [0,3,4,5,23] ?_
   refine cg_ct rfl ?_
   refine Qe ?_
   refine ZM ?_
   refine Za (y_fld (off:=3)) ?_
   refine Za (Qo (v:=l.par.v) r1 rfl (by kernel_rfl) rfl rfl) ?_
   have hl:=(hl.below (hw5.mono (by omega))).below (hw6.mono (by omega))
   refine Zc (putBytes_S m6 hl.par (by omega) (by omega) (by first | omega | (simp only [List.length_append,List.length_nil,numOct_length];omega))) rfl rfl ?_
   rintro _ w8 ⟨r8,rfl,m8,hw8⟩
   have zw8:=hw8.size
   have lb8:=bytesOct_le L.par
   refine ZAn [0,4,5] ?_
   refine ZrM ?_
   refine ZM ?_
   refine lg_bslice (el:=23) (z:=.slice none 0 0) (cs:=#[s.v,r8.v]) (by kernel_rfl) (by kernel_rfl) (by decide) (by decide) rfl rfl (by kernel_rfl) rfl rfl (by decide) fun b9 w9 n9=>?_
   have r9:=n9.row
   have k9:=n9.blk
   have z9:=n9.size
   have lt9:b9<w9.heap.size:=by omega
   have h:=(h.below (n1.below.mono (by omega))).below (hw2.mono (by omega))
   have h:=(h.below (hw4.mono (by omega))).below (hw5.mono (by omega))
   have h:=((h.below (hw6.mono (by omega))).below (hw8.mono (by omega))).below (n9.below.mono (by omega))
   have m8:=m8.below (n9.below.mono (by omega))
   refine Zc (concat2_S r9 h m8 (by omega) (by omega) (by first | omega | (simp only [List.length_append,List.length_nil,numOct_length];omega))) rfl rfl ?_
   rintro _ w10 ⟨r10,rfl,m10,hw10⟩
   have zw10:=hw10.size
   refine ZAnr [4] ?_
   have u:=Un (Un u n1.below) hw2
   have u:=Un (Un u hw4) hw5
   have u:=Un (Un u hw6) hw8
   have u:=Un (Un u n9.below) hw10
   exact Qa rfl rfl ⟨_,rfl,r10,rfl,m10.cast (by simp [lfPut,lfOct, *]),u⟩
  refine Zan (yb (dF c7) yi_eql) [0,3,4,5,23] ?_
  refine Zcf [0,4,5] ?_
  refine ZrM ?_
  refine ZM ?_
  refine lg_bslice (el:=23) (z:=.slice none 0 0) (cs:=#[s.v,r6.v]) (by kernel_rfl) (by kernel_rfl) (by decide) (by decide) rfl rfl (by kernel_rfl) rfl rfl (by decide) fun b11 w11 n11=>?_
  have r11:=n11.row
  have k11:=n11.blk
  have z11:=n11.size
  have lt11:b11<w11.heap.size:=by omega
  have h:=(h.below (n1.below.mono (by omega))).below (hw2.mono (by omega))
  have h:=(h.below (hw4.mono (by omega))).below (hw5.mono (by omega))
  have h:=(h.below (hw6.mono (by omega))).below (n11.below.mono (by omega))
  have m6:=m6.below (n11.below.mono (by omega))
  refine Zc (concat2_S r11 h m6 (by omega) (by omega) (by first | omega | (simp only [List.length_append,List.length_nil,numOct_length];omega))) rfl rfl ?_
  rintro _ w12 ⟨r12,rfl,m12,hw12⟩
  have zw12:=hw12.size
  refine ZAnr [4] ?_
  have u:=Un (Un u n1.below) hw2
  have u:=Un (Un u hw4) hw5
  have u:=Un (Un (Un u hw6) n11.below) hw12
  exact Qa rfl rfl ⟨_,rfl,r12,rfl,m12.cast (by simp [lfPut,lfOct, *]),u⟩
 refine Zan (yb (nd_t c3) yi_neq) [0,3,4,8] ?_
 refine cg_ct rfl ?_
 refine ZrM ?_
 refine ZAnr [0,3,4] ?_
 refine Qc ?_
 have h:=(h.below (n1.below.mono (by omega))).below (hw2.mono (by omega))
 have u:=Un (Un u n1.below) hw2
 exact Qa rfl rfl ⟨_,rfl,s,rfl,(h.more (by omega)).cast (by rw [lfPut,if_neg c3,List.append_nil]),u⟩
/- PnNum:
  The program's and the document's small questions of lists of whole numbers.
-/
section
variable {w W:World} {B B2:Nat} {s s2:SlV} {xs ys:List Int}
theorem has_any (h:SlN w B s xs) (n:Int):Calls Tryz.prog 60 #[s.v,nv n] w fun e w'=>e=.returned (.bool (decide (n∈xs)))∧w'=w:=by
 refine Qf (n:=18) Tryz.func60 rfl Tryz.ntmps60 (by simp) ?_
 show CG _ _ _ [(0,s.v),(1,nv n)] _ _
 refine ZrA ?_
 refine Zn [0,1,4] ?_
 refine Qd ?_
 refine ZrA ?_
 refine Zn [0,1,4,5] ?_
 refine Qj ?_
 refine Qr (fun t a v=>Holds 18 [(0,s.v),(1,nv n),(5,nv ((t:Nat):Int))] a∧v=w∧t≤xs.length∧(∀ j,j<t→¬(xs.getD j 0)=n)) xs.length (fun a ha=>⟨ha.keep (fk rfl (fk rfl (fk rfl fn))),rfl,(Nat.zero_le _),(fun j hj=>absurd hj (Nat.not_lt_zero _))⟩) ?_
 rintro t a v ht ⟨ha,rfl,tle,hno⟩
 refine cg_at ha ?_
 clear ha a
 have le_h:=h.len;have ca_h:=h.cap
 refine Qd ?_
 refine ZrM ?_
 refine ZM ?_
 refine Za (y_lenM (el:=3) h.len) ?_
 by_cases c1:((t:Nat):Int)<(xs.length:Int)
 ·refine Zan (yb (dT c1) yi_lss) [0,1,5,6,7,8,9] ?_
  refine cg_ct rfl ?_
  refine Zki [0,1,5,6,7,8,9] ?_
  refine Qd ?_
  refine Qj ?_
  refine ZrM ?_
  refine ZM ?_
  refine Za (y_ixT (i:=t) (iI:=((t:Nat):Int)) h (by omega) (by omega) rfl rfl rfl) ?_
  refine Za (y_ldT (i:=t) h (by omega) rfl rfl) ?_
  refine ZM ?_
  by_cases c2:(xs.getD t 0)=n
  ·refine Zan (yb (dT c2) yi_eql) [0,1,5,6,7,8,9,12,13,14,15,16,17] ?_
   refine cg_ct rfl ?_
   refine ZrA ?_
   refine Znr [0,1,5,6,7,8,9,12,13,14,15,16,17,4] ?_
   refine Qg ?_
   refine Qc ?_
   refine Qc ?_
   refine Qg ?_
   refine Qc ?_
   exact Qa rfl rfl ⟨congrArg (fun b=>Ending.returned (.bool b)) (dT (by rw [←c2];exact getD_mem (by omega))).symm,rfl⟩
  refine Zan (yb (dF c2) yi_eql) [0,1,5,6,7,8,9,12,13,14,15,16,17] ?_
  refine cg_cf rfl ?_
  refine cg_skip ?_
  refine Qi ?_
  refine Nx [0,1,5,6,7,8,9,12,13,14,15,16,17] ?_
  refine Qe ?_
  refine ZM ?_
  refine Za (yv (congrArg nv (show ((t:Nat):Int)+1=((t+1:Nat):Int) by omega)) (yi_add rfl rfl rfl (by omega) (by omega))) ?_
  refine ZA ?_
  refine Qk ?_
  exact fun a ha=>(show t<xs.length∧_ from ⟨(by omega),ha.keep (fk rfl (fk rfl (fk rfl fn))),rfl,(by omega),(fun j hj=>if q:j<t then hno j q else by
    obtain rfl:j=t:=by omega
    exact c2)⟩)
 refine Zan (yb (dF c1) yi_lss) [0,1,5,6,7,8,9] ?_
 refine cg_cf rfl ?_
 refine cg_exit ?_
 refine Qh ?_
 refine Qh ?_
 refine Ql ?_
 refine nx (E':=[]) fn ?_
 refine ZrA ?_
 refine Znr [4] ?_
 exact Qa rfl rfl ⟨congrArg (fun b=>Ending.returned (.bool b)) (dF (fun q=>by obtain ⟨i,hi,e⟩:=mem_getD q;exact hno i (by omega) e)).symm,rfl⟩
theorem outside_any (n:Int) (w:World):Calls Tryz.prog 138 #[nv n] w fun e w'=>e=.returned (.bool (decide (n<0∨64≤n)))∧w'=w:=by
 refine Qf (n:=9) Tryz.func138 rfl Tryz.ntmps138 (by simp) ?_
 show CG _ _ _ [(0,nv n)] _ _
 refine ZrA ?_
 refine Zn [0,2] ?_
 refine ZrM ?_
 by_cases c1:n<0
 ·refine Za (yb (dT c1) yi_lss) ?_
  refine ZM ?_
  refine Zf 5 ?_
  refine Zf 5 ?_
  refine Za (y_pick true) ?_
  refine ZAnr [2] ?_
  exact Qa rfl rfl ⟨congrArg (fun b=>Ending.returned (.bool b)) (dT (by omega)).symm,rfl⟩
 refine Za (yb (dF c1) yi_lss) ?_
 refine ZM ?_
 refine Zt 5 y_move ?_
 by_cases c2:64≤n
 ·refine Zt 5 (yb (dT c2) yi_geq) ?_
  refine Za (y_pick false) ?_
  refine ZAnr [2] ?_
  exact Qa rfl rfl ⟨congrArg (fun b=>Ending.returned (.bool b)) (dT (by omega)).symm,rfl⟩
 refine Zt 5 (yb (dF c2) yi_geq) ?_
 refine Za (y_pick false) ?_
 refine ZAnr [2] ?_
 exact Qa rfl rfl ⟨congrArg (fun b=>Ending.returned (.bool b)) (dF (by omega)).symm,rfl⟩
/-- Where the first number stands that no leaf has. -/
def outI (xs:List Int):Int:=if ∃ x∈xs,x<0∨64≤x then ((xs.takeWhile fun x=>!decide (x<0∨64≤x)).length:Int) else -1
theorem outI_at:∀ {xs:List Int} {t:Nat},(∀ j,j<t→¬(xs.getD j 0<0∨64≤xs.getD j 0))→t<xs.length→(xs.getD t 0<0∨64≤xs.getD t 0)→outI xs=(t:Int):=by
 intro xs t hno ht hx
 have he:∃ x∈xs,x<0∨64≤x:=⟨_,getD_mem ht,hx⟩
 rw [outI,if_pos he]
 refine congrArg Int.ofNat ?_
 clear he
 induction xs generalizing t with
 | nil=>exact absurd ht (Nat.not_lt_zero _)
 | cons y r ih =>
  cases t with
  | zero =>
   have hx':y<0∨64≤y:=hx
   rw [List.takeWhile_cons,decide_eq_true hx']
   rfl
  | succ t =>
   have h0:¬(y<0∨64≤y):=hno 0 (by omega)
   rw [List.takeWhile_cons,decide_eq_false h0]
   show (y::_).length=_
   rw [List.length_cons,ih (fun j hj=>hno (j+1) (by omega)) (by simpa using ht) hx]
theorem outI_no {xs:List Int} (h:∀ j,j<xs.length→¬(xs.getD j 0<0∨64≤xs.getD j 0)):outI xs=-1:=by
 rw [outI,if_neg]
 rintro ⟨x,hx,h1⟩
 obtain ⟨i,hi,rfl⟩:=mem_getD hx
 exact h i hi h1
theorem outI_iff (xs:List Int):0≤outI xs↔∃ x∈xs,x<0∨64≤x:=by
 unfold outI
 split
 ·rename_i h
  exact ⟨fun _=>h,fun _=>by omega⟩
 rename_i h
 exact ⟨fun q=>absurd q (by decide),fun q=>absurd q h⟩
theorem indexOut_any (h:SlN w B s xs):Calls Tryz.prog 170 #[s.v,.func (.func 138) #[] #[]] w fun e w'=>e=.returned (nv (outI xs))∧w'=w:=by
 refine Qf (n:=19) Tryz.func170 rfl Tryz.ntmps170 (by simp) ?_
 show CG _ _ _ [(0,s.v),(1,.func (.func 138) #[] #[])] _ _
 refine ZrA ?_
 refine Zn [0,1,4] ?_
 refine Qd ?_
 refine ZrM ?_
 refine Za (y_lenM (el:=3) h.len) ?_
 refine ZM ?_
 refine Zn [0,1,4,7,8] ?_
 refine Qj ?_
 refine Qr (fun t a v=>Holds 19 [(0,s.v),(1,.func (.func 138) #[] #[]),(7,nv (xs.length:Int)),(8,nv ((t:Nat):Int))] a∧v=w∧t≤xs.length∧(∀ j,j<t→¬((xs.getD j 0)<0∨64≤(xs.getD j 0)))) xs.length (fun a ha=>⟨ha.keep (fk rfl (fk rfl (fk rfl (fk rfl fn)))),rfl,(Nat.zero_le _),(fun j hj=>absurd hj (Nat.not_lt_zero _))⟩) ?_
 rintro t a v ht ⟨ha,rfl,tle,hno⟩
 refine cg_at ha ?_
 clear ha a
 have le_h:=h.len;have ca_h:=h.cap
 refine Zr ?_
 by_cases c1:((t:Nat):Int)<(xs.length:Int)
 ·refine Zan (yb (dT c1) yi_lss) [0,1,7,8,9] ?_
  refine Qd ?_
  refine cg_ct rfl ?_
  refine Zki [0,1,7,8,9] ?_
  refine Qd ?_
  refine Qj ?_
  refine ZrM ?_
  refine ZAn [0,1,7,8,9,10,5] ?_
  refine ZrM ?_
  refine ZM ?_
  refine ZM ?_
  refine Za (y_ixT (i:=t) (iI:=((t:Nat):Int)) h (by omega) (by omega) rfl rfl rfl) ?_
  refine Za (y_ldT (i:=t) h (by omega) rfl rfl) ?_
  by_cases c2:(xs.getD t 0)<0∨64≤(xs.getD t 0)
  ·refine Zan (yb (dT c2) (y_callf (outside_any (xs.getD t 0) _))) [0,1,7,8,9,10,5,11,12,13,14,15,16] ?_
   refine cg_ct rfl ?_
   refine ZrM ?_
   refine ZAnr [0,1,7,8,9,10,5,11,12,13,14,15,16,17,4] ?_
   refine Qg ?_
   refine Qc ?_
   refine Qc ?_
   refine Qg ?_
   refine Qc ?_
   exact Qa rfl rfl ⟨congrArg (fun b=>Ending.returned (nv b)) (outI_at hno (by omega) c2).symm,rfl⟩
  refine Zan (yb (dF c2) (y_callf (outside_any (xs.getD t 0) _))) [0,1,7,8,9,10,5,11,12,13,14,15,16] ?_
  refine cg_cf rfl ?_
  refine cg_skip ?_
  refine Qi ?_
  refine Nx [0,1,7,8,9,10,5,11,12,13,14,15,16] ?_
  refine Qe ?_
  refine Za (yv (congrArg nv (show ((t:Nat):Int)+1=((t+1:Nat):Int) by omega)) (yi_add rfl rfl rfl (by omega) (by omega))) ?_
  refine ZM ?_
  refine Qk ?_
  exact fun a ha=>(show t<xs.length∧_ from ⟨(by omega),ha.keep (fk rfl (fk rfl (fk rfl (fk rfl fn)))),rfl,(by omega),(fun j hj=>if q:j<t then hno j q else by
    obtain rfl:j=t:=by omega
    exact c2)⟩)
 refine Zan (yb (dF c1) yi_lss) [0,1,7,8,9] ?_
 refine Qd ?_
 refine cg_cf rfl ?_
 refine cg_exit ?_
 refine Qh ?_
 refine Qh ?_
 refine Ql ?_
 refine nx (E':=[]) fn ?_
 refine ZrA ?_
 refine Znr [4] ?_
 exact Qa rfl rfl ⟨congrArg (fun b=>Ending.returned (nv b)) (outI_no fun j hj=>hno j (by omega)).symm,rfl⟩
theorem containsOut_any (h:SlN w B s xs):Calls Tryz.prog 137 #[s.v,.func (.func 138) #[] #[]] w fun e w'=>e=.returned (.bool (decide (∃ x∈xs,x<0∨64≤x)))∧w'=w:=by
 refine Qf (n:=9) Tryz.func137 rfl Tryz.ntmps137 (by simp) ?_
 show CG _ _ _ [(0,s.v),(1,.func (.func 138) #[] #[])] _ _
 refine ZrA ?_
 refine Zn [0,1,4] ?_
 refine ZrM ?_
 refine ZM ?_
 refine Za (Qp (indexOut_any h)) ?_
 by_cases c1:0≤(outI xs)
 ·refine Za (yb (dT c1) yi_geq) ?_
  refine ZAnr [4] ?_
  exact Qa rfl rfl ⟨congrArg (fun b=>Ending.returned (.bool b)) (dT ((outI_iff xs).1 c1)).symm,rfl⟩
 refine Za (yb (dF c1) yi_geq) ?_
 refine ZAnr [4] ?_
 exact Qa rfl rfl ⟨congrArg (fun b=>Ending.returned (.bool b)) (dF (fun q=>c1 ((outI_iff xs).2 q))).symm,rfl⟩
theorem largeP_any (h:Sl w B s xs):Calls Tryz.prog 136 #[s.v] w fun e w'=>e=.returned (.bool (decide (200<(xs.length:Int))))∧w'=w:=by
 refine Qf (n:=6) Tryz.func136 rfl Tryz.ntmps136 (by simp) ?_
 show CG _ _ _ [(0,s.v)] _ _
 refine ZrA ?_
 refine Zn [0,2] ?_
 refine ZrM ?_
 refine Za (y_lenS (el:=5) h) ?_
 refine Za yi_gtr ?_
 refine ZAnr [2] ?_
 exact Qa rfl rfl ⟨rfl,rfl⟩
theorem ints_S (h:SlN W B s xs) (h2:SlN W B2 s2 ys) (hB:B≤W.heap.size) (hB2:B2≤W.heap.size):Calls Tryz.prog 122 #[s.v,s2.v] W fun e w'=>∃ v,e=.returned v∧v=.bool (decide (xs=ys))∧Below W.heap.size W w':=by
 refine Qf (n:=26) Tryz.func122 rfl Tryz.ntmps122 (by simp) ?_
 show CG _ _ _ [(0,s.v),(1,s2.v)] _ _
 have u:=Below.refl W.heap.size W
 have le_h:=h.len;have ca_h:=h.cap
 have le_h2:=h2.len;have ca_h2:=h2.cap
 refine ZrA ?_
 refine Zn [0,1,4] ?_
 refine Qd ?_
 refine ZrM ?_
 refine Za (y_lenM (el:=3) h.len) ?_
 refine ZM ?_
 refine Za (y_lenM (el:=3) h2.len) ?_
 by_cases c1:(xs.length:Int)=(ys.length:Int)
 ·refine Zan (yb (nd_f c1) yi_neq) [0,1,4,10] ?_
  refine Zcf [0,1,4] ?_
  refine Qd ?_
  refine ZrA ?_
  refine Zn [0,1,4,5] ?_
  refine Qj ?_
  refine Qr (fun t a v=>Holds 26 [(0,s.v),(1,s2.v),(5,nv ((t:Nat):Int))] a∧SlN v B s xs∧SlN v B2 s2 ys∧Below W.heap.size W v∧t≤xs.length∧(∀ i,i<t→xs.getD i 0=ys.getD i 0)) xs.length (fun a ha=>⟨ha.keep (fk rfl (fk rfl (fk rfl fn))),h,h2,u,(Nat.zero_le _),(fun i hi=>absurd hi (Nat.not_lt_zero _))⟩) ?_
  rintro t a v ht ⟨ha,h,h2,u,tle,he⟩
  refine cg_at ha ?_
  clear ha a
  have zv:=u.size
  refine Qd ?_
  refine ZrM ?_
  refine ZM ?_
  refine Za (y_lenM (el:=3) h.len) ?_
  by_cases c2:((t:Nat):Int)<(xs.length:Int)
  ·refine Zan (yb (dT c2) yi_lss) [0,1,5,11,12,13,14] ?_
   refine cg_ct rfl ?_
   refine Zki [0,1,5,11,12,13,14] ?_
   refine Qd ?_
   refine Qj ?_
   refine Qd ?_
   refine cg_still (by kernel_rfl) (by kernel_rfl) fun W3 eW3=>?_
   have dW3:=below_drew _ _ eW3
   have zW3:=size_drew _ _ eW3
   clear eW3
   refine Zsa y_move ?_
   refine Zsa y_move ?_
   have h:=h.below (dW3.mono (by omega))
   refine Zsa (y_ixT (i:=t) (iI:=((t:Nat):Int)) h (by omega) (by omega) rfl rfl rfl) ?_
   refine Zsa (y_ldT (i:=t) h (by omega) rfl rfl) ?_
   refine Zsa y_move ?_
   refine Zsa y_move ?_
   have h2:=h2.below (dW3.mono (by omega))
   refine Zsa (y_ixT (i:=t) (iI:=((t:Nat):Int)) h2 (by omega) (by omega) rfl rfl rfl) ?_
   refine Zsa (y_ldT (i:=t) h2 (by omega) rfl rfl) ?_
   by_cases c4:(xs.getD t 0)=(ys.getD t 0)
   ·refine Zsa (yb (nd_f c4) yi_neq) ?_
    refine Zsn [0,1,5,11,12,13,14,17,18,19,20,21,22,23,24,25] ?_
    refine cg_cf rfl ?_
    refine cg_skip ?_
    refine Qi ?_
    refine Nx [0,1,5,11,12,13,14,17,18,19,20,21,22,23,24,25] ?_
    refine Qe ?_
    refine ZM ?_
    refine Za (yv (congrArg nv (show ((t:Nat):Int)+1=((t+1:Nat):Int) by omega)) (yi_add rfl rfl rfl (by omega) (by omega))) ?_
    refine ZA ?_
    refine Qk ?_
    have u:=Un u dW3
    exact fun a ha=>(show t<xs.length∧_ from ⟨(by omega),ha.keep (fk rfl (fk rfl (fk rfl fn))),h,h2,u,(by omega),(fun i hi=>if q:i<t then he i q else by
      obtain rfl:i=t:=by omega
      exact c4)⟩)
   refine Zsa (yb (nd_t c4) yi_neq) ?_
   refine Zsn [0,1,5,11,12,13,14,17,18,19,20,21,22,23,24,25] ?_
   refine cg_ct rfl ?_
   refine ZrA ?_
   refine Znr [0,1,5,11,12,13,14,17,18,19,20,21,22,23,24,25,4] ?_
   refine Qg ?_
   refine Qc ?_
   refine Qc ?_
   refine Qg ?_
   refine Qc ?_
   have u:=Un u dW3
   exact Qa rfl rfl ⟨_,rfl,congrArg Value.bool (dF (fun q=>c4 (by rw [q]))).symm,u⟩
  refine Zan (yb (dF c2) yi_lss) [0,1,5,11,12,13,14] ?_
  refine cg_cf rfl ?_
  refine cg_exit ?_
  refine Qh ?_
  refine Qh ?_
  refine Ql ?_
  refine nx (E':=[]) fn ?_
  refine ZrA ?_
  refine Znr [4] ?_
  exact Qa rfl rfl ⟨_,rfl,congrArg Value.bool (dT (list_eq_getD (by omega) fun i hi=>he i (by omega))).symm,u⟩
 refine Zan (yb (nd_t c1) yi_neq) [0,1,4,10] ?_
 refine cg_ct rfl ?_
 refine ZrA ?_
 refine Znr [0,1,4] ?_
 refine Qc ?_
 exact Qa rfl rfl ⟨_,rfl,congrArg Value.bool (dF (fun q=>by have:=congrArg List.length q;omega)).symm,u⟩
theorem equalN_S (h:SlN W B s xs) (h2:SlN W B2 s2 ys) (hB:B≤W.heap.size) (hB2:B2≤W.heap.size):Calls Tryz.prog 135 #[s.v,s2.v] W fun e w'=>∃ v,e=.returned v∧v=.bool (decide (xs=ys))∧Below W.heap.size W w':=by
 refine Qf (n:=26) Tryz.func135 rfl Tryz.ntmps135 (by simp) ?_
 show CG _ _ _ [(0,s.v),(1,s2.v)] _ _
 have u:=Below.refl W.heap.size W
 have le_h:=h.len;have ca_h:=h.cap
 have le_h2:=h2.len;have ca_h2:=h2.cap
 refine ZrA ?_
 refine Zn [0,1,4] ?_
 refine Qd ?_
 refine ZrM ?_
 refine Za (y_lenM (el:=3) h.len) ?_
 refine ZM ?_
 refine Za (y_lenM (el:=3) h2.len) ?_
 by_cases c1:(xs.length:Int)=(ys.length:Int)
 ·refine Zan (yb (nd_f c1) yi_neq) [0,1,4,10] ?_
  refine Zcf [0,1,4] ?_
  refine Qd ?_
  refine ZrM ?_
  refine Za (y_lenM (el:=3) h.len) ?_
  refine ZM ?_
  refine Zn [0,1,4,12,13] ?_
  refine Qj ?_
  refine Qr (fun t a v=>Holds 26 [(0,s.v),(1,s2.v),(12,nv (xs.length:Int)),(13,nv ((t:Nat):Int))] a∧SlN v B s xs∧SlN v B2 s2 ys∧Below W.heap.size W v∧t≤xs.length∧(∀ i,i<t→xs.getD i 0=ys.getD i 0)) xs.length (fun a ha=>⟨ha.keep (fk rfl (fk rfl (fk rfl (fk rfl fn)))),h,h2,u,(Nat.zero_le _),(fun i hi=>absurd hi (Nat.not_lt_zero _))⟩) ?_
  rintro t a v ht ⟨ha,h,h2,u,tle,he⟩
  refine cg_at ha ?_
  clear ha a
  have zv:=u.size
  refine Zr ?_
  by_cases c2:((t:Nat):Int)<(xs.length:Int)
  ·refine Zan (yb (dT c2) yi_lss) [0,1,12,13,14] ?_
   refine Qd ?_
   refine cg_ct rfl ?_
   refine Zki [0,1,12,13,14] ?_
   refine Qd ?_
   refine Qj ?_
   refine ZrM ?_
   refine ZAn [0,1,12,13,14,15,5] ?_
   refine Qd ?_
   refine cg_still (by kernel_rfl) (by kernel_rfl) fun W3 eW3=>?_
   have dW3:=below_drew _ _ eW3
   have zW3:=size_drew _ _ eW3
   clear eW3
   refine Zsa y_move ?_
   refine Zsa y_move ?_
   have h:=h.below (dW3.mono (by omega))
   refine Zsa (y_ixT (i:=t) (iI:=((t:Nat):Int)) h (by omega) (by omega) rfl rfl rfl) ?_
   refine Zsa (y_ldT (i:=t) h (by omega) rfl rfl) ?_
   refine Zsa y_move ?_
   refine Zsa y_move ?_
   have h2:=h2.below (dW3.mono (by omega))
   refine Zsa (y_ixT (i:=t) (iI:=((t:Nat):Int)) h2 (by omega) (by omega) rfl rfl rfl) ?_
   refine Zsa (y_ldT (i:=t) h2 (by omega) rfl rfl) ?_
   by_cases c4:(xs.getD t 0)=(ys.getD t 0)
   ·refine Zsa (yb (nd_f c4) yi_neq) ?_
    refine Zsn [0,1,12,13,14,15,5,16,17,18,19,20,21,22,23,24] ?_
    refine cg_cf rfl ?_
    refine cg_skip ?_
    refine Qi ?_
    refine Nx [0,1,12,13,14,15,5,16,17,18,19,20,21,22,23,24] ?_
    refine Qe ?_
    refine Za (yv (congrArg nv (show ((t:Nat):Int)+1=((t+1:Nat):Int) by omega)) (yi_add rfl rfl rfl (by omega) (by omega))) ?_
    refine ZM ?_
    refine Qk ?_
    have u:=Un u dW3
    exact fun a ha=>(show t<xs.length∧_ from ⟨(by omega),ha.keep (fk rfl (fk rfl (fk rfl (fk rfl fn)))),h,h2,u,(by omega),(fun i hi=>if q:i<t then he i q else by
      obtain rfl:i=t:=by omega
      exact c4)⟩)
   refine Zsa (yb (nd_t c4) yi_neq) ?_
   refine Zsn [0,1,12,13,14,15,5,16,17,18,19,20,21,22,23,24] ?_
   refine cg_ct rfl ?_
   refine ZrA ?_
   refine Znr [0,1,12,13,14,15,5,16,17,18,19,20,21,22,23,24,4] ?_
   refine Qg ?_
   refine Qc ?_
   refine Qc ?_
   refine Qg ?_
   refine Qc ?_
   have u:=Un u dW3
   exact Qa rfl rfl ⟨_,rfl,congrArg Value.bool (dF (fun q=>c4 (by rw [q]))).symm,u⟩
  refine Zan (yb (dF c2) yi_lss) [0,1,12,13,14] ?_
  refine Qd ?_
  refine cg_cf rfl ?_
  refine cg_exit ?_
  refine Qh ?_
  refine Qh ?_
  refine Ql ?_
  refine nx (E':=[]) fn ?_
  refine ZrA ?_
  refine Znr [4] ?_
  exact Qa rfl rfl ⟨_,rfl,congrArg Value.bool (dT (list_eq_getD (by omega) fun i hi=>he i (by omega))).symm,u⟩
 refine Zan (yb (nd_t c1) yi_neq) [0,1,4,10] ?_
 refine cg_ct rfl ?_
 refine ZrA ?_
 refine Znr [0,1,4] ?_
 refine Qc ?_
 exact Qa rfl rfl ⟨_,rfl,congrArg Value.bool (dF (fun q=>by have:=congrArg List.length q;omega)).symm,u⟩
theorem rises_any (h:SlN W B s xs) (hB:B≤W.heap.size):Calls Tryz.prog 139 #[s.v] W fun e w'=>∃ v,e=.returned v∧v=.bool (decide (Rising xs))∧Below W.heap.size W w':=by
 refine Qf (n:=20) Tryz.func139 rfl Tryz.ntmps139 (by simp) ?_
 show CG _ _ _ [(0,s.v)] _ _
 have u:=Below.refl W.heap.size W
 have le_h:=h.len;have ca_h:=h.cap
 refine ZrA ?_
 refine Zn [0,2] ?_
 refine Qd ?_
 refine ZrA ?_
 refine Zn [0,2,3] ?_
 refine Qj ?_
 refine Qr (fun t a v=>Holds 20 [(0,s.v),(3,nv (((t+1):Nat):Int))] a∧SlN v B s xs∧Below W.heap.size W v∧(∀ i,i<t→xs.getD i 0<xs.getD (i+1) 0)∧(t=0∨t<xs.length)) xs.length (fun a ha=>⟨ha.keep (fk rfl (fk rfl fn)),h,u,(fun i hi=>absurd hi (Nat.not_lt_zero _)),(.inl rfl)⟩) ?_
 rintro t a v ht ⟨ha,h,u,he,tle⟩
 refine cg_at ha ?_
 clear ha a
 have zv:=u.size
 refine Qd ?_
 refine ZrM ?_
 refine ZM ?_
 refine Za (y_lenM (el:=3) h.len) ?_
 by_cases c1:(((t+1):Nat):Int)<(xs.length:Int)
 ·refine Zan (yb (dT c1) yi_lss) [0,3,4,5,6,7] ?_
  refine cg_ct rfl ?_
  refine Zki [0,3,4,5,6,7] ?_
  refine Qd ?_
  refine Qj ?_
  refine Qd ?_
  refine cg_still (by kernel_rfl) (by kernel_rfl) fun W2 eW2=>?_
  have dW2:=below_drew _ _ eW2
  have zW2:=size_drew _ _ eW2
  clear eW2
  refine Zsa y_move ?_
  refine Zsa y_move ?_
  have h:=h.below (dW2.mono (by omega))
  refine Zsa (y_ixT (i:=(t+1)) (iI:=(((t+1):Nat):Int)) h (by omega) (by omega) rfl rfl rfl) ?_
  refine Zsa (y_ldT (i:=(t+1)) h (by omega) rfl rfl) ?_
  refine Zsa y_move ?_
  refine Zsa y_move ?_
  refine Zsa (yv (congrArg nv (show ((t+1:Nat):Int)-1=((t:Nat):Int) by omega)) (yi_sub rfl rfl rfl (by omega) (by omega))) ?_
  refine Zsa (y_ixT (i:=t) (iI:=((t:Nat):Int)) h (by omega) (by omega) rfl rfl rfl) ?_
  refine Zsa (y_ldT (i:=t) h (by omega) rfl rfl) ?_
  by_cases c3:(xs.getD (t+1) 0)≤(xs.getD t 0)
  ·refine Zsa (yb (dT c3) yi_leq) ?_
   refine Zsn [0,3,4,5,6,7,10,11,12,13,14,15,16,17,18,19] ?_
   refine cg_ct rfl ?_
   refine ZrA ?_
   refine Znr [0,3,4,5,6,7,10,11,12,13,14,15,16,17,18,19,2] ?_
   refine Qg ?_
   refine Qc ?_
   refine Qc ?_
   refine Qg ?_
   refine Qc ?_
   have u:=Un u dW2
   exact Qa rfl rfl ⟨_,rfl,congrArg Value.bool (dF (not_rising (by omega) c3)).symm,u⟩
  refine Zsa (yb (dF c3) yi_leq) ?_
  refine Zsn [0,3,4,5,6,7,10,11,12,13,14,15,16,17,18,19] ?_
  refine cg_cf rfl ?_
  refine cg_skip ?_
  refine Qi ?_
  refine Nx [0,3,4,5,6,7,10,11,12,13,14,15,16,17,18,19] ?_
  refine Qe ?_
  refine ZM ?_
  refine Za (yv (congrArg nv (show ((t+1:Nat):Int)+1=((t+1+1:Nat):Int) by omega)) (yi_add rfl rfl rfl (by omega) (by omega))) ?_
  refine ZA ?_
  refine Qk ?_
  have u:=Un u dW2
  exact fun a ha=>(show t<xs.length∧_ from ⟨(by omega),ha.keep (fk rfl (fk rfl fn)),h,u,(fun i hi=>if q:i<t then he i q else by
    obtain rfl:i=t:=by omega
    exact Int.not_le.1 c3),(by omega)⟩)
 refine Zan (yb (dF c1) yi_lss) [0,3,4,5,6,7] ?_
 refine cg_cf rfl ?_
 refine cg_exit ?_
 refine Qh ?_
 refine Qh ?_
 refine Ql ?_
 refine nx (E':=[]) fn ?_
 refine ZrA ?_
 refine Znr [2] ?_
 exact Qa rfl rfl ⟨_,rfl,congrArg Value.bool (dT (rising_of fun i hi=>he i (by omega))).symm,u⟩
end
/- PnProg:
  parent.Check, Same, Put and Get.
-/
section
set_option maxHeartbeats 1000000
theorem checkP_any {W:World} {B:Nat} {l:PnV} {L:Pn} (hl:IsPn W B l L) (hB:B≤W.heap.size):Calls Tryz.prog 100 #[.agg (l.cs L)] W fun e W'=>∃ v,e=.returned v∧v=nv (pnCheck L)∧Below W.heap.size W W':=by
 refine Qf (n:=32) Tryz.func100 rfl Tryz.ntmps100 (by simp) ?_
 show CG _ _ _ [(0,.agg (l.cs L))] _ _
 have u:=Below.refl W.heap.size W
 refine Zr ?_
 refine lg_boxw Wn rfl rfl (by kernel_rfl) rfl (by decide) fun b1 w1 n1=>?_
 have r1:=n1.row
 have k1:=n1.blk
 have z1:=n1.size
 have lt1:b1<w1.heap.size:=by omega
 refine ZAn [1,2] ?_
 refine Qd ?_
 refine Qj ?_
 refine Zr ?_
 refine Za (y_fld (off:=0)) ?_
 refine Za (Qo (v:=l.enc.v) r1 rfl (by kernel_rfl) rfl rfl) ?_
 have hl:=hl.below (n1.below.mono (by omega))
 refine Za (y_lenS (el:=5) hl.enc) ?_
 by_cases c2:(L.enc.length:Int)=0
 ·refine Za (yb (dT c2) yi_eql) ?_
  refine ZAnt [1,2,3] ?_
  refine ZrA ?_
  refine Znr [2] ?_
  refine Qg ?_
  refine Qc ?_
  have u:=Un u n1.below
  exact Qa rfl rfl ⟨_,rfl,congrArg nv (show pnCheck L=5 from (if_pos c2)).symm,u⟩
 refine Za (yb (dF c2) yi_eql) ?_
 refine ZAn [1,2,3] ?_
 refine cg_cf rfl ?_
 refine Zr ?_
 refine Za (y_fld (off:=0)) ?_
 refine Za (Qo (v:=l.enc.v) r1 rfl (by kernel_rfl) rfl rfl) ?_
 by_cases c3:200<(L.enc.length:Int)
 ·refine Za (yb (dT c3) (Qp (largeP_any hl.enc))) ?_
  refine ZM ?_
  refine Zf 12 ?_
  refine Zf 12 ?_
  refine Zf 12 ?_
  refine Za (y_pick true) ?_
  refine ZM ?_
  refine Zf 17 ?_
  refine Zf 17 ?_
  refine Zf 17 ?_
  refine Zf 17 ?_
  refine Za (y_pick true) ?_
  refine ZAnt [1,2,8] ?_
  refine ZrA ?_
  refine Znr [2] ?_
  refine Qg ?_
  refine Qc ?_
  have u:=Un u n1.below
  exact Qa rfl rfl ⟨_,rfl,congrArg nv (show pnCheck L=4 from ((if_neg c2).trans (if_pos (by omega)))).symm,u⟩
 refine Za (yb (dF c3) (Qp (largeP_any hl.enc))) ?_
 refine ZM ?_
 refine Zt 12 (y_fld (off:=1)) ?_
 refine Zt 12 (Qo (v:=l.hash.v) r1 rfl (by kernel_rfl) rfl rfl) ?_
 by_cases c4:200<(L.hash.length:Int)
 ·refine Zt 12 (yb (dT c4) (Qp (largeP_any hl.hash))) ?_
  refine Za (y_pick false) ?_
  refine ZM ?_
  refine Zf 17 ?_
  refine Zf 17 ?_
  refine Zf 17 ?_
  refine Zf 17 ?_
  refine Za (y_pick true) ?_
  refine ZAnt [1,2,8] ?_
  refine ZrA ?_
  refine Znr [2] ?_
  refine Qg ?_
  refine Qc ?_
  have u:=Un u n1.below
  exact Qa rfl rfl ⟨_,rfl,congrArg nv (show pnCheck L=4 from ((if_neg c2).trans (if_pos (by omega)))).symm,u⟩
 refine Zt 12 (yb (dF c4) (Qp (largeP_any hl.hash))) ?_
 refine Za (y_pick false) ?_
 refine ZM ?_
 refine Zt 17 (y_fld (off:=2)) ?_
 refine Zt 17 (Qo (v:=l.unm.v) r1 rfl (by kernel_rfl) rfl rfl) ?_
 refine Zt 17 (y_lenM (el:=3) hl.unm.len) ?_
 by_cases c5:64<(L.unm.length:Int)
 ·refine Zt 17 (yb (dT c5) yi_gtr) ?_
  refine Za (y_pick false) ?_
  refine ZAnt [1,2,8] ?_
  refine ZrA ?_
  refine Znr [2] ?_
  refine Qg ?_
  refine Qc ?_
  have u:=Un u n1.below
  exact Qa rfl rfl ⟨_,rfl,congrArg nv (show pnCheck L=4 from ((if_neg c2).trans (if_pos (by omega)))).symm,u⟩
 refine Zt 17 (yb (dF c5) yi_gtr) ?_
 refine Za (y_pick false) ?_
 refine ZAn [1,2,8] ?_
 refine cg_cf rfl ?_
 refine Zr ?_
 refine Za (y_fld (off:=2)) ?_
 refine Za (Qo (v:=l.unm.v) r1 rfl (by kernel_rfl) rfl rfl) ?_
 by_cases c6:∃ x∈L.unm,x<0∨64≤x
 ·refine Za (yb (dT c6) (Qp (containsOut_any hl.unm))) ?_
  refine ZAnt [1,2,23] ?_
  refine ZrA ?_
  refine Znr [2] ?_
  refine Qg ?_
  refine Qc ?_
  have u:=Un u n1.below
  exact Qa rfl rfl ⟨_,rfl,congrArg nv (show pnCheck L=3 from (((if_neg c2).trans (if_neg (by omega))).trans (if_pos c6))).symm,u⟩
 refine Za (yb (dF c6) (Qp (containsOut_any hl.unm))) ?_
 refine ZAn [1,2,23] ?_
 refine cg_cf rfl ?_
 refine Zr ?_
 refine Za (y_fld (off:=2)) ?_
 refine Za (Qo (v:=l.unm.v) r1 rfl (by kernel_rfl) rfl rfl) ?_
 by_cases c7:Rising L.unm
 ·refine Zc (rises_any hl.unm (by omega)) rfl rfl ?_
  rintro u8 w8 ⟨e8,hw8⟩
  have zw8:=hw8.size
  obtain rfl:u8=.bool true:=e8.trans (congrArg Value.bool (decide_eq_true c7))
  refine Za y_bnot ?_
  refine ZAn [2,27] ?_
  refine cg_cf rfl ?_
  refine cg_skip ?_
  refine Qi ?_
  refine Nx [2] ?_
  refine ZrA ?_
  refine Znr [2] ?_
  have u:=Un (Un u n1.below) hw8
  exact Qa rfl rfl ⟨_,rfl,congrArg nv (show pnCheck L=0 from ((((if_neg c2).trans (if_neg (by omega))).trans (if_neg c6)).trans (if_neg (not_not_intro c7)))).symm,u⟩
 refine Zc (rises_any hl.unm (by omega)) rfl rfl ?_
 rintro u9 w9 ⟨e9,hw9⟩
 have zw9:=hw9.size
 obtain rfl:u9=.bool false:=e9.trans (congrArg Value.bool (decide_eq_false c7))
 refine Za y_bnot ?_
 refine ZAnt [2,27] ?_
 refine ZrA ?_
 refine Znr [2] ?_
 refine Qg ?_
 refine Qc ?_
 have u:=Un (Un u n1.below) hw9
 exact Qa rfl rfl ⟨_,rfl,congrArg nv (show pnCheck L=8 from ((((if_neg c2).trans (if_neg (by omega))).trans (if_neg c6)).trans (if_pos c7))).symm,u⟩
theorem sameP_any {W:World} {B:Nat} {l m:PnV} {L M:Pn} (hl:IsPn W B l L) (hm:IsPn W B m M) (hB:B≤W.heap.size):Calls Tryz.prog 99 #[.agg (l.cs L),.agg (m.cs M)] W fun e W'=>∃ v,e=.returned v∧v=.bool (decide (PnSame L M))∧Below W.heap.size W W':=by
 refine Qf (n:=24) Tryz.func99 rfl Tryz.ntmps99 (by simp) ?_
 show CG _ _ _ [(0,.agg (l.cs L)),(1,.agg (m.cs M))] _ _
 have u:=Below.refl W.heap.size W
 refine Zr ?_
 refine lg_boxw Wn rfl rfl (by kernel_rfl) rfl (by decide) fun b1 w1 n1=>?_
 have r1:=n1.row
 have k1:=n1.blk
 have z1:=n1.size
 have lt1:b1<w1.heap.size:=by omega
 refine lg_boxw Wn rfl rfl (by kernel_rfl) rfl (by decide) fun b2 w2 n2=>?_
 have r2:=n2.row
 have k2:=n2.blk
 have z2:=n2.size
 have lt2:b2<w2.heap.size:=by omega
 refine ZAn [2,3,4] ?_
 refine Zr ?_
 refine Za (y_fld (off:=0)) ?_
 have r1:=n2.keep r1
 refine Za (Qo (v:=l.enc.v) r1 rfl (by kernel_rfl) rfl rfl) ?_
 refine Za (y_fld (off:=0)) ?_
 refine Za (Qo (v:=m.enc.v) r2 rfl (by kernel_rfl) rfl rfl) ?_
 have hl:=(hl.below (n1.below.mono (by omega))).below (n2.below.mono (by omega))
 have hm:=(hm.below (n1.below.mono (by omega))).below (n2.below.mono (by omega))
 by_cases c3:L.enc=M.enc
 ·refine Za (yb (dT c3) (Qp (bytesEq_S hl.enc hm.enc))) ?_
  refine ZM ?_
  refine Zt 10 (y_fld (off:=1)) ?_
  refine Zt 10 (Qo (v:=l.hash.v) r1 rfl (by kernel_rfl) rfl rfl) ?_
  refine Zt 10 (y_fld (off:=1)) ?_
  refine Zt 10 (Qo (v:=m.hash.v) r2 rfl (by kernel_rfl) rfl rfl) ?_
  by_cases c4:L.hash=M.hash
  ·refine Zt 10 (yb (dT c4) (Qp (bytesEq_S hl.hash hm.hash))) ?_
   refine Za (y_pick true) ?_
   refine ZM ?_
   refine Zt 17 (y_fld (off:=2)) ?_
   refine Zt 17 (Qo (v:=l.unm.v) r1 rfl (by kernel_rfl) rfl rfl) ?_
   refine Zt 17 (y_fld (off:=2)) ?_
   refine Zt 17 (Qo (v:=m.unm.v) r2 rfl (by kernel_rfl) rfl rfl) ?_
   by_cases c5:L.unm=M.unm
   ·refine Zct 17 (equalN_S hl.unm hm.unm (by omega) (by omega)) rfl rfl ?_
    rintro u6 w6 ⟨e6,hw6⟩
    have zw6:=hw6.size
    obtain rfl:u6=.bool true:=e6.trans (congrArg Value.bool (decide_eq_true c5))
    refine Za (y_pick true) ?_
    refine ZAnr [4] ?_
    have u:=Un (Un (Un u n1.below) n2.below) hw6
    exact Qa rfl rfl ⟨_,rfl,congrArg Value.bool (show true=decide (PnSame L M) from (dT (by simp [PnSame, *])).symm),u⟩
   refine Zct 17 (equalN_S hl.unm hm.unm (by omega) (by omega)) rfl rfl ?_
   rintro u7 w7 ⟨e7,hw7⟩
   have zw7:=hw7.size
   obtain rfl:u7=.bool false:=e7.trans (congrArg Value.bool (decide_eq_false c5))
   refine Za (y_pick true) ?_
   refine ZAnr [4] ?_
   have u:=Un (Un (Un u n1.below) n2.below) hw7
   exact Qa rfl rfl ⟨_,rfl,congrArg Value.bool (show false=decide (PnSame L M) from (dF (by simp [PnSame, *])).symm),u⟩
  refine Zt 10 (yb (dF c4) (Qp (bytesEq_S hl.hash hm.hash))) ?_
  refine Za (y_pick true) ?_
  refine ZM ?_
  refine Zf 17 ?_
  refine Zf 17 ?_
  refine Zf 17 ?_
  refine Zf 17 ?_
  refine Zf 17 ?_
  refine Za (y_pick false) ?_
  refine ZAnr [4] ?_
  have u:=Un (Un u n1.below) n2.below
  exact Qa rfl rfl ⟨_,rfl,congrArg Value.bool (show false=decide (PnSame L M) from (dF (by simp [PnSame, *])).symm),u⟩
 refine Za (yb (dF c3) (Qp (bytesEq_S hl.enc hm.enc))) ?_
 refine ZM ?_
 refine Zf 10 ?_
 refine Zf 10 ?_
 refine Zf 10 ?_
 refine Zf 10 ?_
 refine Zf 10 ?_
 refine Za (y_pick false) ?_
 refine ZM ?_
 refine Zf 17 ?_
 refine Zf 17 ?_
 refine Zf 17 ?_
 refine Zf 17 ?_
 refine Zf 17 ?_
 refine Za (y_pick false) ?_
 refine ZAnr [4] ?_
 have u:=Un (Un u n1.below) n2.below
 exact Qa rfl rfl ⟨_,rfl,congrArg Value.bool (show false=decide (PnSame L M) from (dF (by simp [PnSame, *])).symm),u⟩
theorem putP_any {W:World} {B:Nat} {s:SlV} {xs:List Int} {l:PnV} {L:Pn} (h:Sl W B s xs) (hl:IsPn W B l L) (hB:B≤W.heap.size) (hx:xs.length≤1000000):Calls Tryz.prog 261 #[s.v,.agg (l.cs L)] W fun e W'=>∃ v,e=.returned v∧PutS W (xs++pnPut L) v W':=by
 refine Qf (n:=25) Tryz.func261 rfl Tryz.ntmps261 (by simp) ?_
 show CG _ _ _ [(0,s.v),(1,.agg (l.cs L))] _ _
 have u:=Below.refl W.heap.size W
 refine Zr ?_
 refine lg_boxw Wn rfl rfl (by kernel_rfl) rfl (by decide) fun b1 w1 n1=>?_
 have r1:=n1.row
 have k1:=n1.blk
 have z1:=n1.size
 have lt1:b1<w1.heap.size:=by omega
 refine ZAn [0,3,4] ?_
 refine Qd ?_
 refine Zr ?_
 refine Za (y_loadA r1) ?_
 have hl:=hl.below (n1.below.mono (by omega))
 refine Zc (checkP_any (hl.more (B':=w1.heap.size) (by omega)) (Nat.le_refl _)) rfl rfl ?_
 rintro _ w2 ⟨rfl,hw2⟩
 have zw2:=hw2.size
 by_cases c3:(pnCheck L)=0
 ·have ok:=pnCheck_ok c3
  refine Zan (yb (nd_f c3) yi_neq) [0,3,4,8] ?_
  refine Zcf [0,3,4] ?_
  refine Zr ?_
  refine Za (y_fld (off:=0)) ?_
  have r1:=RowAt.below hw2 r1.lt r1
  refine Za (Qo (v:=l.enc.v) r1 rfl (by kernel_rfl) rfl rfl) ?_
  have hl:=hl.below (hw2.mono (by omega))
  refine Zc (putBytes_S (Sl.nil _ _) hl.enc (by omega) (by omega) (by first | omega | (simp only [List.length_nil];omega))) rfl rfl ?_
  rintro _ w4 ⟨r4,rfl,m4,hw4⟩
  have zw4:=hw4.size
  have lb4:=bytesOct_le L.enc
  refine ZAn [0,3,4,5] ?_
  refine ZrM ?_
  refine Za (y_fld (off:=1)) ?_
  have r1:=RowAt.below hw4 r1.lt r1
  refine Za (Qo (v:=l.hash.v) r1 rfl (by kernel_rfl) rfl rfl) ?_
  have hl:=hl.below (hw4.mono (by omega))
  refine Zc (putBytes_S m4 hl.hash (by omega) (by omega) (by first | omega | (simp only [List.length_append,List.length_nil];omega))) rfl rfl ?_
  rintro _ w5 ⟨r5,rfl,m5,hw5⟩
  have zw5:=hw5.size
  have lb5:=bytesOct_le L.hash
  refine ZAn [0,3,4,5] ?_
  refine ZrM ?_
  refine Za (y_fld (off:=2)) ?_
  have r1:=RowAt.below hw5 r1.lt r1
  refine Za (Qo (v:=l.unm.v) r1 rfl (by kernel_rfl) rfl rfl) ?_
  have hl:=hl.below (hw5.mono (by omega))
  refine Zc (putNums_S m5 hl.unm (by omega) (by omega) (by first | omega | (simp only [List.length_append,List.length_nil];omega))) rfl rfl ?_
  rintro _ w6 ⟨r6,rfl,m6,hw6⟩
  have zw6:=hw6.size
  have lb6:=bytesOct_le (numsOct L.unm)
  have ln6:=numsOct_length L.unm
  refine ZAn [0,4,5] ?_
  refine ZrM ?_
  refine ZM ?_
  refine lg_bslice (el:=23) (z:=.slice none 0 0) (cs:=#[s.v,r6.v]) (by kernel_rfl) (by kernel_rfl) (by decide) (by decide) rfl rfl (by kernel_rfl) rfl rfl (by decide) fun b7 w7 n7=>?_
  have r7:=n7.row
  have k7:=n7.blk
  have z7:=n7.size
  have lt7:b7<w7.heap.size:=by omega
  have h:=(h.below (n1.below.mono (by omega))).below (hw2.mono (by omega))
  have h:=(h.below (hw4.mono (by omega))).below (hw5.mono (by omega))
  have h:=(h.below (hw6.mono (by omega))).below (n7.below.mono (by omega))
  have m6:=m6.below (n7.below.mono (by omega))
  refine Zc (concat2_S r7 h m6 (by omega) (by omega) (by first | omega | (simp only [List.length_append,List.length_nil];omega))) rfl rfl ?_
  rintro _ w8 ⟨r8,rfl,m8,hw8⟩
  have zw8:=hw8.size
  refine ZAnr [4] ?_
  have u:=Un (Un u n1.below) hw2
  have u:=Un (Un u hw4) hw5
  have u:=Un (Un (Un u hw6) n7.below) hw8
  exact Qa rfl rfl ⟨_,rfl,r8,rfl,m8.cast (by rw [pnPut,if_pos c3];simp [pnOct]),u⟩
 refine Zan (yb (nd_t c3) yi_neq) [0,3,4,8] ?_
 refine cg_ct rfl ?_
 refine ZrM ?_
 refine ZAnr [0,3,4] ?_
 refine Qc ?_
 have h:=(h.below (n1.below.mono (by omega))).below (hw2.mono (by omega))
 have u:=Un (Un u n1.below) hw2
 exact Qa rfl rfl ⟨_,rfl,s,rfl,(h.more (by omega)).cast (by rw [pnPut,if_neg c3,List.append_nil]),u⟩
end
/- NdProg:
  node.Check, node.Same, and the methods that put and get.
-/
section
set_option maxHeartbeats 1000000
theorem checkN_any {W:World} {B:Nat} {l:NdV} {L:Nd} (hl:IsNd W B l L) (hB:B≤W.heap.size):Calls Tryz.prog 57 #[.agg (l.cs L)] W fun e W'=>∃ v,e=.returned v∧v=nv (ndCheck L)∧Below W.heap.size W W':=by
 refine Qf (n:=48) Tryz.func57 rfl Tryz.ntmps57 (by simp) ?_
 show CG _ _ _ [(0,.agg (l.cs L))] _ _
 have u:=Below.refl W.heap.size W
 refine Zr ?_
 refine lg_boxw Wn rfl rfl (by kernel_rfl) rfl (by decide) fun b1 w1 n1=>?_
 have r1:=n1.row
 have k1:=n1.blk
 have z1:=n1.size
 have lt1:b1<w1.heap.size:=by omega
 refine ZAn [1,2] ?_
 refine Qd ?_
 refine Qj ?_
 refine Zr ?_
 refine Za (y_fld (off:=0)) ?_
 refine Za (Qo (v:=nv L.kind) r1 rfl (by kernel_rfl) rfl rfl) ?_
 by_cases c2:L.kind<0
 ·refine Za (yb (dT c2) yi_lss) ?_
  refine ZM ?_
  refine Zf 7 ?_
  refine Zf 7 ?_
  refine Zf 7 ?_
  refine Za (y_pick true) ?_
  refine ZAnt [1,2,3] ?_
  refine ZrA ?_
  refine Znr [2] ?_
  refine Qg ?_
  refine Qc ?_
  have u:=Un u n1.below
  exact Qa rfl rfl ⟨_,rfl,congrArg nv (show 7=ndCheck L by simp [ndCheck,c2]),u⟩
 refine Za (yb (dF c2) yi_lss) ?_
 refine ZM ?_
 refine Zt 7 (y_fld (off:=0)) ?_
 refine Zt 7 (Qo (v:=nv L.kind) r1 rfl (by kernel_rfl) rfl rfl) ?_
 by_cases c3:2<L.kind
 ·refine Zt 7 (yb (dT c3) yi_gtr) ?_
  refine Za (y_pick false) ?_
  refine ZAnt [1,2,3] ?_
  refine ZrA ?_
  refine Znr [2] ?_
  refine Qg ?_
  refine Qc ?_
  have u:=Un u n1.below
  exact Qa rfl rfl ⟨_,rfl,congrArg nv (show 7=ndCheck L by simp [ndCheck,c2,c3]),u⟩
 refine Zt 7 (yb (dF c3) yi_gtr) ?_
 refine Za (y_pick false) ?_
 refine ZAn [1,2,3] ?_
 refine cg_cf rfl ?_
 refine Zr ?_
 refine Za (y_fld (off:=0)) ?_
 refine Za (Qo (v:=nv L.kind) r1 rfl (by kernel_rfl) rfl rfl) ?_
 by_cases c4:L.kind=1
 ·refine Za (yb (nd_f c4) yi_neq) ?_
  refine ZM ?_
  refine Zf 16 ?_
  refine Zf 16 ?_
  refine Zf 16 ?_
  refine Zf 16 ?_
  refine Zf 16 ?_
  refine Za (y_pick false) ?_
  refine ZAn [1,2,12] ?_
  refine cg_cf rfl ?_
  refine Zr ?_
  refine Za (y_fld (off:=0)) ?_
  refine Za (Qo (v:=nv L.kind) r1 rfl (by kernel_rfl) rfl rfl) ?_
  refine Za (yb (nd_t (show ¬(L.kind=2) from (show ¬(L.kind=2) by omega))) (yi_neq rfl rfl rfl)) ?_
  refine ZM ?_
  refine Zt 27 (y_fld (off:=5)) ?_
  refine Zt 27 (y_part r1 (m:=3) rfl (show 5+3≤8 by decide) (by kernel_rfl) (by kernel_rfl) rfl rfl) ?_
  refine Zt 27 (y_build (cs:=PnV.zero.cs Pn.zero)) ?_
  have hl:=hl.below (n1.below.mono (by omega))
  by_cases c5:PnSame L.inner Pn.zero
  ·refine Zct 27 (sameP_any (hl.inner.more (B':=w1.heap.size) (by omega)) ((IsPn.zero _ 0).more (B':=w1.heap.size) (by omega)) (Nat.le_refl _)) rfl rfl ?_
   rintro u6 w6 ⟨e6,hw6⟩
   have zw6:=hw6.size
   obtain rfl:u6=.bool true:=e6.trans (congrArg Value.bool (decide_eq_true c5))
   refine Zt 27 y_bnot ?_
   refine Za (y_pick true) ?_
   refine ZAn [1,2,23] ?_
   refine cg_cf rfl ?_
   refine Zr ?_
   refine Za (y_fld (off:=0)) ?_
   have r1:=RowAt.below hw6 r1.lt r1
   refine Za (Qo (v:=nv L.kind) r1 rfl (by kernel_rfl) rfl rfl) ?_
   refine Za (yb (dT c4) yi_eql) ?_
   refine ZAnt [1,2,34] ?_
   refine Zr ?_
   refine Za (y_fld (off:=1)) ?_
   refine Za (y_part r1 (m:=4) rfl (show 1+4≤8 by decide) (by kernel_rfl) (by kernel_rfl) rfl rfl) ?_
   have hl:=hl.below (hw6.mono (by omega))
   refine Zc (check_any (hl.leaf.more (B':=w6.heap.size) (by omega)) (Nat.le_refl _)) rfl rfl ?_
   rintro _ w7 ⟨rfl,hw7⟩
   have zw7:=hw7.size
   refine ZAnr [2] ?_
   refine Qg ?_
   refine Qc ?_
   have u:=Un (Un (Un u n1.below) hw6) hw7
   exact Qa rfl rfl ⟨_,rfl,congrArg nv (show (lfCheck L.leaf)=ndCheck L by simp [ndCheck,c4,c5]),u⟩
  refine Zct 27 (sameP_any (hl.inner.more (B':=w1.heap.size) (by omega)) ((IsPn.zero _ 0).more (B':=w1.heap.size) (by omega)) (Nat.le_refl _)) rfl rfl ?_
  rintro u8 w8 ⟨e8,hw8⟩
  have zw8:=hw8.size
  obtain rfl:u8=.bool false:=e8.trans (congrArg Value.bool (decide_eq_false c5))
  refine Zt 27 y_bnot ?_
  refine Za (y_pick true) ?_
  refine ZAnt [1,2,23] ?_
  refine ZrA ?_
  refine Znr [2] ?_
  refine Qg ?_
  refine Qc ?_
  have u:=Un (Un u n1.below) hw8
  exact Qa rfl rfl ⟨_,rfl,congrArg nv (show 2=ndCheck L by simp [ndCheck,c4,c5]),u⟩
 refine Za (yb (nd_t c4) yi_neq) ?_
 refine ZM ?_
 refine Zt 16 (y_fld (off:=1)) ?_
 refine Zt 16 (y_part r1 (m:=4) rfl (show 1+4≤8 by decide) (by kernel_rfl) (by kernel_rfl) rfl rfl) ?_
 refine Zt 16 (y_build (cs:=LfV.zero.cs Lf.zero)) ?_
 have hl:=hl.below (n1.below.mono (by omega))
 by_cases c9:LfSame L.leaf Lf.zero
 ·refine Zct 16 (same_any (hl.leaf.more (B':=w1.heap.size) (by omega)) ((IsLf.zero _ 0).more (B':=w1.heap.size) (by omega)) (Nat.le_refl _)) rfl rfl ?_
  rintro u10 w10 ⟨e10,hw10⟩
  have zw10:=hw10.size
  obtain rfl:u10=.bool true:=e10.trans (congrArg Value.bool (decide_eq_true c9))
  refine Zt 16 y_bnot ?_
  refine Za (y_pick true) ?_
  refine ZAn [1,2,12] ?_
  refine cg_cf rfl ?_
  refine Zr ?_
  refine Za (y_fld (off:=0)) ?_
  have r1:=RowAt.below hw10 r1.lt r1
  refine Za (Qo (v:=nv L.kind) r1 rfl (by kernel_rfl) rfl rfl) ?_
  by_cases c11:L.kind=2
  ·refine Za (yb (nd_f c11) yi_neq) ?_
   refine ZM ?_
   refine Zf 27 ?_
   refine Zf 27 ?_
   refine Zf 27 ?_
   refine Zf 27 ?_
   refine Zf 27 ?_
   refine Za (y_pick false) ?_
   refine ZAn [1,2,23] ?_
   refine cg_cf rfl ?_
   refine Zr ?_
   refine Za (y_fld (off:=0)) ?_
   refine Za (Qo (v:=nv L.kind) r1 rfl (by kernel_rfl) rfl rfl) ?_
   refine Za (yb (dF c4) yi_eql) ?_
   refine ZAn [1,2,34] ?_
   refine cg_cf rfl ?_
   refine Zr ?_
   refine Za (y_fld (off:=0)) ?_
   refine Za (Qo (v:=nv L.kind) r1 rfl (by kernel_rfl) rfl rfl) ?_
   refine Za (yb (dT c11) yi_eql) ?_
   refine ZAnt [1,2,41] ?_
   refine Zr ?_
   refine Za (y_fld (off:=5)) ?_
   refine Za (y_part r1 (m:=3) rfl (show 5+3≤8 by decide) (by kernel_rfl) (by kernel_rfl) rfl rfl) ?_
   have hl:=hl.below (hw10.mono (by omega))
   refine Zc (checkP_any (hl.inner.more (B':=w10.heap.size) (by omega)) (Nat.le_refl _)) rfl rfl ?_
   rintro _ w12 ⟨rfl,hw12⟩
   have zw12:=hw12.size
   refine ZAnr [2] ?_
   refine Qg ?_
   refine Qc ?_
   have u:=Un (Un (Un u n1.below) hw10) hw12
   exact Qa rfl rfl ⟨_,rfl,congrArg nv (show (pnCheck L.inner)=ndCheck L by simp [ndCheck,c9,c11]),u⟩
  refine Za (yb (nd_t c11) yi_neq) ?_
  refine ZM ?_
  refine Zt 27 (y_fld (off:=5)) ?_
  refine Zt 27 (y_part r1 (m:=3) rfl (show 5+3≤8 by decide) (by kernel_rfl) (by kernel_rfl) rfl rfl) ?_
  refine Zt 27 (y_build (cs:=PnV.zero.cs Pn.zero)) ?_
  have hl:=hl.below (hw10.mono (by omega))
  by_cases c13:PnSame L.inner Pn.zero
  ·refine Zct 27 (sameP_any (hl.inner.more (B':=w10.heap.size) (by omega)) ((IsPn.zero _ 0).more (B':=w10.heap.size) (by omega)) (Nat.le_refl _)) rfl rfl ?_
   rintro u14 w14 ⟨e14,hw14⟩
   have zw14:=hw14.size
   obtain rfl:u14=.bool true:=e14.trans (congrArg Value.bool (decide_eq_true c13))
   refine Zt 27 y_bnot ?_
   refine Za (y_pick true) ?_
   refine ZAn [1,2,23] ?_
   refine cg_cf rfl ?_
   refine Zr ?_
   refine Za (y_fld (off:=0)) ?_
   have r1:=RowAt.below hw14 r1.lt r1
   refine Za (Qo (v:=nv L.kind) r1 rfl (by kernel_rfl) rfl rfl) ?_
   refine Za (yb (dF c4) yi_eql) ?_
   refine ZAn [1,2,34] ?_
   refine cg_cf rfl ?_
   refine Zr ?_
   refine Za (y_fld (off:=0)) ?_
   refine Za (Qo (v:=nv L.kind) r1 rfl (by kernel_rfl) rfl rfl) ?_
   refine Za (yb (dF c11) yi_eql) ?_
   refine ZAn [1,2,41] ?_
   refine cg_cf rfl ?_
   refine cg_skip ?_
   refine Qi ?_
   refine Nx [2] ?_
   refine ZrA ?_
   refine Znr [2] ?_
   have u:=Un (Un (Un u n1.below) hw10) hw14
   exact Qa rfl rfl ⟨_,rfl,congrArg nv (show 0=ndCheck L by simp [ndCheck,c2,c3,c4,c9,c11,c13]),u⟩
  refine Zct 27 (sameP_any (hl.inner.more (B':=w10.heap.size) (by omega)) ((IsPn.zero _ 0).more (B':=w10.heap.size) (by omega)) (Nat.le_refl _)) rfl rfl ?_
  rintro u15 w15 ⟨e15,hw15⟩
  have zw15:=hw15.size
  obtain rfl:u15=.bool false:=e15.trans (congrArg Value.bool (decide_eq_false c13))
  refine Zt 27 y_bnot ?_
  refine Za (y_pick true) ?_
  refine ZAnt [1,2,23] ?_
  refine ZrA ?_
  refine Znr [2] ?_
  refine Qg ?_
  refine Qc ?_
  have u:=Un (Un (Un u n1.below) hw10) hw15
  exact Qa rfl rfl ⟨_,rfl,congrArg nv (show 2=ndCheck L by simp [ndCheck,c2,c3,c4,c9,c11,c13]),u⟩
 refine Zct 16 (same_any (hl.leaf.more (B':=w1.heap.size) (by omega)) ((IsLf.zero _ 0).more (B':=w1.heap.size) (by omega)) (Nat.le_refl _)) rfl rfl ?_
 rintro u16 w16 ⟨e16,hw16⟩
 have zw16:=hw16.size
 obtain rfl:u16=.bool false:=e16.trans (congrArg Value.bool (decide_eq_false c9))
 refine Zt 16 y_bnot ?_
 refine Za (y_pick true) ?_
 refine ZAnt [1,2,12] ?_
 refine ZrA ?_
 refine Znr [2] ?_
 refine Qg ?_
 refine Qc ?_
 have u:=Un (Un u n1.below) hw16
 exact Qa rfl rfl ⟨_,rfl,congrArg nv (show 2=ndCheck L by simp [ndCheck,c2,c3,c4,c9]),u⟩
theorem countsN_any {W:World} {B:Nat} {l:NdV} {L:Nd} (hl:IsNd W B l L) (hB:B≤W.heap.size):Calls Tryz.prog 253 #[.agg (l.cs L)] W fun e W'=>∃ v,e=.returned v∧v=nv (ndAs L).kind∧Below W.heap.size W W':=by
 refine Qf (n:=8) Tryz.func253 rfl Tryz.ntmps253 (by simp) ?_
 show CG _ _ _ [(0,.agg (l.cs L))] _ _
 have u:=Below.refl W.heap.size W
 refine Zr ?_
 refine lg_boxw Wn rfl rfl (by kernel_rfl) rfl (by decide) fun b1 w1 n1=>?_
 have r1:=n1.row
 have k1:=n1.blk
 have z1:=n1.size
 have lt1:b1<w1.heap.size:=by omega
 refine ZAn [1,2] ?_
 refine Qd ?_
 refine Zr ?_
 refine Za (y_loadA r1) ?_
 have hl:=hl.below (n1.below.mono (by omega))
 refine Zc (checkN_any (hl.more (B':=w1.heap.size) (by omega)) (Nat.le_refl _)) rfl rfl ?_
 rintro _ w2 ⟨rfl,hw2⟩
 have zw2:=hw2.size
 by_cases c3:(ndCheck L)=0
 ·refine Zan (yb (nd_f c3) yi_neq) [1,2,5] ?_
  refine Zcf [1,2] ?_
  refine Zr ?_
  refine Za (y_fld (off:=0)) ?_
  have r1:=RowAt.below hw2 r1.lt r1
  refine Za (Qo (v:=nv L.kind) r1 rfl (by kernel_rfl) rfl rfl) ?_
  refine ZAnr [2] ?_
  have u:=Un (Un u n1.below) hw2
  exact Qa rfl rfl ⟨_,rfl,congrArg nv (show L.kind=(ndAs L).kind by simp [ndAs,c3]),u⟩
 refine Zan (yb (nd_t c3) yi_neq) [1,2,5] ?_
 refine cg_ct rfl ?_
 refine ZrA ?_
 refine Znr [1,2] ?_
 refine Qc ?_
 have u:=Un (Un u n1.below) hw2
 exact Qa rfl rfl ⟨_,rfl,congrArg nv (show 0=(ndAs L).kind by simp [ndAs,c3]),u⟩
theorem of1_any (k:Int) (h1:k=1) (W:World):Calls Tryz.prog 252 #[nv k] W fun e W'=>∃ v,e=.returned v∧v=.tuple #[.agg (CsV.zero.cs (⟨some 255,some 256⟩:Cs)),.bool true]∧Below W.heap.size W W':=by
 refine Qf (n:=12) Tryz.func252 rfl Tryz.ntmps252 (by simp) ?_
 show CG _ _ _ [(0,nv k)] _ _
 have u:=Below.refl W.heap.size W
 refine Zr ?_
 refine lg_allocw (cs:=CsV.zero.cs Cs.zero) Wn rfl (by kernel_rfl) rfl (by decide) fun b1 w1 n1=>?_
 have r1:=n1.row
 have k1:=n1.blk
 have z1:=n1.size
 have lt1:b1<w1.heap.size:=by omega
 refine ZAn [0,2,3] ?_
 refine Qd ?_
 refine ZrM ?_
 refine Zn [2,3,4] ?_
 refine Qj ?_
 refine Zr ?_
 refine Za (yb (dT h1) yi_eql) ?_
 refine ZAnt [2,3,4,5] ?_
 refine Zr ?_
 refine Za (y_build (cs:=(⟨⟩:CsV).cs (⟨some 255,some 256⟩:Cs))) ?_
 have o2:=r1
 refine lg_stw Wn r1 rfl rfl rfl (by kernel_rfl) (by kernel_rfl) rfl rfl fun w2 s2=>?_
 have r1:=s2.row
 have z2:=s2.size
 refine ZAnr [2,3] ?_
 refine Qg ?_
 refine Qc ?_
 have u:=Un u n1.below
 have u:=u.trans (s2.below _ (by omega))
 exact eg_ret_agg2 rfl rfl r1 (by kernel_rfl) (by kernel_rfl) rfl ⟨_,rfl,rfl,u⟩
theorem of2_any (k:Int) (h2:k=2) (W:World):Calls Tryz.prog 252 #[nv k] W fun e W'=>∃ v,e=.returned v∧v=.tuple #[.agg (CsV.zero.cs (⟨some 257,some 258⟩:Cs)),.bool true]∧Below W.heap.size W W':=by
 refine Qf (n:=12) Tryz.func252 rfl Tryz.ntmps252 (by simp) ?_
 show CG _ _ _ [(0,nv k)] _ _
 have u:=Below.refl W.heap.size W
 refine Zr ?_
 refine lg_allocw (cs:=CsV.zero.cs Cs.zero) Wn rfl (by kernel_rfl) rfl (by decide) fun b1 w1 n1=>?_
 have r1:=n1.row
 have k1:=n1.blk
 have z1:=n1.size
 have lt1:b1<w1.heap.size:=by omega
 refine ZAn [0,2,3] ?_
 refine Qd ?_
 refine ZrM ?_
 refine Zn [2,3,4] ?_
 refine Qj ?_
 refine Zr ?_
 refine Za (yb (dF (show ¬(k=1) from (show ¬(k=1) by omega))) (yi_eql rfl rfl rfl)) ?_
 refine ZAn [2,3,4,5] ?_
 refine cg_cf rfl ?_
 refine Zr ?_
 refine Za (yb (dT h2) yi_eql) ?_
 refine ZAnt [2,3,8] ?_
 refine Zr ?_
 refine Za (y_build (cs:=(⟨⟩:CsV).cs (⟨some 257,some 258⟩:Cs))) ?_
 have o2:=r1
 refine lg_stw Wn r1 rfl rfl rfl (by kernel_rfl) (by kernel_rfl) rfl rfl fun w2 s2=>?_
 have r1:=s2.row
 have z2:=s2.size
 refine ZAnr [2,3] ?_
 refine Qg ?_
 refine Qc ?_
 have u:=Un u n1.below
 have u:=u.trans (s2.below _ (by omega))
 exact eg_ret_agg2 rfl rfl r1 (by kernel_rfl) (by kernel_rfl) rfl ⟨_,rfl,rfl,u⟩
theorem of0_any (k:Int) (h1:¬k=1) (h2:¬k=2) (W:World):Calls Tryz.prog 252 #[nv k] W fun e W'=>∃ v,e=.returned v∧v=.tuple #[.agg (CsV.zero.cs Cs.zero),.bool false]∧Below W.heap.size W W':=by
 refine Qf (n:=12) Tryz.func252 rfl Tryz.ntmps252 (by simp) ?_
 show CG _ _ _ [(0,nv k)] _ _
 have u:=Below.refl W.heap.size W
 refine Zr ?_
 refine lg_allocw (cs:=CsV.zero.cs Cs.zero) Wn rfl (by kernel_rfl) rfl (by decide) fun b1 w1 n1=>?_
 have r1:=n1.row
 have k1:=n1.blk
 have z1:=n1.size
 have lt1:b1<w1.heap.size:=by omega
 refine ZAn [0,2,3] ?_
 refine Qd ?_
 refine ZrM ?_
 refine Zn [2,3,4] ?_
 refine Qj ?_
 refine Zr ?_
 refine Za (yb (dF h1) yi_eql) ?_
 refine ZAn [2,3,4,5] ?_
 refine cg_cf rfl ?_
 refine Zr ?_
 refine Za (yb (dF h2) yi_eql) ?_
 refine ZAn [2,3,8] ?_
 refine cg_cf rfl ?_
 refine cg_skip ?_
 refine Qi ?_
 refine Nx [2,3] ?_
 refine Zr ?_
 refine Za (y_build (cs:=CsV.zero.cs Cs.zero)) ?_
 have o2:=r1
 refine lg_stw Wn r1 rfl rfl rfl (by kernel_rfl) (by kernel_rfl) rfl rfl fun w2 s2=>?_
 have r1:=s2.row
 have z2:=s2.size
 refine ZAnr [2,3] ?_
 have u:=Un u n1.below
 have u:=u.trans (s2.below _ (by omega))
 exact eg_ret_agg2 rfl rfl r1 (by kernel_rfl) (by kernel_rfl) rfl ⟨_,rfl,rfl,u⟩
theorem putLeafN_any {W:World} {B:Nat} {s:SlV} {xs:List Int} {l:NdV} {L:Nd} (hl:IsNd W B l L) (h:Sl W B s xs) (hB:B≤W.heap.size) (hx:xs.length≤1000000):Calls Tryz.prog 255 #[.agg (l.cs L),s.v] W fun e W'=>∃ v,e=.returned v∧PutS W (xs++lfPut L.leaf) v W':=by
 refine Qf (n:=9) Tryz.func255 rfl Tryz.ntmps255 (by simp) ?_
 show CG _ _ _ [(0,.agg (l.cs L)),(1,s.v)] _ _
 have u:=Below.refl W.heap.size W
 refine Zr ?_
 refine lg_boxw Wn rfl rfl (by kernel_rfl) rfl (by decide) fun b1 w1 n1=>?_
 have r1:=n1.row
 have k1:=n1.blk
 have z1:=n1.size
 have lt1:b1<w1.heap.size:=by omega
 refine ZAn [1,2,4] ?_
 refine ZrM ?_
 refine Za (y_fld (off:=1)) ?_
 refine Za (y_part r1 (m:=4) rfl (show 1+4≤8 by decide) (by kernel_rfl) (by kernel_rfl) rfl rfl) ?_
 have h:=h.below (n1.below.mono (by omega))
 have hl:=hl.below (n1.below.mono (by omega))
 refine Zc (putL_any (h.more (B':=w1.heap.size) (by omega)) (hl.leaf.more (B':=w1.heap.size) (by omega)) (Nat.le_refl _) (by first | omega | (simp only [List.length_append,List.length_cons,List.length_nil,numOct_length,flagOct_length];omega))) rfl rfl ?_
 rintro _ w2 ⟨r2,rfl,m2,hw2⟩
 have zw2:=hw2.size
 have lp2:=lfPut_le L.leaf
 refine ZAnr [4] ?_
 have u:=Un (Un u n1.below) hw2
 exact Qa rfl rfl ⟨_,rfl,r2,rfl,m2,u⟩
theorem putInnerN_any {W:World} {B:Nat} {s:SlV} {xs:List Int} {l:NdV} {L:Nd} (hl:IsNd W B l L) (h:Sl W B s xs) (hB:B≤W.heap.size) (hx:xs.length≤1000000):Calls Tryz.prog 257 #[.agg (l.cs L),s.v] W fun e W'=>∃ v,e=.returned v∧PutS W (xs++pnPut L.inner) v W':=by
 refine Qf (n:=9) Tryz.func257 rfl Tryz.ntmps257 (by simp) ?_
 show CG _ _ _ [(0,.agg (l.cs L)),(1,s.v)] _ _
 have u:=Below.refl W.heap.size W
 refine Zr ?_
 refine lg_boxw Wn rfl rfl (by kernel_rfl) rfl (by decide) fun b1 w1 n1=>?_
 have r1:=n1.row
 have k1:=n1.blk
 have z1:=n1.size
 have lt1:b1<w1.heap.size:=by omega
 refine ZAn [1,2,4] ?_
 refine ZrM ?_
 refine Za (y_fld (off:=5)) ?_
 refine Za (y_part r1 (m:=3) rfl (show 5+3≤8 by decide) (by kernel_rfl) (by kernel_rfl) rfl rfl) ?_
 have h:=h.below (n1.below.mono (by omega))
 have hl:=hl.below (n1.below.mono (by omega))
 refine Zc (putP_any (h.more (B':=w1.heap.size) (by omega)) (hl.inner.more (B':=w1.heap.size) (by omega)) (Nat.le_refl _) (by first | omega | (simp only [List.length_append,List.length_cons,List.length_nil,numOct_length,flagOct_length];omega))) rfl rfl ?_
 rintro _ w2 ⟨r2,rfl,m2,hw2⟩
 have zw2:=hw2.size
 have lp2:=pnPut_le L.inner
 refine ZAnr [4] ?_
 have u:=Un (Un u n1.below) hw2
 exact Qa rfl rfl ⟨_,rfl,r2,rfl,m2,u⟩
end
/- NdPut:
  node.Put, Get, and what is summed up.
-/
section
set_option maxHeartbeats 1000000
theorem putOnlyN_any {W:World} {B:Nat} {s:SlV} {xs:List Int} {l:NdV} {L:Nd} (h:Sl W B s xs) (hl:IsNd W B l L) (hB:B≤W.heap.size) (k:Int) (hx:xs.length≤100000):Calls Tryz.prog 247 #[s.v,.agg (l.cs L),nv k] W fun e W'=>∃ v,e=.returned v∧PutS W (xs++ndOnly L k) v W':=by
 refine Qf (n:=32) Tryz.func247 rfl Tryz.ntmps247 (by simp) ?_
 show CG _ _ _ [(0,s.v),(1,.agg (l.cs L)),(2,nv k)] _ _
 have u:=Below.refl W.heap.size W
 refine Zr ?_
 refine lg_boxw Wn rfl rfl (by kernel_rfl) rfl (by decide) fun b1 w1 n1=>?_
 have r1:=n1.row
 have k1:=n1.blk
 have z1:=n1.size
 have lt1:b1<w1.heap.size:=by omega
 refine ZAn [0,2,4,6] ?_
 refine Zr ?_
 refine Za (y_loadA r1) ?_
 have hl:=hl.below (n1.below.mono (by omega))
 refine Zc (countsN_any (hl.more (B':=w1.heap.size) (by omega)) (Nat.le_refl _)) rfl rfl ?_
 rintro _ w2 ⟨rfl,hw2⟩
 have zw2:=hw2.size
 by_cases c3:((ndAs L).kind)=1
 ·obtain ⟨eaL,ckL⟩:=ndAs_kind (L:=L) (by omega)
  have kL:L.kind=1:=(congrArg Nd.kind eaL).symm.trans c3
  refine Zc (of1_any _ c3 _) rfl rfl ?_
  rintro _ w4 ⟨rfl,hw4⟩
  have zw4:=hw4.size
  refine ZM ?_
  refine Za y_extract ?_
  refine Za y_extract ?_
  refine lg_allocw (cs:=CsV.zero.cs Cs.zero) Wn rfl (by kernel_rfl) rfl (by decide) fun b5 w5 n5=>?_
  have r5:=n5.row
  have k5:=n5.blk
  have z5:=n5.size
  have lt5:b5<w5.heap.size:=by omega
  have o6:=r5
  refine lg_stw Wn r5 rfl rfl rfl (by kernel_rfl) (by kernel_rfl) rfl rfl fun w6 s6=>?_
  have r5:=s6.row
  have z6:=s6.size
  refine ZAn [0,2,4,6,7,8] ?_
  refine ZrM ?_
  refine ZM ?_
  refine Zt 16 (y_fld (off:=0)) ?_
  have r1:=RowAt.below hw2 r1.lt r1
  have r1:=RowAt.below hw4 r1.lt r1
  have r1:=n5.keep r1
  have r1:=s6.keep r1 (by omega)
  refine Zt 16 (Qo (v:=nv L.kind) r1 rfl (by kernel_rfl) rfl rfl) ?_
  refine Zt 16 y_move ?_
  by_cases c7:L.kind=k
  ·refine Zt 16 (yb (dT c7) yi_eql) ?_
   refine Za (y_pick true) ?_
   refine ZAn [0,4,6,7,8] ?_
   refine ZrM ?_
   refine ZM ?_
   have h:=(h.below (n1.below.mono (by omega))).below (hw2.mono (by omega))
   have h:=((h.below (hw4.mono (by omega))).below (n5.below.mono (by omega))).set o6 rfl s6
   refine Zc (putFlag_S true h (by omega) (by first | omega | (simp only [List.length_append,List.length_cons,List.length_nil,numOct_length,flagOct_length];omega))) rfl rfl ?_
   rintro _ w8 ⟨r8,rfl,m8,hw8⟩
   have zw8:=hw8.size
   refine ZAn [4,6,7,8,0] ?_
   refine Qd ?_
   refine ZrM ?_
   refine Znt [4,6,7,0,25] ?_
   refine Qe ?_
   refine Za (y_fld (off:=0)) ?_
   have r5:=RowAt.below hw8 r5.lt r5
   refine Za (Qo (v:=fnv (some 255)) r5 rfl (by kernel_rfl) rfl rfl) ?_
   have r1:=RowAt.below hw8 r1.lt r1
   refine Za (y_loadA r1) ?_
   refine ZM ?_
   have hl:=(hl.below (hw2.mono (by omega))).below (hw4.mono (by omega))
   have hl:=((hl.below (n5.below.mono (by omega))).below (s6.below _ (by omega))).below (hw8.mono (by omega))
   refine lg_callv (fs:=[]) (vs:=[.agg (l.cs L),r8.v]) (us:=[]) Wn (putLeafN_any (hl.more (B':=w8.heap.size) (by omega)) (m8.more (B':=w8.heap.size) (by omega)) (Nat.le_refl _) (by first | omega | (simp only [List.length_append,flagOct_length];omega))) (by kernel_rfl) rfl rfl rfl rfl (by decide) ?_
   rintro _ w9 ⟨r9,rfl,m9,hw9⟩
   have zw9:=hw9.size
   have lp9:=lfPut_le L.leaf
   refine ZAn [6,0] ?_
   refine ZrM ?_
   refine ZAnr [6] ?_
   have u:=Un (Un u n1.below) hw2
   have u:=Un (Un u hw4) n5.below
   have u:=u.trans (s6.below _ (by omega))
   have u:=Un (Un u hw8) hw9
   exact Qa rfl rfl ⟨_,rfl,r9,rfl,(m9.more (by omega)).cast (by rw [ndOnly,if_pos ⟨by omega,by omega⟩,List.append_assoc]),u⟩
  refine Zt 16 (yb (dF c7) yi_eql) ?_
  refine Za (y_pick true) ?_
  refine ZAn [0,4,6,7,8] ?_
  refine ZrM ?_
  refine ZM ?_
  have h:=(h.below (n1.below.mono (by omega))).below (hw2.mono (by omega))
  have h:=((h.below (hw4.mono (by omega))).below (n5.below.mono (by omega))).set o6 rfl s6
  refine Zc (putFlag_S false h (by omega) (by first | omega | (simp only [List.length_append,List.length_cons,List.length_nil,numOct_length,flagOct_length];omega))) rfl rfl ?_
  rintro _ w10 ⟨r10,rfl,m10,hw10⟩
  have zw10:=hw10.size
  refine ZAn [4,6,7,8,0] ?_
  refine Qd ?_
  refine ZrM ?_
  refine Zn [4,6,7,0,25] ?_
  refine Zcf [6,0] ?_
  refine ZrM ?_
  refine ZAnr [6] ?_
  have u:=Un (Un u n1.below) hw2
  have u:=Un (Un u hw4) n5.below
  have u:=u.trans (s6.below _ (by omega))
  have u:=Un u hw10
  exact Qa rfl rfl ⟨_,rfl,r10,rfl,(m10.more (by omega)).cast (by rw [ndOnly,if_neg (by omega),if_neg (by omega)]),u⟩
 by_cases c11:((ndAs L).kind)=2
 ·obtain ⟨eaL,ckL⟩:=ndAs_kind (L:=L) (by omega)
  have kL:L.kind=2:=(congrArg Nd.kind eaL).symm.trans c11
  refine Zc (of2_any _ c11 _) rfl rfl ?_
  rintro _ w12 ⟨rfl,hw12⟩
  have zw12:=hw12.size
  refine ZM ?_
  refine Za y_extract ?_
  refine Za y_extract ?_
  refine lg_allocw (cs:=CsV.zero.cs Cs.zero) Wn rfl (by kernel_rfl) rfl (by decide) fun b13 w13 n13=>?_
  have r13:=n13.row
  have k13:=n13.blk
  have z13:=n13.size
  have lt13:b13<w13.heap.size:=by omega
  have o14:=r13
  refine lg_stw Wn r13 rfl rfl rfl (by kernel_rfl) (by kernel_rfl) rfl rfl fun w14 s14=>?_
  have r13:=s14.row
  have z14:=s14.size
  refine ZAn [0,2,4,6,7,8] ?_
  refine ZrM ?_
  refine ZM ?_
  refine Zt 16 (y_fld (off:=0)) ?_
  have r1:=RowAt.below hw2 r1.lt r1
  have r1:=RowAt.below hw12 r1.lt r1
  have r1:=n13.keep r1
  have r1:=s14.keep r1 (by omega)
  refine Zt 16 (Qo (v:=nv L.kind) r1 rfl (by kernel_rfl) rfl rfl) ?_
  refine Zt 16 y_move ?_
  by_cases c15:L.kind=k
  ·refine Zt 16 (yb (dT c15) yi_eql) ?_
   refine Za (y_pick true) ?_
   refine ZAn [0,4,6,7,8] ?_
   refine ZrM ?_
   refine ZM ?_
   have h:=(h.below (n1.below.mono (by omega))).below (hw2.mono (by omega))
   have h:=((h.below (hw12.mono (by omega))).below (n13.below.mono (by omega))).set o14 rfl s14
   refine Zc (putFlag_S true h (by omega) (by first | omega | (simp only [List.length_append,List.length_cons,List.length_nil,numOct_length,flagOct_length];omega))) rfl rfl ?_
   rintro _ w16 ⟨r16,rfl,m16,hw16⟩
   have zw16:=hw16.size
   refine ZAn [4,6,7,8,0] ?_
   refine Qd ?_
   refine ZrM ?_
   refine Znt [4,6,7,0,25] ?_
   refine Qe ?_
   refine Za (y_fld (off:=0)) ?_
   have r13:=RowAt.below hw16 r13.lt r13
   refine Za (Qo (v:=fnv (some 257)) r13 rfl (by kernel_rfl) rfl rfl) ?_
   have r1:=RowAt.below hw16 r1.lt r1
   refine Za (y_loadA r1) ?_
   refine ZM ?_
   have hl:=(hl.below (hw2.mono (by omega))).below (hw12.mono (by omega))
   have hl:=((hl.below (n13.below.mono (by omega))).below (s14.below _ (by omega))).below (hw16.mono (by omega))
   refine lg_callv (fs:=[]) (vs:=[.agg (l.cs L),r16.v]) (us:=[]) Wn (putInnerN_any (hl.more (B':=w16.heap.size) (by omega)) (m16.more (B':=w16.heap.size) (by omega)) (Nat.le_refl _) (by first | omega | (simp only [List.length_append,flagOct_length];omega))) (by kernel_rfl) rfl rfl rfl rfl (by decide) ?_
   rintro _ w17 ⟨r17,rfl,m17,hw17⟩
   have zw17:=hw17.size
   have lp17:=pnPut_le L.inner
   refine ZAn [6,0] ?_
   refine ZrM ?_
   refine ZAnr [6] ?_
   have u:=Un (Un u n1.below) hw2
   have u:=Un (Un u hw12) n13.below
   have u:=u.trans (s14.below _ (by omega))
   have u:=Un (Un u hw16) hw17
   exact Qa rfl rfl ⟨_,rfl,r17,rfl,(m17.more (by omega)).cast (by rw [ndOnly,if_neg (by omega),if_pos ⟨by omega,by omega⟩,List.append_assoc]),u⟩
  refine Zt 16 (yb (dF c15) yi_eql) ?_
  refine Za (y_pick true) ?_
  refine ZAn [0,4,6,7,8] ?_
  refine ZrM ?_
  refine ZM ?_
  have h:=(h.below (n1.below.mono (by omega))).below (hw2.mono (by omega))
  have h:=((h.below (hw12.mono (by omega))).below (n13.below.mono (by omega))).set o14 rfl s14
  refine Zc (putFlag_S false h (by omega) (by first | omega | (simp only [List.length_append,List.length_cons,List.length_nil,numOct_length,flagOct_length];omega))) rfl rfl ?_
  rintro _ w18 ⟨r18,rfl,m18,hw18⟩
  have zw18:=hw18.size
  refine ZAn [4,6,7,8,0] ?_
  refine Qd ?_
  refine ZrM ?_
  refine Zn [4,6,7,0,25] ?_
  refine Zcf [6,0] ?_
  refine ZrM ?_
  refine ZAnr [6] ?_
  have u:=Un (Un u n1.below) hw2
  have u:=Un (Un u hw12) n13.below
  have u:=u.trans (s14.below _ (by omega))
  have u:=Un u hw18
  exact Qa rfl rfl ⟨_,rfl,r18,rfl,(m18.more (by omega)).cast (by rw [ndOnly,if_neg (by omega),if_neg (by omega)]),u⟩
 refine Zc (of0_any _ c3 c11 _) rfl rfl ?_
 rintro _ w19 ⟨rfl,hw19⟩
 have zw19:=hw19.size
 refine ZM ?_
 refine Za y_extract ?_
 refine Za y_extract ?_
 refine lg_allocw (cs:=CsV.zero.cs Cs.zero) Wn rfl (by kernel_rfl) rfl (by decide) fun b20 w20 n20=>?_
 have r20:=n20.row
 have k20:=n20.blk
 have z20:=n20.size
 have lt20:b20<w20.heap.size:=by omega
 have o21:=r20
 refine lg_stw Wn r20 rfl rfl rfl (by kernel_rfl) (by kernel_rfl) rfl rfl fun w21 s21=>?_
 have r20:=s21.row
 have z21:=s21.size
 refine ZAn [0,2,4,6,7,8] ?_
 refine ZrM ?_
 refine ZM ?_
 refine Zf 16 ?_
 refine Zf 16 ?_
 refine Zf 16 ?_
 refine Zf 16 ?_
 refine Za (y_pick false) ?_
 refine ZAn [0,4,6,7,8] ?_
 refine ZrM ?_
 refine ZM ?_
 have h:=(h.below (n1.below.mono (by omega))).below (hw2.mono (by omega))
 have h:=((h.below (hw19.mono (by omega))).below (n20.below.mono (by omega))).set o21 rfl s21
 refine Zc (putFlag_S false h (by omega) (by first | omega | (simp only [List.length_append,List.length_cons,List.length_nil,numOct_length,flagOct_length];omega))) rfl rfl ?_
 rintro _ w22 ⟨r22,rfl,m22,hw22⟩
 have zw22:=hw22.size
 refine ZAn [4,6,7,8,0] ?_
 refine Qd ?_
 refine ZrM ?_
 refine Zn [4,6,7,0,25] ?_
 refine Zcf [6,0] ?_
 refine ZrM ?_
 refine ZAnr [6] ?_
 have u:=Un (Un u n1.below) hw2
 have u:=Un (Un u hw19) n20.below
 have u:=u.trans (s21.below _ (by omega))
 have u:=Un u hw22
 exact Qa rfl rfl ⟨_,rfl,r22,rfl,(m22.more (by omega)).cast (by rw [ndOnly,if_neg (by omega),if_neg (by omega)]),u⟩
theorem ofLeafN_any {W:World} {B:Nat} (i:Int) {l:NdV} {L:Nd} (hl:IsNd W B l L) (hB:B≤W.heap.size):Calls Tryz.prog 237 #[nv i,.agg (l.cs L)] W fun e W'=>∃ v,e=.returned v∧PutS W (ofLeafO i L) v W':=by
 refine Qf (n:=13) Tryz.func237 rfl Tryz.ntmps237 (by simp) ?_
 show CG _ _ _ [(0,nv i),(1,.agg (l.cs L))] _ _
 have u:=Below.refl W.heap.size W
 refine Zr ?_
 refine lg_boxw Wn rfl rfl (by kernel_rfl) rfl (by decide) fun b1 w1 n1=>?_
 have r1:=n1.row
 have k1:=n1.blk
 have z1:=n1.size
 have lt1:b1<w1.heap.size:=by omega
 refine ZAn [0,3,4] ?_
 refine Zr ?_
 refine Zc (putNum_S 1 1 (Sl.nil _ 0) (by omega) (by first | omega | (simp only [List.length_nil];omega))) rfl rfl ?_
 rintro _ w2 ⟨r2,rfl,m2,hw2⟩
 have zw2:=hw2.size
 rw [List.nil_append] at m2
 have wk2:=widthK_le 1
 refine ZAn [0,3,4,5] ?_
 refine ZrM ?_
 refine ZM ?_
 refine Zc (putNum_S i 4 m2 (by omega) (by first | omega | (simp only [numOct_length];omega))) rfl rfl ?_
 rintro _ w3 ⟨r3,rfl,m3,hw3⟩
 have zw3:=hw3.size
 have wk3:=widthK_le 4
 refine ZAn [3,4,5] ?_
 refine ZrM ?_
 have r1:=RowAt.below hw2 r1.lt r1
 have r1:=RowAt.below hw3 r1.lt r1
 refine Za (y_loadA r1) ?_
 have hl:=((hl.below (n1.below.mono (by omega))).below (hw2.mono (by omega))).below (hw3.mono (by omega))
 refine Zc (putOnlyN_any (m3.more (B':=w3.heap.size) (by omega)) (hl.more (B':=w3.heap.size) (by omega)) (Nat.le_refl _) 1 (by first | omega | (simp only [List.length_append,numOct_length];omega))) rfl rfl ?_
 rintro _ w4 ⟨r4,rfl,m4,hw4⟩
 have zw4:=hw4.size
 have lp4:=ndOnly_le L 1
 refine ZAnr [4] ?_
 have u:=Un (Un u n1.below) hw2
 have u:=Un (Un u hw3) hw4
 exact Qa rfl rfl ⟨_,rfl,r4,rfl,(m4.more (by omega)).cast (by simp only [ofLeafO,List.append_assoc]),u⟩
theorem ofInnerN_any {W:World} {B:Nat} {l:NdV} {L:Nd} {s t:SlV} {xs ys:List Int} (hl:IsNd W B l L) (h:Sl W B s xs) (h2:Sl W B t ys) (hB:B≤W.heap.size) (hx:xs.length≤10000) (hy:ys.length≤10000):Calls Tryz.prog 238 #[.agg (l.cs L),s.v,t.v] W fun e W'=>∃ v,e=.returned v∧PutS W (ofInnerO L xs ys) v W':=by
 refine Qf (n:=18) Tryz.func238 rfl Tryz.ntmps238 (by simp) ?_
 show CG _ _ _ [(0,.agg (l.cs L)),(1,s.v),(2,t.v)] _ _
 have u:=Below.refl W.heap.size W
 refine Zr ?_
 refine lg_boxw Wn rfl rfl (by kernel_rfl) rfl (by decide) fun b1 w1 n1=>?_
 have r1:=n1.row
 have k1:=n1.blk
 have z1:=n1.size
 have lt1:b1<w1.heap.size:=by omega
 refine ZAn [1,2,3,6] ?_
 refine Zr ?_
 refine Zc (putNum_S 2 1 (Sl.nil _ 0) (by omega) (by first | omega | (simp only [List.length_nil];omega))) rfl rfl ?_
 rintro _ w2 ⟨r2,rfl,m2,hw2⟩
 have zw2:=hw2.size
 rw [List.nil_append] at m2
 have wk2:=widthK_le 1
 refine ZAn [1,2,3,6,7] ?_
 refine ZrM ?_
 have r1:=RowAt.below hw2 r1.lt r1
 refine Za (y_loadA r1) ?_
 have hl:=(hl.below (n1.below.mono (by omega))).below (hw2.mono (by omega))
 refine Zc (putOnlyN_any (m2.more (B':=w2.heap.size) (by omega)) (hl.more (B':=w2.heap.size) (by omega)) (Nat.le_refl _) 2 (by first | omega | (simp only [numOct_length];omega))) rfl rfl ?_
 rintro _ w3 ⟨r3,rfl,m3,hw3⟩
 have zw3:=hw3.size
 have lp3:=ndOnly_le L 2
 refine ZAn [1,2,6,7] ?_
 refine ZrM ?_
 refine ZM ?_
 have h:=((h.below (n1.below.mono (by omega))).below (hw2.mono (by omega))).below (hw3.mono (by omega))
 refine Zc (putBytes_S m3 h (by omega) (by omega) (by first | omega | (simp only [List.length_append,numOct_length];omega))) rfl rfl ?_
 rintro _ w4 ⟨r4,rfl,m4,hw4⟩
 have zw4:=hw4.size
 have lb4:=bytesOct_le xs
 refine ZAn [2,6,7] ?_
 refine ZrM ?_
 refine ZM ?_
 have h2:=(h2.below (n1.below.mono (by omega))).below (hw2.mono (by omega))
 have h2:=(h2.below (hw3.mono (by omega))).below (hw4.mono (by omega))
 refine Zc (putBytes_S m4 h2 (by omega) (by omega) (by first | omega | (simp only [List.length_append,numOct_length];omega))) rfl rfl ?_
 rintro _ w5 ⟨r5,rfl,m5,hw5⟩
 have zw5:=hw5.size
 have lb5:=bytesOct_le ys
 refine ZAnr [6] ?_
 have u:=Un (Un u n1.below) hw2
 have u:=Un (Un (Un u hw3) hw4) hw5
 exact Qa rfl rfl ⟨_,rfl,r5,rfl,(m5.more (by omega)).cast (by simp only [ofInnerO,List.append_assoc]),u⟩
theorem ofParentN_any {W:World} {B:Nat} {l:PnV} {L:Pn} {s:SlV} {xs:List Int} (hl:IsPn W B l L) (h:Sl W B s xs) (hB:B≤W.heap.size) (hx:xs.length≤10000) (he:L.enc.length≤10000) (hh:L.hash.length≤10000):Calls Tryz.prog 133 #[.agg (l.cs L),s.v] W fun e W'=>∃ v,e=.returned v∧PutS W (ofParentO L xs) v W':=by
 refine Qf (n:=16) Tryz.func133 rfl Tryz.ntmps133 (by simp) ?_
 show CG _ _ _ [(0,.agg (l.cs L)),(1,s.v)] _ _
 have u:=Below.refl W.heap.size W
 refine Zr ?_
 refine lg_boxw Wn rfl rfl (by kernel_rfl) rfl (by decide) fun b1 w1 n1=>?_
 have r1:=n1.row
 have k1:=n1.blk
 have z1:=n1.size
 have lt1:b1<w1.heap.size:=by omega
 refine ZAn [1,2,4] ?_
 refine Zr ?_
 refine Za (y_fld (off:=0)) ?_
 refine Za (Qo (v:=l.enc.v) r1 rfl (by kernel_rfl) rfl rfl) ?_
 have hl:=hl.below (n1.below.mono (by omega))
 refine Zc (putBytes_S (Sl.nil _ 0) hl.enc (by omega) (by omega) (by first | omega | (simp only [List.length_nil];omega))) rfl rfl ?_
 rintro _ w2 ⟨r2,rfl,m2,hw2⟩
 have zw2:=hw2.size
 rw [List.nil_append] at m2
 have lb2:=bytesOct_le L.enc
 refine ZAn [1,2,4,5] ?_
 refine ZrM ?_
 refine Za (y_fld (off:=1)) ?_
 have r1:=RowAt.below hw2 r1.lt r1
 refine Za (Qo (v:=l.hash.v) r1 rfl (by kernel_rfl) rfl rfl) ?_
 have hl:=hl.below (hw2.mono (by omega))
 refine Zc (putBytes_S m2 hl.hash (by omega) (by omega) (by first | omega | (simp only [List.length_append,List.length_cons,List.length_nil,numOct_length,flagOct_length];omega))) rfl rfl ?_
 rintro _ w3 ⟨r3,rfl,m3,hw3⟩
 have zw3:=hw3.size
 have lb3:=bytesOct_le L.hash
 refine ZAn [1,4,5] ?_
 refine ZrM ?_
 refine ZM ?_
 have h:=((h.below (n1.below.mono (by omega))).below (hw2.mono (by omega))).below (hw3.mono (by omega))
 refine Zc (putBytes_S m3 h (by omega) (by omega) (by first | omega | (simp only [List.length_append];omega))) rfl rfl ?_
 rintro _ w4 ⟨r4,rfl,m4,hw4⟩
 have zw4:=hw4.size
 have lb4:=bytesOct_le xs
 refine ZAnr [4] ?_
 have u:=Un (Un u n1.below) hw2
 have u:=Un (Un u hw3) hw4
 exact Qa rfl rfl ⟨_,rfl,r4,rfl,(m4.more (by omega)).cast (by simp only [ofParentO,List.append_assoc]),u⟩
end
end Go.Proofs.YtfdmhdnlmndhdaaGreatDoor
