/-
  KitP: LfProg, LfGet, LfPut, PnNum, PnProg, NdProg, NdPut.
-/
import Derived.Test.YtognnnjdoemgfaaGreatDoorKitN
namespace Go.Proofs.YtognnnjdoemgfaaGreatDoor
open Go.ChangeShapes Go.WideShapes Go.ChangeAt Go.RowKit
set_option linter.unusedVariables false

/- LfProg:
  leaf.Check and leaf.Same.
-/
theorem large_any {w:World} {B:Nat} {s:SlV} {xs:List Int} (h:Sl w B s xs):Calls Tryz.prog 113 #[s.v] w fun e w'=>e=.returned (.bool (decide (200<(xs.length:Int))))∧w'=w:=by
 refine Qf (n:=6) Tryz.func113 rfl Tryz.ntmps113 (by simp) ?_
 show CG _ _ _ [(0,s.v)] _ _
 refine ZrA ?_
 refine Zn [0,2] ?_
 refine ZrM ?_
 refine Za (y_lenS (el:=5) h) ?_
 refine Za yi_gtr ?_
 refine ZAnr [2] ?_
 exact Qa rfl rfl ⟨rfl,rfl⟩
theorem known_any (n:Int) (w:World):Calls Tryz.prog 114 #[nv n] w fun e w'=>e=.returned (.bool (decide (1≤n∧n≤3)))∧w'=w:=by
 refine Qf (n:=9) Tryz.func114 rfl Tryz.ntmps114 (by simp) ?_
 show CG _ _ _ [(0,nv n)] _ _
 refine ZrA ?_
 refine Zn [0,2] ?_
 refine ZrM ?_
 by_cases c1:1≤n
 ·refine Za (yb (dT c1) yi_geq) ?_
  refine ZM ?_
  refine Zt 5 y_move ?_
  by_cases c2:n≤3
  ·refine Zt 5 (yb (dT c2) yi_leq) ?_
   refine Za (y_pick true) ?_
   refine ZAnr [2] ?_
   exact Qa rfl rfl ⟨congrArg (fun b=>Ending.returned (.bool b)) (show true=decide (1≤n∧n≤3) from (dT (by omega)).symm),rfl⟩
  refine Zt 5 (yb (dF c2) yi_leq) ?_
  refine Za (y_pick true) ?_
  refine ZAnr [2] ?_
  exact Qa rfl rfl ⟨congrArg (fun b=>Ending.returned (.bool b)) (show false=decide (1≤n∧n≤3) from (dF (by omega)).symm),rfl⟩
 refine Za (yb (dF c1) yi_geq) ?_
 refine ZM ?_
 refine Zf 5 ?_
 refine Zf 5 ?_
 refine Za (y_pick false) ?_
 refine ZAnr [2] ?_
 exact Qa rfl rfl ⟨congrArg (fun b=>Ending.returned (.bool b)) (show false=decide (1≤n∧n≤3) from (dF (by omega)).symm),rfl⟩
theorem check_any {W:World} {B:Nat} {l:LfV} {L:Lf} (hl:IsLf W B l L) (hB:B≤W.heap.size):Calls Tryz.prog 76 #[.agg (l.cs L)] W fun e W'=>∃ v,e=.returned v∧v=nv (lfCheck L)∧Below W.heap.size W W':=by
 refine Qf (n:=37) Tryz.func76 rfl Tryz.ntmps76 (by simp) ?_
 show CG _ _ _ [(0,.agg (l.cs L))] _ _
 have u:=Below.refl W.heap.size W
 refine Zr ?_
 refine lg_boxw Wn rfl rfl (by kernel_rfl) rfl (by decide) fun b1 w1 n1=>?_
 have r1:=n1.row
 have k1:=n1.blk
 have z1:=n1.size
 have lt1:b1<w1.heap.size:=by omega
 refine ZAn [1,2] ?_
 refine Qd ?_
 refine Qj ?_
 refine Zr ?_
 refine Za (y_fld (off:=0)) ?_
 refine Za (Qo (v:=l.enc.v) r1 rfl (by kernel_rfl) rfl rfl) ?_
 have hl:=hl.below (n1.below.mono (by omega))
 refine Za (y_lenS (el:=5) hl.enc) ?_
 by_cases c2:(L.enc.length:Int)=0
 ·refine Za (yb (dT c2) yi_eql) ?_
  refine ZAnt [1,2,3] ?_
  refine ZrA ?_
  refine Znr [2] ?_
  refine Qg ?_
  refine Qc ?_
  have u:=Un u n1.below
  exact Qa rfl rfl ⟨_,rfl,congrArg nv (show 5=lfCheck L by unfold lfCheck;(repeat' split)<;>omega),u⟩
 refine Za (yb (dF c2) yi_eql) ?_
 refine ZAn [1,2,3] ?_
 refine cg_cf rfl ?_
 refine Zr ?_
 refine Za (y_fld (off:=0)) ?_
 refine Za (Qo (v:=l.enc.v) r1 rfl (by kernel_rfl) rfl rfl) ?_
 by_cases c3:200<(L.enc.length:Int)
 ·refine Za (yb (dT c3) (Qp (large_any hl.enc))) ?_
  refine ZM ?_
  refine Zf 12 ?_
  refine Zf 12 ?_
  refine Zf 12 ?_
  refine Za (y_pick true) ?_
  refine ZM ?_
  refine Zf 17 ?_
  refine Zf 17 ?_
  refine Zf 17 ?_
  refine Za (y_pick true) ?_
  refine ZAnt [1,2,8] ?_
  refine ZrA ?_
  refine Znr [2] ?_
  refine Qg ?_
  refine Qc ?_
  have u:=Un u n1.below
  exact Qa rfl rfl ⟨_,rfl,congrArg nv (show 4=lfCheck L by unfold lfCheck;(repeat' split)<;>omega),u⟩
 refine Za (yb (dF c3) (Qp (large_any hl.enc))) ?_
 refine ZM ?_
 refine Zt 12 (y_fld (off:=1)) ?_
 refine Zt 12 (Qo (v:=l.cred.v) r1 rfl (by kernel_rfl) rfl rfl) ?_
 by_cases c4:200<(L.cred.length:Int)
 ·refine Zt 12 (yb (dT c4) (Qp (large_any hl.cred))) ?_
  refine Za (y_pick false) ?_
  refine ZM ?_
  refine Zf 17 ?_
  refine Zf 17 ?_
  refine Zf 17 ?_
  refine Za (y_pick true) ?_
  refine ZAnt [1,2,8] ?_
  refine ZrA ?_
  refine Znr [2] ?_
  refine Qg ?_
  refine Qc ?_
  have u:=Un u n1.below
  exact Qa rfl rfl ⟨_,rfl,congrArg nv (show 4=lfCheck L by unfold lfCheck;(repeat' split)<;>omega),u⟩
 refine Zt 12 (yb (dF c4) (Qp (large_any hl.cred))) ?_
 refine Za (y_pick false) ?_
 refine ZM ?_
 refine Zt 17 (y_fld (off:=3)) ?_
 refine Zt 17 (Qo (v:=l.par.v) r1 rfl (by kernel_rfl) rfl rfl) ?_
 by_cases c5:200<(L.par.length:Int)
 ·refine Zt 17 (yb (dT c5) (Qp (large_any hl.par))) ?_
  refine Za (y_pick false) ?_
  refine ZAnt [1,2,8] ?_
  refine ZrA ?_
  refine Znr [2] ?_
  refine Qg ?_
  refine Qc ?_
  have u:=Un u n1.below
  exact Qa rfl rfl ⟨_,rfl,congrArg nv (show 4=lfCheck L by unfold lfCheck;(repeat' split)<;>omega),u⟩
 refine Zt 17 (yb (dF c5) (Qp (large_any hl.par))) ?_
 refine Za (y_pick false) ?_
 refine ZAn [1,2,8] ?_
 refine cg_cf rfl ?_
 refine Zr ?_
 refine Za (y_fld (off:=2)) ?_
 refine Za (Qo (v:=nv L.src) r1 rfl (by kernel_rfl) rfl rfl) ?_
 by_cases c6:1≤L.src∧L.src≤3
 ·refine Za (yb (dT c6) (Qp (known_any L.src _))) ?_
  refine Za y_bnot ?_
  refine ZAn [1,2,22] ?_
  refine cg_cf rfl ?_
  refine Zr ?_
  refine Za (y_fld (off:=3)) ?_
  refine Za (Qo (v:=l.par.v) r1 rfl (by kernel_rfl) rfl rfl) ?_
  refine Za (y_lenS (el:=5) hl.par) ?_
  by_cases c7:0<(L.par.length:Int)
  ·refine Za (yb (dT c7) yi_gtr) ?_
   refine ZM ?_
   refine Zt 32 (y_fld (off:=2)) ?_
   refine Zt 32 (Qo (v:=nv L.src) r1 rfl (by kernel_rfl) rfl rfl) ?_
   by_cases c8:L.src=3
   ·refine Zt 32 (yb (nd_f c8) yi_neq) ?_
    refine Za (y_pick true) ?_
    refine ZAn [2,27] ?_
    refine cg_cf rfl ?_
    refine cg_skip ?_
    refine Qi ?_
    refine Nx [2] ?_
    refine ZrA ?_
    refine Znr [2] ?_
    have u:=Un u n1.below
    exact Qa rfl rfl ⟨_,rfl,congrArg nv (show 0=lfCheck L by unfold lfCheck;(repeat' split)<;>omega),u⟩
   refine Zt 32 (yb (nd_t c8) yi_neq) ?_
   refine Za (y_pick true) ?_
   refine ZAnt [2,27] ?_
   refine ZrA ?_
   refine Znr [2] ?_
   refine Qg ?_
   refine Qc ?_
   have u:=Un u n1.below
   exact Qa rfl rfl ⟨_,rfl,congrArg nv (show 2=lfCheck L by unfold lfCheck;(repeat' split)<;>omega),u⟩
  refine Za (yb (dF c7) yi_gtr) ?_
  refine ZM ?_
  refine Zf 32 ?_
  refine Zf 32 ?_
  refine Zf 32 ?_
  refine Za (y_pick false) ?_
  refine ZAn [2,27] ?_
  refine cg_cf rfl ?_
  refine cg_skip ?_
  refine Qi ?_
  refine Nx [2] ?_
  refine ZrA ?_
  refine Znr [2] ?_
  have u:=Un u n1.below
  exact Qa rfl rfl ⟨_,rfl,congrArg nv (show 0=lfCheck L by unfold lfCheck;(repeat' split)<;>omega),u⟩
 refine Za (yb (dF c6) (Qp (known_any L.src _))) ?_
 refine Za y_bnot ?_
 refine ZAnt [1,2,22] ?_
 refine ZrA ?_
 refine Znr [2] ?_
 refine Qg ?_
 refine Qc ?_
 have u:=Un u n1.below
 exact Qa rfl rfl ⟨_,rfl,congrArg nv (show 7=lfCheck L by unfold lfCheck;(repeat' split)<;>omega),u⟩
theorem same_any {W:World} {B:Nat} {l m:LfV} {L M:Lf} (hl:IsLf W B l L) (hm:IsLf W B m M) (hB:B≤W.heap.size):Calls Tryz.prog 74 #[.agg (l.cs L),.agg (m.cs M)] W fun e W'=>∃ v,e=.returned v∧v=.bool (decide (LfSame L M))∧Below W.heap.size W W':=by
 refine Qf (n:=31) Tryz.func74 rfl Tryz.ntmps74 (by simp) ?_
 show CG _ _ _ [(0,.agg (l.cs L)),(1,.agg (m.cs M))] _ _
 have u:=Below.refl W.heap.size W
 refine Zr ?_
 refine lg_boxw Wn rfl rfl (by kernel_rfl) rfl (by decide) fun b1 w1 n1=>?_
 have r1:=n1.row
 have k1:=n1.blk
 have z1:=n1.size
 have lt1:b1<w1.heap.size:=by omega
 refine lg_boxw Wn rfl rfl (by kernel_rfl) rfl (by decide) fun b2 w2 n2=>?_
 have r2:=n2.row
 have k2:=n2.blk
 have z2:=n2.size
 have lt2:b2<w2.heap.size:=by omega
 refine ZAn [2,3,4] ?_
 refine Zr ?_
 refine Za (y_fld (off:=0)) ?_
 have r1:=n2.keep r1
 refine Za (Qo (v:=l.enc.v) r1 rfl (by kernel_rfl) rfl rfl) ?_
 refine Za (y_fld (off:=0)) ?_
 refine Za (Qo (v:=m.enc.v) r2 rfl (by kernel_rfl) rfl rfl) ?_
 have hl:=(hl.below (n1.below.mono (by omega))).below (n2.below.mono (by omega))
 have hm:=(hm.below (n1.below.mono (by omega))).below (n2.below.mono (by omega))
 by_cases c3:L.enc=M.enc
 ·refine Za (yb (dT c3) (Qp (bytesEq_S hl.enc hm.enc))) ?_
  refine ZM ?_
  refine Zt 10 (y_fld (off:=1)) ?_
  refine Zt 10 (Qo (v:=l.cred.v) r1 rfl (by kernel_rfl) rfl rfl) ?_
  refine Zt 10 (y_fld (off:=1)) ?_
  refine Zt 10 (Qo (v:=m.cred.v) r2 rfl (by kernel_rfl) rfl rfl) ?_
  by_cases c4:L.cred=M.cred
  ·refine Zt 10 (yb (dT c4) (Qp (bytesEq_S hl.cred hm.cred))) ?_
   refine Za (y_pick true) ?_
   refine ZM ?_
   refine Zt 17 (y_fld (off:=2)) ?_
   refine Zt 17 (Qo (v:=nv L.src) r1 rfl (by kernel_rfl) rfl rfl) ?_
   refine Zt 17 (y_fld (off:=2)) ?_
   refine Zt 17 (Qo (v:=nv M.src) r2 rfl (by kernel_rfl) rfl rfl) ?_
   by_cases c5:L.src=M.src
   ·refine Zt 17 (yb (dT c5) yi_eql) ?_
    refine Za (y_pick true) ?_
    refine ZM ?_
    refine Zt 24 (y_fld (off:=3)) ?_
    refine Zt 24 (Qo (v:=l.par.v) r1 rfl (by kernel_rfl) rfl rfl) ?_
    refine Zt 24 (y_fld (off:=3)) ?_
    refine Zt 24 (Qo (v:=m.par.v) r2 rfl (by kernel_rfl) rfl rfl) ?_
    by_cases c6:L.par=M.par
    ·refine Zt 24 (yb (dT c6) (Qp (bytesEq_S hl.par hm.par))) ?_
     refine Za (y_pick true) ?_
     refine ZAnr [4] ?_
     have u:=Un (Un u n1.below) n2.below
     exact Qa rfl rfl ⟨_,rfl,congrArg Value.bool (show true=decide (LfSame L M) from (dT (by simp [LfSame, *])).symm),u⟩
    refine Zt 24 (yb (dF c6) (Qp (bytesEq_S hl.par hm.par))) ?_
    refine Za (y_pick true) ?_
    refine ZAnr [4] ?_
    have u:=Un (Un u n1.below) n2.below
    exact Qa rfl rfl ⟨_,rfl,congrArg Value.bool (show false=decide (LfSame L M) from (dF (by simp [LfSame, *])).symm),u⟩
   refine Zt 17 (yb (dF c5) yi_eql) ?_
   refine Za (y_pick true) ?_
   refine ZM ?_
   refine Zf 24 ?_
   refine Zf 24 ?_
   refine Zf 24 ?_
   refine Zf 24 ?_
   refine Zf 24 ?_
   refine Za (y_pick false) ?_
   refine ZAnr [4] ?_
   have u:=Un (Un u n1.below) n2.below
   exact Qa rfl rfl ⟨_,rfl,congrArg Value.bool (show false=decide (LfSame L M) from (dF (by simp [LfSame, *])).symm),u⟩
  refine Zt 10 (yb (dF c4) (Qp (bytesEq_S hl.cred hm.cred))) ?_
  refine Za (y_pick true) ?_
  refine ZM ?_
  refine Zf 17 ?_
  refine Zf 17 ?_
  refine Zf 17 ?_
  refine Zf 17 ?_
  refine Zf 17 ?_
  refine Za (y_pick false) ?_
  refine ZM ?_
  refine Zf 24 ?_
  refine Zf 24 ?_
  refine Zf 24 ?_
  refine Zf 24 ?_
  refine Zf 24 ?_
  refine Za (y_pick false) ?_
  refine ZAnr [4] ?_
  have u:=Un (Un u n1.below) n2.below
  exact Qa rfl rfl ⟨_,rfl,congrArg Value.bool (show false=decide (LfSame L M) from (dF (by simp [LfSame, *])).symm),u⟩
 refine Za (yb (dF c3) (Qp (bytesEq_S hl.enc hm.enc))) ?_
 refine ZM ?_
 refine Zf 10 ?_
 refine Zf 10 ?_
 refine Zf 10 ?_
 refine Zf 10 ?_
 refine Zf 10 ?_
 refine Za (y_pick false) ?_
 refine ZM ?_
 refine Zf 17 ?_
 refine Zf 17 ?_
 refine Zf 17 ?_
 refine Zf 17 ?_
 refine Zf 17 ?_
 refine Za (y_pick false) ?_
 refine ZM ?_
 refine Zf 24 ?_
 refine Zf 24 ?_
 refine Zf 24 ?_
 refine Zf 24 ?_
 refine Zf 24 ?_
 refine Za (y_pick false) ?_
 refine ZAnr [4] ?_
 have u:=Un (Un u n1.below) n2.below
 exact Qa rfl rfl ⟨_,rfl,congrArg Value.bool (show false=decide (LfSame L M) from (dF (by simp [LfSame, *])).symm),u⟩
/- LfGet:
  leaf.Get, and its closures.
-/
theorem clB_any {W:World} {B be br:Nat} {te tr:TypeId} {s:SlV} {xs:List Int} {e:Int} (re:RowAt W be te #[nv e]) (rr:RowAt W br tr #[s.v]) (hs:Sl W B s xs) (h1:B≤be) (h2:B≤br) (hB:B≤W.heap.size) (hne:be≠br):Calls Tryz.prog 144 #[pv be 0,pv br 0] W fun e' W'=>∃ v,e'=.returned v∧∃ p r:SlV,v=p.v∧Sl W' B p (stepB xs e).1∧Sl W' B r (stepB xs e).2.1∧RowAt W' be te #[nv (stepB xs e).2.2]∧RowAt W' br tr #[r.v]∧But2 W W' be br:=by
 refine Qf (n:=13) Tryz.func144 rfl Tryz.ntmps144 (by simp) ?_
 show CG _ _ _ [(0,pv be 0),(1,pv br 0)] _ _
 have u:=Below.refl W.heap.size W
 have lbe:=re.lt
 have lbr:=rr.lt
 have bu:=But2.refl (w:=W) be br
 refine ZrA ?_
 refine Zn [0,1,2] ?_
 refine ZrA ?_
 refine Zn [0,1,2,3] ?_
 refine Qd ?_
 refine Zr ?_
 refine Za (Qo (v:=nv e) re rfl (by kernel_rfl) rfl rfl) ?_
 by_cases c1:e=0
 ·refine Zan (yb (dT c1) yi_eql) [0,1,2,3,5] ?_
  refine cg_ct rfl ?_
  refine Qe ?_
  refine Za (Qo (v:=s.v) rr rfl (by kernel_rfl) rfl rfl) ?_
  refine Zc (getBytes_S hs (by omega)) rfl rfl ?_
  rintro _ w2 ⟨p2,r2,rfl,m2,l2,hw2⟩
  have zw2:=hw2.size
  refine ZM ?_
  refine Za y_extract ?_
  refine Za y_extract ?_
  refine Za y_extract ?_
  refine ZA ?_
  have rr:=RowAt.below hw2 rr.lt rr
  have o3:=rr
  refine lg_sts rr rfl rfl (by kernel_rfl) Wn rfl rfl rfl rfl fun w3 s3=>?_
  have rr:=s3.row
  have z3:=s3.size
  have re:=RowAt.below hw2 re.lt re
  have re:=s3.keep re (by omega)
  have o4:=re
  refine lg_sts re rfl rfl (by kernel_rfl) Wn rfl rfl rfl rfl fun w4 s4=>?_
  have re:=s4.row
  have z4:=s4.size
  refine Zn [2,3] ?_
  refine ZrM ?_
  refine ZAnr [2] ?_
  have hst:stepB xs e=((bytesP xs),(bytesR xs),(bytesE xs)):=by simp [stepB,c1]
  refine Qa rfl rfl ?_
  rw [hst]
  have m2:=(m2.set o3 rfl s3).set o4 rfl s4
  have l2:=(l2.set o3 rfl s3).set o4 rfl s4
  have rr:=s4.keep rr (by omega)
  have bu:=((bu.grow hw2).set s3 (by omega)).set s4 (by omega)
  exact ⟨_,rfl,p2,r2,rfl,m2,l2,re,rr,bu⟩
 refine Zan (yb (dF c1) yi_eql) [0,1,2,3,5] ?_
 refine Zcf [2,3] ?_
 refine ZrM ?_
 refine ZAnr [2] ?_
 have hst:stepB xs e=([],xs,e):=by simp [stepB,c1]
 refine Qa rfl rfl ?_
 rw [hst]
 exact ⟨_,rfl,nilS,s,rfl,(Sl.nil _ _),hs,re,rr,bu⟩
theorem clN_any {W:World} {B be br:Nat} {te tr:TypeId} {s:SlV} {xs:List Int} {e:Int} (re:RowAt W be te #[nv e]) (rr:RowAt W br tr #[s.v]) (hs:Sl W B s xs) (h1:B≤be) (h2:B≤br) (hB:B≤W.heap.size) (hne:be≠br):Calls Tryz.prog 145 #[pv be 0,pv br 0] W fun e' W'=>∃ v,e'=.returned v∧∃ r:SlV,v=nv (stepN xs e).1∧Sl W' B r (stepN xs e).2.1∧RowAt W' be te #[nv (stepN xs e).2.2]∧RowAt W' br tr #[r.v]∧But2 W W' be br:=by
 refine Qf (n:=20) Tryz.func145 rfl Tryz.ntmps145 (by simp) ?_
 show CG _ _ _ [(0,pv be 0),(1,pv br 0)] _ _
 have u:=Below.refl W.heap.size W
 have lbe:=re.lt
 have lbr:=rr.lt
 have bu:=But2.refl (w:=W) be br
 refine ZrA ?_
 refine Zn [0,1,2] ?_
 refine ZrA ?_
 refine Zn [0,1,2,3] ?_
 refine Qd ?_
 refine Zr ?_
 refine Za (Qo (v:=nv e) re rfl (by kernel_rfl) rfl rfl) ?_
 by_cases c1:e=0
 ·refine Zan (yb (dT c1) yi_eql) [0,1,2,3,5] ?_
  refine cg_ct rfl ?_
  refine Qe ?_
  refine Za (Qo (v:=s.v) rr rfl (by kernel_rfl) rfl rfl) ?_
  refine Zc (getNum_S 1 hs (by omega)) rfl rfl ?_
  rintro _ w2 ⟨r2,rfl,l2,hw2⟩
  have zw2:=hw2.size
  refine ZM ?_
  refine Za y_extract ?_
  refine Za y_extract ?_
  refine Za y_extract ?_
  refine ZA ?_
  have rr:=RowAt.below hw2 rr.lt rr
  have o3:=rr
  refine lg_sts rr rfl rfl (by kernel_rfl) Wn rfl rfl rfl rfl fun w3 s3=>?_
  have rr:=s3.row
  have z3:=s3.size
  have re:=RowAt.below hw2 re.lt re
  have re:=s3.keep re (by omega)
  have o4:=re
  refine lg_sts re rfl rfl (by kernel_rfl) Wn rfl rfl rfl rfl fun w4 s4=>?_
  have re:=s4.row
  have z4:=s4.size
  refine Zn [0,2,3] ?_
  refine Qd ?_
  refine Zr ?_
  refine Za (Qo (v:=nv (numE xs 1)) re rfl (by kernel_rfl) rfl rfl) ?_
  by_cases c5:(numE xs 1)=0
  ·refine Za (yb (dT c5) yi_eql) ?_
   refine ZM ?_
   refine Zt 14 y_move ?_
   by_cases c6:1≤(numM xs 1)∧(numM xs 1)≤3
   ·refine Zt 14 (yb (dT c6) (Qp (known_any (numM xs 1) _))) ?_
    refine Zt 14 y_bnot ?_
    refine Zan (y_pick true) [0,2,3,18] ?_
    refine Zcf [2,3] ?_
    refine ZrM ?_
    refine ZAnr [2] ?_
    have hst:stepN xs e=((numM xs 1),(numR xs 1),(numE xs 1)):=by simp [stepN,c1,c5,c6]
    refine Qa rfl rfl ?_
    rw [hst]
    have l2:=(l2.set o3 rfl s3).set o4 rfl s4
    have rr:=s4.keep rr (by omega)
    have bu:=((bu.grow hw2).set s3 (by omega)).set s4 (by omega)
    exact ⟨_,rfl,r2,rfl,l2,re,rr,bu⟩
   refine Zt 14 (yb (dF c6) (Qp (known_any (numM xs 1) _))) ?_
   refine Zt 14 y_bnot ?_
   refine Zan (y_pick true) [0,2,3,18] ?_
   refine cg_ct rfl ?_
   refine Qe ?_
   have o7:=re
   refine lg_sts re rfl rfl (by kernel_rfl) Wn rfl rfl rfl rfl fun w7 s7=>?_
   have re:=s7.row
   have z7:=s7.size
   refine Zn [2,3] ?_
   refine ZrM ?_
   refine ZAnr [2] ?_
   have hst:stepN xs e=((numM xs 1),(numR xs 1),7):=by simp [stepN,c1,c5,c6]
   refine Qa rfl rfl ?_
   rw [hst]
   have l2:=((l2.set o3 rfl s3).set o4 rfl s4).set o7 rfl s7
   have rr:=s4.keep rr (by omega)
   have rr:=s7.keep rr (by omega)
   have bu:=(bu.grow hw2).set s3 (by omega)
   have bu:=(bu.set s4 (by omega)).set s7 (by omega)
   exact ⟨_,rfl,r2,rfl,l2,re,rr,bu⟩
  refine Za (yb (dF c5) yi_eql) ?_
  refine ZM ?_
  refine Zf 14 ?_
  refine Zf 14 ?_
  refine Zf 14 ?_
  refine Zan (y_pick false) [0,2,3,18] ?_
  refine Zcf [2,3] ?_
  refine ZrM ?_
  refine ZAnr [2] ?_
  have hst:stepN xs e=((numM xs 1),(numR xs 1),(numE xs 1)):=by simp [stepN,c1,c5]
  refine Qa rfl rfl ?_
  rw [hst]
  have l2:=(l2.set o3 rfl s3).set o4 rfl s4
  have rr:=s4.keep rr (by omega)
  have bu:=((bu.grow hw2).set s3 (by omega)).set s4 (by omega)
  exact ⟨_,rfl,r2,rfl,l2,re,rr,bu⟩
 refine Zan (yb (dF c1) yi_eql) [0,1,2,3,5] ?_
 refine Zcf [0,2,3] ?_
 refine Qd ?_
 refine Zr ?_
 refine Za (Qo (v:=nv e) re rfl (by kernel_rfl) rfl rfl) ?_
 refine Za (yb (dF c1) yi_eql) ?_
 refine ZM ?_
 refine Zf 14 ?_
 refine Zf 14 ?_
 refine Zf 14 ?_
 refine Zan (y_pick false) [0,2,3,18] ?_
 refine Zcf [2,3] ?_
 refine ZrM ?_
 refine ZAnr [2] ?_
 have hst:stepN xs e=(0,xs,e):=by simp [stepN,c1]
 refine Qa rfl rfl ?_
 rw [hst]
 exact ⟨_,rfl,s,rfl,hs,re,rr,bu⟩
set_option maxHeartbeats 2000000 in
theorem getL_any {W:World} {B:Nat} {s:SlV} {xs:List Int} (h:Sl W B s xs) (hB:B≤W.heap.size):Calls Tryz.prog 132 #[s.v] W fun e W'=>∃ v,e=.returned v∧∃ (l:LfV) (r:SlV),v=.tuple #[.agg (l.cs (lfGet xs).2.1),r.v,nv (lfGet xs).1]∧IsLf W' B l (lfGet xs).2.1∧Sl W' B r (lfGet xs).2.2∧Below W.heap.size W W':=by
 refine Qf (n:=38) Tryz.func132 rfl Tryz.ntmps132 (by simp) ?_
 show CG _ _ _ [(0,s.v)] _ _
 have u:=Below.refl W.heap.size W
 refine Zr ?_
 refine lg_allocw (cs:=LfV.zero.cs Lf.zero) Wn rfl (by kernel_rfl) rfl (by decide) fun b1 w1 n1=>?_
 have r1:=n1.row
 have k1:=n1.blk
 have z1:=n1.size
 have lt1:b1<w1.heap.size:=by omega
 refine ZA ?_
 refine ZAn [0,2,3,4] ?_
 refine ZrM ?_
 refine lg_allocs (u:=nilS.v) (by kernel_rfl) rfl Wn rfl rfl (by decide) fun b2 w2 n2=>?_
 have r2:=n2.row
 have k2:=n2.blk
 have z2:=n2.size
 have lt2:b2<w2.heap.size:=by omega
 refine lg_allocs (u:=nv 0) (by kernel_rfl) rfl Wn rfl rfl (by decide) fun b3 w3 n3=>?_
 have r3:=n3.row
 have k3:=n3.blk
 have z3:=n3.size
 have lt3:b3<w3.heap.size:=by omega
 have r2:=n3.keep r2
 have o4:=r2
 refine lg_sts r2 rfl rfl (by kernel_rfl) Wn rfl rfl rfl rfl fun w4 s4=>?_
 have r2:=s4.row
 have z4:=s4.size
 have r3:=s4.keep r3 (by omega)
 have o5:=r3
 refine lg_sts r3 rfl rfl (by kernel_rfl) Wn rfl rfl rfl rfl fun w5 s5=>?_
 have r3:=s5.row
 have z5:=s5.size
 refine Zn [2,3,4,5,6] ?_
 refine Zr ?_
 refine Za (y_mkf (xs:=[]) (ys:=[.tmp 6,.tmp 5])) ?_
 refine ZAn [2,3,4,5,6,7] ?_
 refine Zr ?_
 refine Za (y_mkf (xs:=[]) (ys:=[.tmp 6,.tmp 5])) ?_
 refine ZAn [2,3,4,5,6,7,8] ?_
 refine Zr ?_
 refine lg_allocw (cs:=LfV.zero.cs Lf.zero) Wn rfl (by kernel_rfl) rfl (by decide) fun b6 w6 n6=>?_
 have r6:=n6.row
 have k6:=n6.blk
 have z6:=n6.size
 have lt6:b6<w6.heap.size:=by omega
 refine Zn [2,3,4,5,6,7,8,9] ?_
 refine ZrM ?_
 have r3:=n6.keep r3
 have r2:=s5.keep r2 (by omega)
 have r2:=n6.keep r2
 have h:=(h.below (n1.below.mono (by omega))).below (n2.below.mono (by omega))
 have h:=(h.below (n3.below.mono (by omega))).set o4 rfl s4
 have h:=(h.set o5 rfl s5).below (n6.below.mono (by omega))
 refine lg_callv (fs:=[]) (vs:=[]) (us:=[pv b3 0,pv b2 0]) Wn (clB_any r3 r2 h (by omega) (by omega) (by omega) (by omega)) (by kernel_rfl) rfl rfl rfl rfl (by decide) ?_
 rintro _ w7 ⟨p7,r7,rfl,m7,l7,x7,y7,hw7⟩
 have zw7:=hw7.size
 rw [show stepB xs 0=gA xs from rfl] at m7 l7 x7
 have r3:=x7
 have r2:=y7
 refine Za (y_fld (off:=0)) ?_
 have r6:=hw7.keep r6 (by omega) (by omega)
 have o8:=r6
 refine lg_st1 (new:=#[p7.v,LfV.zero.cred.v,nv Lf.zero.src,LfV.zero.par.v]) Wn r6 rfl rfl rfl (by kernel_rfl) rfl (show 0<4 by decide) rfl rfl fun w8 s8=>?_
 have r6:=s8.row
 have z8:=s8.size
 refine Zn [2,3,4,5,6,7,8,9] ?_
 refine ZrM ?_
 have r3:=s8.keep r3 (by omega)
 have r2:=s8.keep r2 (by omega)
 have l7:=l7.set o8 rfl s8
 refine lg_callv (fs:=[]) (vs:=[]) (us:=[pv b3 0,pv b2 0]) Wn (clB_any r3 r2 l7 (by omega) (by omega) (by omega) (by omega)) (by kernel_rfl) rfl rfl rfl rfl (by decide) ?_
 rintro _ w9 ⟨p9,r9,rfl,m9,l9,x9,y9,hw9⟩
 have zw9:=hw9.size
 rw [show stepB ((gA xs).2.1) ((gA xs).2.2)=gB xs from rfl] at m9 l9 x9
 have r3:=x9
 have r2:=y9
 refine Za (y_fld (off:=1)) ?_
 have r6:=hw9.keep r6 (by omega) (by omega)
 have o10:=r6
 refine lg_st1 (new:=#[p7.v,p9.v,nv Lf.zero.src,LfV.zero.par.v]) Wn r6 rfl rfl rfl (by kernel_rfl) rfl (show 1<4 by decide) rfl rfl fun w10 s10=>?_
 have r6:=s10.row
 have z10:=s10.size
 refine Zn [2,3,4,5,6,7,8,9] ?_
 refine ZrM ?_
 have r3:=s10.keep r3 (by omega)
 have r2:=s10.keep r2 (by omega)
 have l9:=l9.set o10 rfl s10
 refine lg_callv (fs:=[]) (vs:=[]) (us:=[pv b3 0,pv b2 0]) Wn (clN_any r3 r2 l9 (by omega) (by omega) (by omega) (by omega)) (by kernel_rfl) rfl rfl rfl rfl (by decide) ?_
 rintro _ w11 ⟨r11,rfl,l11,x11,y11,hw11⟩
 have zw11:=hw11.size
 rw [show stepN ((gB xs).2.1) ((gB xs).2.2)=gC xs from rfl] at l11 x11
 have r3:=x11
 have r2:=y11
 refine Za (y_fld (off:=2)) ?_
 have r6:=hw11.keep r6 (by omega) (by omega)
 have o12:=r6
 refine lg_st1 (new:=#[p7.v,p9.v,nv ((gC xs).1),LfV.zero.par.v]) Wn r6 rfl rfl rfl (by kernel_rfl) rfl (show 2<4 by decide) rfl rfl fun w12 s12=>?_
 have r6:=s12.row
 have z12:=s12.size
 refine Zn [2,3,4,5,6,7,9] ?_
 refine Qd ?_
 refine Zr ?_
 refine Za (y_fld (off:=2)) ?_
 refine Za (Qo (v:=nv ((gC xs).1)) r6 rfl (by kernel_rfl) rfl rfl) ?_
 by_cases c13:(gC xs).1=3
 ·refine Zan (yb (dT c13) yi_eql) [2,3,4,5,6,7,9,24] ?_
  refine cg_ct rfl ?_
  refine Qe ?_
  refine ZM ?_
  have r3:=s12.keep r3 (by omega)
  have r2:=s12.keep r2 (by omega)
  have l11:=l11.set o12 rfl s12
  refine lg_callv (fs:=[]) (vs:=[]) (us:=[pv b3 0,pv b2 0]) Wn (clB_any r3 r2 l11 (by omega) (by omega) (by omega) (by omega)) (by kernel_rfl) rfl rfl rfl rfl (by decide) ?_
  rintro _ w14 ⟨p14,r14,rfl,m14,l14,x14,y14,hw14⟩
  have zw14:=hw14.size
  rw [show stepB ((gC xs).2.1) ((gC xs).2.2)=gD xs from rfl] at m14 l14 x14
  have r3:=x14
  have r2:=y14
  refine Za (y_fld (off:=3)) ?_
  have r6:=hw14.keep r6 (by omega) (by omega)
  have o15:=r6
  refine lg_st1 (new:=#[p7.v,p9.v,nv ((gC xs).1),p14.v]) Wn r6 rfl rfl rfl (by kernel_rfl) rfl (show 3<4 by decide) rfl rfl fun w15 s15=>?_
  have r6:=s15.row
  have z15:=s15.size
  refine Zn [2,3,4,5,6,9] ?_
  refine Qd ?_
  refine Zr ?_
  have r3:=s15.keep r3 (by omega)
  refine Za (Qo (v:=nv ((gD xs).2.2)) r3 rfl (by kernel_rfl) rfl rfl) ?_
  by_cases c16:(gD xs).2.2=0
  ·refine Zan (yb (dT c16) yi_eql) [2,3,4,5,6,9,29] ?_
   refine cg_ct rfl ?_
   refine Qe ?_
   refine Za (y_loadA r6) ?_
   have m7:=(m7.set o8 rfl s8).below (hw9.below _ (by omega) (by omega) (by omega))
   have m7:=(m7.set o10 rfl s10).below (hw11.below _ (by omega) (by omega) (by omega))
   have m7:=((m7.set o12 rfl s12).below (hw14.below _ (by omega) (by omega) (by omega))).set o15 rfl s15
   have m9:=(m9.set o10 rfl s10).below (hw11.below _ (by omega) (by omega) (by omega))
   have m9:=((m9.set o12 rfl s12).below (hw14.below _ (by omega) (by omega) (by omega))).set o15 rfl s15
   have m14:=m14.set o15 rfl s15
   refine Zc (check_any (show IsLf w15 w15.heap.size (⟨p7,p9,p14⟩:LfV) (⟨(gA xs).1,(gB xs).1,(gC xs).1,(gD xs).1⟩:Lf) from ⟨m7.more (by omega),m9.more (by omega),m14.more (by omega)⟩) (Nat.le_refl _)) rfl rfl ?_
   rintro _ w17 ⟨rfl,hw17⟩
   have zw17:=hw17.size
   have r3:=RowAt.below hw17 r3.lt r3
   have o18:=r3
   refine lg_sts r3 rfl rfl (by kernel_rfl) Wn rfl rfl rfl rfl fun w18 s18=>?_
   have r3:=s18.row
   have z18:=s18.size
   refine Zn [2,3,4,5,6,9] ?_
   refine Qd ?_
   refine Zr ?_
   refine Za (Qo (v:=nv (lfCheck (⟨(gA xs).1,(gB xs).1,(gC xs).1,(gD xs).1⟩:Lf))) r3 rfl (by kernel_rfl) rfl rfl) ?_
   by_cases c19:(lfCheck (⟨(gA xs).1,(gB xs).1,(gC xs).1,(gD xs).1⟩:Lf))=0
   ·refine Zan (yb (nd_f c19) yi_neq) [2,3,4,5,6,9,33] ?_
    refine Zcf [2,3,4,5,9] ?_
    refine Qd ?_
    refine cg_heldS (fun q=>RowAt q b2 23 #[r14.v]∧RowAt q b6 36 #[p7.v,p9.v,nv ((gC xs).1),p14.v]) (by kernel_rfl) (fun W20 eW20=>?_) fun W20 eW20=>?_
    ·have dW20:=below_drew _ _ eW20
     have r2:=s15.keep r2 (by omega)
     have r2:=RowAt.below hw17 r2.lt r2
     have r2:=s18.keep r2 (by omega)
     have r2:=RowAt.below dW20 r2.lt r2
     have r6:=RowAt.below hw17 r6.lt r6
     have r6:=s18.keep r6 (by omega)
     have r6:=RowAt.below dW20 r6.lt r6
     exact ⟨r2,r6⟩
    have dW20:=below_drew _ _ eW20
    have zW20:=size_drew _ _ eW20
    clear eW20
    have r2:=s15.keep r2 (by omega)
    have r2:=RowAt.below hw17 r2.lt r2
    have r2:=s18.keep r2 (by omega)
    have r2:=RowAt.below dW20 r2.lt r2
    have r6:=RowAt.below hw17 r6.lt r6
    have r6:=s18.keep r6 (by omega)
    have r6:=RowAt.below dW20 r6.lt r6
    refine hgs_take 0 (by rfl) Wn (by rfl) rfl (by decide) (by kernel_rfl) (by kernel_rfl) (by kernel_rfl) (fun _ _ _ h=>h) ⟨r2,r6⟩ (fun q hq=>y_loadA hq.2 (by kernel_rfl) (by kernel_rfl) rfl rfl) ?_
    refine hgs_take 1 (by rfl) Wn (by rfl) rfl (by decide) (by kernel_rfl) (by kernel_rfl) (by kernel_rfl) (fun _ _ _ h=>h) ⟨r2,r6⟩ (fun q hq=>Qo (v:=r14.v) hq.1 rfl (by kernel_rfl) rfl rfl) ?_
    refine hgs_one 2 (by rfl) (by kernel_rfl) Wn ?_
    have r1:=n2.keep r1
    have r1:=n3.keep r1
    have r1:=s4.keep r1 (by omega)
    have r1:=s5.keep r1 (by omega)
    have r1:=n6.keep r1
    have r1:=hw7.keep r1 (by omega) (by omega)
    have r1:=s8.keep r1 (by omega)
    have r1:=hw9.keep r1 (by omega) (by omega)
    have r1:=s10.keep r1 (by omega)
    have r1:=hw11.keep r1 (by omega) (by omega)
    have r1:=s12.keep r1 (by omega)
    have r1:=hw14.keep r1 (by omega) (by omega)
    have r1:=s15.keep r1 (by omega)
    have r1:=RowAt.below hw17 r1.lt r1
    have r1:=s18.keep r1 (by omega)
    have r1:=RowAt.below dW20 r1.lt r1
    have o21:=r1
    refine lg_stw Wn r1 rfl rfl rfl (by kernel_rfl) (by kernel_rfl) rfl rfl fun w21 s21=>?_
    have r1:=s21.row
    have z21:=s21.size
    have r2:=s21.keep r2 (by omega)
    have r6:=s21.keep r6 (by omega)
    refine hgs_next ⟨r2,r6⟩ ?_
    refine hgs_take 3 (by rfl) Wn (by rfl) rfl (by decide) (by kernel_rfl) (by kernel_rfl) (by kernel_rfl) (fun _ _ _ h=>h) ⟨r2,r6⟩ (fun q hq=>y_assign rfl rfl) ?_
    refine hgs_take 4 (by rfl) Wn (by rfl) rfl (by decide) (by kernel_rfl) (by kernel_rfl) (by kernel_rfl) (fun _ _ _ h=>h) ⟨r2,r6⟩ (fun q hq=>y_assign rfl rfl) ?_
    refine hgs_done (by kernel_rfl) ?_
    refine Nx [2,3,4] ?_
    refine cg_ret ?_
    have hst:lfGet xs=(0,(⟨(gA xs).1,(gB xs).1,(gC xs).1,(gD xs).1⟩:Lf),(gD xs).2.1):=(lfGet_steps xs).trans ((if_pos c13).trans ((if_pos c16).trans (if_pos c19)))
    refine eg_ret_agg3 rfl rfl r1 (by kernel_rfl) (by kernel_rfl) rfl rfl ?_
    rw [hst]
    have m7:=(m7.below (hw17.mono (by omega))).set o18 rfl s18
    have m7:=(m7.below (dW20.mono (by omega))).set o21 rfl s21
    have m9:=(m9.below (hw17.mono (by omega))).set o18 rfl s18
    have m9:=(m9.below (dW20.mono (by omega))).set o21 rfl s21
    have m14:=(m14.below (hw17.mono (by omega))).set o18 rfl s18
    have m14:=(m14.below (dW20.mono (by omega))).set o21 rfl s21
    have l14:=(l14.set o15 rfl s15).below (hw17.mono (by omega))
    have l14:=((l14.set o18 rfl s18).below (dW20.mono (by omega))).set o21 rfl s21
    have u:=Un (Un (Un u n1.below) n2.below) n3.below
    have u:=(u.trans (s4.below _ (by omega))).trans (s5.below _ (by omega))
    have u:=Un u n6.below
    have u:=(u.trans (hw7.below _ (by omega) (by omega) (by omega))).trans (s8.below _ (by omega))
    have u:=(u.trans (hw9.below _ (by omega) (by omega) (by omega))).trans (s10.below _ (by omega))
    have u:=(u.trans (hw11.below _ (by omega) (by omega) (by omega))).trans (s12.below _ (by omega))
    have u:=(u.trans (hw14.below _ (by omega) (by omega) (by omega))).trans (s15.below _ (by omega))
    have u:=Un u hw17
    have u:=u.trans (s18.below _ (by omega))
    have u:=Un u dW20
    have u:=u.trans (s21.below _ (by omega))
    exact ⟨_,rfl,(⟨p7,p9,p14⟩:LfV),r14,rfl,⟨m7,m9,m14⟩,l14,u⟩
   refine Zan (yb (nd_t c19) yi_neq) [2,3,4,5,6,9,33] ?_
   refine cg_ct rfl ?_
   refine Qd ?_
   refine cg_heldS (fun q=>RowAt q b3 26 #[nv (lfCheck (⟨(gA xs).1,(gB xs).1,(gC xs).1,(gD xs).1⟩:Lf))]) (by kernel_rfl) (fun W22 eW22=>?_) fun W22 eW22=>?_
   ·have dW22:=below_drew _ _ eW22
    have r3:=RowAt.below dW22 r3.lt r3
    exact r3
   have dW22:=below_drew _ _ eW22
   have zW22:=size_drew _ _ eW22
   clear eW22
   have r3:=RowAt.below dW22 r3.lt r3
   refine hgs_take 0 (by rfl) Wn (by rfl) rfl (by decide) (by kernel_rfl) (by kernel_rfl) (by kernel_rfl) (fun _ _ _ h=>h) r3 (fun q hq=>y_build (cs:=LfV.zero.cs Lf.zero) rfl rfl (by kernel_rfl)) ?_
   refine hgs_take 1 (by rfl) Wn (by rfl) rfl (by decide) (by kernel_rfl) (by kernel_rfl) (by kernel_rfl) (fun _ _ _ h=>h) r3 (fun q hq=>Qo (v:=nv (lfCheck (⟨(gA xs).1,(gB xs).1,(gC xs).1,(gD xs).1⟩:Lf))) hq rfl (by kernel_rfl) rfl rfl) ?_
   refine hgs_one 2 (by rfl) (by kernel_rfl) Wn ?_
   have r1:=n2.keep r1
   have r1:=n3.keep r1
   have r1:=s4.keep r1 (by omega)
   have r1:=s5.keep r1 (by omega)
   have r1:=n6.keep r1
   have r1:=hw7.keep r1 (by omega) (by omega)
   have r1:=s8.keep r1 (by omega)
   have r1:=hw9.keep r1 (by omega) (by omega)
   have r1:=s10.keep r1 (by omega)
   have r1:=hw11.keep r1 (by omega) (by omega)
   have r1:=s12.keep r1 (by omega)
   have r1:=hw14.keep r1 (by omega) (by omega)
   have r1:=s15.keep r1 (by omega)
   have r1:=RowAt.below hw17 r1.lt r1
   have r1:=s18.keep r1 (by omega)
   have r1:=RowAt.below dW22 r1.lt r1
   have o23:=r1
   refine lg_stw Wn r1 rfl rfl rfl (by kernel_rfl) (by kernel_rfl) rfl rfl fun w23 s23=>?_
   have r1:=s23.row
   have z23:=s23.size
   have r3:=s23.keep r3 (by omega)
   refine hgs_next r3 ?_
   refine hgs_take 3 (by rfl) Wn (by rfl) rfl (by decide) (by kernel_rfl) (by kernel_rfl) (by kernel_rfl) (fun _ _ _ h=>h) r3 (fun q hq=>y_assign rfl rfl) ?_
   refine hgs_take 4 (by rfl) Wn (by rfl) rfl (by decide) (by kernel_rfl) (by kernel_rfl) (by kernel_rfl) (fun _ _ _ h=>h) r3 (fun q hq=>y_assign rfl rfl) ?_
   refine hgs_done (by kernel_rfl) ?_
   refine Nx [2,5,9,3,4] ?_
   refine cg_ret ?_
   refine Qc ?_
   have hst:lfGet xs=((lfCheck (⟨(gA xs).1,(gB xs).1,(gC xs).1,(gD xs).1⟩:Lf)),Lf.zero,[]):=(lfGet_steps xs).trans ((if_pos c13).trans ((if_pos c16).trans (if_neg c19)))
   refine eg_ret_agg3 rfl rfl r1 (by kernel_rfl) (by kernel_rfl) rfl rfl ?_
   rw [hst]
   have u:=Un (Un (Un u n1.below) n2.below) n3.below
   have u:=(u.trans (s4.below _ (by omega))).trans (s5.below _ (by omega))
   have u:=Un u n6.below
   have u:=(u.trans (hw7.below _ (by omega) (by omega) (by omega))).trans (s8.below _ (by omega))
   have u:=(u.trans (hw9.below _ (by omega) (by omega) (by omega))).trans (s10.below _ (by omega))
   have u:=(u.trans (hw11.below _ (by omega) (by omega) (by omega))).trans (s12.below _ (by omega))
   have u:=(u.trans (hw14.below _ (by omega) (by omega) (by omega))).trans (s15.below _ (by omega))
   have u:=Un u hw17
   have u:=u.trans (s18.below _ (by omega))
   have u:=Un u dW22
   have u:=u.trans (s23.below _ (by omega))
   exact ⟨_,rfl,LfV.zero,nilS,rfl,(IsLf.zero _ _),(Sl.nil _ _),u⟩
  refine Zan (yb (dF c16) yi_eql) [2,3,4,5,6,9,29] ?_
  refine Zcf [2,3,4,5,6,9] ?_
  refine Qd ?_
  refine Zr ?_
  refine Za (Qo (v:=nv ((gD xs).2.2)) r3 rfl (by kernel_rfl) rfl rfl) ?_
  refine Zan (yb (nd_t c16) yi_neq) [2,3,4,5,6,9,33] ?_
  refine cg_ct rfl ?_
  refine Qd ?_
  refine cg_heldS (fun q=>RowAt q b3 26 #[nv ((gD xs).2.2)]) (by kernel_rfl) (fun W24 eW24=>?_) fun W24 eW24=>?_
  ·have dW24:=below_drew _ _ eW24
   have r3:=RowAt.below dW24 r3.lt r3
   exact r3
  have dW24:=below_drew _ _ eW24
  have zW24:=size_drew _ _ eW24
  clear eW24
  have r3:=RowAt.below dW24 r3.lt r3
  refine hgs_take 0 (by rfl) Wn (by rfl) rfl (by decide) (by kernel_rfl) (by kernel_rfl) (by kernel_rfl) (fun _ _ _ h=>h) r3 (fun q hq=>y_build (cs:=LfV.zero.cs Lf.zero) rfl rfl (by kernel_rfl)) ?_
  refine hgs_take 1 (by rfl) Wn (by rfl) rfl (by decide) (by kernel_rfl) (by kernel_rfl) (by kernel_rfl) (fun _ _ _ h=>h) r3 (fun q hq=>Qo (v:=nv ((gD xs).2.2)) hq rfl (by kernel_rfl) rfl rfl) ?_
  refine hgs_one 2 (by rfl) (by kernel_rfl) Wn ?_
  have r1:=n2.keep r1
  have r1:=n3.keep r1
  have r1:=s4.keep r1 (by omega)
  have r1:=s5.keep r1 (by omega)
  have r1:=n6.keep r1
  have r1:=hw7.keep r1 (by omega) (by omega)
  have r1:=s8.keep r1 (by omega)
  have r1:=hw9.keep r1 (by omega) (by omega)
  have r1:=s10.keep r1 (by omega)
  have r1:=hw11.keep r1 (by omega) (by omega)
  have r1:=s12.keep r1 (by omega)
  have r1:=hw14.keep r1 (by omega) (by omega)
  have r1:=s15.keep r1 (by omega)
  have r1:=RowAt.below dW24 r1.lt r1
  have o25:=r1
  refine lg_stw Wn r1 rfl rfl rfl (by kernel_rfl) (by kernel_rfl) rfl rfl fun w25 s25=>?_
  have r1:=s25.row
  have z25:=s25.size
  have r3:=s25.keep r3 (by omega)
  refine hgs_next r3 ?_
  refine hgs_take 3 (by rfl) Wn (by rfl) rfl (by decide) (by kernel_rfl) (by kernel_rfl) (by kernel_rfl) (fun _ _ _ h=>h) r3 (fun q hq=>y_assign rfl rfl) ?_
  refine hgs_take 4 (by rfl) Wn (by rfl) rfl (by decide) (by kernel_rfl) (by kernel_rfl) (by kernel_rfl) (fun _ _ _ h=>h) r3 (fun q hq=>y_assign rfl rfl) ?_
  refine hgs_done (by kernel_rfl) ?_
  refine Nx [2,5,9,3,4] ?_
  refine cg_ret ?_
  refine Qc ?_
  have hst:lfGet xs=((gD xs).2.2,Lf.zero,[]):=(lfGet_steps xs).trans ((if_pos c13).trans (if_neg c16))
  refine eg_ret_agg3 rfl rfl r1 (by kernel_rfl) (by kernel_rfl) rfl rfl ?_
  rw [hst]
  have u:=Un (Un (Un u n1.below) n2.below) n3.below
  have u:=(u.trans (s4.below _ (by omega))).trans (s5.below _ (by omega))
  have u:=Un u n6.below
  have u:=(u.trans (hw7.below _ (by omega) (by omega) (by omega))).trans (s8.below _ (by omega))
  have u:=(u.trans (hw9.below _ (by omega) (by omega) (by omega))).trans (s10.below _ (by omega))
  have u:=(u.trans (hw11.below _ (by omega) (by omega) (by omega))).trans (s12.below _ (by omega))
  have u:=(u.trans (hw14.below _ (by omega) (by omega) (by omega))).trans (s15.below _ (by omega))
  have u:=Un u dW24
  have u:=u.trans (s25.below _ (by omega))
  exact ⟨_,rfl,LfV.zero,nilS,rfl,(IsLf.zero _ _),(Sl.nil _ _),u⟩
 refine Zan (yb (dF c13) yi_eql) [2,3,4,5,6,7,9,24] ?_
 refine Zcf [2,3,4,5,6,9] ?_
 refine Qd ?_
 refine Zr ?_
 have r3:=s12.keep r3 (by omega)
 refine Za (Qo (v:=nv ((gC xs).2.2)) r3 rfl (by kernel_rfl) rfl rfl) ?_
 by_cases c26:(gC xs).2.2=0
 ·refine Zan (yb (dT c26) yi_eql) [2,3,4,5,6,9,29] ?_
  refine cg_ct rfl ?_
  refine Qe ?_
  refine Za (y_loadA r6) ?_
  have m7:=(m7.set o8 rfl s8).below (hw9.below _ (by omega) (by omega) (by omega))
  have m7:=((m7.set o10 rfl s10).below (hw11.below _ (by omega) (by omega) (by omega))).set o12 rfl s12
  have m9:=((m9.set o10 rfl s10).below (hw11.below _ (by omega) (by omega) (by omega))).set o12 rfl s12
  refine Zc (check_any (show IsLf w12 w12.heap.size (⟨p7,p9,LfV.zero.par⟩:LfV) (⟨(gA xs).1,(gB xs).1,(gC xs).1,Lf.zero.par⟩:Lf) from ⟨m7.more (by omega),m9.more (by omega),((IsLf.zero _ 0).par).more (by omega)⟩) (Nat.le_refl _)) rfl rfl ?_
  rintro _ w27 ⟨rfl,hw27⟩
  have zw27:=hw27.size
  have r3:=RowAt.below hw27 r3.lt r3
  have o28:=r3
  refine lg_sts r3 rfl rfl (by kernel_rfl) Wn rfl rfl rfl rfl fun w28 s28=>?_
  have r3:=s28.row
  have z28:=s28.size
  refine Zn [2,3,4,5,6,9] ?_
  refine Qd ?_
  refine Zr ?_
  refine Za (Qo (v:=nv (lfCheck (⟨(gA xs).1,(gB xs).1,(gC xs).1,Lf.zero.par⟩:Lf))) r3 rfl (by kernel_rfl) rfl rfl) ?_
  by_cases c29:(lfCheck (⟨(gA xs).1,(gB xs).1,(gC xs).1,Lf.zero.par⟩:Lf))=0
  ·refine Zan (yb (nd_f c29) yi_neq) [2,3,4,5,6,9,33] ?_
   refine Zcf [2,3,4,5,9] ?_
   refine Qd ?_
   refine cg_heldS (fun q=>RowAt q b2 23 #[r11.v]∧RowAt q b6 36 #[p7.v,p9.v,nv ((gC xs).1),LfV.zero.par.v]) (by kernel_rfl) (fun W30 eW30=>?_) fun W30 eW30=>?_
   ·have dW30:=below_drew _ _ eW30
    have r2:=s12.keep r2 (by omega)
    have r2:=RowAt.below hw27 r2.lt r2
    have r2:=s28.keep r2 (by omega)
    have r2:=RowAt.below dW30 r2.lt r2
    have r6:=RowAt.below hw27 r6.lt r6
    have r6:=s28.keep r6 (by omega)
    have r6:=RowAt.below dW30 r6.lt r6
    exact ⟨r2,r6⟩
   have dW30:=below_drew _ _ eW30
   have zW30:=size_drew _ _ eW30
   clear eW30
   have r2:=s12.keep r2 (by omega)
   have r2:=RowAt.below hw27 r2.lt r2
   have r2:=s28.keep r2 (by omega)
   have r2:=RowAt.below dW30 r2.lt r2
   have r6:=RowAt.below hw27 r6.lt r6
   have r6:=s28.keep r6 (by omega)
   have r6:=RowAt.below dW30 r6.lt r6
   refine hgs_take 0 (by rfl) Wn (by rfl) rfl (by decide) (by kernel_rfl) (by kernel_rfl) (by kernel_rfl) (fun _ _ _ h=>h) ⟨r2,r6⟩ (fun q hq=>y_loadA hq.2 (by kernel_rfl) (by kernel_rfl) rfl rfl) ?_
   refine hgs_take 1 (by rfl) Wn (by rfl) rfl (by decide) (by kernel_rfl) (by kernel_rfl) (by kernel_rfl) (fun _ _ _ h=>h) ⟨r2,r6⟩ (fun q hq=>Qo (v:=r11.v) hq.1 rfl (by kernel_rfl) rfl rfl) ?_
   refine hgs_one 2 (by rfl) (by kernel_rfl) Wn ?_
   have r1:=n2.keep r1
   have r1:=n3.keep r1
   have r1:=s4.keep r1 (by omega)
   have r1:=s5.keep r1 (by omega)
   have r1:=n6.keep r1
   have r1:=hw7.keep r1 (by omega) (by omega)
   have r1:=s8.keep r1 (by omega)
   have r1:=hw9.keep r1 (by omega) (by omega)
   have r1:=s10.keep r1 (by omega)
   have r1:=hw11.keep r1 (by omega) (by omega)
   have r1:=s12.keep r1 (by omega)
   have r1:=RowAt.below hw27 r1.lt r1
   have r1:=s28.keep r1 (by omega)
   have r1:=RowAt.below dW30 r1.lt r1
   have o31:=r1
   refine lg_stw Wn r1 rfl rfl rfl (by kernel_rfl) (by kernel_rfl) rfl rfl fun w31 s31=>?_
   have r1:=s31.row
   have z31:=s31.size
   have r2:=s31.keep r2 (by omega)
   have r6:=s31.keep r6 (by omega)
   refine hgs_next ⟨r2,r6⟩ ?_
   refine hgs_take 3 (by rfl) Wn (by rfl) rfl (by decide) (by kernel_rfl) (by kernel_rfl) (by kernel_rfl) (fun _ _ _ h=>h) ⟨r2,r6⟩ (fun q hq=>y_assign rfl rfl) ?_
   refine hgs_take 4 (by rfl) Wn (by rfl) rfl (by decide) (by kernel_rfl) (by kernel_rfl) (by kernel_rfl) (fun _ _ _ h=>h) ⟨r2,r6⟩ (fun q hq=>y_assign rfl rfl) ?_
   refine hgs_done (by kernel_rfl) ?_
   refine Nx [2,3,4] ?_
   refine cg_ret ?_
   have hst:lfGet xs=(0,(⟨(gA xs).1,(gB xs).1,(gC xs).1,Lf.zero.par⟩:Lf),(gC xs).2.1):=(lfGet_steps xs).trans ((if_neg c13).trans ((if_pos c26).trans (if_pos c29)))
   refine eg_ret_agg3 rfl rfl r1 (by kernel_rfl) (by kernel_rfl) rfl rfl ?_
   rw [hst]
   have m7:=(m7.below (hw27.mono (by omega))).set o28 rfl s28
   have m7:=(m7.below (dW30.mono (by omega))).set o31 rfl s31
   have m9:=(m9.below (hw27.mono (by omega))).set o28 rfl s28
   have m9:=(m9.below (dW30.mono (by omega))).set o31 rfl s31
   have l11:=(l11.set o12 rfl s12).below (hw27.mono (by omega))
   have l11:=((l11.set o28 rfl s28).below (dW30.mono (by omega))).set o31 rfl s31
   have u:=Un (Un (Un u n1.below) n2.below) n3.below
   have u:=(u.trans (s4.below _ (by omega))).trans (s5.below _ (by omega))
   have u:=Un u n6.below
   have u:=(u.trans (hw7.below _ (by omega) (by omega) (by omega))).trans (s8.below _ (by omega))
   have u:=(u.trans (hw9.below _ (by omega) (by omega) (by omega))).trans (s10.below _ (by omega))
   have u:=(u.trans (hw11.below _ (by omega) (by omega) (by omega))).trans (s12.below _ (by omega))
   have u:=Un u hw27
   have u:=u.trans (s28.below _ (by omega))
   have u:=Un u dW30
   have u:=u.trans (s31.below _ (by omega))
   exact ⟨_,rfl,(⟨p7,p9,LfV.zero.par⟩:LfV),r11,rfl,⟨m7,m9,(IsLf.zero _ _).par⟩,l11,u⟩
  refine Zan (yb (nd_t c29) yi_neq) [2,3,4,5,6,9,33] ?_
  refine cg_ct rfl ?_
  refine Qd ?_
  refine cg_heldS (fun q=>RowAt q b3 26 #[nv (lfCheck (⟨(gA xs).1,(gB xs).1,(gC xs).1,Lf.zero.par⟩:Lf))]) (by kernel_rfl) (fun W32 eW32=>?_) fun W32 eW32=>?_
  ·have dW32:=below_drew _ _ eW32
   have r3:=RowAt.below dW32 r3.lt r3
   exact r3
  have dW32:=below_drew _ _ eW32
  have zW32:=size_drew _ _ eW32
  clear eW32
  have r3:=RowAt.below dW32 r3.lt r3
  refine hgs_take 0 (by rfl) Wn (by rfl) rfl (by decide) (by kernel_rfl) (by kernel_rfl) (by kernel_rfl) (fun _ _ _ h=>h) r3 (fun q hq=>y_build (cs:=LfV.zero.cs Lf.zero) rfl rfl (by kernel_rfl)) ?_
  refine hgs_take 1 (by rfl) Wn (by rfl) rfl (by decide) (by kernel_rfl) (by kernel_rfl) (by kernel_rfl) (fun _ _ _ h=>h) r3 (fun q hq=>Qo (v:=nv (lfCheck (⟨(gA xs).1,(gB xs).1,(gC xs).1,Lf.zero.par⟩:Lf))) hq rfl (by kernel_rfl) rfl rfl) ?_
  refine hgs_one 2 (by rfl) (by kernel_rfl) Wn ?_
  have r1:=n2.keep r1
  have r1:=n3.keep r1
  have r1:=s4.keep r1 (by omega)
  have r1:=s5.keep r1 (by omega)
  have r1:=n6.keep r1
  have r1:=hw7.keep r1 (by omega) (by omega)
  have r1:=s8.keep r1 (by omega)
  have r1:=hw9.keep r1 (by omega) (by omega)
  have r1:=s10.keep r1 (by omega)
  have r1:=hw11.keep r1 (by omega) (by omega)
  have r1:=s12.keep r1 (by omega)
  have r1:=RowAt.below hw27 r1.lt r1
  have r1:=s28.keep r1 (by omega)
  have r1:=RowAt.below dW32 r1.lt r1
  have o33:=r1
  refine lg_stw Wn r1 rfl rfl rfl (by kernel_rfl) (by kernel_rfl) rfl rfl fun w33 s33=>?_
  have r1:=s33.row
  have z33:=s33.size
  have r3:=s33.keep r3 (by omega)
  refine hgs_next r3 ?_
  refine hgs_take 3 (by rfl) Wn (by rfl) rfl (by decide) (by kernel_rfl) (by kernel_rfl) (by kernel_rfl) (fun _ _ _ h=>h) r3 (fun q hq=>y_assign rfl rfl) ?_
  refine hgs_take 4 (by rfl) Wn (by rfl) rfl (by decide) (by kernel_rfl) (by kernel_rfl) (by kernel_rfl) (fun _ _ _ h=>h) r3 (fun q hq=>y_assign rfl rfl) ?_
  refine hgs_done (by kernel_rfl) ?_
  refine Nx [2,5,9,3,4] ?_
  refine cg_ret ?_
  refine Qc ?_
  have hst:lfGet xs=((lfCheck (⟨(gA xs).1,(gB xs).1,(gC xs).1,Lf.zero.par⟩:Lf)),Lf.zero,[]):=(lfGet_steps xs).trans ((if_neg c13).trans ((if_pos c26).trans (if_neg c29)))
  refine eg_ret_agg3 rfl rfl r1 (by kernel_rfl) (by kernel_rfl) rfl rfl ?_
  rw [hst]
  have u:=Un (Un (Un u n1.below) n2.below) n3.below
  have u:=(u.trans (s4.below _ (by omega))).trans (s5.below _ (by omega))
  have u:=Un u n6.below
  have u:=(u.trans (hw7.below _ (by omega) (by omega) (by omega))).trans (s8.below _ (by omega))
  have u:=(u.trans (hw9.below _ (by omega) (by omega) (by omega))).trans (s10.below _ (by omega))
  have u:=(u.trans (hw11.below _ (by omega) (by omega) (by omega))).trans (s12.below _ (by omega))
  have u:=Un u hw27
  have u:=u.trans (s28.below _ (by omega))
  have u:=Un u dW32
  have u:=u.trans (s33.below _ (by omega))
  exact ⟨_,rfl,LfV.zero,nilS,rfl,(IsLf.zero _ _),(Sl.nil _ _),u⟩
 refine Zan (yb (dF c26) yi_eql) [2,3,4,5,6,9,29] ?_
 refine Zcf [2,3,4,5,6,9] ?_
 refine Qd ?_
 refine Zr ?_
 refine Za (Qo (v:=nv ((gC xs).2.2)) r3 rfl (by kernel_rfl) rfl rfl) ?_
 refine Zan (yb (nd_t c26) yi_neq) [2,3,4,5,6,9,33] ?_
 refine cg_ct rfl ?_
 refine Qd ?_
 refine cg_heldS (fun q=>RowAt q b3 26 #[nv ((gC xs).2.2)]) (by kernel_rfl) (fun W34 eW34=>?_) fun W34 eW34=>?_
 ·have dW34:=below_drew _ _ eW34
  have r3:=RowAt.below dW34 r3.lt r3
  exact r3
 have dW34:=below_drew _ _ eW34
 have zW34:=size_drew _ _ eW34
 clear eW34
 have r3:=RowAt.below dW34 r3.lt r3
 refine hgs_take 0 (by rfl) Wn (by rfl) rfl (by decide) (by kernel_rfl) (by kernel_rfl) (by kernel_rfl) (fun _ _ _ h=>h) r3 (fun q hq=>y_build (cs:=LfV.zero.cs Lf.zero) rfl rfl (by kernel_rfl)) ?_
 refine hgs_take 1 (by rfl) Wn (by rfl) rfl (by decide) (by kernel_rfl) (by kernel_rfl) (by kernel_rfl) (fun _ _ _ h=>h) r3 (fun q hq=>Qo (v:=nv ((gC xs).2.2)) hq rfl (by kernel_rfl) rfl rfl) ?_
 refine hgs_one 2 (by rfl) (by kernel_rfl) Wn ?_
 have r1:=n2.keep r1
 have r1:=n3.keep r1
 have r1:=s4.keep r1 (by omega)
 have r1:=s5.keep r1 (by omega)
 have r1:=n6.keep r1
 have r1:=hw7.keep r1 (by omega) (by omega)
 have r1:=s8.keep r1 (by omega)
 have r1:=hw9.keep r1 (by omega) (by omega)
 have r1:=s10.keep r1 (by omega)
 have r1:=hw11.keep r1 (by omega) (by omega)
 have r1:=s12.keep r1 (by omega)
 have r1:=RowAt.below dW34 r1.lt r1
 have o35:=r1
 refine lg_stw Wn r1 rfl rfl rfl (by kernel_rfl) (by kernel_rfl) rfl rfl fun w35 s35=>?_
 have r1:=s35.row
 have z35:=s35.size
 have r3:=s35.keep r3 (by omega)
 refine hgs_next r3 ?_
 refine hgs_take 3 (by rfl) Wn (by rfl) rfl (by decide) (by kernel_rfl) (by kernel_rfl) (by kernel_rfl) (fun _ _ _ h=>h) r3 (fun q hq=>y_assign rfl rfl) ?_
 refine hgs_take 4 (by rfl) Wn (by rfl) rfl (by decide) (by kernel_rfl) (by kernel_rfl) (by kernel_rfl) (fun _ _ _ h=>h) r3 (fun q hq=>y_assign rfl rfl) ?_
 refine hgs_done (by kernel_rfl) ?_
 refine Nx [2,5,9,3,4] ?_
 refine cg_ret ?_
 refine Qc ?_
 have hst:lfGet xs=((gC xs).2.2,Lf.zero,[]):=(lfGet_steps xs).trans ((if_neg c13).trans (if_neg c26))
 refine eg_ret_agg3 rfl rfl r1 (by kernel_rfl) (by kernel_rfl) rfl rfl ?_
 rw [hst]
 have u:=Un (Un (Un u n1.below) n2.below) n3.below
 have u:=(u.trans (s4.below _ (by omega))).trans (s5.below _ (by omega))
 have u:=Un u n6.below
 have u:=(u.trans (hw7.below _ (by omega) (by omega) (by omega))).trans (s8.below _ (by omega))
 have u:=(u.trans (hw9.below _ (by omega) (by omega) (by omega))).trans (s10.below _ (by omega))
 have u:=(u.trans (hw11.below _ (by omega) (by omega) (by omega))).trans (s12.below _ (by omega))
 have u:=Un u dW34
 have u:=u.trans (s35.below _ (by omega))
 exact ⟨_,rfl,LfV.zero,nilS,rfl,(IsLf.zero _ _),(Sl.nil _ _),u⟩
/- LfPut:
  leaf.Put.
-/
theorem putL_any {W:World} {B:Nat} {s:SlV} {xs:List Int} {l:LfV} {L:Lf} (h:Sl W B s xs) (hl:IsLf W B l L) (hB:B≤W.heap.size) (hx:xs.length≤1000000):Calls Tryz.prog 131 #[s.v,.agg (l.cs L)] W fun e W'=>∃ v,e=.returned v∧PutS W (xs++lfPut L) v W':=by
 refine Qf (n:=32) Tryz.func131 rfl Tryz.ntmps131 (by simp) ?_
 show CG _ _ _ [(0,s.v),(1,.agg (l.cs L))] _ _
 have u:=Below.refl W.heap.size W
 refine Zr ?_
 refine lg_boxw Wn rfl rfl (by kernel_rfl) rfl (by decide) fun b1 w1 n1=>?_
 have r1:=n1.row
 have k1:=n1.blk
 have z1:=n1.size
 have lt1:b1<w1.heap.size:=by omega
 refine ZAn [0,3,4] ?_
 refine Qd ?_
 refine Zr ?_
 refine Za (y_loadA r1) ?_
 have hl:=hl.below (n1.below.mono (by omega))
 refine Zc (check_any (hl.more (B':=w1.heap.size) (by omega)) (Nat.le_refl _)) rfl rfl ?_
 rintro _ w2 ⟨rfl,hw2⟩
 have zw2:=hw2.size
 by_cases c3:(lfCheck L)=0
 ·have ok:=lfCheck_ok c3
  refine Zan (yb (nd_f c3) yi_neq) [0,3,4,8] ?_
  refine Zcf [0,3,4] ?_
  refine Zr ?_
  refine Za (y_fld (off:=0)) ?_
  have r1:=RowAt.below hw2 r1.lt r1
  refine Za (Qo (v:=l.enc.v) r1 rfl (by kernel_rfl) rfl rfl) ?_
  have hl:=hl.below (hw2.mono (by omega))
  refine Zc (putBytes_S (Sl.nil _ _) hl.enc (by omega) (by omega) (by simp only [List.length_nil];omega)) rfl rfl ?_
  rintro _ w4 ⟨r4,rfl,m4,hw4⟩
  have zw4:=hw4.size
  have lb4:=bytesOct_le L.enc
  refine ZAn [0,3,4,5] ?_
  refine ZrM ?_
  refine Za (y_fld (off:=1)) ?_
  have r1:=RowAt.below hw4 r1.lt r1
  refine Za (Qo (v:=l.cred.v) r1 rfl (by kernel_rfl) rfl rfl) ?_
  have hl:=hl.below (hw4.mono (by omega))
  refine Zc (putBytes_S m4 hl.cred (by omega) (by omega) (by simp only [List.length_append,List.length_nil];omega)) rfl rfl ?_
  rintro _ w5 ⟨r5,rfl,m5,hw5⟩
  have zw5:=hw5.size
  have lb5:=bytesOct_le L.cred
  refine ZAn [0,3,4,5] ?_
  refine ZrM ?_
  refine Za (y_fld (off:=2)) ?_
  have r1:=RowAt.below hw5 r1.lt r1
  refine Za (Qo (v:=nv L.src) r1 rfl (by kernel_rfl) rfl rfl) ?_
  refine Zc (putNum_S L.src 1 m5 (by omega) (by simp only [List.length_append,List.length_nil];omega)) rfl rfl ?_
  rintro _ w6 ⟨r6,rfl,m6,hw6⟩
  have zw6:=hw6.size
  have wk6:=widthK_le 1
  refine ZAn [0,3,4,5] ?_
  refine Qd ?_
  refine Zr ?_
  refine Za (y_fld (off:=2)) ?_
  have r1:=RowAt.below hw6 r1.lt r1
  refine Za (Qo (v:=nv L.src) r1 rfl (by kernel_rfl) rfl rfl) ?_
  by_cases c7:L.src=3
  ·refine Zan (yb (dT c7) yi_eql) [0,3,4,5,23] ?_
   refine cg_ct rfl ?_
   refine Qe ?_
   refine ZM ?_
   refine Za (y_fld (off:=3)) ?_
   refine Za (Qo (v:=l.par.v) r1 rfl (by kernel_rfl) rfl rfl) ?_
   have hl:=(hl.below (hw5.mono (by omega))).below (hw6.mono (by omega))
   refine Zc (putBytes_S m6 hl.par (by omega) (by omega) (by simp only [List.length_append,List.length_nil,numOct_length];omega)) rfl rfl ?_
   rintro _ w8 ⟨r8,rfl,m8,hw8⟩
   have zw8:=hw8.size
   have lb8:=bytesOct_le L.par
   refine ZAn [0,4,5] ?_
   refine ZrM ?_
   refine ZM ?_
   refine lg_bslice (el:=23) (z:=.slice none 0 0) (cs:=#[s.v,r8.v]) (by kernel_rfl) (by kernel_rfl) (by decide) (by decide) rfl rfl (by kernel_rfl) rfl rfl (by decide) fun b9 w9 n9=>?_
   have r9:=n9.row
   have k9:=n9.blk
   have z9:=n9.size
   have lt9:b9<w9.heap.size:=by omega
   have h:=(h.below (n1.below.mono (by omega))).below (hw2.mono (by omega))
   have h:=(h.below (hw4.mono (by omega))).below (hw5.mono (by omega))
   have h:=((h.below (hw6.mono (by omega))).below (hw8.mono (by omega))).below (n9.below.mono (by omega))
   have m8:=m8.below (n9.below.mono (by omega))
   refine Zc (concat2_S r9 h m8 (by omega) (by omega) (by simp only [List.length_append,List.length_nil,numOct_length];omega)) rfl rfl ?_
   rintro _ w10 ⟨r10,rfl,m10,hw10⟩
   have zw10:=hw10.size
   refine ZAnr [4] ?_
   have u:=Un (Un u n1.below) hw2
   have u:=Un (Un u hw4) hw5
   have u:=Un (Un u hw6) hw8
   have u:=Un (Un u n9.below) hw10
   exact Qa rfl rfl ⟨_,rfl,r10,rfl,m10.cast (by simp [lfPut,lfOct, *]),u⟩
  refine Zan (yb (dF c7) yi_eql) [0,3,4,5,23] ?_
  refine Zcf [0,4,5] ?_
  refine ZrM ?_
  refine ZM ?_
  refine lg_bslice (el:=23) (z:=.slice none 0 0) (cs:=#[s.v,r6.v]) (by kernel_rfl) (by kernel_rfl) (by decide) (by decide) rfl rfl (by kernel_rfl) rfl rfl (by decide) fun b11 w11 n11=>?_
  have r11:=n11.row
  have k11:=n11.blk
  have z11:=n11.size
  have lt11:b11<w11.heap.size:=by omega
  have h:=(h.below (n1.below.mono (by omega))).below (hw2.mono (by omega))
  have h:=(h.below (hw4.mono (by omega))).below (hw5.mono (by omega))
  have h:=(h.below (hw6.mono (by omega))).below (n11.below.mono (by omega))
  have m6:=m6.below (n11.below.mono (by omega))
  refine Zc (concat2_S r11 h m6 (by omega) (by omega) (by simp only [List.length_append,List.length_nil,numOct_length];omega)) rfl rfl ?_
  rintro _ w12 ⟨r12,rfl,m12,hw12⟩
  have zw12:=hw12.size
  refine ZAnr [4] ?_
  have u:=Un (Un u n1.below) hw2
  have u:=Un (Un u hw4) hw5
  have u:=Un (Un (Un u hw6) n11.below) hw12
  exact Qa rfl rfl ⟨_,rfl,r12,rfl,m12.cast (by simp [lfPut,lfOct, *]),u⟩
 refine Zan (yb (nd_t c3) yi_neq) [0,3,4,8] ?_
 refine cg_ct rfl ?_
 refine ZrM ?_
 refine ZAnr [0,3,4] ?_
 refine Qc ?_
 have h:=(h.below (n1.below.mono (by omega))).below (hw2.mono (by omega))
 have u:=Un (Un u n1.below) hw2
 exact Qa rfl rfl ⟨_,rfl,s,rfl,(h.more (by omega)).cast (by rw [lfPut,if_neg c3,List.append_nil]),u⟩
/- PnNum:
  The program's and the document's small questions of lists of whole numbers.
-/
section
variable {w W:World} {B B2:Nat} {s s2:SlV} {xs ys:List Int}
theorem has_any (h:SlN w B s xs) (n:Int):Calls Tryz.prog 61 #[s.v,nv n] w fun e w'=>e=.returned (.bool (decide (n∈xs)))∧w'=w:=by
 refine Qf (n:=18) Tryz.func61 rfl Tryz.ntmps61 (by simp) ?_
 show CG _ _ _ [(0,s.v),(1,nv n)] _ _
 refine ZrA ?_
 refine Zn [0,1,4] ?_
 refine Qd ?_
 refine ZrA ?_
 refine Zn [0,1,4,5] ?_
 refine Qj ?_
 refine Qr (fun t a v=>Holds 18 [(0,s.v),(1,nv n),(5,nv ((t:Nat):Int))] a∧v=w∧t≤xs.length∧(∀ j,j<t→¬(xs.getD j 0)=n)) xs.length (fun a ha=>⟨ha.keep (fk rfl (fk rfl (fk rfl fn))),rfl,(Nat.zero_le _),(fun j hj=>absurd hj (Nat.not_lt_zero _))⟩) ?_
 rintro t a v ht ⟨ha,rfl,tle,hno⟩
 refine cg_at ha ?_
 clear ha a
 have le_h:=h.len;have ca_h:=h.cap
 refine Qd ?_
 refine ZrM ?_
 refine ZM ?_
 refine Za (y_lenM (el:=3) h.len) ?_
 by_cases c1:((t:Nat):Int)<(xs.length:Int)
 ·refine Zan (yb (dT c1) yi_lss) [0,1,5,6,7,8,9] ?_
  refine cg_ct rfl ?_
  refine Zki [0,1,5,6,7,8,9] ?_
  refine Qd ?_
  refine Qj ?_
  refine ZrM ?_
  refine ZM ?_
  refine Za (y_ixT (i:=t) (iI:=((t:Nat):Int)) h (by omega) (by omega) rfl rfl rfl) ?_
  refine Za (y_ldT (i:=t) h (by omega) rfl rfl) ?_
  refine ZM ?_
  by_cases c2:(xs.getD t 0)=n
  ·refine Zan (yb (dT c2) yi_eql) [0,1,5,6,7,8,9,12,13,14,15,16,17] ?_
   refine cg_ct rfl ?_
   refine ZrA ?_
   refine Znr [0,1,5,6,7,8,9,12,13,14,15,16,17,4] ?_
   refine Qg ?_
   refine Qc ?_
   refine Qc ?_
   refine Qg ?_
   refine Qc ?_
   exact Qa rfl rfl ⟨congrArg (fun b=>Ending.returned (.bool b)) (dT (by rw [←c2];exact getD_mem (by omega))).symm,rfl⟩
  refine Zan (yb (dF c2) yi_eql) [0,1,5,6,7,8,9,12,13,14,15,16,17] ?_
  refine cg_cf rfl ?_
  refine cg_skip ?_
  refine Qi ?_
  refine Nx [0,1,5,6,7,8,9,12,13,14,15,16,17] ?_
  refine Qe ?_
  refine ZM ?_
  refine Za (yv (congrArg nv (show ((t:Nat):Int)+1=((t+1:Nat):Int) by omega)) (yi_add rfl rfl rfl (by omega) (by omega))) ?_
  refine ZA ?_
  refine Qk ?_
  exact fun a ha=>(show t<xs.length∧_ from ⟨(by omega),ha.keep (fk rfl (fk rfl (fk rfl fn))),rfl,(by omega),(fun j hj=>if q:j<t then hno j q else by
    obtain rfl:j=t:=by omega
    exact c2)⟩)
 refine Zan (yb (dF c1) yi_lss) [0,1,5,6,7,8,9] ?_
 refine cg_cf rfl ?_
 refine cg_exit ?_
 refine Qh ?_
 refine Qh ?_
 refine Ql ?_
 refine nx (E':=[]) fn ?_
 refine ZrA ?_
 refine Znr [4] ?_
 exact Qa rfl rfl ⟨congrArg (fun b=>Ending.returned (.bool b)) (dF (fun q=>by obtain ⟨i,hi,e⟩:=mem_getD q;exact hno i (by omega) e)).symm,rfl⟩
theorem outside_any (n:Int) (w:World):Calls Tryz.prog 117 #[nv n] w fun e w'=>e=.returned (.bool (decide (n<0∨64≤n)))∧w'=w:=by
 refine Qf (n:=9) Tryz.func117 rfl Tryz.ntmps117 (by simp) ?_
 show CG _ _ _ [(0,nv n)] _ _
 refine ZrA ?_
 refine Zn [0,2] ?_
 refine ZrM ?_
 by_cases c1:n<0
 ·refine Za (yb (dT c1) yi_lss) ?_
  refine ZM ?_
  refine Zf 5 ?_
  refine Zf 5 ?_
  refine Za (y_pick true) ?_
  refine ZAnr [2] ?_
  exact Qa rfl rfl ⟨congrArg (fun b=>Ending.returned (.bool b)) (dT (by omega)).symm,rfl⟩
 refine Za (yb (dF c1) yi_lss) ?_
 refine ZM ?_
 refine Zt 5 y_move ?_
 by_cases c2:64≤n
 ·refine Zt 5 (yb (dT c2) yi_geq) ?_
  refine Za (y_pick false) ?_
  refine ZAnr [2] ?_
  exact Qa rfl rfl ⟨congrArg (fun b=>Ending.returned (.bool b)) (dT (by omega)).symm,rfl⟩
 refine Zt 5 (yb (dF c2) yi_geq) ?_
 refine Za (y_pick false) ?_
 refine ZAnr [2] ?_
 exact Qa rfl rfl ⟨congrArg (fun b=>Ending.returned (.bool b)) (dF (by omega)).symm,rfl⟩
/-- Where the first number stands that no leaf has. -/
def outI (xs:List Int):Int:=if ∃ x∈xs,x<0∨64≤x then ((xs.takeWhile fun x=>!decide (x<0∨64≤x)).length:Int) else -1
theorem outI_at:∀ {xs:List Int} {t:Nat},(∀ j,j<t→¬(xs.getD j 0<0∨64≤xs.getD j 0))→t<xs.length→(xs.getD t 0<0∨64≤xs.getD t 0)→outI xs=(t:Int):=by
 intro xs t hno ht hx
 have he:∃ x∈xs,x<0∨64≤x:=⟨_,getD_mem ht,hx⟩
 rw [outI,if_pos he]
 refine congrArg Int.ofNat ?_
 clear he
 induction xs generalizing t with
 | nil=>exact absurd ht (Nat.not_lt_zero _)
 | cons y r ih =>
  cases t with
  | zero =>
   have hx':y<0∨64≤y:=hx
   rw [List.takeWhile_cons,decide_eq_true hx']
   rfl
  | succ t =>
   have h0:¬(y<0∨64≤y):=hno 0 (by omega)
   rw [List.takeWhile_cons,decide_eq_false h0]
   show (y::_).length=_
   rw [List.length_cons,ih (fun j hj=>hno (j+1) (by omega)) (by simpa using ht) hx]
theorem outI_no {xs:List Int} (h:∀ j,j<xs.length→¬(xs.getD j 0<0∨64≤xs.getD j 0)):outI xs=-1:=by
 rw [outI,if_neg]
 rintro ⟨x,hx,h1⟩
 obtain ⟨i,hi,rfl⟩:=mem_getD hx
 exact h i hi h1
theorem outI_iff (xs:List Int):0≤outI xs↔∃ x∈xs,x<0∨64≤x:=by
 unfold outI
 split
 ·rename_i h
  exact ⟨fun _=>h,fun _=>by omega⟩
 rename_i h
 exact ⟨fun q=>absurd q (by decide),fun q=>absurd q h⟩
theorem indexOut_any (h:SlN w B s xs):Calls Tryz.prog 135 #[s.v,.func (.func 117) #[] #[]] w fun e w'=>e=.returned (nv (outI xs))∧w'=w:=by
 refine Qf (n:=19) Tryz.func135 rfl Tryz.ntmps135 (by simp) ?_
 show CG _ _ _ [(0,s.v),(1,.func (.func 117) #[] #[])] _ _
 refine ZrA ?_
 refine Zn [0,1,4] ?_
 refine Qd ?_
 refine ZrM ?_
 refine Za (y_lenM (el:=3) h.len) ?_
 refine ZM ?_
 refine Zn [0,1,4,7,8] ?_
 refine Qj ?_
 refine Qr (fun t a v=>Holds 19 [(0,s.v),(1,.func (.func 117) #[] #[]),(7,nv (xs.length:Int)),(8,nv ((t:Nat):Int))] a∧v=w∧t≤xs.length∧(∀ j,j<t→¬((xs.getD j 0)<0∨64≤(xs.getD j 0)))) xs.length (fun a ha=>⟨ha.keep (fk rfl (fk rfl (fk rfl (fk rfl fn)))),rfl,(Nat.zero_le _),(fun j hj=>absurd hj (Nat.not_lt_zero _))⟩) ?_
 rintro t a v ht ⟨ha,rfl,tle,hno⟩
 refine cg_at ha ?_
 clear ha a
 have le_h:=h.len;have ca_h:=h.cap
 refine Zr ?_
 by_cases c1:((t:Nat):Int)<(xs.length:Int)
 ·refine Zan (yb (dT c1) yi_lss) [0,1,7,8,9] ?_
  refine Qd ?_
  refine cg_ct rfl ?_
  refine Zki [0,1,7,8,9] ?_
  refine Qd ?_
  refine Qj ?_
  refine ZrM ?_
  refine ZAn [0,1,7,8,9,10,5] ?_
  refine ZrM ?_
  refine ZM ?_
  refine ZM ?_
  refine Za (y_ixT (i:=t) (iI:=((t:Nat):Int)) h (by omega) (by omega) rfl rfl rfl) ?_
  refine Za (y_ldT (i:=t) h (by omega) rfl rfl) ?_
  by_cases c2:(xs.getD t 0)<0∨64≤(xs.getD t 0)
  ·refine Zan (yb (dT c2) (y_callf (outside_any (xs.getD t 0) _))) [0,1,7,8,9,10,5,11,12,13,14,15,16] ?_
   refine cg_ct rfl ?_
   refine ZrM ?_
   refine ZAnr [0,1,7,8,9,10,5,11,12,13,14,15,16,17,4] ?_
   refine Qg ?_
   refine Qc ?_
   refine Qc ?_
   refine Qg ?_
   refine Qc ?_
   exact Qa rfl rfl ⟨congrArg (fun b=>Ending.returned (nv b)) (outI_at hno (by omega) c2).symm,rfl⟩
  refine Zan (yb (dF c2) (y_callf (outside_any (xs.getD t 0) _))) [0,1,7,8,9,10,5,11,12,13,14,15,16] ?_
  refine cg_cf rfl ?_
  refine cg_skip ?_
  refine Qi ?_
  refine Nx [0,1,7,8,9,10,5,11,12,13,14,15,16] ?_
  refine Qe ?_
  refine Za (yv (congrArg nv (show ((t:Nat):Int)+1=((t+1:Nat):Int) by omega)) (yi_add rfl rfl rfl (by omega) (by omega))) ?_
  refine ZM ?_
  refine Qk ?_
  exact fun a ha=>(show t<xs.length∧_ from ⟨(by omega),ha.keep (fk rfl (fk rfl (fk rfl (fk rfl fn)))),rfl,(by omega),(fun j hj=>if q:j<t then hno j q else by
    obtain rfl:j=t:=by omega
    exact c2)⟩)
 refine Zan (yb (dF c1) yi_lss) [0,1,7,8,9] ?_
 refine Qd ?_
 refine cg_cf rfl ?_
 refine cg_exit ?_
 refine Qh ?_
 refine Qh ?_
 refine Ql ?_
 refine nx (E':=[]) fn ?_
 refine ZrA ?_
 refine Znr [4] ?_
 exact Qa rfl rfl ⟨congrArg (fun b=>Ending.returned (nv b)) (outI_no fun j hj=>hno j (by omega)).symm,rfl⟩
theorem containsOut_any (h:SlN w B s xs):Calls Tryz.prog 116 #[s.v,.func (.func 117) #[] #[]] w fun e w'=>e=.returned (.bool (decide (∃ x∈xs,x<0∨64≤x)))∧w'=w:=by
 refine Qf (n:=9) Tryz.func116 rfl Tryz.ntmps116 (by simp) ?_
 show CG _ _ _ [(0,s.v),(1,.func (.func 117) #[] #[])] _ _
 refine ZrA ?_
 refine Zn [0,1,4] ?_
 refine ZrM ?_
 refine ZM ?_
 refine Za (Qp (indexOut_any h)) ?_
 by_cases c1:0≤(outI xs)
 ·refine Za (yb (dT c1) yi_geq) ?_
  refine ZAnr [4] ?_
  exact Qa rfl rfl ⟨congrArg (fun b=>Ending.returned (.bool b)) (dT ((outI_iff xs).1 c1)).symm,rfl⟩
 refine Za (yb (dF c1) yi_geq) ?_
 refine ZAnr [4] ?_
 exact Qa rfl rfl ⟨congrArg (fun b=>Ending.returned (.bool b)) (dF (fun q=>c1 ((outI_iff xs).2 q))).symm,rfl⟩
theorem largeP_any (h:Sl w B s xs):Calls Tryz.prog 115 #[s.v] w fun e w'=>e=.returned (.bool (decide (200<(xs.length:Int))))∧w'=w:=by
 refine Qf (n:=6) Tryz.func115 rfl Tryz.ntmps115 (by simp) ?_
 show CG _ _ _ [(0,s.v)] _ _
 refine ZrA ?_
 refine Zn [0,2] ?_
 refine ZrM ?_
 refine Za (y_lenS (el:=5) h) ?_
 refine Za yi_gtr ?_
 refine ZAnr [2] ?_
 exact Qa rfl rfl ⟨rfl,rfl⟩
theorem ints_S (h:SlN W B s xs) (h2:SlN W B2 s2 ys) (hB:B≤W.heap.size) (hB2:B2≤W.heap.size):Calls Tryz.prog 88 #[s.v,s2.v] W fun e w'=>∃ v,e=.returned v∧v=.bool (decide (xs=ys))∧Below W.heap.size W w':=by
 refine Qf (n:=26) Tryz.func88 rfl Tryz.ntmps88 (by simp) ?_
 show CG _ _ _ [(0,s.v),(1,s2.v)] _ _
 have u:=Below.refl W.heap.size W
 have le_h:=h.len;have ca_h:=h.cap
 have le_h2:=h2.len;have ca_h2:=h2.cap
 refine ZrA ?_
 refine Zn [0,1,4] ?_
 refine Qd ?_
 refine ZrM ?_
 refine Za (y_lenM (el:=3) h.len) ?_
 refine ZM ?_
 refine Za (y_lenM (el:=3) h2.len) ?_
 by_cases c1:(xs.length:Int)=(ys.length:Int)
 ·refine Zan (yb (nd_f c1) yi_neq) [0,1,4,10] ?_
  refine Zcf [0,1,4] ?_
  refine Qd ?_
  refine ZrA ?_
  refine Zn [0,1,4,5] ?_
  refine Qj ?_
  refine Qr (fun t a v=>Holds 26 [(0,s.v),(1,s2.v),(5,nv ((t:Nat):Int))] a∧SlN v B s xs∧SlN v B2 s2 ys∧Below W.heap.size W v∧t≤xs.length∧(∀ i,i<t→xs.getD i 0=ys.getD i 0)) xs.length (fun a ha=>⟨ha.keep (fk rfl (fk rfl (fk rfl fn))),h,h2,u,(Nat.zero_le _),(fun i hi=>absurd hi (Nat.not_lt_zero _))⟩) ?_
  rintro t a v ht ⟨ha,h,h2,u,tle,he⟩
  refine cg_at ha ?_
  clear ha a
  have zv:=u.size
  refine Qd ?_
  refine ZrM ?_
  refine ZM ?_
  refine Za (y_lenM (el:=3) h.len) ?_
  by_cases c2:((t:Nat):Int)<(xs.length:Int)
  ·refine Zan (yb (dT c2) yi_lss) [0,1,5,11,12,13,14] ?_
   refine cg_ct rfl ?_
   refine Zki [0,1,5,11,12,13,14] ?_
   refine Qd ?_
   refine Qj ?_
   refine Qd ?_
   refine cg_still (by kernel_rfl) (by kernel_rfl) fun W3 eW3=>?_
   have dW3:=below_drew _ _ eW3
   have zW3:=size_drew _ _ eW3
   clear eW3
   refine Zsa y_move ?_
   refine Zsa y_move ?_
   have h:=h.below (dW3.mono (by omega))
   refine Zsa (y_ixT (i:=t) (iI:=((t:Nat):Int)) h (by omega) (by omega) rfl rfl rfl) ?_
   refine Zsa (y_ldT (i:=t) h (by omega) rfl rfl) ?_
   refine Zsa y_move ?_
   refine Zsa y_move ?_
   have h2:=h2.below (dW3.mono (by omega))
   refine Zsa (y_ixT (i:=t) (iI:=((t:Nat):Int)) h2 (by omega) (by omega) rfl rfl rfl) ?_
   refine Zsa (y_ldT (i:=t) h2 (by omega) rfl rfl) ?_
   by_cases c4:(xs.getD t 0)=(ys.getD t 0)
   ·refine Zsa (yb (nd_f c4) yi_neq) ?_
    refine Zsn [0,1,5,11,12,13,14,17,18,19,20,21,22,23,24,25] ?_
    refine cg_cf rfl ?_
    refine cg_skip ?_
    refine Qi ?_
    refine Nx [0,1,5,11,12,13,14,17,18,19,20,21,22,23,24,25] ?_
    refine Qe ?_
    refine ZM ?_
    refine Za (yv (congrArg nv (show ((t:Nat):Int)+1=((t+1:Nat):Int) by omega)) (yi_add rfl rfl rfl (by omega) (by omega))) ?_
    refine ZA ?_
    refine Qk ?_
    have u:=Un u dW3
    exact fun a ha=>(show t<xs.length∧_ from ⟨(by omega),ha.keep (fk rfl (fk rfl (fk rfl fn))),h,h2,u,(by omega),(fun i hi=>if q:i<t then he i q else by
      obtain rfl:i=t:=by omega
      exact c4)⟩)
   refine Zsa (yb (nd_t c4) yi_neq) ?_
   refine Zsn [0,1,5,11,12,13,14,17,18,19,20,21,22,23,24,25] ?_
   refine cg_ct rfl ?_
   refine ZrA ?_
   refine Znr [0,1,5,11,12,13,14,17,18,19,20,21,22,23,24,25,4] ?_
   refine Qg ?_
   refine Qc ?_
   refine Qc ?_
   refine Qg ?_
   refine Qc ?_
   have u:=Un u dW3
   exact Qa rfl rfl ⟨_,rfl,congrArg Value.bool (dF (fun q=>c4 (by rw [q]))).symm,u⟩
  refine Zan (yb (dF c2) yi_lss) [0,1,5,11,12,13,14] ?_
  refine cg_cf rfl ?_
  refine cg_exit ?_
  refine Qh ?_
  refine Qh ?_
  refine Ql ?_
  refine nx (E':=[]) fn ?_
  refine ZrA ?_
  refine Znr [4] ?_
  exact Qa rfl rfl ⟨_,rfl,congrArg Value.bool (dT (list_eq_getD (by omega) fun i hi=>he i (by omega))).symm,u⟩
 refine Zan (yb (nd_t c1) yi_neq) [0,1,4,10] ?_
 refine cg_ct rfl ?_
 refine ZrA ?_
 refine Znr [0,1,4] ?_
 refine Qc ?_
 exact Qa rfl rfl ⟨_,rfl,congrArg Value.bool (dF (fun q=>by have:=congrArg List.length q;omega)).symm,u⟩
theorem equalN_S (h:SlN W B s xs) (h2:SlN W B2 s2 ys) (hB:B≤W.heap.size) (hB2:B2≤W.heap.size):Calls Tryz.prog 112 #[s.v,s2.v] W fun e w'=>∃ v,e=.returned v∧v=.bool (decide (xs=ys))∧Below W.heap.size W w':=by
 refine Qf (n:=26) Tryz.func112 rfl Tryz.ntmps112 (by simp) ?_
 show CG _ _ _ [(0,s.v),(1,s2.v)] _ _
 have u:=Below.refl W.heap.size W
 have le_h:=h.len;have ca_h:=h.cap
 have le_h2:=h2.len;have ca_h2:=h2.cap
 refine ZrA ?_
 refine Zn [0,1,4] ?_
 refine Qd ?_
 refine ZrM ?_
 refine Za (y_lenM (el:=3) h.len) ?_
 refine ZM ?_
 refine Za (y_lenM (el:=3) h2.len) ?_
 by_cases c1:(xs.length:Int)=(ys.length:Int)
 ·refine Zan (yb (nd_f c1) yi_neq) [0,1,4,10] ?_
  refine Zcf [0,1,4] ?_
  refine Qd ?_
  refine ZrM ?_
  refine Za (y_lenM (el:=3) h.len) ?_
  refine ZM ?_
  refine Zn [0,1,4,12,13] ?_
  refine Qj ?_
  refine Qr (fun t a v=>Holds 26 [(0,s.v),(1,s2.v),(12,nv (xs.length:Int)),(13,nv ((t:Nat):Int))] a∧SlN v B s xs∧SlN v B2 s2 ys∧Below W.heap.size W v∧t≤xs.length∧(∀ i,i<t→xs.getD i 0=ys.getD i 0)) xs.length (fun a ha=>⟨ha.keep (fk rfl (fk rfl (fk rfl (fk rfl fn)))),h,h2,u,(Nat.zero_le _),(fun i hi=>absurd hi (Nat.not_lt_zero _))⟩) ?_
  rintro t a v ht ⟨ha,h,h2,u,tle,he⟩
  refine cg_at ha ?_
  clear ha a
  have zv:=u.size
  refine Zr ?_
  by_cases c2:((t:Nat):Int)<(xs.length:Int)
  ·refine Zan (yb (dT c2) yi_lss) [0,1,12,13,14] ?_
   refine Qd ?_
   refine cg_ct rfl ?_
   refine Zki [0,1,12,13,14] ?_
   refine Qd ?_
   refine Qj ?_
   refine ZrM ?_
   refine ZAn [0,1,12,13,14,15,5] ?_
   refine Qd ?_
   refine cg_still (by kernel_rfl) (by kernel_rfl) fun W3 eW3=>?_
   have dW3:=below_drew _ _ eW3
   have zW3:=size_drew _ _ eW3
   clear eW3
   refine Zsa y_move ?_
   refine Zsa y_move ?_
   have h:=h.below (dW3.mono (by omega))
   refine Zsa (y_ixT (i:=t) (iI:=((t:Nat):Int)) h (by omega) (by omega) rfl rfl rfl) ?_
   refine Zsa (y_ldT (i:=t) h (by omega) rfl rfl) ?_
   refine Zsa y_move ?_
   refine Zsa y_move ?_
   have h2:=h2.below (dW3.mono (by omega))
   refine Zsa (y_ixT (i:=t) (iI:=((t:Nat):Int)) h2 (by omega) (by omega) rfl rfl rfl) ?_
   refine Zsa (y_ldT (i:=t) h2 (by omega) rfl rfl) ?_
   by_cases c4:(xs.getD t 0)=(ys.getD t 0)
   ·refine Zsa (yb (nd_f c4) yi_neq) ?_
    refine Zsn [0,1,12,13,14,15,5,16,17,18,19,20,21,22,23,24] ?_
    refine cg_cf rfl ?_
    refine cg_skip ?_
    refine Qi ?_
    refine Nx [0,1,12,13,14,15,5,16,17,18,19,20,21,22,23,24] ?_
    refine Qe ?_
    refine Za (yv (congrArg nv (show ((t:Nat):Int)+1=((t+1:Nat):Int) by omega)) (yi_add rfl rfl rfl (by omega) (by omega))) ?_
    refine ZM ?_
    refine Qk ?_
    have u:=Un u dW3
    exact fun a ha=>(show t<xs.length∧_ from ⟨(by omega),ha.keep (fk rfl (fk rfl (fk rfl (fk rfl fn)))),h,h2,u,(by omega),(fun i hi=>if q:i<t then he i q else by
      obtain rfl:i=t:=by omega
      exact c4)⟩)
   refine Zsa (yb (nd_t c4) yi_neq) ?_
   refine Zsn [0,1,12,13,14,15,5,16,17,18,19,20,21,22,23,24] ?_
   refine cg_ct rfl ?_
   refine ZrA ?_
   refine Znr [0,1,12,13,14,15,5,16,17,18,19,20,21,22,23,24,4] ?_
   refine Qg ?_
   refine Qc ?_
   refine Qc ?_
   refine Qg ?_
   refine Qc ?_
   have u:=Un u dW3
   exact Qa rfl rfl ⟨_,rfl,congrArg Value.bool (dF (fun q=>c4 (by rw [q]))).symm,u⟩
  refine Zan (yb (dF c2) yi_lss) [0,1,12,13,14] ?_
  refine Qd ?_
  refine cg_cf rfl ?_
  refine cg_exit ?_
  refine Qh ?_
  refine Qh ?_
  refine Ql ?_
  refine nx (E':=[]) fn ?_
  refine ZrA ?_
  refine Znr [4] ?_
  exact Qa rfl rfl ⟨_,rfl,congrArg Value.bool (dT (list_eq_getD (by omega) fun i hi=>he i (by omega))).symm,u⟩
 refine Zan (yb (nd_t c1) yi_neq) [0,1,4,10] ?_
 refine cg_ct rfl ?_
 refine ZrA ?_
 refine Znr [0,1,4] ?_
 refine Qc ?_
 exact Qa rfl rfl ⟨_,rfl,congrArg Value.bool (dF (fun q=>by have:=congrArg List.length q;omega)).symm,u⟩
theorem rises_any (h:SlN W B s xs) (hB:B≤W.heap.size):Calls Tryz.prog 118 #[s.v] W fun e w'=>∃ v,e=.returned v∧v=.bool (decide (Rising xs))∧Below W.heap.size W w':=by
 refine Qf (n:=20) Tryz.func118 rfl Tryz.ntmps118 (by simp) ?_
 show CG _ _ _ [(0,s.v)] _ _
 have u:=Below.refl W.heap.size W
 have le_h:=h.len;have ca_h:=h.cap
 refine ZrA ?_
 refine Zn [0,2] ?_
 refine Qd ?_
 refine ZrA ?_
 refine Zn [0,2,3] ?_
 refine Qj ?_
 refine Qr (fun t a v=>Holds 20 [(0,s.v),(3,nv (((t+1):Nat):Int))] a∧SlN v B s xs∧Below W.heap.size W v∧(∀ i,i<t→xs.getD i 0<xs.getD (i+1) 0)∧(t=0∨t<xs.length)) xs.length (fun a ha=>⟨ha.keep (fk rfl (fk rfl fn)),h,u,(fun i hi=>absurd hi (Nat.not_lt_zero _)),(.inl rfl)⟩) ?_
 rintro t a v ht ⟨ha,h,u,he,tle⟩
 refine cg_at ha ?_
 clear ha a
 have zv:=u.size
 refine Qd ?_
 refine ZrM ?_
 refine ZM ?_
 refine Za (y_lenM (el:=3) h.len) ?_
 by_cases c1:(((t+1):Nat):Int)<(xs.length:Int)
 ·refine Zan (yb (dT c1) yi_lss) [0,3,4,5,6,7] ?_
  refine cg_ct rfl ?_
  refine Zki [0,3,4,5,6,7] ?_
  refine Qd ?_
  refine Qj ?_
  refine Qd ?_
  refine cg_still (by kernel_rfl) (by kernel_rfl) fun W2 eW2=>?_
  have dW2:=below_drew _ _ eW2
  have zW2:=size_drew _ _ eW2
  clear eW2
  refine Zsa y_move ?_
  refine Zsa y_move ?_
  have h:=h.below (dW2.mono (by omega))
  refine Zsa (y_ixT (i:=(t+1)) (iI:=(((t+1):Nat):Int)) h (by omega) (by omega) rfl rfl rfl) ?_
  refine Zsa (y_ldT (i:=(t+1)) h (by omega) rfl rfl) ?_
  refine Zsa y_move ?_
  refine Zsa y_move ?_
  refine Zsa (yv (congrArg nv (show ((t+1:Nat):Int)-1=((t:Nat):Int) by omega)) (yi_sub rfl rfl rfl (by omega) (by omega))) ?_
  refine Zsa (y_ixT (i:=t) (iI:=((t:Nat):Int)) h (by omega) (by omega) rfl rfl rfl) ?_
  refine Zsa (y_ldT (i:=t) h (by omega) rfl rfl) ?_
  by_cases c3:(xs.getD (t+1) 0)≤(xs.getD t 0)
  ·refine Zsa (yb (dT c3) yi_leq) ?_
   refine Zsn [0,3,4,5,6,7,10,11,12,13,14,15,16,17,18,19] ?_
   refine cg_ct rfl ?_
   refine ZrA ?_
   refine Znr [0,3,4,5,6,7,10,11,12,13,14,15,16,17,18,19,2] ?_
   refine Qg ?_
   refine Qc ?_
   refine Qc ?_
   refine Qg ?_
   refine Qc ?_
   have u:=Un u dW2
   exact Qa rfl rfl ⟨_,rfl,congrArg Value.bool (dF (not_rising (by omega) c3)).symm,u⟩
  refine Zsa (yb (dF c3) yi_leq) ?_
  refine Zsn [0,3,4,5,6,7,10,11,12,13,14,15,16,17,18,19] ?_
  refine cg_cf rfl ?_
  refine cg_skip ?_
  refine Qi ?_
  refine Nx [0,3,4,5,6,7,10,11,12,13,14,15,16,17,18,19] ?_
  refine Qe ?_
  refine ZM ?_
  refine Za (yv (congrArg nv (show ((t+1:Nat):Int)+1=((t+1+1:Nat):Int) by omega)) (yi_add rfl rfl rfl (by omega) (by omega))) ?_
  refine ZA ?_
  refine Qk ?_
  have u:=Un u dW2
  exact fun a ha=>(show t<xs.length∧_ from ⟨(by omega),ha.keep (fk rfl (fk rfl fn)),h,u,(fun i hi=>if q:i<t then he i q else by
    obtain rfl:i=t:=by omega
    exact Int.not_le.1 c3),(by omega)⟩)
 refine Zan (yb (dF c1) yi_lss) [0,3,4,5,6,7] ?_
 refine cg_cf rfl ?_
 refine cg_exit ?_
 refine Qh ?_
 refine Qh ?_
 refine Ql ?_
 refine nx (E':=[]) fn ?_
 refine ZrA ?_
 refine Znr [2] ?_
 exact Qa rfl rfl ⟨_,rfl,congrArg Value.bool (dT (rising_of fun i hi=>he i (by omega))).symm,u⟩
end
/- PnProg:
  parent.Check, Same, Put and Get.
-/
section
set_option maxHeartbeats 1000000
theorem checkP_any {W:World} {B:Nat} {l:PnV} {L:Pn} (hl:IsPn W B l L) (hB:B≤W.heap.size):Calls Tryz.prog 77 #[.agg (l.cs L)] W fun e W'=>∃ v,e=.returned v∧v=nv (pnCheck L)∧Below W.heap.size W W':=by
 refine Qf (n:=32) Tryz.func77 rfl Tryz.ntmps77 (by simp) ?_
 show CG _ _ _ [(0,.agg (l.cs L))] _ _
 have u:=Below.refl W.heap.size W
 refine Zr ?_
 refine lg_boxw Wn rfl rfl (by kernel_rfl) rfl (by decide) fun b1 w1 n1=>?_
 have r1:=n1.row
 have k1:=n1.blk
 have z1:=n1.size
 have lt1:b1<w1.heap.size:=by omega
 refine ZAn [1,2] ?_
 refine Qd ?_
 refine Qj ?_
 refine Zr ?_
 refine Za (y_fld (off:=0)) ?_
 refine Za (Qo (v:=l.enc.v) r1 rfl (by kernel_rfl) rfl rfl) ?_
 have hl:=hl.below (n1.below.mono (by omega))
 refine Za (y_lenS (el:=5) hl.enc) ?_
 by_cases c2:(L.enc.length:Int)=0
 ·refine Za (yb (dT c2) yi_eql) ?_
  refine ZAnt [1,2,3] ?_
  refine ZrA ?_
  refine Znr [2] ?_
  refine Qg ?_
  refine Qc ?_
  have u:=Un u n1.below
  exact Qa rfl rfl ⟨_,rfl,congrArg nv (show pnCheck L=5 from (if_pos c2)).symm,u⟩
 refine Za (yb (dF c2) yi_eql) ?_
 refine ZAn [1,2,3] ?_
 refine cg_cf rfl ?_
 refine Zr ?_
 refine Za (y_fld (off:=0)) ?_
 refine Za (Qo (v:=l.enc.v) r1 rfl (by kernel_rfl) rfl rfl) ?_
 by_cases c3:200<(L.enc.length:Int)
 ·refine Za (yb (dT c3) (Qp (largeP_any hl.enc))) ?_
  refine ZM ?_
  refine Zf 12 ?_
  refine Zf 12 ?_
  refine Zf 12 ?_
  refine Za (y_pick true) ?_
  refine ZM ?_
  refine Zf 17 ?_
  refine Zf 17 ?_
  refine Zf 17 ?_
  refine Zf 17 ?_
  refine Za (y_pick true) ?_
  refine ZAnt [1,2,8] ?_
  refine ZrA ?_
  refine Znr [2] ?_
  refine Qg ?_
  refine Qc ?_
  have u:=Un u n1.below
  exact Qa rfl rfl ⟨_,rfl,congrArg nv (show pnCheck L=4 from ((if_neg c2).trans (if_pos (by omega)))).symm,u⟩
 refine Za (yb (dF c3) (Qp (largeP_any hl.enc))) ?_
 refine ZM ?_
 refine Zt 12 (y_fld (off:=1)) ?_
 refine Zt 12 (Qo (v:=l.hash.v) r1 rfl (by kernel_rfl) rfl rfl) ?_
 by_cases c4:200<(L.hash.length:Int)
 ·refine Zt 12 (yb (dT c4) (Qp (largeP_any hl.hash))) ?_
  refine Za (y_pick false) ?_
  refine ZM ?_
  refine Zf 17 ?_
  refine Zf 17 ?_
  refine Zf 17 ?_
  refine Zf 17 ?_
  refine Za (y_pick true) ?_
  refine ZAnt [1,2,8] ?_
  refine ZrA ?_
  refine Znr [2] ?_
  refine Qg ?_
  refine Qc ?_
  have u:=Un u n1.below
  exact Qa rfl rfl ⟨_,rfl,congrArg nv (show pnCheck L=4 from ((if_neg c2).trans (if_pos (by omega)))).symm,u⟩
 refine Zt 12 (yb (dF c4) (Qp (largeP_any hl.hash))) ?_
 refine Za (y_pick false) ?_
 refine ZM ?_
 refine Zt 17 (y_fld (off:=2)) ?_
 refine Zt 17 (Qo (v:=l.unm.v) r1 rfl (by kernel_rfl) rfl rfl) ?_
 refine Zt 17 (y_lenM (el:=3) hl.unm.len) ?_
 by_cases c5:64<(L.unm.length:Int)
 ·refine Zt 17 (yb (dT c5) yi_gtr) ?_
  refine Za (y_pick false) ?_
  refine ZAnt [1,2,8] ?_
  refine ZrA ?_
  refine Znr [2] ?_
  refine Qg ?_
  refine Qc ?_
  have u:=Un u n1.below
  exact Qa rfl rfl ⟨_,rfl,congrArg nv (show pnCheck L=4 from ((if_neg c2).trans (if_pos (by omega)))).symm,u⟩
 refine Zt 17 (yb (dF c5) yi_gtr) ?_
 refine Za (y_pick false) ?_
 refine ZAn [1,2,8] ?_
 refine cg_cf rfl ?_
 refine Zr ?_
 refine Za (y_fld (off:=2)) ?_
 refine Za (Qo (v:=l.unm.v) r1 rfl (by kernel_rfl) rfl rfl) ?_
 by_cases c6:∃ x∈L.unm,x<0∨64≤x
 ·refine Za (yb (dT c6) (Qp (containsOut_any hl.unm))) ?_
  refine ZAnt [1,2,23] ?_
  refine ZrA ?_
  refine Znr [2] ?_
  refine Qg ?_
  refine Qc ?_
  have u:=Un u n1.below
  exact Qa rfl rfl ⟨_,rfl,congrArg nv (show pnCheck L=3 from (((if_neg c2).trans (if_neg (by omega))).trans (if_pos c6))).symm,u⟩
 refine Za (yb (dF c6) (Qp (containsOut_any hl.unm))) ?_
 refine ZAn [1,2,23] ?_
 refine cg_cf rfl ?_
 refine Zr ?_
 refine Za (y_fld (off:=2)) ?_
 refine Za (Qo (v:=l.unm.v) r1 rfl (by kernel_rfl) rfl rfl) ?_
 by_cases c7:Rising L.unm
 ·refine Zc (rises_any hl.unm (by omega)) rfl rfl ?_
  rintro u8 w8 ⟨e8,hw8⟩
  have zw8:=hw8.size
  obtain rfl:u8=.bool true:=e8.trans (congrArg Value.bool (decide_eq_true c7))
  refine Za y_bnot ?_
  refine ZAn [2,27] ?_
  refine cg_cf rfl ?_
  refine cg_skip ?_
  refine Qi ?_
  refine Nx [2] ?_
  refine ZrA ?_
  refine Znr [2] ?_
  have u:=Un (Un u n1.below) hw8
  exact Qa rfl rfl ⟨_,rfl,congrArg nv (show pnCheck L=0 from ((((if_neg c2).trans (if_neg (by omega))).trans (if_neg c6)).trans (if_neg (not_not_intro c7)))).symm,u⟩
 refine Zc (rises_any hl.unm (by omega)) rfl rfl ?_
 rintro u9 w9 ⟨e9,hw9⟩
 have zw9:=hw9.size
 obtain rfl:u9=.bool false:=e9.trans (congrArg Value.bool (decide_eq_false c7))
 refine Za y_bnot ?_
 refine ZAnt [2,27] ?_
 refine ZrA ?_
 refine Znr [2] ?_
 refine Qg ?_
 refine Qc ?_
 have u:=Un (Un u n1.below) hw9
 exact Qa rfl rfl ⟨_,rfl,congrArg nv (show pnCheck L=8 from ((((if_neg c2).trans (if_neg (by omega))).trans (if_neg c6)).trans (if_pos c7))).symm,u⟩
theorem sameP_any {W:World} {B:Nat} {l m:PnV} {L M:Pn} (hl:IsPn W B l L) (hm:IsPn W B m M) (hB:B≤W.heap.size):Calls Tryz.prog 75 #[.agg (l.cs L),.agg (m.cs M)] W fun e W'=>∃ v,e=.returned v∧v=.bool (decide (PnSame L M))∧Below W.heap.size W W':=by
 refine Qf (n:=24) Tryz.func75 rfl Tryz.ntmps75 (by simp) ?_
 show CG _ _ _ [(0,.agg (l.cs L)),(1,.agg (m.cs M))] _ _
 have u:=Below.refl W.heap.size W
 refine Zr ?_
 refine lg_boxw Wn rfl rfl (by kernel_rfl) rfl (by decide) fun b1 w1 n1=>?_
 have r1:=n1.row
 have k1:=n1.blk
 have z1:=n1.size
 have lt1:b1<w1.heap.size:=by omega
 refine lg_boxw Wn rfl rfl (by kernel_rfl) rfl (by decide) fun b2 w2 n2=>?_
 have r2:=n2.row
 have k2:=n2.blk
 have z2:=n2.size
 have lt2:b2<w2.heap.size:=by omega
 refine ZAn [2,3,4] ?_
 refine Zr ?_
 refine Za (y_fld (off:=0)) ?_
 have r1:=n2.keep r1
 refine Za (Qo (v:=l.enc.v) r1 rfl (by kernel_rfl) rfl rfl) ?_
 refine Za (y_fld (off:=0)) ?_
 refine Za (Qo (v:=m.enc.v) r2 rfl (by kernel_rfl) rfl rfl) ?_
 have hl:=(hl.below (n1.below.mono (by omega))).below (n2.below.mono (by omega))
 have hm:=(hm.below (n1.below.mono (by omega))).below (n2.below.mono (by omega))
 by_cases c3:L.enc=M.enc
 ·refine Za (yb (dT c3) (Qp (bytesEq_S hl.enc hm.enc))) ?_
  refine ZM ?_
  refine Zt 10 (y_fld (off:=1)) ?_
  refine Zt 10 (Qo (v:=l.hash.v) r1 rfl (by kernel_rfl) rfl rfl) ?_
  refine Zt 10 (y_fld (off:=1)) ?_
  refine Zt 10 (Qo (v:=m.hash.v) r2 rfl (by kernel_rfl) rfl rfl) ?_
  by_cases c4:L.hash=M.hash
  ·refine Zt 10 (yb (dT c4) (Qp (bytesEq_S hl.hash hm.hash))) ?_
   refine Za (y_pick true) ?_
   refine ZM ?_
   refine Zt 17 (y_fld (off:=2)) ?_
   refine Zt 17 (Qo (v:=l.unm.v) r1 rfl (by kernel_rfl) rfl rfl) ?_
   refine Zt 17 (y_fld (off:=2)) ?_
   refine Zt 17 (Qo (v:=m.unm.v) r2 rfl (by kernel_rfl) rfl rfl) ?_
   by_cases c5:L.unm=M.unm
   ·refine Zct 17 (equalN_S hl.unm hm.unm (by omega) (by omega)) rfl rfl ?_
    rintro u6 w6 ⟨e6,hw6⟩
    have zw6:=hw6.size
    obtain rfl:u6=.bool true:=e6.trans (congrArg Value.bool (decide_eq_true c5))
    refine Za (y_pick true) ?_
    refine ZAnr [4] ?_
    have u:=Un (Un (Un u n1.below) n2.below) hw6
    exact Qa rfl rfl ⟨_,rfl,congrArg Value.bool (show true=decide (PnSame L M) from (dT (by simp [PnSame, *])).symm),u⟩
   refine Zct 17 (equalN_S hl.unm hm.unm (by omega) (by omega)) rfl rfl ?_
   rintro u7 w7 ⟨e7,hw7⟩
   have zw7:=hw7.size
   obtain rfl:u7=.bool false:=e7.trans (congrArg Value.bool (decide_eq_false c5))
   refine Za (y_pick true) ?_
   refine ZAnr [4] ?_
   have u:=Un (Un (Un u n1.below) n2.below) hw7
   exact Qa rfl rfl ⟨_,rfl,congrArg Value.bool (show false=decide (PnSame L M) from (dF (by simp [PnSame, *])).symm),u⟩
  refine Zt 10 (yb (dF c4) (Qp (bytesEq_S hl.hash hm.hash))) ?_
  refine Za (y_pick true) ?_
  refine ZM ?_
  refine Zf 17 ?_
  refine Zf 17 ?_
  refine Zf 17 ?_
  refine Zf 17 ?_
  refine Zf 17 ?_
  refine Za (y_pick false) ?_
  refine ZAnr [4] ?_
  have u:=Un (Un u n1.below) n2.below
  exact Qa rfl rfl ⟨_,rfl,congrArg Value.bool (show false=decide (PnSame L M) from (dF (by simp [PnSame, *])).symm),u⟩
 refine Za (yb (dF c3) (Qp (bytesEq_S hl.enc hm.enc))) ?_
 refine ZM ?_
 refine Zf 10 ?_
 refine Zf 10 ?_
 refine Zf 10 ?_
 refine Zf 10 ?_
 refine Zf 10 ?_
 refine Za (y_pick false) ?_
 refine ZM ?_
 refine Zf 17 ?_
 refine Zf 17 ?_
 refine Zf 17 ?_
 refine Zf 17 ?_
 refine Zf 17 ?_
 refine Za (y_pick false) ?_
 refine ZAnr [4] ?_
 have u:=Un (Un u n1.below) n2.below
 exact Qa rfl rfl ⟨_,rfl,congrArg Value.bool (show false=decide (PnSame L M) from (dF (by simp [PnSame, *])).symm),u⟩
theorem putP_any {W:World} {B:Nat} {s:SlV} {xs:List Int} {l:PnV} {L:Pn} (h:Sl W B s xs) (hl:IsPn W B l L) (hB:B≤W.heap.size) (hx:xs.length≤1000000):Calls Tryz.prog 133 #[s.v,.agg (l.cs L)] W fun e W'=>∃ v,e=.returned v∧PutS W (xs++pnPut L) v W':=by
 refine Qf (n:=25) Tryz.func133 rfl Tryz.ntmps133 (by simp) ?_
 show CG _ _ _ [(0,s.v),(1,.agg (l.cs L))] _ _
 have u:=Below.refl W.heap.size W
 refine Zr ?_
 refine lg_boxw Wn rfl rfl (by kernel_rfl) rfl (by decide) fun b1 w1 n1=>?_
 have r1:=n1.row
 have k1:=n1.blk
 have z1:=n1.size
 have lt1:b1<w1.heap.size:=by omega
 refine ZAn [0,3,4] ?_
 refine Qd ?_
 refine Zr ?_
 refine Za (y_loadA r1) ?_
 have hl:=hl.below (n1.below.mono (by omega))
 refine Zc (checkP_any (hl.more (B':=w1.heap.size) (by omega)) (Nat.le_refl _)) rfl rfl ?_
 rintro _ w2 ⟨rfl,hw2⟩
 have zw2:=hw2.size
 by_cases c3:(pnCheck L)=0
 ·have ok:=pnCheck_ok c3
  refine Zan (yb (nd_f c3) yi_neq) [0,3,4,8] ?_
  refine Zcf [0,3,4] ?_
  refine Zr ?_
  refine Za (y_fld (off:=0)) ?_
  have r1:=RowAt.below hw2 r1.lt r1
  refine Za (Qo (v:=l.enc.v) r1 rfl (by kernel_rfl) rfl rfl) ?_
  have hl:=hl.below (hw2.mono (by omega))
  refine Zc (putBytes_S (Sl.nil _ _) hl.enc (by omega) (by omega) (by simp only [List.length_nil];omega)) rfl rfl ?_
  rintro _ w4 ⟨r4,rfl,m4,hw4⟩
  have zw4:=hw4.size
  have lb4:=bytesOct_le L.enc
  refine ZAn [0,3,4,5] ?_
  refine ZrM ?_
  refine Za (y_fld (off:=1)) ?_
  have r1:=RowAt.below hw4 r1.lt r1
  refine Za (Qo (v:=l.hash.v) r1 rfl (by kernel_rfl) rfl rfl) ?_
  have hl:=hl.below (hw4.mono (by omega))
  refine Zc (putBytes_S m4 hl.hash (by omega) (by omega) (by simp only [List.length_append,List.length_nil];omega)) rfl rfl ?_
  rintro _ w5 ⟨r5,rfl,m5,hw5⟩
  have zw5:=hw5.size
  have lb5:=bytesOct_le L.hash
  refine ZAn [0,3,4,5] ?_
  refine ZrM ?_
  refine Za (y_fld (off:=2)) ?_
  have r1:=RowAt.below hw5 r1.lt r1
  refine Za (Qo (v:=l.unm.v) r1 rfl (by kernel_rfl) rfl rfl) ?_
  have hl:=hl.below (hw5.mono (by omega))
  refine Zc (putNums_S m5 hl.unm (by omega) (by omega) (by simp only [List.length_append,List.length_nil];omega)) rfl rfl ?_
  rintro _ w6 ⟨r6,rfl,m6,hw6⟩
  have zw6:=hw6.size
  have lb6:=bytesOct_le (numsOct L.unm)
  have ln6:=numsOct_length L.unm
  refine ZAn [0,4,5] ?_
  refine ZrM ?_
  refine ZM ?_
  refine lg_bslice (el:=23) (z:=.slice none 0 0) (cs:=#[s.v,r6.v]) (by kernel_rfl) (by kernel_rfl) (by decide) (by decide) rfl rfl (by kernel_rfl) rfl rfl (by decide) fun b7 w7 n7=>?_
  have r7:=n7.row
  have k7:=n7.blk
  have z7:=n7.size
  have lt7:b7<w7.heap.size:=by omega
  have h:=(h.below (n1.below.mono (by omega))).below (hw2.mono (by omega))
  have h:=(h.below (hw4.mono (by omega))).below (hw5.mono (by omega))
  have h:=(h.below (hw6.mono (by omega))).below (n7.below.mono (by omega))
  have m6:=m6.below (n7.below.mono (by omega))
  refine Zc (concat2_S r7 h m6 (by omega) (by omega) (by simp only [List.length_append,List.length_nil];omega)) rfl rfl ?_
  rintro _ w8 ⟨r8,rfl,m8,hw8⟩
  have zw8:=hw8.size
  refine ZAnr [4] ?_
  have u:=Un (Un u n1.below) hw2
  have u:=Un (Un u hw4) hw5
  have u:=Un (Un (Un u hw6) n7.below) hw8
  exact Qa rfl rfl ⟨_,rfl,r8,rfl,m8.cast (by rw [pnPut,if_pos c3];simp [pnOct]),u⟩
 refine Zan (yb (nd_t c3) yi_neq) [0,3,4,8] ?_
 refine cg_ct rfl ?_
 refine ZrM ?_
 refine ZAnr [0,3,4] ?_
 refine Qc ?_
 have h:=(h.below (n1.below.mono (by omega))).below (hw2.mono (by omega))
 have u:=Un (Un u n1.below) hw2
 exact Qa rfl rfl ⟨_,rfl,s,rfl,(h.more (by omega)).cast (by rw [pnPut,if_neg c3,List.append_nil]),u⟩
set_option maxHeartbeats 2000000 in
theorem getP_anyO {W:World} {B:Nat} {s:SlV} {xs:List Int} (h:Sl W B s xs) (hB:B≤W.heap.size):Calls Tryz.prog 134 #[s.v] W fun e W'=>∃ v,e=.returned v∧∃ (l:PnV) (r:SlV),v=.tuple #[.agg (l.cs (pnGet xs).2.1),r.v,nv (pnGet xs).1]∧IsPn W' W'.heap.size l (pnGet xs).2.1∧Sl W' B r (pnGet xs).2.2∧l.fresh W.heap.size∧l.old B∧Below W.heap.size W W':=by
 refine Qf (n:=54) Tryz.func134 rfl Tryz.ntmps134 (by simp) ?_
 show CG _ _ _ [(0,s.v)] _ _
 have u:=Below.refl W.heap.size W
 refine Zr ?_
 refine lg_allocw (cs:=PnV.zero.cs Pn.zero) Wn rfl (by kernel_rfl) rfl (by decide) fun b1 w1 n1=>?_
 have r1:=n1.row
 have k1:=n1.blk
 have z1:=n1.size
 have lt1:b1<w1.heap.size:=by omega
 refine ZA ?_
 refine ZAn [0,2,3,4] ?_
 refine ZrM ?_
 have h:=h.below (n1.below.mono (by omega))
 refine Zc (getBytes_S h (by omega)) rfl rfl ?_
 rintro _ w2 ⟨p2,r2,rfl,m2,l2,hw2⟩
 have zw2:=hw2.size
 refine ZM ?_
 refine Za y_extract ?_
 refine Za y_extract ?_
 refine Za y_extract ?_
 refine ZA ?_
 refine ZA ?_
 refine ZAn [2,3,4,5,6,7] ?_
 refine Qd ?_
 refine ZrM ?_
 by_cases c3:(bytesE xs)=0
 ·refine Zan (yb (nd_f c3) yi_neq) [2,3,4,5,6,7,19] ?_
  refine Zcf [2,3,4,5,6,7] ?_
  refine ZrM ?_
  refine Zc (getBytes_S l2 (by omega)) rfl rfl ?_
  rintro _ w4 ⟨p4,r4,rfl,m4,l4,hw4⟩
  have zw4:=hw4.size
  refine ZM ?_
  refine Za y_extract ?_
  refine Za y_extract ?_
  refine Za y_extract ?_
  refine ZA ?_
  refine ZA ?_
  refine ZAn [2,3,4,5,8,6,7] ?_
  refine Qd ?_
  refine ZrM ?_
  by_cases c5:(bytesE (bytesR xs))=0
  ·refine Zan (yb (nd_f c5) yi_neq) [2,3,4,5,8,6,7,29] ?_
   refine Zcf [2,3,4,5,8,6,7] ?_
   refine ZrM ?_
   refine Zc (getNums_SF l4 (by omega)) rfl rfl ?_
   rintro _ w6 ⟨p6,r6,rfl,m6,l6,f6,hw6⟩
   have zw6:=hw6.size
   refine ZM ?_
   refine Za y_extract ?_
   refine Za y_extract ?_
   refine Za y_extract ?_
   refine ZA ?_
   refine ZA ?_
   refine ZAn [2,3,4,5,8,9,6,7] ?_
   refine Qd ?_
   refine ZrM ?_
   by_cases c7:(numsE (bytesR (bytesR xs)))=0
   ·refine Zan (yb (nd_f c7) yi_neq) [2,3,4,5,8,9,6,7,39] ?_
    refine Zcf [2,3,4,5,8,9,6] ?_
    refine ZrM ?_
    refine ZM ?_
    refine ZM ?_
    refine Za (y_build (cs:=(⟨p2,p4,p6⟩:PnV).cs (⟨(bytesP xs),(bytesP (bytesR xs)),(numsL (bytesR (bytesR xs)))⟩:Pn))) ?_
    refine lg_allocw (cs:=PnV.zero.cs Pn.zero) Wn rfl (by kernel_rfl) rfl (by decide) fun b8 w8 n8=>?_
    have r8:=n8.row
    have k8:=n8.blk
    have z8:=n8.size
    have lt8:b8<w8.heap.size:=by omega
    have o9:=r8
    refine lg_stw Wn r8 rfl rfl rfl (by kernel_rfl) (by kernel_rfl) rfl rfl fun w9 s9=>?_
    have r8:=s9.row
    have z9:=s9.size
    refine Zn [2,3,4,6,10] ?_
    refine Qd ?_
    refine Zr ?_
    refine Za (y_loadA r8) ?_
    have m2:=(m2.below (hw4.mono (by omega))).below (hw6.mono (by omega))
    have m2:=(m2.below (n8.below.mono (by omega))).set o9 rfl s9
    have m4:=((m4.below (hw6.mono (by omega))).below (n8.below.mono (by omega))).set o9 rfl s9
    have m6:=(m6.below (n8.below.mono (by omega))).set o9 rfl s9
    refine Zc (checkP_any (show IsPn w9 w9.heap.size (⟨p2,p4,p6⟩:PnV) (⟨(bytesP xs),(bytesP (bytesR xs)),(numsL (bytesR (bytesR xs)))⟩:Pn) from ⟨(m2.more (B':=w9.heap.size) (by omega)),(m4.more (B':=w9.heap.size) (by omega)),(m6.more (B':=w9.heap.size) (by omega))⟩) (Nat.le_refl _)) rfl rfl ?_
    rintro _ w10 ⟨rfl,hw10⟩
    have zw10:=hw10.size
    refine ZAn [2,3,4,6,10,11] ?_
    refine ZrM ?_
    by_cases c11:(pnCheck (⟨(bytesP xs),(bytesP (bytesR xs)),(numsL (bytesR (bytesR xs)))⟩:Pn))=0
    ·refine Zan (yb (nd_f c11) yi_neq) [2,3,4,6,10,11,49] ?_
     refine Zcf [2,3,4,6,10] ?_
     refine Zr ?_
     have r8:=RowAt.below hw10 r8.lt r8
     refine Za (y_loadA r8) ?_
     refine ZM ?_
     have r1:=RowAt.below hw2 r1.lt r1
     have r1:=RowAt.below hw4 r1.lt r1
     have r1:=RowAt.below hw6 r1.lt r1
     have r1:=n8.keep r1
     have r1:=s9.keep r1 (by omega)
     have r1:=RowAt.below hw10 r1.lt r1
     have o12:=r1
     refine lg_stw Wn r1 rfl rfl rfl (by kernel_rfl) (by kernel_rfl) rfl rfl fun w12 s12=>?_
     have r1:=s12.row
     have z12:=s12.size
     refine ZA ?_
     refine ZAnr [2,3,4] ?_
     have hst:pnGet xs=(0,(⟨(bytesP xs),(bytesP (bytesR xs)),(numsL (bytesR (bytesR xs)))⟩:Pn),(numsR (bytesR (bytesR xs)))):=((if_neg (not_not_intro c3)).trans ((if_neg (not_not_intro c5)).trans ((if_neg (not_not_intro c7)).trans (if_neg (not_not_intro c11)))))
     refine eg_ret_agg3 rfl rfl r1 (by kernel_rfl) (by kernel_rfl) rfl rfl ?_
     rw [hst]
     have m2:=(m2.below (hw10.mono (by omega))).set o12 rfl s12
     have m4:=(m4.below (hw10.mono (by omega))).set o12 rfl s12
     have m6:=(m6.below (hw10.mono (by omega))).set o12 rfl s12
     have l6:=(l6.below (n8.below.mono (by omega))).set o9 rfl s9
     have l6:=(l6.below (hw10.mono (by omega))).set o12 rfl s12
     have u:=Un (Un u n1.below) hw2
     have u:=Un (Un (Un u hw4) hw6) n8.below
     have u:=u.trans (s9.below _ (by omega))
     have u:=Un u hw10
     have u:=u.trans (s12.below _ (by omega))
     exact ⟨_,rfl,(⟨p2,p4,p6⟩:PnV),r6,rfl,(show IsPn w12 w12.heap.size (⟨p2,p4,p6⟩:PnV) (⟨(bytesP xs),(bytesP (bytesR xs)),(numsL (bytesR (bytesR xs)))⟩:Pn) from ⟨(m2.more (B':=w12.heap.size) (by omega)),(m4.more (B':=w12.heap.size) (by omega)),(m6.more (B':=w12.heap.size) (by omega))⟩),l6,f6.le (by omega),⟨m2.old,m4.old⟩,u⟩
    refine Zan (yb (nd_t c11) yi_neq) [2,3,4,6,10,11,49] ?_
    refine cg_ct rfl ?_
    refine Zr ?_
    refine Za (y_build (cs:=PnV.zero.cs Pn.zero)) ?_
    refine ZM ?_
    have r1:=RowAt.below hw2 r1.lt r1
    have r1:=RowAt.below hw4 r1.lt r1
    have r1:=RowAt.below hw6 r1.lt r1
    have r1:=n8.keep r1
    have r1:=s9.keep r1 (by omega)
    have r1:=RowAt.below hw10 r1.lt r1
    have o13:=r1
    refine lg_stw Wn r1 rfl rfl rfl (by kernel_rfl) (by kernel_rfl) rfl rfl fun w13 s13=>?_
    have r1:=s13.row
    have z13:=s13.size
    refine ZA ?_
    refine ZAnr [2,6,10,3,4] ?_
    refine Qc ?_
    have hst:pnGet xs=((pnCheck (⟨(bytesP xs),(bytesP (bytesR xs)),(numsL (bytesR (bytesR xs)))⟩:Pn)),Pn.zero,[]):=((if_neg (not_not_intro c3)).trans ((if_neg (not_not_intro c5)).trans ((if_neg (not_not_intro c7)).trans (if_pos c11))))
    refine eg_ret_agg3 rfl rfl r1 (by kernel_rfl) (by kernel_rfl) rfl rfl ?_
    rw [hst]
    have u:=Un (Un u n1.below) hw2
    have u:=Un (Un (Un u hw4) hw6) n8.below
    have u:=u.trans (s9.below _ (by omega))
    have u:=Un u hw10
    have u:=u.trans (s13.below _ (by omega))
    exact ⟨_,rfl,PnV.zero,nilS,rfl,((IsPn.zero _ 0).more (B':=w13.heap.size) (by omega)),(Sl.nil _ _),Fr.nil _,⟨Old.nil _,Old.nil _⟩,u⟩
   refine Zan (yb (nd_t c7) yi_neq) [2,3,4,5,8,9,6,7,39] ?_
   refine cg_ct rfl ?_
   refine Zr ?_
   refine Za (y_build (cs:=PnV.zero.cs Pn.zero)) ?_
   refine ZM ?_
   have r1:=RowAt.below hw2 r1.lt r1
   have r1:=RowAt.below hw4 r1.lt r1
   have r1:=RowAt.below hw6 r1.lt r1
   have o14:=r1
   refine lg_stw Wn r1 rfl rfl rfl (by kernel_rfl) (by kernel_rfl) rfl rfl fun w14 s14=>?_
   have r1:=s14.row
   have z14:=s14.size
   refine ZA ?_
   refine ZAnr [2,5,8,9,6,3,4] ?_
   refine Qc ?_
   have hst:pnGet xs=((numsE (bytesR (bytesR xs))),Pn.zero,[]):=((if_neg (not_not_intro c3)).trans ((if_neg (not_not_intro c5)).trans (if_pos c7)))
   refine eg_ret_agg3 rfl rfl r1 (by kernel_rfl) (by kernel_rfl) rfl rfl ?_
   rw [hst]
   have u:=Un (Un u n1.below) hw2
   have u:=Un (Un u hw4) hw6
   have u:=u.trans (s14.below _ (by omega))
   exact ⟨_,rfl,PnV.zero,nilS,rfl,((IsPn.zero _ 0).more (B':=w14.heap.size) (by omega)),(Sl.nil _ _),Fr.nil _,⟨Old.nil _,Old.nil _⟩,u⟩
  refine Zan (yb (nd_t c5) yi_neq) [2,3,4,5,8,6,7,29] ?_
  refine cg_ct rfl ?_
  refine Zr ?_
  refine Za (y_build (cs:=PnV.zero.cs Pn.zero)) ?_
  refine ZM ?_
  have r1:=RowAt.below hw2 r1.lt r1
  have r1:=RowAt.below hw4 r1.lt r1
  have o15:=r1
  refine lg_stw Wn r1 rfl rfl rfl (by kernel_rfl) (by kernel_rfl) rfl rfl fun w15 s15=>?_
  have r1:=s15.row
  have z15:=s15.size
  refine ZA ?_
  refine ZAnr [2,5,8,6,7,3,4] ?_
  refine Qc ?_
  have hst:pnGet xs=((bytesE (bytesR xs)),Pn.zero,[]):=((if_neg (not_not_intro c3)).trans (if_pos c5))
  refine eg_ret_agg3 rfl rfl r1 (by kernel_rfl) (by kernel_rfl) rfl rfl ?_
  rw [hst]
  have u:=Un (Un (Un u n1.below) hw2) hw4
  have u:=u.trans (s15.below _ (by omega))
  exact ⟨_,rfl,PnV.zero,nilS,rfl,((IsPn.zero _ 0).more (B':=w15.heap.size) (by omega)),(Sl.nil _ _),Fr.nil _,⟨Old.nil _,Old.nil _⟩,u⟩
 refine Zan (yb (nd_t c3) yi_neq) [2,3,4,5,6,7,19] ?_
 refine cg_ct rfl ?_
 refine Zr ?_
 refine Za (y_build (cs:=PnV.zero.cs Pn.zero)) ?_
 refine ZM ?_
 have r1:=RowAt.below hw2 r1.lt r1
 have o16:=r1
 refine lg_stw Wn r1 rfl rfl rfl (by kernel_rfl) (by kernel_rfl) rfl rfl fun w16 s16=>?_
 have r1:=s16.row
 have z16:=s16.size
 refine ZA ?_
 refine ZAnr [2,5,6,7,3,4] ?_
 refine Qc ?_
 have hst:pnGet xs=((bytesE xs),Pn.zero,[]):=(if_pos c3)
 refine eg_ret_agg3 rfl rfl r1 (by kernel_rfl) (by kernel_rfl) rfl rfl ?_
 rw [hst]
 have u:=Un (Un u n1.below) hw2
 have u:=u.trans (s16.below _ (by omega))
 exact ⟨_,rfl,PnV.zero,nilS,rfl,((IsPn.zero _ 0).more (B':=w16.heap.size) (by omega)),(Sl.nil _ _),Fr.nil _,⟨Old.nil _,Old.nil _⟩,u⟩
end
/- NdProg:
  node.Check, node.Same, and the methods that put and get.
-/
section
set_option maxHeartbeats 1000000
theorem checkN_any {W:World} {B:Nat} {l:NdV} {L:Nd} (hl:IsNd W B l L) (hB:B≤W.heap.size):Calls Tryz.prog 35 #[.agg (l.cs L)] W fun e W'=>∃ v,e=.returned v∧v=nv (ndCheck L)∧Below W.heap.size W W':=by
 refine Qf (n:=48) Tryz.func35 rfl Tryz.ntmps35 (by simp) ?_
 show CG _ _ _ [(0,.agg (l.cs L))] _ _
 have u:=Below.refl W.heap.size W
 refine Zr ?_
 refine lg_boxw Wn rfl rfl (by kernel_rfl) rfl (by decide) fun b1 w1 n1=>?_
 have r1:=n1.row
 have k1:=n1.blk
 have z1:=n1.size
 have lt1:b1<w1.heap.size:=by omega
 refine ZAn [1,2] ?_
 refine Qd ?_
 refine Qj ?_
 refine Zr ?_
 refine Za (y_fld (off:=0)) ?_
 refine Za (Qo (v:=nv L.kind) r1 rfl (by kernel_rfl) rfl rfl) ?_
 by_cases c2:L.kind<0
 ·refine Za (yb (dT c2) yi_lss) ?_
  refine ZM ?_
  refine Zf 7 ?_
  refine Zf 7 ?_
  refine Zf 7 ?_
  refine Za (y_pick true) ?_
  refine ZAnt [1,2,3] ?_
  refine ZrA ?_
  refine Znr [2] ?_
  refine Qg ?_
  refine Qc ?_
  have u:=Un u n1.below
  exact Qa rfl rfl ⟨_,rfl,congrArg nv (show 7=ndCheck L by simp [ndCheck,c2]),u⟩
 refine Za (yb (dF c2) yi_lss) ?_
 refine ZM ?_
 refine Zt 7 (y_fld (off:=0)) ?_
 refine Zt 7 (Qo (v:=nv L.kind) r1 rfl (by kernel_rfl) rfl rfl) ?_
 by_cases c3:2<L.kind
 ·refine Zt 7 (yb (dT c3) yi_gtr) ?_
  refine Za (y_pick false) ?_
  refine ZAnt [1,2,3] ?_
  refine ZrA ?_
  refine Znr [2] ?_
  refine Qg ?_
  refine Qc ?_
  have u:=Un u n1.below
  exact Qa rfl rfl ⟨_,rfl,congrArg nv (show 7=ndCheck L by simp [ndCheck,c2,c3]),u⟩
 refine Zt 7 (yb (dF c3) yi_gtr) ?_
 refine Za (y_pick false) ?_
 refine ZAn [1,2,3] ?_
 refine cg_cf rfl ?_
 refine Zr ?_
 refine Za (y_fld (off:=0)) ?_
 refine Za (Qo (v:=nv L.kind) r1 rfl (by kernel_rfl) rfl rfl) ?_
 by_cases c4:L.kind=1
 ·refine Za (yb (nd_f c4) yi_neq) ?_
  refine ZM ?_
  refine Zf 16 ?_
  refine Zf 16 ?_
  refine Zf 16 ?_
  refine Zf 16 ?_
  refine Zf 16 ?_
  refine Za (y_pick false) ?_
  refine ZAn [1,2,12] ?_
  refine cg_cf rfl ?_
  refine Zr ?_
  refine Za (y_fld (off:=0)) ?_
  refine Za (Qo (v:=nv L.kind) r1 rfl (by kernel_rfl) rfl rfl) ?_
  refine Za (yb (nd_t (show ¬(L.kind=2) from (show ¬(L.kind=2) by omega))) (yi_neq rfl rfl rfl)) ?_
  refine ZM ?_
  refine Zt 27 (y_fld (off:=5)) ?_
  refine Zt 27 (y_part r1 (m:=3) rfl (show 5+3≤8 by decide) (by kernel_rfl) (by kernel_rfl) rfl rfl) ?_
  refine Zt 27 (y_build (cs:=PnV.zero.cs Pn.zero)) ?_
  have hl:=hl.below (n1.below.mono (by omega))
  by_cases c5:PnSame L.inner Pn.zero
  ·refine Zct 27 (sameP_any (hl.inner.more (B':=w1.heap.size) (by omega)) ((IsPn.zero _ 0).more (B':=w1.heap.size) (by omega)) (Nat.le_refl _)) rfl rfl ?_
   rintro u6 w6 ⟨e6,hw6⟩
   have zw6:=hw6.size
   obtain rfl:u6=.bool true:=e6.trans (congrArg Value.bool (decide_eq_true c5))
   refine Zt 27 y_bnot ?_
   refine Za (y_pick true) ?_
   refine ZAn [1,2,23] ?_
   refine cg_cf rfl ?_
   refine Zr ?_
   refine Za (y_fld (off:=0)) ?_
   have r1:=RowAt.below hw6 r1.lt r1
   refine Za (Qo (v:=nv L.kind) r1 rfl (by kernel_rfl) rfl rfl) ?_
   refine Za (yb (dT c4) yi_eql) ?_
   refine ZAnt [1,2,34] ?_
   refine Zr ?_
   refine Za (y_fld (off:=1)) ?_
   refine Za (y_part r1 (m:=4) rfl (show 1+4≤8 by decide) (by kernel_rfl) (by kernel_rfl) rfl rfl) ?_
   have hl:=hl.below (hw6.mono (by omega))
   refine Zc (check_any (hl.leaf.more (B':=w6.heap.size) (by omega)) (Nat.le_refl _)) rfl rfl ?_
   rintro _ w7 ⟨rfl,hw7⟩
   have zw7:=hw7.size
   refine ZAnr [2] ?_
   refine Qg ?_
   refine Qc ?_
   have u:=Un (Un (Un u n1.below) hw6) hw7
   exact Qa rfl rfl ⟨_,rfl,congrArg nv (show (lfCheck L.leaf)=ndCheck L by simp [ndCheck,c4,c5]),u⟩
  refine Zct 27 (sameP_any (hl.inner.more (B':=w1.heap.size) (by omega)) ((IsPn.zero _ 0).more (B':=w1.heap.size) (by omega)) (Nat.le_refl _)) rfl rfl ?_
  rintro u8 w8 ⟨e8,hw8⟩
  have zw8:=hw8.size
  obtain rfl:u8=.bool false:=e8.trans (congrArg Value.bool (decide_eq_false c5))
  refine Zt 27 y_bnot ?_
  refine Za (y_pick true) ?_
  refine ZAnt [1,2,23] ?_
  refine ZrA ?_
  refine Znr [2] ?_
  refine Qg ?_
  refine Qc ?_
  have u:=Un (Un u n1.below) hw8
  exact Qa rfl rfl ⟨_,rfl,congrArg nv (show 2=ndCheck L by simp [ndCheck,c4,c5]),u⟩
 refine Za (yb (nd_t c4) yi_neq) ?_
 refine ZM ?_
 refine Zt 16 (y_fld (off:=1)) ?_
 refine Zt 16 (y_part r1 (m:=4) rfl (show 1+4≤8 by decide) (by kernel_rfl) (by kernel_rfl) rfl rfl) ?_
 refine Zt 16 (y_build (cs:=LfV.zero.cs Lf.zero)) ?_
 have hl:=hl.below (n1.below.mono (by omega))
 by_cases c9:LfSame L.leaf Lf.zero
 ·refine Zct 16 (same_any (hl.leaf.more (B':=w1.heap.size) (by omega)) ((IsLf.zero _ 0).more (B':=w1.heap.size) (by omega)) (Nat.le_refl _)) rfl rfl ?_
  rintro u10 w10 ⟨e10,hw10⟩
  have zw10:=hw10.size
  obtain rfl:u10=.bool true:=e10.trans (congrArg Value.bool (decide_eq_true c9))
  refine Zt 16 y_bnot ?_
  refine Za (y_pick true) ?_
  refine ZAn [1,2,12] ?_
  refine cg_cf rfl ?_
  refine Zr ?_
  refine Za (y_fld (off:=0)) ?_
  have r1:=RowAt.below hw10 r1.lt r1
  refine Za (Qo (v:=nv L.kind) r1 rfl (by kernel_rfl) rfl rfl) ?_
  by_cases c11:L.kind=2
  ·refine Za (yb (nd_f c11) yi_neq) ?_
   refine ZM ?_
   refine Zf 27 ?_
   refine Zf 27 ?_
   refine Zf 27 ?_
   refine Zf 27 ?_
   refine Zf 27 ?_
   refine Za (y_pick false) ?_
   refine ZAn [1,2,23] ?_
   refine cg_cf rfl ?_
   refine Zr ?_
   refine Za (y_fld (off:=0)) ?_
   refine Za (Qo (v:=nv L.kind) r1 rfl (by kernel_rfl) rfl rfl) ?_
   refine Za (yb (dF c4) yi_eql) ?_
   refine ZAn [1,2,34] ?_
   refine cg_cf rfl ?_
   refine Zr ?_
   refine Za (y_fld (off:=0)) ?_
   refine Za (Qo (v:=nv L.kind) r1 rfl (by kernel_rfl) rfl rfl) ?_
   refine Za (yb (dT c11) yi_eql) ?_
   refine ZAnt [1,2,41] ?_
   refine Zr ?_
   refine Za (y_fld (off:=5)) ?_
   refine Za (y_part r1 (m:=3) rfl (show 5+3≤8 by decide) (by kernel_rfl) (by kernel_rfl) rfl rfl) ?_
   have hl:=hl.below (hw10.mono (by omega))
   refine Zc (checkP_any (hl.inner.more (B':=w10.heap.size) (by omega)) (Nat.le_refl _)) rfl rfl ?_
   rintro _ w12 ⟨rfl,hw12⟩
   have zw12:=hw12.size
   refine ZAnr [2] ?_
   refine Qg ?_
   refine Qc ?_
   have u:=Un (Un (Un u n1.below) hw10) hw12
   exact Qa rfl rfl ⟨_,rfl,congrArg nv (show (pnCheck L.inner)=ndCheck L by simp [ndCheck,c9,c11]),u⟩
  refine Za (yb (nd_t c11) yi_neq) ?_
  refine ZM ?_
  refine Zt 27 (y_fld (off:=5)) ?_
  refine Zt 27 (y_part r1 (m:=3) rfl (show 5+3≤8 by decide) (by kernel_rfl) (by kernel_rfl) rfl rfl) ?_
  refine Zt 27 (y_build (cs:=PnV.zero.cs Pn.zero)) ?_
  have hl:=hl.below (hw10.mono (by omega))
  by_cases c13:PnSame L.inner Pn.zero
  ·refine Zct 27 (sameP_any (hl.inner.more (B':=w10.heap.size) (by omega)) ((IsPn.zero _ 0).more (B':=w10.heap.size) (by omega)) (Nat.le_refl _)) rfl rfl ?_
   rintro u14 w14 ⟨e14,hw14⟩
   have zw14:=hw14.size
   obtain rfl:u14=.bool true:=e14.trans (congrArg Value.bool (decide_eq_true c13))
   refine Zt 27 y_bnot ?_
   refine Za (y_pick true) ?_
   refine ZAn [1,2,23] ?_
   refine cg_cf rfl ?_
   refine Zr ?_
   refine Za (y_fld (off:=0)) ?_
   have r1:=RowAt.below hw14 r1.lt r1
   refine Za (Qo (v:=nv L.kind) r1 rfl (by kernel_rfl) rfl rfl) ?_
   refine Za (yb (dF c4) yi_eql) ?_
   refine ZAn [1,2,34] ?_
   refine cg_cf rfl ?_
   refine Zr ?_
   refine Za (y_fld (off:=0)) ?_
   refine Za (Qo (v:=nv L.kind) r1 rfl (by kernel_rfl) rfl rfl) ?_
   refine Za (yb (dF c11) yi_eql) ?_
   refine ZAn [1,2,41] ?_
   refine cg_cf rfl ?_
   refine cg_skip ?_
   refine Qi ?_
   refine Nx [2] ?_
   refine ZrA ?_
   refine Znr [2] ?_
   have u:=Un (Un (Un u n1.below) hw10) hw14
   exact Qa rfl rfl ⟨_,rfl,congrArg nv (show 0=ndCheck L by simp [ndCheck,c2,c3,c4,c9,c11,c13]),u⟩
  refine Zct 27 (sameP_any (hl.inner.more (B':=w10.heap.size) (by omega)) ((IsPn.zero _ 0).more (B':=w10.heap.size) (by omega)) (Nat.le_refl _)) rfl rfl ?_
  rintro u15 w15 ⟨e15,hw15⟩
  have zw15:=hw15.size
  obtain rfl:u15=.bool false:=e15.trans (congrArg Value.bool (decide_eq_false c13))
  refine Zt 27 y_bnot ?_
  refine Za (y_pick true) ?_
  refine ZAnt [1,2,23] ?_
  refine ZrA ?_
  refine Znr [2] ?_
  refine Qg ?_
  refine Qc ?_
  have u:=Un (Un (Un u n1.below) hw10) hw15
  exact Qa rfl rfl ⟨_,rfl,congrArg nv (show 2=ndCheck L by simp [ndCheck,c2,c3,c4,c9,c11,c13]),u⟩
 refine Zct 16 (same_any (hl.leaf.more (B':=w1.heap.size) (by omega)) ((IsLf.zero _ 0).more (B':=w1.heap.size) (by omega)) (Nat.le_refl _)) rfl rfl ?_
 rintro u16 w16 ⟨e16,hw16⟩
 have zw16:=hw16.size
 obtain rfl:u16=.bool false:=e16.trans (congrArg Value.bool (decide_eq_false c9))
 refine Zt 16 y_bnot ?_
 refine Za (y_pick true) ?_
 refine ZAnt [1,2,12] ?_
 refine ZrA ?_
 refine Znr [2] ?_
 refine Qg ?_
 refine Qc ?_
 have u:=Un (Un u n1.below) hw16
 exact Qa rfl rfl ⟨_,rfl,congrArg nv (show 2=ndCheck L by simp [ndCheck,c2,c3,c4,c9]),u⟩
theorem countsN_any {W:World} {B:Nat} {l:NdV} {L:Nd} (hl:IsNd W B l L) (hB:B≤W.heap.size):Calls Tryz.prog 63 #[.agg (l.cs L)] W fun e W'=>∃ v,e=.returned v∧v=nv (ndAs L).kind∧Below W.heap.size W W':=by
 refine Qf (n:=8) Tryz.func63 rfl Tryz.ntmps63 (by simp) ?_
 show CG _ _ _ [(0,.agg (l.cs L))] _ _
 have u:=Below.refl W.heap.size W
 refine Zr ?_
 refine lg_boxw Wn rfl rfl (by kernel_rfl) rfl (by decide) fun b1 w1 n1=>?_
 have r1:=n1.row
 have k1:=n1.blk
 have z1:=n1.size
 have lt1:b1<w1.heap.size:=by omega
 refine ZAn [1,2] ?_
 refine Qd ?_
 refine Zr ?_
 refine Za (y_loadA r1) ?_
 have hl:=hl.below (n1.below.mono (by omega))
 refine Zc (checkN_any (hl.more (B':=w1.heap.size) (by omega)) (Nat.le_refl _)) rfl rfl ?_
 rintro _ w2 ⟨rfl,hw2⟩
 have zw2:=hw2.size
 by_cases c3:(ndCheck L)=0
 ·refine Zan (yb (nd_f c3) yi_neq) [1,2,5] ?_
  refine Zcf [1,2] ?_
  refine Zr ?_
  refine Za (y_fld (off:=0)) ?_
  have r1:=RowAt.below hw2 r1.lt r1
  refine Za (Qo (v:=nv L.kind) r1 rfl (by kernel_rfl) rfl rfl) ?_
  refine ZAnr [2] ?_
  have u:=Un (Un u n1.below) hw2
  exact Qa rfl rfl ⟨_,rfl,congrArg nv (show L.kind=(ndAs L).kind by simp [ndAs,c3]),u⟩
 refine Zan (yb (nd_t c3) yi_neq) [1,2,5] ?_
 refine cg_ct rfl ?_
 refine ZrA ?_
 refine Znr [1,2] ?_
 refine Qc ?_
 have u:=Un (Un u n1.below) hw2
 exact Qa rfl rfl ⟨_,rfl,congrArg nv (show 0=(ndAs L).kind by simp [ndAs,c3]),u⟩
theorem of1_any (k:Int) (h1:k=1) (W:World):Calls Tryz.prog 62 #[nv k] W fun e W'=>∃ v,e=.returned v∧v=.tuple #[.agg (CsV.zero.cs (⟨some 100,some 101⟩:Cs)),.bool true]∧Below W.heap.size W W':=by
 refine Qf (n:=12) Tryz.func62 rfl Tryz.ntmps62 (by simp) ?_
 show CG _ _ _ [(0,nv k)] _ _
 have u:=Below.refl W.heap.size W
 refine Zr ?_
 refine lg_allocw (cs:=CsV.zero.cs Cs.zero) Wn rfl (by kernel_rfl) rfl (by decide) fun b1 w1 n1=>?_
 have r1:=n1.row
 have k1:=n1.blk
 have z1:=n1.size
 have lt1:b1<w1.heap.size:=by omega
 refine ZAn [0,2,3] ?_
 refine Qd ?_
 refine ZrM ?_
 refine Zn [2,3,4] ?_
 refine Qj ?_
 refine Zr ?_
 refine Za (yb (dT h1) yi_eql) ?_
 refine ZAnt [2,3,4,5] ?_
 refine Zr ?_
 refine Za (y_build (cs:=(⟨⟩:CsV).cs (⟨some 100,some 101⟩:Cs))) ?_
 have o2:=r1
 refine lg_stw Wn r1 rfl rfl rfl (by kernel_rfl) (by kernel_rfl) rfl rfl fun w2 s2=>?_
 have r1:=s2.row
 have z2:=s2.size
 refine ZAnr [2,3] ?_
 refine Qg ?_
 refine Qc ?_
 have u:=Un u n1.below
 have u:=u.trans (s2.below _ (by omega))
 exact eg_ret_agg2 rfl rfl r1 (by kernel_rfl) (by kernel_rfl) rfl ⟨_,rfl,rfl,u⟩
theorem of2_any (k:Int) (h2:k=2) (W:World):Calls Tryz.prog 62 #[nv k] W fun e W'=>∃ v,e=.returned v∧v=.tuple #[.agg (CsV.zero.cs (⟨some 102,some 103⟩:Cs)),.bool true]∧Below W.heap.size W W':=by
 refine Qf (n:=12) Tryz.func62 rfl Tryz.ntmps62 (by simp) ?_
 show CG _ _ _ [(0,nv k)] _ _
 have u:=Below.refl W.heap.size W
 refine Zr ?_
 refine lg_allocw (cs:=CsV.zero.cs Cs.zero) Wn rfl (by kernel_rfl) rfl (by decide) fun b1 w1 n1=>?_
 have r1:=n1.row
 have k1:=n1.blk
 have z1:=n1.size
 have lt1:b1<w1.heap.size:=by omega
 refine ZAn [0,2,3] ?_
 refine Qd ?_
 refine ZrM ?_
 refine Zn [2,3,4] ?_
 refine Qj ?_
 refine Zr ?_
 refine Za (yb (dF (show ¬(k=1) from (show ¬(k=1) by omega))) (yi_eql rfl rfl rfl)) ?_
 refine ZAn [2,3,4,5] ?_
 refine cg_cf rfl ?_
 refine Zr ?_
 refine Za (yb (dT h2) yi_eql) ?_
 refine ZAnt [2,3,8] ?_
 refine Zr ?_
 refine Za (y_build (cs:=(⟨⟩:CsV).cs (⟨some 102,some 103⟩:Cs))) ?_
 have o2:=r1
 refine lg_stw Wn r1 rfl rfl rfl (by kernel_rfl) (by kernel_rfl) rfl rfl fun w2 s2=>?_
 have r1:=s2.row
 have z2:=s2.size
 refine ZAnr [2,3] ?_
 refine Qg ?_
 refine Qc ?_
 have u:=Un u n1.below
 have u:=u.trans (s2.below _ (by omega))
 exact eg_ret_agg2 rfl rfl r1 (by kernel_rfl) (by kernel_rfl) rfl ⟨_,rfl,rfl,u⟩
theorem of0_any (k:Int) (h1:¬k=1) (h2:¬k=2) (W:World):Calls Tryz.prog 62 #[nv k] W fun e W'=>∃ v,e=.returned v∧v=.tuple #[.agg (CsV.zero.cs Cs.zero),.bool false]∧Below W.heap.size W W':=by
 refine Qf (n:=12) Tryz.func62 rfl Tryz.ntmps62 (by simp) ?_
 show CG _ _ _ [(0,nv k)] _ _
 have u:=Below.refl W.heap.size W
 refine Zr ?_
 refine lg_allocw (cs:=CsV.zero.cs Cs.zero) Wn rfl (by kernel_rfl) rfl (by decide) fun b1 w1 n1=>?_
 have r1:=n1.row
 have k1:=n1.blk
 have z1:=n1.size
 have lt1:b1<w1.heap.size:=by omega
 refine ZAn [0,2,3] ?_
 refine Qd ?_
 refine ZrM ?_
 refine Zn [2,3,4] ?_
 refine Qj ?_
 refine Zr ?_
 refine Za (yb (dF h1) yi_eql) ?_
 refine ZAn [2,3,4,5] ?_
 refine cg_cf rfl ?_
 refine Zr ?_
 refine Za (yb (dF h2) yi_eql) ?_
 refine ZAn [2,3,8] ?_
 refine cg_cf rfl ?_
 refine cg_skip ?_
 refine Qi ?_
 refine Nx [2,3] ?_
 refine Zr ?_
 refine Za (y_build (cs:=CsV.zero.cs Cs.zero)) ?_
 have o2:=r1
 refine lg_stw Wn r1 rfl rfl rfl (by kernel_rfl) (by kernel_rfl) rfl rfl fun w2 s2=>?_
 have r1:=s2.row
 have z2:=s2.size
 refine ZAnr [2,3] ?_
 have u:=Un u n1.below
 have u:=u.trans (s2.below _ (by omega))
 exact eg_ret_agg2 rfl rfl r1 (by kernel_rfl) (by kernel_rfl) rfl ⟨_,rfl,rfl,u⟩
theorem putLeafN_any {W:World} {B:Nat} {s:SlV} {xs:List Int} {l:NdV} {L:Nd} (hl:IsNd W B l L) (h:Sl W B s xs) (hB:B≤W.heap.size) (hx:xs.length≤1000000):Calls Tryz.prog 100 #[.agg (l.cs L),s.v] W fun e W'=>∃ v,e=.returned v∧PutS W (xs++lfPut L.leaf) v W':=by
 refine Qf (n:=9) Tryz.func100 rfl Tryz.ntmps100 (by simp) ?_
 show CG _ _ _ [(0,.agg (l.cs L)),(1,s.v)] _ _
 have u:=Below.refl W.heap.size W
 refine Zr ?_
 refine lg_boxw Wn rfl rfl (by kernel_rfl) rfl (by decide) fun b1 w1 n1=>?_
 have r1:=n1.row
 have k1:=n1.blk
 have z1:=n1.size
 have lt1:b1<w1.heap.size:=by omega
 refine ZAn [1,2,4] ?_
 refine ZrM ?_
 refine Za (y_fld (off:=1)) ?_
 refine Za (y_part r1 (m:=4) rfl (show 1+4≤8 by decide) (by kernel_rfl) (by kernel_rfl) rfl rfl) ?_
 have h:=h.below (n1.below.mono (by omega))
 have hl:=hl.below (n1.below.mono (by omega))
 refine Zc (putL_any (h.more (B':=w1.heap.size) (by omega)) (hl.leaf.more (B':=w1.heap.size) (by omega)) (Nat.le_refl _) (by omega)) rfl rfl ?_
 rintro _ w2 ⟨r2,rfl,m2,hw2⟩
 have zw2:=hw2.size
 have lp2:=lfPut_le L.leaf
 refine ZAnr [4] ?_
 have u:=Un (Un u n1.below) hw2
 exact Qa rfl rfl ⟨_,rfl,r2,rfl,m2,u⟩
theorem putInnerN_any {W:World} {B:Nat} {s:SlV} {xs:List Int} {l:NdV} {L:Nd} (hl:IsNd W B l L) (h:Sl W B s xs) (hB:B≤W.heap.size) (hx:xs.length≤1000000):Calls Tryz.prog 102 #[.agg (l.cs L),s.v] W fun e W'=>∃ v,e=.returned v∧PutS W (xs++pnPut L.inner) v W':=by
 refine Qf (n:=9) Tryz.func102 rfl Tryz.ntmps102 (by simp) ?_
 show CG _ _ _ [(0,.agg (l.cs L)),(1,s.v)] _ _
 have u:=Below.refl W.heap.size W
 refine Zr ?_
 refine lg_boxw Wn rfl rfl (by kernel_rfl) rfl (by decide) fun b1 w1 n1=>?_
 have r1:=n1.row
 have k1:=n1.blk
 have z1:=n1.size
 have lt1:b1<w1.heap.size:=by omega
 refine ZAn [1,2,4] ?_
 refine ZrM ?_
 refine Za (y_fld (off:=5)) ?_
 refine Za (y_part r1 (m:=3) rfl (show 5+3≤8 by decide) (by kernel_rfl) (by kernel_rfl) rfl rfl) ?_
 have h:=h.below (n1.below.mono (by omega))
 have hl:=hl.below (n1.below.mono (by omega))
 refine Zc (putP_any (h.more (B':=w1.heap.size) (by omega)) (hl.inner.more (B':=w1.heap.size) (by omega)) (Nat.le_refl _) (by omega)) rfl rfl ?_
 rintro _ w2 ⟨r2,rfl,m2,hw2⟩
 have zw2:=hw2.size
 have lp2:=pnPut_le L.inner
 refine ZAnr [4] ?_
 have u:=Un (Un u n1.below) hw2
 exact Qa rfl rfl ⟨_,rfl,r2,rfl,m2,u⟩
theorem getLeafN_any {W:World} {B b:Nat} {t:TypeId} {s:SlV} {xs:List Int} {k:Int} (r:RowAt W b t (NdV.zero.cs (⟨k,Lf.zero,Pn.zero⟩:Nd))) (h:Sl W B s xs) (hb:B≤b) (hB:B≤W.heap.size):Calls Tryz.prog 101 #[pv b 0,s.v] W fun e W'=>∃ v,e=.returned v∧∃ (p:LfV) (q:SlV),v=.tuple #[q.v,nv (lfGet xs).1]∧IsLf W' B p (lfGet xs).2.1∧Sl W' B q (lfGet xs).2.2∧RowAt W' b t ((⟨p,PnV.zero⟩:NdV).cs (⟨k,(lfGet xs).2.1,Pn.zero⟩:Nd))∧But2 W W' b b:=by
 refine Qf (n:=17) Tryz.func101 rfl Tryz.ntmps101 (by simp) ?_
 show CG _ _ _ [(0,pv b 0),(1,s.v)] _ _
 have u:=Below.refl W.heap.size W
 have lbr:=r.lt
 have bu:=But2.refl (w:=W) b b
 refine ZrA ?_
 refine ZAn [0,1,4,5] ?_
 refine ZrM ?_
 refine ZM ?_
 refine Zc (getL_any h (by omega)) rfl rfl ?_
 rintro _ w1 ⟨l1,r1,rfl,m1,n1,hw1⟩
 have zw1:=hw1.size
 refine ZM ?_
 refine Za y_extract ?_
 refine Za y_extract ?_
 refine Za y_extract ?_
 refine Za y_nilc ?_
 refine Za (y_fld (off:=1)) ?_
 have r:=RowAt.below hw1 r.lt r
 have o2:=r
 refine lg_st (new:=#[nv k,l1.enc.v,l1.cred.v,nv ((lfGet xs).2.1.src),l1.par.v,nilS.v,nilS.v,nilS.v]) Wn r rfl rfl rfl (by kernel_rfl) (by kernel_rfl) (show 1+4≤8 by decide) rfl rfl fun w2 s2=>?_
 have r:=s2.row
 have z2:=s2.size
 refine ZA ?_
 refine ZAn [4,5] ?_
 refine ZrM ?_
 refine ZM ?_
 refine ZA ?_
 refine ZAnr [4,5] ?_
 have m1:=m1.set o2 rfl s2
 have n1:=n1.set o2 rfl s2
 have bu:=(bu.grow hw1).set s2 (by omega)
 exact eg_ret_tmp2 rfl rfl rfl ⟨_,rfl,l1,r1,rfl,m1,n1,r,bu⟩
theorem getInnerN_any {W:World} {B b:Nat} {t:TypeId} {s:SlV} {xs:List Int} {k:Int} (r:RowAt W b t (NdV.zero.cs (⟨k,Lf.zero,Pn.zero⟩:Nd))) (h:Sl W B s xs) (hb:B≤b) (hB:B≤W.heap.size):Calls Tryz.prog 103 #[pv b 0,s.v] W fun e W'=>∃ v,e=.returned v∧∃ (p:PnV) (q:SlV),v=.tuple #[q.v,nv (pnGet xs).1]∧IsPn W' W'.heap.size p (pnGet xs).2.1∧Sl W' B q (pnGet xs).2.2∧RowAt W' b t ((⟨LfV.zero,p⟩:NdV).cs (⟨k,Lf.zero,(pnGet xs).2.1⟩:Nd))∧p.fresh W.heap.size∧p.old B∧But2 W W' b b:=by
 refine Qf (n:=17) Tryz.func103 rfl Tryz.ntmps103 (by simp) ?_
 show CG _ _ _ [(0,pv b 0),(1,s.v)] _ _
 have u:=Below.refl W.heap.size W
 have lbr:=r.lt
 have bu:=But2.refl (w:=W) b b
 refine ZrA ?_
 refine ZAn [0,1,4,5] ?_
 refine ZrM ?_
 refine ZM ?_
 refine Zc (getP_anyO h (by omega)) rfl rfl ?_
 rintro _ w1 ⟨l1,r1,rfl,m1,n1,f1,o1,hw1⟩
 have zw1:=hw1.size
 refine ZM ?_
 refine Za y_extract ?_
 refine Za y_extract ?_
 refine Za y_extract ?_
 refine Za y_nilc ?_
 refine Za (y_fld (off:=5)) ?_
 have r:=RowAt.below hw1 r.lt r
 have o2:=r
 refine lg_st (new:=#[nv k,nilS.v,nilS.v,nv 0,nilS.v,l1.enc.v,l1.hash.v,l1.unm.v]) Wn r rfl rfl rfl (by kernel_rfl) (by kernel_rfl) (show 5+3≤8 by decide) rfl rfl fun w2 s2=>?_
 have r:=s2.row
 have z2:=s2.size
 refine ZA ?_
 refine ZAn [4,5] ?_
 refine ZrM ?_
 refine ZM ?_
 refine ZA ?_
 refine ZAnr [4,5] ?_
 have m1:=m1.setf o2 rfl f1 (by omega) s2
 have n1:=n1.set o2 rfl s2
 have bu:=(bu.grow hw1).set s2 (by omega)
 exact eg_ret_tmp2 rfl rfl rfl ⟨_,rfl,l1,r1,rfl,(m1.more (B':=w2.heap.size) (by omega)),n1,r,f1.le (by omega),o1,bu⟩
end
/- NdPut:
  node.Put, Get, and what is summed up.
-/
section
set_option maxHeartbeats 1000000
theorem putN_any {W:World} {B:Nat} {s:SlV} {xs:List Int} {l:NdV} {L:Nd} (h:Sl W B s xs) (hl:IsNd W B l L) (hB:B≤W.heap.size) (hx:xs.length≤1000000):Calls Tryz.prog 29 #[s.v,.agg (l.cs L)] W fun e W'=>∃ v,e=.returned v∧PutS W (xs++ndPut L) v W':=by
 refine Qf (n:=30) Tryz.func29 rfl Tryz.ntmps29 (by simp) ?_
 show CG _ _ _ [(0,s.v),(1,.agg (l.cs L))] _ _
 have u:=Below.refl W.heap.size W
 refine Zr ?_
 refine lg_boxw Wn rfl rfl (by kernel_rfl) rfl (by decide) fun b1 w1 n1=>?_
 have r1:=n1.row
 have k1:=n1.blk
 have z1:=n1.size
 have lt1:b1<w1.heap.size:=by omega
 refine ZAn [0,3,4] ?_
 refine Zr ?_
 refine Za (y_loadA r1) ?_
 have hl:=hl.below (n1.below.mono (by omega))
 refine Zc (countsN_any (hl.more (B':=w1.heap.size) (by omega)) (Nat.le_refl _)) rfl rfl ?_
 rintro _ w2 ⟨rfl,hw2⟩
 have zw2:=hw2.size
 by_cases c3:((ndAs L).kind)=1
 ·obtain ⟨eaL,ckL⟩:=ndAs_kind (L:=L) (by omega)
  have kL:L.kind=1:=(congrArg Nd.kind eaL).symm.trans c3
  refine Zc (of1_any _ c3 _) rfl rfl ?_
  rintro _ w4 ⟨rfl,hw4⟩
  have zw4:=hw4.size
  refine ZM ?_
  refine Za y_extract ?_
  refine Za y_extract ?_
  refine lg_allocw (cs:=CsV.zero.cs Cs.zero) Wn rfl (by kernel_rfl) rfl (by decide) fun b5 w5 n5=>?_
  have r5:=n5.row
  have k5:=n5.blk
  have z5:=n5.size
  have lt5:b5<w5.heap.size:=by omega
  have o6:=r5
  refine lg_stw Wn r5 rfl rfl rfl (by kernel_rfl) (by kernel_rfl) rfl rfl fun w6 s6=>?_
  have r5:=s6.row
  have z6:=s6.size
  refine ZAn [0,3,4,5,6] ?_
  refine ZrM ?_
  refine Zc (putFlag_S true (Sl.nil _ 0) (by omega) (by first | omega | (simp only [List.length_nil];omega))) rfl rfl ?_
  rintro _ w7 ⟨r7,rfl,m7,hw7⟩
  have zw7:=hw7.size
  rw [List.nil_append] at m7
  refine ZAn [0,3,4,5,6,7] ?_
  refine Qd ?_
  refine ZrM ?_
  refine Znt [0,3,4,5,7,16] ?_
  refine ZrM ?_
  refine Za (y_fld (off:=0)) ?_
  have r1:=RowAt.below hw2 r1.lt r1
  have r1:=RowAt.below hw4 r1.lt r1
  have r1:=n5.keep r1
  have r1:=s6.keep r1 (by omega)
  have r1:=RowAt.below hw7 r1.lt r1
  refine Za (Qo (v:=nv L.kind) r1 rfl (by kernel_rfl) rfl rfl) ?_
  refine Zc (putNum_S L.kind 1 m7 (by omega) (by first | omega | (simp only [flagOct_length];omega))) rfl rfl ?_
  rintro _ w8 ⟨r8,rfl,m8,hw8⟩
  have zw8:=hw8.size
  have wk8:=widthK_le 1
  refine ZAn [0,3,4,5,7] ?_
  refine Qe ?_
  refine Za (y_fld (off:=0)) ?_
  have r5:=RowAt.below hw7 r5.lt r5
  have r5:=RowAt.below hw8 r5.lt r5
  refine Za (Qo (v:=fnv (some 100)) r5 rfl (by kernel_rfl) rfl rfl) ?_
  have r1:=RowAt.below hw8 r1.lt r1
  refine Za (y_loadA r1) ?_
  refine ZM ?_
  have hl:=(hl.below (hw2.mono (by omega))).below (hw4.mono (by omega))
  have hl:=(hl.below (n5.below.mono (by omega))).below (s6.below _ (by omega))
  have hl:=(hl.below (hw7.mono (by omega))).below (hw8.mono (by omega))
  refine lg_callv (fs:=[]) (vs:=[.agg (l.cs L),r8.v]) (us:=[]) Wn (putLeafN_any (hl.more (B':=w8.heap.size) (by omega)) (m8.more (B':=w8.heap.size) (by omega)) (Nat.le_refl _) (by first | omega | (simp only [List.length_append,numOct_length,flagOct_length];omega))) (by kernel_rfl) rfl rfl rfl rfl (by decide) ?_
  rintro _ w9 ⟨r9,rfl,m9,hw9⟩
  have zw9:=hw9.size
  have lp9:=lfPut_le L.leaf
  refine ZAn [0,4,7] ?_
  refine ZrM ?_
  refine ZM ?_
  refine lg_bslice (el:=23) (z:=.slice none 0 0) (cs:=#[s.v,r9.v]) (by kernel_rfl) (by kernel_rfl) (by decide) (by decide) rfl rfl (by kernel_rfl) rfl rfl (by decide) fun b10 w10 n10=>?_
  have r10:=n10.row
  have k10:=n10.blk
  have z10:=n10.size
  have lt10:b10<w10.heap.size:=by omega
  have h:=(h.below (n1.below.mono (by omega))).below (hw2.mono (by omega))
  have h:=(h.below (hw4.mono (by omega))).below (n5.below.mono (by omega))
  have h:=(h.set o6 rfl s6).below (hw7.mono (by omega))
  have h:=((h.below (hw8.mono (by omega))).below (hw9.mono (by omega))).below (n10.below.mono (by omega))
  have m9:=m9.below (n10.below.mono (by omega))
  refine Zc (concat2_S r10 h m9 (by omega) (by omega) (by first | omega | (simp only [List.length_append,numOct_length,flagOct_length];omega))) rfl rfl ?_
  rintro _ w11 ⟨r11,rfl,m11,hw11⟩
  have zw11:=hw11.size
  refine ZAnr [4] ?_
  have u:=Un (Un u n1.below) hw2
  have u:=Un (Un u hw4) n5.below
  have u:=u.trans (s6.below _ (by omega))
  have u:=Un (Un u hw7) hw8
  have u:=Un (Un (Un u hw9) n10.below) hw11
  exact Qa rfl rfl ⟨_,rfl,r11,rfl,(m11.more (by omega)).cast (by rw [ndPut,if_pos c3,kL]),u⟩
 by_cases c12:((ndAs L).kind)=2
 ·obtain ⟨eaL,ckL⟩:=ndAs_kind (L:=L) (by omega)
  have kL:L.kind=2:=(congrArg Nd.kind eaL).symm.trans c12
  refine Zc (of2_any _ c12 _) rfl rfl ?_
  rintro _ w13 ⟨rfl,hw13⟩
  have zw13:=hw13.size
  refine ZM ?_
  refine Za y_extract ?_
  refine Za y_extract ?_
  refine lg_allocw (cs:=CsV.zero.cs Cs.zero) Wn rfl (by kernel_rfl) rfl (by decide) fun b14 w14 n14=>?_
  have r14:=n14.row
  have k14:=n14.blk
  have z14:=n14.size
  have lt14:b14<w14.heap.size:=by omega
  have o15:=r14
  refine lg_stw Wn r14 rfl rfl rfl (by kernel_rfl) (by kernel_rfl) rfl rfl fun w15 s15=>?_
  have r14:=s15.row
  have z15:=s15.size
  refine ZAn [0,3,4,5,6] ?_
  refine ZrM ?_
  refine Zc (putFlag_S true (Sl.nil _ 0) (by omega) (by first | omega | (simp only [List.length_nil];omega))) rfl rfl ?_
  rintro _ w16 ⟨r16,rfl,m16,hw16⟩
  have zw16:=hw16.size
  rw [List.nil_append] at m16
  refine ZAn [0,3,4,5,6,7] ?_
  refine Qd ?_
  refine ZrM ?_
  refine Znt [0,3,4,5,7,16] ?_
  refine ZrM ?_
  refine Za (y_fld (off:=0)) ?_
  have r1:=RowAt.below hw2 r1.lt r1
  have r1:=RowAt.below hw13 r1.lt r1
  have r1:=n14.keep r1
  have r1:=s15.keep r1 (by omega)
  have r1:=RowAt.below hw16 r1.lt r1
  refine Za (Qo (v:=nv L.kind) r1 rfl (by kernel_rfl) rfl rfl) ?_
  refine Zc (putNum_S L.kind 1 m16 (by omega) (by first | omega | (simp only [flagOct_length];omega))) rfl rfl ?_
  rintro _ w17 ⟨r17,rfl,m17,hw17⟩
  have zw17:=hw17.size
  have wk17:=widthK_le 1
  refine ZAn [0,3,4,5,7] ?_
  refine Qe ?_
  refine Za (y_fld (off:=0)) ?_
  have r14:=RowAt.below hw16 r14.lt r14
  have r14:=RowAt.below hw17 r14.lt r14
  refine Za (Qo (v:=fnv (some 102)) r14 rfl (by kernel_rfl) rfl rfl) ?_
  have r1:=RowAt.below hw17 r1.lt r1
  refine Za (y_loadA r1) ?_
  refine ZM ?_
  have hl:=(hl.below (hw2.mono (by omega))).below (hw13.mono (by omega))
  have hl:=(hl.below (n14.below.mono (by omega))).below (s15.below _ (by omega))
  have hl:=(hl.below (hw16.mono (by omega))).below (hw17.mono (by omega))
  refine lg_callv (fs:=[]) (vs:=[.agg (l.cs L),r17.v]) (us:=[]) Wn (putInnerN_any (hl.more (B':=w17.heap.size) (by omega)) (m17.more (B':=w17.heap.size) (by omega)) (Nat.le_refl _) (by first | omega | (simp only [List.length_append,numOct_length,flagOct_length];omega))) (by kernel_rfl) rfl rfl rfl rfl (by decide) ?_
  rintro _ w18 ⟨r18,rfl,m18,hw18⟩
  have zw18:=hw18.size
  have lp18:=pnPut_le L.inner
  refine ZAn [0,4,7] ?_
  refine ZrM ?_
  refine ZM ?_
  refine lg_bslice (el:=23) (z:=.slice none 0 0) (cs:=#[s.v,r18.v]) (by kernel_rfl) (by kernel_rfl) (by decide) (by decide) rfl rfl (by kernel_rfl) rfl rfl (by decide) fun b19 w19 n19=>?_
  have r19:=n19.row
  have k19:=n19.blk
  have z19:=n19.size
  have lt19:b19<w19.heap.size:=by omega
  have h:=(h.below (n1.below.mono (by omega))).below (hw2.mono (by omega))
  have h:=(h.below (hw13.mono (by omega))).below (n14.below.mono (by omega))
  have h:=(h.set o15 rfl s15).below (hw16.mono (by omega))
  have h:=((h.below (hw17.mono (by omega))).below (hw18.mono (by omega))).below (n19.below.mono (by omega))
  have m18:=m18.below (n19.below.mono (by omega))
  refine Zc (concat2_S r19 h m18 (by omega) (by omega) (by first | omega | (simp only [List.length_append,numOct_length,flagOct_length];omega))) rfl rfl ?_
  rintro _ w20 ⟨r20,rfl,m20,hw20⟩
  have zw20:=hw20.size
  refine ZAnr [4] ?_
  have u:=Un (Un u n1.below) hw2
  have u:=Un (Un u hw13) n14.below
  have u:=u.trans (s15.below _ (by omega))
  have u:=Un (Un u hw16) hw17
  have u:=Un (Un (Un u hw18) n19.below) hw20
  exact Qa rfl rfl ⟨_,rfl,r20,rfl,(m20.more (by omega)).cast (by rw [ndPut,if_neg c3,if_pos c12,kL]),u⟩
 refine Zc (of0_any _ c3 c12 _) rfl rfl ?_
 rintro _ w21 ⟨rfl,hw21⟩
 have zw21:=hw21.size
 refine ZM ?_
 refine Za y_extract ?_
 refine Za y_extract ?_
 refine lg_allocw (cs:=CsV.zero.cs Cs.zero) Wn rfl (by kernel_rfl) rfl (by decide) fun b22 w22 n22=>?_
 have r22:=n22.row
 have k22:=n22.blk
 have z22:=n22.size
 have lt22:b22<w22.heap.size:=by omega
 have o23:=r22
 refine lg_stw Wn r22 rfl rfl rfl (by kernel_rfl) (by kernel_rfl) rfl rfl fun w23 s23=>?_
 have r22:=s23.row
 have z23:=s23.size
 refine ZAn [0,3,4,5,6] ?_
 refine ZrM ?_
 refine Zc (putFlag_S false (Sl.nil _ 0) (by omega) (by first | omega | (simp only [List.length_nil];omega))) rfl rfl ?_
 rintro _ w24 ⟨r24,rfl,m24,hw24⟩
 have zw24:=hw24.size
 rw [List.nil_append] at m24
 refine ZAn [0,3,4,5,6,7] ?_
 refine Qd ?_
 refine ZrM ?_
 refine Zn [0,3,4,5,7,16] ?_
 refine Zcf [0,4,7] ?_
 refine ZrM ?_
 refine ZM ?_
 refine lg_bslice (el:=23) (z:=.slice none 0 0) (cs:=#[s.v,r24.v]) (by kernel_rfl) (by kernel_rfl) (by decide) (by decide) rfl rfl (by kernel_rfl) rfl rfl (by decide) fun b25 w25 n25=>?_
 have r25:=n25.row
 have k25:=n25.blk
 have z25:=n25.size
 have lt25:b25<w25.heap.size:=by omega
 have h:=(h.below (n1.below.mono (by omega))).below (hw2.mono (by omega))
 have h:=(h.below (hw21.mono (by omega))).below (n22.below.mono (by omega))
 have h:=((h.set o23 rfl s23).below (hw24.mono (by omega))).below (n25.below.mono (by omega))
 have m24:=m24.below (n25.below.mono (by omega))
 refine Zc (concat2_S r25 h m24 (by omega) (by omega) (by first | omega | (simp only [flagOct_length];omega))) rfl rfl ?_
 rintro _ w26 ⟨r26,rfl,m26,hw26⟩
 have zw26:=hw26.size
 refine ZAnr [4] ?_
 have u:=Un (Un u n1.below) hw2
 have u:=Un (Un u hw21) n22.below
 have u:=u.trans (s23.below _ (by omega))
 have u:=Un (Un (Un u hw24) n25.below) hw26
 exact Qa rfl rfl ⟨_,rfl,r26,rfl,(m26.more (by omega)).cast (by rw [ndPut,if_neg c3,if_neg c12]),u⟩
set_option maxHeartbeats 4000000 in
theorem getN_anyO {W:World} {B:Nat} {s:SlV} {xs:List Int} (h:Sl W B s xs) (hB:B≤W.heap.size):Calls Tryz.prog 81 #[s.v] W fun e W'=>∃ v,e=.returned v∧∃ (l:NdV) (r:SlV),v=.tuple #[.agg (l.cs (ndGet xs).2.1),r.v,nv (ndGet xs).1]∧IsNd W' W'.heap.size l (ndGet xs).2.1∧Sl W' B r (ndGet xs).2.2∧l.fresh W.heap.size∧l.old B∧Below W.heap.size W W':=by
 refine Qf (n:=60) Tryz.func81 rfl Tryz.ntmps81 (by simp) ?_
 show CG _ _ _ [(0,s.v)] _ _
 have u:=Below.refl W.heap.size W
 refine Zr ?_
 refine lg_allocw (cs:=NdV.zero.cs Nd.zero) Wn rfl (by kernel_rfl) rfl (by decide) fun b1 w1 n1=>?_
 have r1:=n1.row
 have k1:=n1.blk
 have z1:=n1.size
 have lt1:b1<w1.heap.size:=by omega
 refine ZA ?_
 refine ZAn [0,2,3,4] ?_
 refine ZrM ?_
 have h:=h.below (n1.below.mono (by omega))
 by_cases c2:flagB xs=true
 ·refine Zc (getFlag_S h) rfl rfl ?_
  rintro _ w3 ⟨bb3,r3,rfl,e3,l3,hw3⟩
  have zw3:=hw3.size
  obtain rfl:bb3=true:=e3.trans (decide_eq_true c2)
  refine ZM ?_
  refine Za y_extract ?_
  refine Za y_extract ?_
  refine Za y_extract ?_
  refine ZA ?_
  refine ZA ?_
  refine ZAn [2,3,4,5,6,7] ?_
  refine Qd ?_
  refine ZrM ?_
  by_cases c4:(flagE xs)=0
  ·refine Za (yb (nd_f c4) yi_neq) ?_
   refine ZM ?_
   refine Zt 20 y_move ?_
   refine Zt 20 y_bnot ?_
   refine Zan (y_pick false) [2,3,4,6,7,23] ?_
   refine Zcf [2,3,4,6,7] ?_
   refine ZrM ?_
   refine Zc (getNum_S 1 l3 (by omega)) rfl rfl ?_
   rintro _ w5 ⟨r5,rfl,l5,hw5⟩
   have zw5:=hw5.size
   refine ZM ?_
   refine Za y_extract ?_
   refine Za y_extract ?_
   refine Za y_extract ?_
   refine ZA ?_
   refine ZA ?_
   refine ZAn [2,3,4,8,6,7] ?_
   refine Qd ?_
   refine ZrM ?_
   by_cases c6:(numE (flagR xs) 1)=0
   ·refine Zan (yb (nd_f c6) yi_neq) [2,3,4,8,6,7,34] ?_
    refine Zcf [2,3,4,8,6,7] ?_
    refine ZrM ?_
    by_cases c7:(numM (flagR xs) 1)=1
    ·refine Zc (of1_any _ c7 _) rfl rfl ?_
     rintro _ w8 ⟨rfl,hw8⟩
     have zw8:=hw8.size
     refine ZM ?_
     refine Za y_extract ?_
     refine Za y_extract ?_
     refine lg_allocw (cs:=CsV.zero.cs Cs.zero) Wn rfl (by kernel_rfl) rfl (by decide) fun b9 w9 n9=>?_
     have r9:=n9.row
     have k9:=n9.blk
     have z9:=n9.size
     have lt9:b9<w9.heap.size:=by omega
     have o10:=r9
     refine lg_stw Wn r9 rfl rfl rfl (by kernel_rfl) (by kernel_rfl) rfl rfl fun w10 s10=>?_
     have r9:=s10.row
     have z10:=s10.size
     refine ZAn [2,3,4,8,6,7,9,10] ?_
     refine Qd ?_
     refine ZrM ?_
     refine Zan y_bnot [2,3,4,8,6,7,9,43] ?_
     refine Zcf [2,3,4,8,6,7,9] ?_
     refine ZrM ?_
     refine Za (y_build (cs:=(⟨LfV.zero,PnV.zero⟩:NdV).cs (⟨(numM (flagR xs) 1),Lf.zero,Pn.zero⟩:Nd))) ?_
     refine lg_allocw (cs:=NdV.zero.cs Nd.zero) Wn rfl (by kernel_rfl) rfl (by decide) fun b11 w11 n11=>?_
     have r11:=n11.row
     have k11:=n11.blk
     have z11:=n11.size
     have lt11:b11<w11.heap.size:=by omega
     have o12:=r11
     refine lg_stw Wn r11 rfl rfl rfl (by kernel_rfl) (by kernel_rfl) rfl rfl fun w12 s12=>?_
     have r11:=s12.row
     have z12:=s12.size
     refine Zn [2,3,4,6,7,9,11] ?_
     refine Zr ?_
     refine Za (y_fld (off:=1)) ?_
     have r9:=n11.keep r9
     have r9:=s12.keep r9 (by omega)
     refine Za (Qo (v:=fnv (some 101)) r9 rfl (by kernel_rfl) rfl rfl) ?_
     refine ZM ?_
     have l5:=(l5.below (hw8.mono (by omega))).below (n9.below.mono (by omega))
     have l5:=((l5.set o10 rfl s10).below (n11.below.mono (by omega))).set o12 rfl s12
     refine lg_callv (fs:=[]) (vs:=[pv b11 0,r5.v]) (us:=[]) Wn (getLeafN_any (k:=(numM (flagR xs) 1)) r11 l5 (by omega) (by omega)) (by kernel_rfl) rfl rfl rfl rfl (by decide) ?_
     rintro _ w13 ⟨p13,r13,rfl,m13,l13,y13,hw13⟩
     have zw13:=hw13.size
     have r11:=y13
     refine ZM ?_
     refine Za y_extract ?_
     refine Za y_extract ?_
     refine ZA ?_
     refine ZAn [2,3,4,11,6,7] ?_
     refine Qd ?_
     refine ZrM ?_
     by_cases c14:(lfGet (numR (flagR xs) 1)).1=0
     ·refine Zan (yb (nd_f c14) yi_neq) [2,3,4,11,6,7,55] ?_
      refine Zcf [2,3,4,11,6] ?_
      refine Zr ?_
      refine Za (y_loadA r11) ?_
      refine ZM ?_
      have r1:=RowAt.below hw3 r1.lt r1
      have r1:=RowAt.below hw5 r1.lt r1
      have r1:=RowAt.below hw8 r1.lt r1
      have r1:=n9.keep r1
      have r1:=s10.keep r1 (by omega)
      have r1:=n11.keep r1
      have r1:=s12.keep r1 (by omega)
      have r1:=hw13.keep r1 (by omega) (by omega)
      have o15:=r1
      refine lg_stw Wn r1 rfl rfl rfl (by kernel_rfl) (by kernel_rfl) rfl rfl fun w15 s15=>?_
      have r1:=s15.row
      have z15:=s15.size
      refine ZA ?_
      refine ZAnr [2,3,4] ?_
      have hst:ndGet xs=(0,(⟨(numM (flagR xs) 1),(lfGet (numR (flagR xs) 1)).2.1,Pn.zero⟩:Nd),(lfGet (numR (flagR xs) 1)).2.2):=by rw [ndGet,if_neg (not_not_intro c4),if_neg (not_not_intro c2),if_neg (not_not_intro c6),if_pos c7,if_neg (not_not_intro c14),c7]
      refine eg_ret_agg3 rfl rfl r1 (by kernel_rfl) (by kernel_rfl) rfl rfl ?_
      rw [hst]
      have m13:=m13.set o15 rfl s15
      have l13:=l13.set o15 rfl s15
      have u:=Un (Un u n1.below) hw3
      have u:=Un (Un (Un u hw5) hw8) n9.below
      have u:=u.trans (s10.below _ (by omega))
      have u:=Un u n11.below
      have u:=((u.trans (s12.below _ (by omega))).trans (hw13.below _ (by omega) (by omega) (by omega))).trans (s15.below _ (by omega))
      exact ⟨_,rfl,(⟨p13,PnV.zero⟩:NdV),r13,rfl,(show IsNd w15 w15.heap.size (⟨p13,PnV.zero⟩:NdV) (⟨(numM (flagR xs) 1),(lfGet (numR (flagR xs) 1)).2.1,Pn.zero⟩:Nd) from ⟨(m13.more (B':=w15.heap.size) (by omega)),((IsPn.zero _ 0).more (B':=w15.heap.size) (by omega))⟩),l13,(Fr.nil _),⟨m13.old,Old.nil _,Old.nil _⟩,u⟩
     refine Zan (yb (nd_t c14) yi_neq) [2,3,4,11,6,7,55] ?_
     refine cg_ct rfl ?_
     refine Zr ?_
     refine Za (y_build (cs:=NdV.zero.cs Nd.zero)) ?_
     refine ZM ?_
     have r1:=RowAt.below hw3 r1.lt r1
     have r1:=RowAt.below hw5 r1.lt r1
     have r1:=RowAt.below hw8 r1.lt r1
     have r1:=n9.keep r1
     have r1:=s10.keep r1 (by omega)
     have r1:=n11.keep r1
     have r1:=s12.keep r1 (by omega)
     have r1:=hw13.keep r1 (by omega) (by omega)
     have o16:=r1
     refine lg_stw Wn r1 rfl rfl rfl (by kernel_rfl) (by kernel_rfl) rfl rfl fun w16 s16=>?_
     have r1:=s16.row
     have z16:=s16.size
     refine ZA ?_
     refine ZAnr [2,11,6,3,4] ?_
     refine Qc ?_
     have hst:ndGet xs=((lfGet (numR (flagR xs) 1)).1,Nd.zero,[]):=by rw [ndGet,if_neg (not_not_intro c4),if_neg (not_not_intro c2),if_neg (not_not_intro c6),if_pos c7,if_pos c14]
     refine eg_ret_agg3 rfl rfl r1 (by kernel_rfl) (by kernel_rfl) rfl rfl ?_
     rw [hst]
     have u:=Un (Un u n1.below) hw3
     have u:=Un (Un (Un u hw5) hw8) n9.below
     have u:=u.trans (s10.below _ (by omega))
     have u:=Un u n11.below
     have u:=((u.trans (s12.below _ (by omega))).trans (hw13.below _ (by omega) (by omega) (by omega))).trans (s16.below _ (by omega))
     exact ⟨_,rfl,NdV.zero,nilS,rfl,((IsNd.zero _ 0).more (B':=w16.heap.size) (by omega)),(Sl.nil _ _),(Fr.nil _),NdV.old_zero _,u⟩
    by_cases c17:(numM (flagR xs) 1)=2
    ·refine Zc (of2_any _ c17 _) rfl rfl ?_
     rintro _ w18 ⟨rfl,hw18⟩
     have zw18:=hw18.size
     refine ZM ?_
     refine Za y_extract ?_
     refine Za y_extract ?_
     refine lg_allocw (cs:=CsV.zero.cs Cs.zero) Wn rfl (by kernel_rfl) rfl (by decide) fun b19 w19 n19=>?_
     have r19:=n19.row
     have k19:=n19.blk
     have z19:=n19.size
     have lt19:b19<w19.heap.size:=by omega
     have o20:=r19
     refine lg_stw Wn r19 rfl rfl rfl (by kernel_rfl) (by kernel_rfl) rfl rfl fun w20 s20=>?_
     have r19:=s20.row
     have z20:=s20.size
     refine ZAn [2,3,4,8,6,7,9,10] ?_
     refine Qd ?_
     refine ZrM ?_
     refine Zan y_bnot [2,3,4,8,6,7,9,43] ?_
     refine Zcf [2,3,4,8,6,7,9] ?_
     refine ZrM ?_
     refine Za (y_build (cs:=(⟨LfV.zero,PnV.zero⟩:NdV).cs (⟨(numM (flagR xs) 1),Lf.zero,Pn.zero⟩:Nd))) ?_
     refine lg_allocw (cs:=NdV.zero.cs Nd.zero) Wn rfl (by kernel_rfl) rfl (by decide) fun b21 w21 n21=>?_
     have r21:=n21.row
     have k21:=n21.blk
     have z21:=n21.size
     have lt21:b21<w21.heap.size:=by omega
     have o22:=r21
     refine lg_stw Wn r21 rfl rfl rfl (by kernel_rfl) (by kernel_rfl) rfl rfl fun w22 s22=>?_
     have r21:=s22.row
     have z22:=s22.size
     refine Zn [2,3,4,6,7,9,11] ?_
     refine Zr ?_
     refine Za (y_fld (off:=1)) ?_
     have r19:=n21.keep r19
     have r19:=s22.keep r19 (by omega)
     refine Za (Qo (v:=fnv (some 103)) r19 rfl (by kernel_rfl) rfl rfl) ?_
     refine ZM ?_
     have l5:=(l5.below (hw18.mono (by omega))).below (n19.below.mono (by omega))
     have l5:=((l5.set o20 rfl s20).below (n21.below.mono (by omega))).set o22 rfl s22
     refine lg_callv (fs:=[]) (vs:=[pv b21 0,r5.v]) (us:=[]) Wn (getInnerN_any (k:=(numM (flagR xs) 1)) r21 l5 (by omega) (by omega)) (by kernel_rfl) rfl rfl rfl rfl (by decide) ?_
     rintro _ w23 ⟨p23,r23,rfl,m23,l23,y23,f23,o23,hw23⟩
     have zw23:=hw23.size
     have r21:=y23
     refine ZM ?_
     refine Za y_extract ?_
     refine Za y_extract ?_
     refine ZA ?_
     refine ZAn [2,3,4,11,6,7] ?_
     refine Qd ?_
     refine ZrM ?_
     by_cases c24:(pnGet (numR (flagR xs) 1)).1=0
     ·refine Zan (yb (nd_f c24) yi_neq) [2,3,4,11,6,7,55] ?_
      refine Zcf [2,3,4,11,6] ?_
      refine Zr ?_
      refine Za (y_loadA r21) ?_
      refine ZM ?_
      have r1:=RowAt.below hw3 r1.lt r1
      have r1:=RowAt.below hw5 r1.lt r1
      have r1:=RowAt.below hw18 r1.lt r1
      have r1:=n19.keep r1
      have r1:=s20.keep r1 (by omega)
      have r1:=n21.keep r1
      have r1:=s22.keep r1 (by omega)
      have r1:=hw23.keep r1 (by omega) (by omega)
      have o25:=r1
      refine lg_stw Wn r1 rfl rfl rfl (by kernel_rfl) (by kernel_rfl) rfl rfl fun w25 s25=>?_
      have r1:=s25.row
      have z25:=s25.size
      refine ZA ?_
      refine ZAnr [2,3,4] ?_
      have hst:ndGet xs=(0,(⟨(numM (flagR xs) 1),Lf.zero,(pnGet (numR (flagR xs) 1)).2.1⟩:Nd),(pnGet (numR (flagR xs) 1)).2.2):=by rw [ndGet,if_neg (not_not_intro c4),if_neg (not_not_intro c2),if_neg (not_not_intro c6),if_neg c7,if_pos c17,if_neg (not_not_intro c24),c17]
      refine eg_ret_agg3 rfl rfl r1 (by kernel_rfl) (by kernel_rfl) rfl rfl ?_
      rw [hst]
      have m23:=m23.setf o25 rfl f23 (by omega) s25
      have l23:=l23.set o25 rfl s25
      have u:=Un (Un u n1.below) hw3
      have u:=Un (Un (Un u hw5) hw18) n19.below
      have u:=u.trans (s20.below _ (by omega))
      have u:=Un u n21.below
      have u:=((u.trans (s22.below _ (by omega))).trans (hw23.below _ (by omega) (by omega) (by omega))).trans (s25.below _ (by omega))
      exact ⟨_,rfl,(⟨LfV.zero,p23⟩:NdV),r23,rfl,(show IsNd w25 w25.heap.size (⟨LfV.zero,p23⟩:NdV) (⟨(numM (flagR xs) 1),Lf.zero,(pnGet (numR (flagR xs) 1)).2.1⟩:Nd) from ⟨((IsLf.zero _ 0).more (B':=w25.heap.size) (by omega)),(m23.more (B':=w25.heap.size) (by omega))⟩),l23,f23.le (by omega),⟨⟨Old.nil _,Old.nil _,Old.nil _⟩,o23⟩,u⟩
     refine Zan (yb (nd_t c24) yi_neq) [2,3,4,11,6,7,55] ?_
     refine cg_ct rfl ?_
     refine Zr ?_
     refine Za (y_build (cs:=NdV.zero.cs Nd.zero)) ?_
     refine ZM ?_
     have r1:=RowAt.below hw3 r1.lt r1
     have r1:=RowAt.below hw5 r1.lt r1
     have r1:=RowAt.below hw18 r1.lt r1
     have r1:=n19.keep r1
     have r1:=s20.keep r1 (by omega)
     have r1:=n21.keep r1
     have r1:=s22.keep r1 (by omega)
     have r1:=hw23.keep r1 (by omega) (by omega)
     have o26:=r1
     refine lg_stw Wn r1 rfl rfl rfl (by kernel_rfl) (by kernel_rfl) rfl rfl fun w26 s26=>?_
     have r1:=s26.row
     have z26:=s26.size
     refine ZA ?_
     refine ZAnr [2,11,6,3,4] ?_
     refine Qc ?_
     have hst:ndGet xs=((pnGet (numR (flagR xs) 1)).1,Nd.zero,[]):=by rw [ndGet,if_neg (not_not_intro c4),if_neg (not_not_intro c2),if_neg (not_not_intro c6),if_neg c7,if_pos c17,if_pos c24]
     refine eg_ret_agg3 rfl rfl r1 (by kernel_rfl) (by kernel_rfl) rfl rfl ?_
     rw [hst]
     have u:=Un (Un u n1.below) hw3
     have u:=Un (Un (Un u hw5) hw18) n19.below
     have u:=u.trans (s20.below _ (by omega))
     have u:=Un u n21.below
     have u:=((u.trans (s22.below _ (by omega))).trans (hw23.below _ (by omega) (by omega) (by omega))).trans (s26.below _ (by omega))
     exact ⟨_,rfl,NdV.zero,nilS,rfl,((IsNd.zero _ 0).more (B':=w26.heap.size) (by omega)),(Sl.nil _ _),(Fr.nil _),NdV.old_zero _,u⟩
    refine Zc (of0_any _ c7 c17 _) rfl rfl ?_
    rintro _ w27 ⟨rfl,hw27⟩
    have zw27:=hw27.size
    refine ZM ?_
    refine Za y_extract ?_
    refine Za y_extract ?_
    refine lg_allocw (cs:=CsV.zero.cs Cs.zero) Wn rfl (by kernel_rfl) rfl (by decide) fun b28 w28 n28=>?_
    have r28:=n28.row
    have k28:=n28.blk
    have z28:=n28.size
    have lt28:b28<w28.heap.size:=by omega
    have o29:=r28
    refine lg_stw Wn r28 rfl rfl rfl (by kernel_rfl) (by kernel_rfl) rfl rfl fun w29 s29=>?_
    have r28:=s29.row
    have z29:=s29.size
    refine ZAn [2,3,4,8,6,7,9,10] ?_
    refine Qd ?_
    refine ZrM ?_
    refine Zan y_bnot [2,3,4,8,6,7,9,43] ?_
    refine cg_ct rfl ?_
    refine Zr ?_
    refine Za (y_build (cs:=NdV.zero.cs Nd.zero)) ?_
    have r1:=RowAt.below hw3 r1.lt r1
    have r1:=RowAt.below hw5 r1.lt r1
    have r1:=RowAt.below hw27 r1.lt r1
    have r1:=n28.keep r1
    have r1:=s29.keep r1 (by omega)
    have o30:=r1
    refine lg_stw Wn r1 rfl rfl rfl (by kernel_rfl) (by kernel_rfl) rfl rfl fun w30 s30=>?_
    have r1:=s30.row
    have z30:=s30.size
    refine ZA ?_
    refine ZAnr [2,8,6,7,9,3,4] ?_
    refine Qc ?_
    have hst:ndGet xs=(7,Nd.zero,[]):=by rw [ndGet,if_neg (not_not_intro c4),if_neg (not_not_intro c2),if_neg (not_not_intro c6),if_neg c7,if_neg c17]
    refine eg_ret_agg3 rfl rfl r1 (by kernel_rfl) (by kernel_rfl) rfl rfl ?_
    rw [hst]
    have u:=Un (Un u n1.below) hw3
    have u:=Un (Un (Un u hw5) hw27) n28.below
    have u:=(u.trans (s29.below _ (by omega))).trans (s30.below _ (by omega))
    exact ⟨_,rfl,NdV.zero,nilS,rfl,((IsNd.zero _ 0).more (B':=w30.heap.size) (by omega)),(Sl.nil _ _),(Fr.nil _),NdV.old_zero _,u⟩
   refine Zan (yb (nd_t c6) yi_neq) [2,3,4,8,6,7,34] ?_
   refine cg_ct rfl ?_
   refine Zr ?_
   refine Za (y_build (cs:=NdV.zero.cs Nd.zero)) ?_
   refine ZM ?_
   have r1:=RowAt.below hw3 r1.lt r1
   have r1:=RowAt.below hw5 r1.lt r1
   have o31:=r1
   refine lg_stw Wn r1 rfl rfl rfl (by kernel_rfl) (by kernel_rfl) rfl rfl fun w31 s31=>?_
   have r1:=s31.row
   have z31:=s31.size
   refine ZA ?_
   refine ZAnr [2,8,6,7,3,4] ?_
   refine Qc ?_
   have hst:ndGet xs=((numE (flagR xs) 1),Nd.zero,[]):=by rw [ndGet,if_neg (not_not_intro c4),if_neg (not_not_intro c2),if_pos c6]
   refine eg_ret_agg3 rfl rfl r1 (by kernel_rfl) (by kernel_rfl) rfl rfl ?_
   rw [hst]
   have u:=Un (Un (Un u n1.below) hw3) hw5
   have u:=u.trans (s31.below _ (by omega))
   exact ⟨_,rfl,NdV.zero,nilS,rfl,((IsNd.zero _ 0).more (B':=w31.heap.size) (by omega)),(Sl.nil _ _),(Fr.nil _),NdV.old_zero _,u⟩
  refine Za (yb (nd_t c4) yi_neq) ?_
  refine ZM ?_
  refine Zf 20 ?_
  refine Zf 20 ?_
  refine Zan (y_pick true) [2,3,4,6,7,23] ?_
  refine cg_ct rfl ?_
  refine Zr ?_
  refine Za (y_build (cs:=NdV.zero.cs Nd.zero)) ?_
  refine ZM ?_
  refine ZM ?_
  have r1:=RowAt.below hw3 r1.lt r1
  have o32:=r1
  refine lg_stw Wn r1 rfl rfl rfl (by kernel_rfl) (by kernel_rfl) rfl rfl fun w32 s32=>?_
  have r1:=s32.row
  have z32:=s32.size
  refine ZA ?_
  refine ZAnr [2,6,7,3,4] ?_
  refine Qc ?_
  have hst:ndGet xs=((flagE xs),Nd.zero,(flagR xs)):=by rw [ndGet,if_pos c4,flagR,if_neg c4]
  refine eg_ret_agg3 rfl rfl r1 (by kernel_rfl) (by kernel_rfl) rfl rfl ?_
  rw [hst]
  have l3:=l3.set o32 rfl s32
  have u:=Un (Un u n1.below) hw3
  have u:=u.trans (s32.below _ (by omega))
  exact ⟨_,rfl,NdV.zero,r3,rfl,((IsNd.zero _ 0).more (B':=w32.heap.size) (by omega)),l3,(Fr.nil _),NdV.old_zero _,u⟩
 refine Zc (getFlag_S h) rfl rfl ?_
 rintro _ w33 ⟨bb33,r33,rfl,e33,l33,hw33⟩
 have zw33:=hw33.size
 obtain rfl:bb33=false:=e33.trans (decide_eq_false c2)
 refine ZM ?_
 refine Za y_extract ?_
 refine Za y_extract ?_
 refine Za y_extract ?_
 refine ZA ?_
 refine ZA ?_
 refine ZAn [2,3,4,5,6,7] ?_
 refine Qd ?_
 refine ZrM ?_
 by_cases c34:(flagE xs)=0
 ·refine Za (yb (nd_f c34) yi_neq) ?_
  refine ZM ?_
  refine Zt 20 y_move ?_
  refine Zt 20 y_bnot ?_
  refine Zan (y_pick false) [2,3,4,6,7,23] ?_
  refine cg_ct rfl ?_
  refine Zr ?_
  refine Za (y_build (cs:=NdV.zero.cs Nd.zero)) ?_
  refine ZM ?_
  refine ZM ?_
  have r1:=RowAt.below hw33 r1.lt r1
  have o35:=r1
  refine lg_stw Wn r1 rfl rfl rfl (by kernel_rfl) (by kernel_rfl) rfl rfl fun w35 s35=>?_
  have r1:=s35.row
  have z35:=s35.size
  refine ZA ?_
  refine ZAnr [2,6,7,3,4] ?_
  refine Qc ?_
  have hst:ndGet xs=((flagE xs),Nd.zero,(flagR xs)):=by rw [ndGet,if_neg (not_not_intro c34),if_pos c2,c34]
  refine eg_ret_agg3 rfl rfl r1 (by kernel_rfl) (by kernel_rfl) rfl rfl ?_
  rw [hst]
  have l33:=l33.set o35 rfl s35
  have u:=Un (Un u n1.below) hw33
  have u:=u.trans (s35.below _ (by omega))
  exact ⟨_,rfl,NdV.zero,r33,rfl,((IsNd.zero _ 0).more (B':=w35.heap.size) (by omega)),l33,(Fr.nil _),NdV.old_zero _,u⟩
 refine Za (yb (nd_t c34) yi_neq) ?_
 refine ZM ?_
 refine Zf 20 ?_
 refine Zf 20 ?_
 refine Zan (y_pick true) [2,3,4,6,7,23] ?_
 refine cg_ct rfl ?_
 refine Zr ?_
 refine Za (y_build (cs:=NdV.zero.cs Nd.zero)) ?_
 refine ZM ?_
 refine ZM ?_
 have r1:=RowAt.below hw33 r1.lt r1
 have o36:=r1
 refine lg_stw Wn r1 rfl rfl rfl (by kernel_rfl) (by kernel_rfl) rfl rfl fun w36 s36=>?_
 have r1:=s36.row
 have z36:=s36.size
 refine ZA ?_
 refine ZAnr [2,6,7,3,4] ?_
 refine Qc ?_
 have hst:ndGet xs=((flagE xs),Nd.zero,(flagR xs)):=by rw [ndGet,if_pos c34,flagR,if_neg c34]
 refine eg_ret_agg3 rfl rfl r1 (by kernel_rfl) (by kernel_rfl) rfl rfl ?_
 rw [hst]
 have l33:=l33.set o36 rfl s36
 have u:=Un (Un u n1.below) hw33
 have u:=u.trans (s36.below _ (by omega))
 exact ⟨_,rfl,NdV.zero,r33,rfl,((IsNd.zero _ 0).more (B':=w36.heap.size) (by omega)),l33,(Fr.nil _),NdV.old_zero _,u⟩
end
end Go.Proofs.YtognnnjdoemgfaaGreatDoor
