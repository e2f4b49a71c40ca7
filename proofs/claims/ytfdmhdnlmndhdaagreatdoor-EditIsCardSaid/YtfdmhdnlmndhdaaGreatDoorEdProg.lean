/-
  What may be done to a tree: the functions of package edit.
-/
import Derived.Test.YtfdmhdnlmndhdaaGreatDoorEdWk
import Derived.Test.YtfdmhdnlmndhdaaGreatDoorChPlan
namespace Go.Proofs.YtfdmhdnlmndhdaaGreatDoor
open Go.ChangeShapes Go.WideShapes Go.ChangeAt Go.RowKit
set_option linter.unusedVariables false

set_option maxRecDepth 20000
theorem laidP_any {W:World} {B:Nat} {s:SlV} {Ls:List Nd} {l:SqV} {L:Sq} (h:RwNd W B s Ls) (hl:IsSq W B l L) (hB:B≤W.heap.size) (ht:trIs Ls) (hN:isN (2*L.i) (Ls.length:Int)) (hc:lfCheck L.says=0):Calls Tryz.prog 77 #[s.v,.agg (l.cs L)] W fun e W'=>∃ v,e=.returned v∧∃ s':SlV,v=.tuple #[s'.v,nv (0)]∧RwNd W' W'.heap.size s' (laidL Ls L.i L.says)∧Below W.heap.size W W':=by
 refine Qf (n:=16) Tryz.func77 rfl Tryz.ntmps77 (by simp) ?_
 show CG _ _ _ [(0,s.v),(1,.agg (l.cs L))] _ _
 have u:=Below.refl W.heap.size W
 have h:=h.more hB
 have hl:=hl.more hB
 have hN0:=hN.le
 obtain ⟨e1,e2⟩:=laid_set ht hN hc
 refine Zr ?_
 refine lg_boxw Wn rfl rfl (by kernel_rfl) rfl (by decide) fun b1 w1 n1=>?_
 have r1:=n1.row
 have k1:=n1.blk
 have z1:=n1.size
 have lt1:b1<w1.heap.size:=by omega
 refine ZA ?_
 refine ZAn [0,3,4,5] ?_
 refine ZrM ?_
 refine Za (y_fld (off:=1)) ?_
 refine Za (Qo (v:=nv L.i) r1 rfl (by kernel_rfl) rfl rfl) ?_
 refine Za (yi_mul rfl rfl rfl (by omega) (by omega)) ?_
 refine Za (y_fld (off:=2)) ?_
 refine Za (y_part r1 (m:=4) rfl (show 2+4≤6 by decide) (by kernel_rfl) (by kernel_rfl) rfl rfl) ?_
 refine Za (y_build (cs:=(⟨l.says,PnV.zero⟩:NdV).cs (⟨1,L.says,Pn.zero⟩:Nd))) ?_
 have h:=h.below (n1.below.mono (by omega))
 have hl:=hl.below (n1.below.mono (by omega))
 refine Zc (set_any (h.more (B':=w1.heap.size) (by omega)) (2*L.i) (show IsNd w1 w1.heap.size (⟨l.says,PnV.zero⟩:NdV) (⟨1,L.says,Pn.zero⟩:Nd) from ⟨(hl.says.more (B':=w1.heap.size) (by omega)),((IsPn.zero _ 0).more (B':=w1.heap.size) (by omega))⟩) (Nat.le_refl _)) rfl rfl ?_
 rintro _ w2 ⟨s2,rfl,m2,hw2⟩
 have zw2:=hw2.size
 refine Za y_extract ?_
 refine Za y_extract ?_
 refine ZA ?_
 refine ZAnr [4,5] ?_
 have u:=Un (Un u n1.below) hw2
 exact eg_ret_tmp2 rfl rfl rfl ⟨_,rfl,_,congrArg (fun q=>Value.tuple #[_,nv q]) e1,m2.cast e2,u⟩
theorem hadP_any {W:World} {B:Nat} {l:SqV} {L:Sq} (hl:IsSq W B l L) (hB:B≤W.heap.size):Calls Tryz.prog 46 #[.agg (l.cs L)] W fun e W'=>∃ v,e=.returned v∧v=nv (hadE (trAs L.tree) L.i)∧Below W.heap.size W W':=by
 refine Qf (n:=23) Tryz.func46 rfl Tryz.ntmps46 (by simp) ?_
 show CG _ _ _ [(0,.agg (l.cs L))] _ _
 have u:=Below.refl W.heap.size W
 have hl:=hl.more hB
 refine Zr ?_
 refine lg_boxw Wn rfl rfl (by kernel_rfl) rfl (by decide) fun b1 w1 n1=>?_
 have r1:=n1.row
 have k1:=n1.blk
 have z1:=n1.size
 have lt1:b1<w1.heap.size:=by omega
 refine ZAn [1,2] ?_
 refine Qd ?_
 refine Qd ?_
 refine cg_held (by kernel_rfl) fun W2 eW2=>?_
 have dW2:=below_drew _ _ eW2
 have zW2:=size_drew _ _ eW2
 clear eW2
 refine Zh 0 (fun q hq=>y_fld (off:=1) (by kernel_rfl) rfl rfl) ?_
 have r1:=RowAt.below dW2 r1.lt r1
 refine Zh 1 (fun q hq=>Qo (v:=nv L.i) (RowAt.below hq r1.lt r1) rfl (by kernel_rfl) rfl rfl) ?_
 by_cases c3:L.i<0
 ·refine Zh 2 (fun q hq=>yb (dT c3) (yi_lss rfl rfl rfl)) ?_
  refine Zh 3 (fun q hq=>y_move rfl rfl) ?_
  refine hg_skip 4 (by rfl) (want_f (dj:=6) (by rfl) (by kernel_rfl) rfl) rfl (by decide) (by kernel_rfl) (by kernel_rfl) (by kernel_rfl) (fun _ _ _ h=>h) (Below.refl _ _) ?_
  refine hg_skip 5 (by rfl) (want_f (dj:=6) (by rfl) (by kernel_rfl) rfl) rfl (by decide) (by kernel_rfl) (by kernel_rfl) (by kernel_rfl) (fun _ _ _ h=>h) (Below.refl _ _) ?_
  refine hg_skip 6 (by rfl) (want_f (dj:=6) (by rfl) (by kernel_rfl) rfl) rfl (by decide) (by kernel_rfl) (by kernel_rfl) (by kernel_rfl) (fun _ _ _ h=>h) (Below.refl _ _) ?_
  refine hg_skip 7 (by rfl) (want_f (dj:=6) (by rfl) (by kernel_rfl) rfl) rfl (by decide) (by kernel_rfl) (by kernel_rfl) (by kernel_rfl) (fun _ _ _ h=>h) (Below.refl _ _) ?_
  refine hg_skip1 8 (Below.refl _ _) (by rfl) (want_f (dj:=6) (by rfl) (by kernel_rfl) rfl) rfl (by decide) (by kernel_rfl) ?_
  refine hg_skip 9 (by rfl) (want_f (dj:=6) (by rfl) (by kernel_rfl) rfl) rfl (by decide) (by kernel_rfl) (by kernel_rfl) (by kernel_rfl) (fun _ _ _ h=>h) (Below.refl _ _) ?_
  refine Zh 10 (fun q hq=>y_pick true rfl rfl rfl) ?_
  refine hg_done (by kernel_rfl) ?_
  refine Nx [1,2,13] ?_
  refine cg_ct rfl ?_
  refine ZrA ?_
  refine Znr [1,2] ?_
  refine Qc ?_
  have u:=Un (Un u n1.below) dW2
  exact Qa rfl rfl ⟨_,rfl,congrArg nv (hadE_no (fun z=>by omega)).symm,u⟩
 refine Zh 2 (fun q hq=>yb (dF c3) (yi_lss rfl rfl rfl)) ?_
 refine Zh 3 (fun q hq=>y_move rfl rfl) ?_
 refine Zht 4 6 (fun q hq=>y_fld (off:=1) (by kernel_rfl) rfl rfl) ?_
 refine Zht 5 6 (fun q hq=>Qo (v:=nv L.i) (RowAt.below hq r1.lt r1) rfl (by kernel_rfl) rfl rfl) ?_
 refine Zht 6 6 (fun q hq=>y_fld (off:=0) (by kernel_rfl) rfl rfl) ?_
 refine Zht 7 6 (fun q hq=>Qo (v:=l.tree.v) (RowAt.below hq r1.lt r1) rfl (by kernel_rfl) rfl rfl) ?_
 have hl:=(hl.below (n1.below.mono (by omega))).below (dW2.mono (by omega))
 refine Zot 8 6 ?_
 refine Zct 6 (leavesT_any (hl.tree.more (B':=W2.heap.size) (by omega)) (Nat.le_refl _)) rfl rfl ?_
 rintro _ w4 ⟨rfl,hw4⟩
 have zw4:=hw4.size
 refine hg_next hw4 ?_
 refine hg_up hw4 ?_
 by_cases c5:((leavesA (trAs L.tree):Nat):Int)≤L.i
 ·refine Zht 9 6 (fun q hq=>yb (dT c5) (yi_geq rfl rfl rfl)) ?_
  refine Zh 10 (fun q hq=>y_pick false rfl rfl rfl) ?_
  refine hg_done (by kernel_rfl) ?_
  refine Nx [1,2,13] ?_
  refine cg_ct rfl ?_
  refine ZrA ?_
  refine Znr [1,2] ?_
  refine Qc ?_
  have u:=Un (Un (Un u n1.below) dW2) hw4
  exact Qa rfl rfl ⟨_,rfl,congrArg nv (hadE_no (fun z=>by omega)).symm,u⟩
 have hr:0≤L.i∧L.i<leavesA (trAs L.tree):=⟨by omega,by omega⟩
 have hti:=leaves_tr hr.1 hr.2
 have hta:=trAs_ok hti
 have hll:=trIs_le hti
 rw [hta] at hr
 have hlv:=leavesA_eq L.tree
 refine Zht 9 6 (fun q hq=>yb (dF c5) (yi_geq rfl rfl rfl)) ?_
 refine Zh 10 (fun q hq=>y_pick false rfl rfl rfl) ?_
 refine hg_done (by kernel_rfl) ?_
 refine Nx [1,2,13] ?_
 refine Zcf [1,2] ?_
 refine Qd ?_
 refine Qd ?_
 have hl:=hl.below (hw4.mono (by omega))
 obtain ⟨ebz6,eoz6,elz6,eLz6,eAz6,eBz6,egz6,ehz6,ecz6⟩:=hl.tree.at ((2*L.i).toNat) (by have:=hl.tree.len;omega)
 have enz6:eLz6=atN L.tree ((2*L.i).toNat):=(atN_some egz6).symm
 subst enz6
 refine Qe ?_
 refine Za (y_fld (off:=0)) ?_
 have r1:=RowAt.below hw4 r1.lt r1
 refine Za (Qo (v:=l.tree.v) r1 rfl (by kernel_rfl) rfl rfl) ?_
 refine Za (y_fld (off:=1)) ?_
 refine Za (Qo (v:=nv L.i) r1 rfl (by kernel_rfl) rfl rfl) ?_
 refine Za (yi_mul rfl rfl rfl (by omega) (by omega)) ?_
 obtain ⟨eb7,eo7,el7,eL7,eA7,eB7,eg7,eh7,ec7⟩:=hl.tree.at ((2*L.i).toNat) (by have:=hl.tree.len;omega)
 obtain rfl:(atN L.tree ((2*L.i).toNat))=eL7:=Option.some.inj (egz6.symm.trans eg7)
 refine Za (y_ixR (s:=l.tree) (el:=50) (k:=8) (i:=(2*L.i).toNat) (iI:=(2*L.i)) eA7 (by kernel_rfl) (by kernel_rfl) (by omega) (by have:=hl.tree.len;omega) rfl rfl rfl) ?_
 refine Za (y_fld (off:=0)) ?_
 refine Za (y_celld (ec7 0 _ rfl)) ?_
 by_cases c8:(atN L.tree ((2*L.i).toNat)).kind=0
 ·refine Zan (yb (dT c8) yi_eql) [2,22] ?_
  refine cg_ct rfl ?_
  refine ZrA ?_
  refine Znr [2] ?_
  refine Qc ?_
  have u:=Un (Un (Un u n1.below) dW2) hw4
  exact Qa rfl rfl ⟨_,rfl,congrArg nv (by rw [hta];exact (hadE_blank hr c8).symm),u⟩
 refine Zan (yb (dF c8) yi_eql) [2,22] ?_
 refine Zcf [2] ?_
 refine ZrA ?_
 refine Znr [2] ?_
 have u:=Un (Un (Un u n1.below) dW2) hw4
 exact Qa rfl rfl ⟨_,rfl,congrArg nv (by rw [hta];exact (hadE_is hr c8).symm),u⟩
theorem from1_any {W:World} {B:Nat} {l:SqV} {L:Sq} (hl:IsSq W B l L) (hB:B≤W.heap.size) {b:Nat} {k:Int} (hr:RowAt W b 3 #[nv k]):Calls Tryz.prog 72 #[.agg (l.cs L),pv b 0] W fun e W'=>∃ v,e=.returned v∧v=nv (srcE L.says k)∧Below W.heap.size W W':=by
 refine Qf (n:=16) Tryz.func72 rfl Tryz.ntmps72 (by simp) ?_
 show CG _ _ _ [(0,.agg (l.cs L)),(1,pv b 0)] _ _
 have u:=Below.refl W.heap.size W
 have hl:=hl.more hB
 have hrl:=hr.lt
 refine Zr ?_
 refine lg_boxw Wn rfl rfl (by kernel_rfl) rfl (by decide) fun b1 w1 n1=>?_
 have r1:=n1.row
 have k1:=n1.blk
 have z1:=n1.size
 have lt1:b1<w1.heap.size:=by omega
 refine ZAn [1,2,3] ?_
 refine Qd ?_
 refine Zr ?_
 refine Za (y_fld (off:=2)) ?_
 refine Za (y_part r1 (m:=4) rfl (show 2+4≤6 by decide) (by kernel_rfl) (by kernel_rfl) rfl rfl) ?_
 have hl:=hl.below (n1.below.mono (by omega))
 refine Zc (check_any (hl.says.more (B':=w1.heap.size) (by omega)) (Nat.le_refl _)) rfl rfl ?_
 rintro _ w2 ⟨rfl,hw2⟩
 have zw2:=hw2.size
 refine ZAn [1,2,3,4] ?_
 refine ZrM ?_
 by_cases c3:(lfCheck L.says)=0
 ·refine Zan (yb (nd_f c3) yi_neq) [1,2,3,4,9] ?_
  refine Zcf [1,2,3] ?_
  refine Qd ?_
  refine Zr ?_
  refine Za (y_fld (off:=2)) ?_
  refine Za (y_fld (off:=2)) ?_
  have r1:=RowAt.below hw2 r1.lt r1
  refine Za (Qo (v:=nv L.says.src) r1 rfl (by kernel_rfl) rfl rfl) ?_
  have hr:=n1.keep hr
  have hr:=RowAt.below hw2 hr.lt hr
  refine Za (Qo (v:=nv k) hr rfl (by kernel_rfl) rfl rfl) ?_
  by_cases c4:L.says.src=k
  ·refine Zan (yb (nd_f c4) yi_neq) [3,15] ?_
   refine Zcf [3] ?_
   refine ZrA ?_
   refine Znr [3] ?_
   have u:=Un (Un u n1.below) hw2
   exact Qa rfl rfl ⟨_,rfl,congrArg nv (srcE_is c3 c4).symm,u⟩
  refine Zan (yb (nd_t c4) yi_neq) [3,15] ?_
  refine cg_ct rfl ?_
  refine ZrA ?_
  refine Znr [3] ?_
  refine Qc ?_
  have u:=Un (Un u n1.below) hw2
  exact Qa rfl rfl ⟨_,rfl,congrArg nv (srcE_src c3 c4).symm,u⟩
 refine Zan (yb (nd_t c3) yi_neq) [1,2,3,4,9] ?_
 refine cg_ct rfl ?_
 refine ZrM ?_
 refine ZAnr [1,2,3] ?_
 refine Qc ?_
 have u:=Un (Un u n1.below) hw2
 exact Qa rfl rfl ⟨_,rfl,congrArg nv (srcE_bad c3).symm,u⟩
theorem add1_any {W:World} {B:Nat} {l:SqV} {L:Sq} (hl:IsSq W B l L) (hB:B≤W.heap.size) {b:Nat} {k:Int} (hr:RowAt W b 30 #[nv k]):Calls Tryz.prog 35 #[.agg (l.cs L),pv b 0] W fun e W'=>∃ v,e=.returned v∧v=nv (k)∧Below W.heap.size W W':=by
 refine Qf (n:=5) Tryz.func35 rfl Tryz.ntmps35 (by simp) ?_
 show CG _ _ _ [(0,.agg (l.cs L)),(1,pv b 0)] _ _
 have u:=Below.refl W.heap.size W
 have hl:=hl.more hB
 have hrl:=hr.lt
 refine Zr ?_
 refine lg_boxw Wn rfl rfl (by kernel_rfl) rfl (by decide) fun b1 w1 n1=>?_
 have r1:=n1.row
 have k1:=n1.blk
 have z1:=n1.size
 have lt1:b1<w1.heap.size:=by omega
 refine ZAn [1,3] ?_
 refine Zr ?_
 have hr:=n1.keep hr
 refine Za (Qo (v:=nv k) hr rfl (by kernel_rfl) rfl rfl) ?_
 refine ZAnr [3] ?_
 have u:=Un u n1.below
 exact Qa rfl rfl ⟨_,rfl,rfl,u⟩
theorem from_any (k:Int) (W:World):Calls Tryz.prog 36 #[nv k] W fun e W'=>∃ v,e=.returned v∧∃ b:Nat,v=(⟨72,[pv b 0]⟩:FV).v∧RowAt W' b 3 #[nv k]∧W.heap.size≤b∧Below W.heap.size W W':=by
 refine Qf (n:=4) Tryz.func36 rfl Tryz.ntmps36 (by simp) ?_
 show CG _ _ _ [(0,nv k)] _ _
 have u:=Below.refl W.heap.size W
 refine Zr ?_
 refine lg_boxs rfl Wn rfl rfl rfl (by decide) fun b1 w1 n1=>?_
 have r1:=n1.row
 have k1:=n1.blk
 have z1:=n1.size
 have lt1:b1<w1.heap.size:=by omega
 refine ZAn [1,2] ?_
 refine Zr ?_
 refine Za (y_mkf (xs:=[]) (ys:=[.tmp 1])) ?_
 refine ZAnr [2] ?_
 have u:=Un u n1.below
 exact Qa rfl rfl ⟨_,rfl,b1,rfl,r1,by omega,u⟩
theorem committed_any {W:World} {B:Nat} {r:SlV} {Ks:List (List Int)} (hk:RwOc W B r Ks) (hB:B≤W.heap.size):Calls Tryz.prog 53 #[r.v] W fun e W'=>∃ v,e=.returned v∧∃ b:Nat,v=(⟨86,[pv b 0]⟩:FV).v∧RowAt W' b 26 #[r.v]∧W.heap.size≤b∧Below W.heap.size W W':=by
 refine Qf (n:=4) Tryz.func53 rfl Tryz.ntmps53 (by simp) ?_
 show CG _ _ _ [(0,r.v)] _ _
 have u:=Below.refl W.heap.size W
 have hk:=hk.more hB
 refine Zr ?_
 refine lg_boxs rfl Wn rfl rfl rfl (by decide) fun b1 w1 n1=>?_
 have r1:=n1.row
 have k1:=n1.blk
 have z1:=n1.size
 have lt1:b1<w1.heap.size:=by omega
 refine ZAn [1,2] ?_
 refine Zr ?_
 refine Za (y_mkf (xs:=[]) (ys:=[.tmp 1])) ?_
 refine ZAnr [2] ?_
 have u:=Un u n1.below
 exact Qa rfl rfl ⟨_,rfl,b1,rfl,r1,by omega,u⟩
theorem removed_any {W:World} {B:Nat} {l:SqV} {L:Sq} (hl:IsSq W B l L) (hB:B≤W.heap.size) (hti:trIs L.tree) (hr:0≤L.i∧L.i<leavesA L.tree) (rg:Tt W):Calls Tryz.prog 47 #[.agg (l.cs L)] W fun e W'=>∃ v,e=.returned v∧∃ s':SlV,v=.tuple #[s'.v,nv (0)]∧RwNd W' W'.heap.size s' (trimL (clearL L.tree L.i))∧Below W.heap.size W W':=by
 refine Qf (n:=17) Tryz.func47 rfl Tryz.ntmps47 (by simp) ?_
 show CG _ _ _ [(0,.agg (l.cs L))] _ _
 have u:=Below.refl W.heap.size W
 have hl:=hl.more hB
 have hta:=trAs_ok hti
 have hlv:=leavesA_eq L.tree
 have hll:=trIs_len hti
 have hN:isN (2*L.i) (L.tree.length:Int):=isN_of hti (by omega) (by omega)
 have ce:=(clear_ok hti hr).1
 refine Zr ?_
 refine lg_boxw Wn rfl rfl (by kernel_rfl) rfl (by decide) fun b1 w1 n1=>?_
 have r1:=n1.row
 have k1:=n1.blk
 have z1:=n1.size
 have lt1:b1<w1.heap.size:=by omega
 refine ZA ?_
 refine ZAn [1,2,3] ?_
 refine Zr ?_
 refine Za (y_fld (off:=0)) ?_
 refine Za (Qo (v:=l.tree.v) r1 rfl (by kernel_rfl) rfl rfl) ?_
 refine Za (y_fld (off:=1)) ?_
 refine Za (Qo (v:=nv L.i) r1 rfl (by kernel_rfl) rfl rfl) ?_
 have hl:=hl.below (n1.below.mono (by omega))
 have u:=Un u n1.below
 refine Zc (clear_any (hl.tree.more (B':=w1.heap.size) (by omega)) L.i (Nat.le_refl _) (Tt.up u rg).b) rfl rfl ?_
 rintro _ w2 ⟨s2,rfl,m2,hw2⟩
 have zw2:=hw2.size
 refine ZM ?_
 refine Za y_extract ?_
 refine Za y_extract ?_
 refine ZA ?_
 refine ZAn [2,3,4,5] ?_
 refine ZrM ?_
 refine Zc (trim_any m2 (by omega)) rfl rfl ?_
 rintro _ w3 ⟨s3,rfl,m3,hw3⟩
 have zw3:=hw3.size
 refine ZM ?_
 refine ZA ?_
 refine ZAnr [2,3] ?_
 have u:=Un (Un u hw2) hw3
 exact eg_ret_tmp2 rfl rfl rfl ⟨_,rfl,_,congrArg (fun q=>Value.tuple #[_,nv q]) ce,(m3.more (by omega)),u⟩
theorem changed_any {W:World} {B:Nat} {l:SqV} {L:Sq} (hl:IsSq W B l L) (hB:B≤W.heap.size) (hti:trIs L.tree) (hr:0≤L.i∧L.i<leavesA L.tree) (hc:lfCheck L.says=0) (rg:Tt W):Calls Tryz.prog 52 #[.agg (l.cs L)] W fun e W'=>∃ v,e=.returned v∧∃ s':SlV,v=.tuple #[s'.v,nv (0)]∧RwNd W' W'.heap.size s' (laidL (clearL L.tree L.i) L.i L.says)∧Below W.heap.size W W':=by
 refine Qf (n:=22) Tryz.func52 rfl Tryz.ntmps52 (by simp) ?_
 show CG _ _ _ [(0,.agg (l.cs L))] _ _
 have u:=Below.refl W.heap.size W
 have hl:=hl.more hB
 have hta:=trAs_ok hti
 have hlv:=leavesA_eq L.tree
 have hll:=trIs_len hti
 have hN:isN (2*L.i) (L.tree.length:Int):=isN_of hti (by omega) (by omega)
 have ce:=(clear_ok hti hr).1
 refine Zr ?_
 refine lg_boxw Wn rfl rfl (by kernel_rfl) rfl (by decide) fun b1 w1 n1=>?_
 have r1:=n1.row
 have k1:=n1.blk
 have z1:=n1.size
 have lt1:b1<w1.heap.size:=by omega
 refine ZA ?_
 refine ZAn [1,2,3] ?_
 refine Zr ?_
 refine Za (y_fld (off:=0)) ?_
 refine Za (Qo (v:=l.tree.v) r1 rfl (by kernel_rfl) rfl rfl) ?_
 refine Za (y_fld (off:=1)) ?_
 refine Za (Qo (v:=nv L.i) r1 rfl (by kernel_rfl) rfl rfl) ?_
 have hl:=hl.below (n1.below.mono (by omega))
 have u:=Un u n1.below
 refine Zc (clear_any (hl.tree.more (B':=w1.heap.size) (by omega)) L.i (Nat.le_refl _) (Tt.up u rg).b) rfl rfl ?_
 rintro _ w2 ⟨s2,rfl,m2,hw2⟩
 have zw2:=hw2.size
 refine ZM ?_
 refine Za y_extract ?_
 refine Za y_extract ?_
 refine ZA ?_
 refine ZAn [1,2,3,4,5] ?_
 refine Qd ?_
 refine ZrM ?_
 refine Zan (yb (nd_f ce) yi_neq) [1,2,3,4,5,15] ?_
 refine Zcf [1,2,3,4] ?_
 refine ZrM ?_
 have r1:=RowAt.below hw2 r1.lt r1
 refine Za (y_loadA r1) ?_
 have hl:=hl.below (hw2.mono (by omega))
 refine Zc (laidP_any (m2.more (B':=w2.heap.size) (by omega)) (hl.more (B':=w2.heap.size) (by omega)) (Nat.le_refl _) (clear_is hti hr).1 (by rw [(clear_is hti hr).2];exact hN) hc) rfl rfl ?_
 rintro _ w3 ⟨s3,rfl,m3,hw3⟩
 have zw3:=hw3.size
 refine Za y_extract ?_
 refine Za y_extract ?_
 refine ZA ?_
 refine ZAnr [2,3] ?_
 have u:=Un (Un u hw2) hw3
 exact eg_ret_tmp2 rfl rfl rfl ⟨_,rfl,_,rfl,m3,u⟩
theorem committed1_any {W:World} {B:Nat} {l:SqV} {L:Sq} (hl:IsSq W B l L) (hB:B≤W.heap.size) (hti:trIs L.tree) (hr:0≤L.i∧L.i<leavesA L.tree) (hc:lfCheck L.says=0) {b:Nat} {r:SlV} {Ks:List (List Int)} (hk:RwOc W B r Ks) (hr0:RowAt W b 26 #[r.v]) (rg:Tt W):Calls Tryz.prog 86 #[.agg (l.cs L),pv b 0] W fun e W'=>∃ v,e=.returned v∧∃ s':SlV,v=.tuple #[s'.v,nv (comX L.tree L.i L.says Ks)]∧RwNd W' W'.heap.size s' (comY L.tree L.i L.says Ks)∧Below W.heap.size W W':=by
 refine Qf (n:=32) Tryz.func86 rfl Tryz.ntmps86 (by simp) ?_
 show CG _ _ _ [(0,.agg (l.cs L)),(1,pv b 0)] _ _
 have u:=Below.refl W.heap.size W
 have hl:=hl.more hB
 have hta:=trAs_ok hti
 have hlv:=leavesA_eq L.tree
 have hll:=trIs_len hti
 have hN:isN (2*L.i) (L.tree.length:Int):=isN_of hti (by omega) (by omega)
 have ce:=(clear_ok hti hr).1
 have hk:=hk.more hB
 have hrl:=hr0.lt
 refine Zr ?_
 refine lg_boxw Wn rfl rfl (by kernel_rfl) rfl (by decide) fun b1 w1 n1=>?_
 have r1:=n1.row
 have k1:=n1.blk
 have z1:=n1.size
 have lt1:b1<w1.heap.size:=by omega
 refine ZA ?_
 refine ZAn [1,2,3,4] ?_
 refine Zr ?_
 refine Za (y_fld (off:=0)) ?_
 refine Za (Qo (v:=l.tree.v) r1 rfl (by kernel_rfl) rfl rfl) ?_
 refine Za (y_fld (off:=1)) ?_
 refine Za (Qo (v:=nv L.i) r1 rfl (by kernel_rfl) rfl rfl) ?_
 have hr0:=n1.keep hr0
 refine Za (Qo (v:=r.v) hr0 rfl (by kernel_rfl) rfl rfl) ?_
 have hk:=hk.below (n1.below.mono (by omega))
 have hl:=hl.below (n1.below.mono (by omega))
 have u:=Un u n1.below
 refine Zc ((by have z:=plan_any (hl.tree.more (B':=w1.heap.size) (by omega)) L.i (hk.more (B':=w1.heap.size) (by omega)) (Nat.le_refl _) (Tt.up u rg);rwa [hta] at z)) rfl rfl ?_
 rintro _ w2 ⟨s2,r2,rfl,m2,n2,hw2⟩
 have zw2:=hw2.size
 have pl2:=planH_le L.tree L.i Ks
 refine ZM ?_
 refine Za y_extract ?_
 refine Za y_extract ?_
 refine Za y_extract ?_
 refine ZA ?_
 refine ZA ?_
 refine ZAn [2,3,4,5,6,7] ?_
 refine Qd ?_
 refine ZrM ?_
 by_cases c3:(planE L.tree L.i Ks)=0
 ·have hpE:=c3
  refine Zan (yb (nd_f c3) yi_neq) [2,3,4,5,6,7,19] ?_
  refine Zcf [2,3,4,5,6] ?_
  refine Qd ?_
  refine Zr ?_
  refine Za (y_fld (off:=2)) ?_
  refine Za (y_fld (off:=3)) ?_
  have r1:=RowAt.below hw2 r1.lt r1
  refine Za (Qo (v:=l.says.par.v) r1 rfl (by kernel_rfl) rfl rfl) ?_
  refine ZM ?_
  have hl:=hl.below (hw2.mono (by omega))
  by_cases c4:L.says.par=(planH L.tree L.i Ks)
  ·refine Za (yb (dT c4) (Qp (bytesEq_S hl.says.par n2))) ?_
   refine Zan y_bnot [2,3,4,5,26] ?_
   refine Zcf [2,3,4,5] ?_
   refine ZrM ?_
   refine Za (y_loadA r1) ?_
   refine Zc (laidP_any (m2.more (B':=w2.heap.size) (by omega)) (hl.more (B':=w2.heap.size) (by omega)) (Nat.le_refl _) (planP_is hti _ _) (by rw [planP_len hpE];exact hN) hc) rfl rfl ?_
   rintro _ w5 ⟨s5,rfl,m5,hw5⟩
   have zw5:=hw5.size
   refine Za y_extract ?_
   refine Za y_extract ?_
   refine ZA ?_
   refine ZAnr [3,4] ?_
   obtain ⟨x1,x2⟩:comX L.tree L.i L.says Ks=0∧comY L.tree L.i L.says Ks=(laidL (planP L.tree L.i Ks) L.i L.says):=(comX_ok hpE c4)
   have u:=Un (Un u hw2) hw5
   exact eg_ret_tmp2 rfl rfl rfl ⟨_,rfl,_,congrArg (fun q=>Value.tuple #[_,nv q]) x1.symm,m5.cast x2.symm,u⟩
  refine Za (yb (dF c4) (Qp (bytesEq_S hl.says.par n2))) ?_
  refine Zan y_bnot [2,3,4,5,26] ?_
  refine cg_ct rfl ?_
  refine ZrA ?_
  refine ZAnr [2,5,3,4] ?_
  refine Qc ?_
  obtain ⟨x1,x2⟩:comX L.tree L.i L.says Ks=12∧comY L.tree L.i L.says Ks=[]:=(comX_hash hpE c4)
  have u:=Un u hw2
  exact eg_ret_tmp2 rfl rfl rfl ⟨_,rfl,nilS,congrArg (fun q=>Value.tuple #[_,nv q]) x1.symm,(RwNd.nil _ _).cast x2.symm,u⟩
 refine Zan (yb (nd_t c3) yi_neq) [2,3,4,5,6,7,19] ?_
 refine cg_ct rfl ?_
 refine ZrM ?_
 refine ZA ?_
 refine ZAnr [2,5,6,3,4] ?_
 refine Qc ?_
 obtain ⟨x1,x2⟩:comX L.tree L.i L.says Ks=(planE L.tree L.i Ks)∧comY L.tree L.i L.says Ks=[]:=(comX_plan c3)
 have u:=Un u hw2
 exact eg_ret_tmp2 rfl rfl rfl ⟨_,rfl,nilS,congrArg (fun q=>Value.tuple #[_,nv q]) x1.symm,(RwNd.nil _ _).cast x2.symm,u⟩
set_option maxHeartbeats 1000000 in
theorem joined_any {W:World} {B:Nat} {l:SqV} {L:Sq} (hl:IsSq W B l L) (hB:B≤W.heap.size) (hti:trIs L.tree) (hN:isN (2*L.i) (L.tree.length:Int)) (hc:lfCheck L.says=0) (rg:Tt W):Calls Tryz.prog 37 #[.agg (l.cs L)] W fun e W'=>∃ v,e=.returned v∧∃ s':SlV,v=.tuple #[s'.v,nv (0)]∧RwNd W' W'.heap.size s' (laidL (joinW L.i (dirI (2*L.i) (L.tree.length:Int)) L.tree) L.i L.says)∧Below W.heap.size W W':=by
 refine Qf (n:=48) Tryz.func37 rfl Tryz.ntmps37 (by simp) ?_
 show CG _ _ _ [(0,.agg (l.cs L))] _ _
 have u:=Below.refl W.heap.size W
 have hl:=hl.more hB
 have hll:=trIs_le hti
 have hNl:=hN.le
 have hpos:0<L.tree.length:=by omega
 have dlt:=dirL (2*L.i) (L.tree.length:Int)
 refine Zr ?_
 refine lg_boxw Wn rfl rfl (by kernel_rfl) rfl (by decide) fun b1 w1 n1=>?_
 have r1:=n1.row
 have k1:=n1.blk
 have z1:=n1.size
 have lt1:b1<w1.heap.size:=by omega
 refine ZA ?_
 refine ZAn [1,2,3] ?_
 refine Zr ?_
 refine Za (y_fld (off:=0)) ?_
 refine Za (Qo (v:=l.tree.v) r1 rfl (by kernel_rfl) rfl rfl) ?_
 have hl:=hl.below (n1.below.mono (by omega))
 obtain ⟨bc,hbc⟩:∃ q,q=w1.heap.size:=⟨_,rfl⟩
 refine Zc (clone_any (hl.tree.more (B':=w1.heap.size) (by omega)) hbc hpos (by first | omega | (simp only [List.length_append,List.length_cons,List.length_nil,List.length_take,List.length_drop,List.length_set,List.length_replicate,clr_len];omega))) rfl rfl ?_
 rintro _ w2 ⟨s2,rfl,g2,hw2⟩
 have zw2:=hw2.size
 obtain ⟨ga,gb,gn⟩:=OwnNa.of g2 (Nat.le_refl _) (by omega) hpos
 have gnl:=gn.lt
 refine ZAn [1,2,3,4] ?_
 refine Qd ?_
 refine Zr ?_
 refine Za (y_fld (off:=1)) ?_
 have r1:=RowAt.below hw2 r1.lt r1
 refine Za (Qo (v:=nv L.i) r1 rfl (by kernel_rfl) rfl rfl) ?_
 refine Za (yi_mul rfl rfl rfl (by omega) (by omega)) ?_
 refine ZM ?_
 refine Za (y_lenM (el:=50) gn.row.len) ?_
 have u:=Un (Un u n1.below) hw2
 refine Zc (directF (2*L.i) (L.tree.length:Int) _ (Tt.up u rg).b) rfl rfl ?_
 rintro _ w3 ⟨s3,rfl,m3,f3,hw3⟩
 have zw3:=hw3.size
 refine Za (y_lenM (el:=3) m3.len) ?_
 refine ZM ?_
 refine Zn [1,2,3,4,16,17,18] ?_
 refine Qj ?_
 obtain ⟨C,hC⟩:∃ q,q=w3.heap.size:=⟨_,rfl⟩
 have gn:=gn.below hw3
 have hl:=(hl.below (hw2.mono (by omega))).below (hw3.mono (by omega))
 have r1:=RowAt.below hw3 r1.lt r1
 have u:=Un u hw3
 refine Qr (fun t a v=>Holds 48 [(1,pv b1 0),(4,s2.v),(16,s3.v),(17,nv ((dirI (2*L.i) (L.tree.length:Int)).length:Int)),(18,nv ((t:Nat):Int))] a∧IsSq v W.heap.size l L∧RowAt v b1 62 (l.cs L)∧SlN v C s3 (dirI (2*L.i) (L.tree.length:Int))∧Below W.heap.size W v∧C≤v.heap.size∧t≤(dirI (2*L.i) (L.tree.length:Int)).length∧OwnNa v ga v.heap.size s2 (joinW L.i ((dirI (2*L.i) (L.tree.length:Int)).take t) L.tree)) ((dirI (2*L.i) (L.tree.length:Int)).length+1) (fun a ha=>⟨ha.keep (fk rfl (fk rfl (fk rfl (fk rfl (fk rfl fn))))),hl,r1,(m3.more (by omega)),u,(by omega),(Nat.zero_le _),gn.up⟩) ?_
 rintro t a v ht ⟨ha,hl,r1,hd,u,cC,tle,go⟩
 refine cg_at ha ?_
 clear ha a
 have zv:=u.size
 have l_r1:=r1.lt
 have qd:=hd.len
 have jl:=joinW_len L.i ((dirI (2*L.i) (L.tree.length:Int)).take t) L.tree
 have qo:=go.len
 have gl:=go.lt
 refine Zr ?_
 by_cases c4:((t:Nat):Int)<((dirI (2*L.i) (L.tree.length:Int)).length:Int)
 ·refine Zan (yb (dT c4) yi_lss) [1,4,16,17,18,19] ?_
  refine Qd ?_
  refine cg_ct rfl ?_
  refine Zki [1,4,16,17,18] ?_
  refine Qd ?_
  refine Qj ?_
  refine Qd ?_
  have htn:t<(dirI (2*L.i) (L.tree.length:Int)).length:=by omega
  have hdn:=dir_all hN ((dirI (2*L.i) (L.tree.length:Int)).getD t 0) (getD_in htn)
  refine Qe ?_
  refine Za (y_ixT (i:=t) (iI:=((t:Nat):Int)) hd (by omega) (by first | omega | (simp only [List.length_append,List.length_cons,List.length_nil];omega)) rfl rfl rfl) ?_
  refine Za (yv (congrArg nv (show (dirI (2*L.i) (L.tree.length:Int)).getD t 0=(((dirI (2*L.i) (L.tree.length:Int)).getD t 0).toNat:Int) by omega)) (y_ldT (i:=t) hd (by first | omega | (simp only [List.length_append,List.length_cons,List.length_nil];omega)) rfl rfl)) ?_
  refine ZAn [1,4,16,17,18,6] ?_
  refine ZrM ?_
  refine ZM ?_
  refine Za (y_ixR (s:=s2) (el:=50) (k:=8) (i:=(((dirI (2*L.i) (L.tree.length:Int)).getD t 0).toNat)) (iI:=((((dirI (2*L.i) (L.tree.length:Int)).getD t 0).toNat:Nat):Int)) go.1 (by kernel_rfl) (by kernel_rfl) (by omega) (by have q1:=go.len;first | omega | (simp only [List.length_append,List.length_cons,List.length_nil,List.length_take,List.length_drop,List.length_set,List.length_replicate,clr_len] at q1;omega)) rfl rfl rfl) ?_
  refine ZAn [1,4,16,17,18,7] ?_
  refine ZrM ?_
  refine Za y_nilc ?_
  refine Za (y_fld (off:=0)) ?_
  obtain ⟨el5,eh5,ef5,ec5⟩:=go.at (i:=(((dirI (2*L.i) (L.tree.length:Int)).getD t 0).toNat)) (by first | omega | (simp only [List.length_append,List.length_cons,List.length_nil,List.length_take,List.length_drop,List.length_set,List.length_replicate,clr_len];omega))
  refine Za (y_celld (ec5 0 _ rfl)) ?_
  by_cases c6:(atN (joinW L.i ((dirI (2*L.i) (L.tree.length:Int)).take t) L.tree) (((dirI (2*L.i) (L.tree.length:Int)).getD t 0).toNat)).kind=2
  ·refine Zan (yb (dT c6) yi_eql) [1,4,16,17,18,7,29] ?_
   refine cg_ct rfl ?_
   have hun:=(unm_small (joinW_is (i:=L.i) (by omega) (by omega) ((dirI (2*L.i) (L.tree.length:Int)).take t) hti) ((dirI (2*L.i) (L.tree.length:Int)).getD t 0).toNat).2
   have r1o:=r1
   refine cg_heldS (fun q=>Alt v q ga) (by kernel_rfl) (fun W7 eW7=>?_) fun W7 eW7=>?_
   ·exact Below.kept (below_drew _ _ eW7)
   have dW7:=below_drew _ _ eW7
   have zW7:=size_drew _ _ eW7
   clear eW7
   have al0:Alt v W7 ga:=Below.kept dW7
   refine hgs_take 0 (by rfl) Wn (by rfl) rfl (by decide) (by kernel_rfl) (by kernel_rfl) (by kernel_rfl) (fun _ _ _ h=>h) al0 (fun q hq=>y_move rfl rfl) ?_
   refine hgs_take 1 (by rfl) Wn (by rfl) rfl (by decide) (by kernel_rfl) (by kernel_rfl) (by kernel_rfl) (fun _ _ _ h=>h) al0 (fun q hq=>y_move rfl rfl) ?_
   refine hgs_takev 2 (by rfl) Wn rfl (by decide) (by kernel_rfl) (by kernel_rfl) (by kernel_rfl) (fun _ _ _ h=>h) al0 (v_nilc rfl rfl) ?_
   refine hgs_take 3 (by rfl) Wn (by rfl) rfl (by decide) (by kernel_rfl) (by kernel_rfl) (by kernel_rfl) (fun _ _ _ h=>h) al0 (fun q hq=>y_fld (off:=5) (by kernel_rfl) rfl rfl) ?_
   refine hgs_take 4 (by rfl) Wn (by rfl) rfl (by decide) (by kernel_rfl) (by kernel_rfl) (by kernel_rfl) (fun _ _ _ h=>h) al0 (fun q hq=>y_fld (off:=2) (by kernel_rfl) rfl rfl) ?_
   refine hgs_take 6 (by rfl) Wn (by rfl) rfl (by decide) (by kernel_rfl) (by kernel_rfl) (by kernel_rfl) (fun _ _ _ h=>h) al0 (fun q hq=>y_fld (off:=1) (by kernel_rfl) rfl rfl) ?_
   refine hgs_take 7 (by rfl) Wn (by rfl) rfl (by decide) (by kernel_rfl) (by kernel_rfl) (by kernel_rfl) (fun _ _ _ h=>h) al0 (fun q hq=>Qo (v:=nv L.i) (hq.row (show b1≠ga by omega) r1o) rfl (by kernel_rfl) rfl rfl) ?_
   refine hgs_one 5 (by rfl) (by kernel_rfl) Wn ?_
   have go:=go.below dW7
   obtain ⟨el8,eh8,ef8,ec8⟩:=go.at (i:=(((dirI (2*L.i) (L.tree.length:Int)).getD t 0).toNat)) (by first | omega | (simp only [List.length_append,List.length_cons,List.length_nil,List.length_take,List.length_drop,List.length_set,List.length_replicate,clr_len];omega))
   refine Za (y_celld (ec8 7 _ rfl)) ?_
   refine hgs_next al0 ?_
   refine hgs_one 8 (by rfl) (by kernel_rfl) Wn ?_
   refine Zc (joinPF_any L.i (eh8.inner.unm.more (B':=W7.heap.size) (by omega)) (Nat.le_refl _) (by first | omega | (simp only [List.length_append,List.length_cons,List.length_nil,numOct_length,flagOct_length];omega))) rfl rfl ?_
   rintro _ w9 ⟨r9,rfl,m9,f9,hw9⟩
   have zw9:=hw9.size
   have al0:=Alt.grow al0 hw9
   refine hgs_next al0 ?_
   refine hgs_takev 9 (by rfl) Wn rfl (by decide) (by kernel_rfl) (by kernel_rfl) (by kernel_rfl) (fun _ _ _ h=>h) al0 (v_nilc rfl rfl) ?_
   refine hgs_take 10 (by rfl) Wn (by rfl) rfl (by decide) (by kernel_rfl) (by kernel_rfl) (by kernel_rfl) (fun _ _ _ h=>h) al0 (fun q hq=>y_fld (off:=5) (by kernel_rfl) rfl rfl) ?_
   refine hgs_take 11 (by rfl) Wn (by rfl) rfl (by decide) (by kernel_rfl) (by kernel_rfl) (by kernel_rfl) (fun _ _ _ h=>h) al0 (fun q hq=>y_fld (off:=2) (by kernel_rfl) rfl rfl) ?_
   refine hgs_one 12 (by rfl) (by kernel_rfl) Wn ?_
   have go:=go.below hw9
   refine lg_stU (i:=(((dirI (2*L.i) (L.tree.length:Int)).getD t 0).toNat)) (r:=r9) go (m9.more (B':=w9.heap.size) (by omega)) (OffS.fr f9 (by omega)) (by first | omega | (simp only [List.length_append,List.length_cons,List.length_nil,List.length_take,List.length_drop,List.length_set,List.length_replicate,clr_len];omega)) Wn rfl rfl rfl rfl fun w10 new10 st10 g10=>?_
   have z10:=st10.size
   have al0:=al0.trans (Set1.alt st10)
   refine hgs_next al0 ?_
   refine hgs_done (by kernel_rfl) ?_
   refine Qi ?_
   refine Nx [1,4,16,17,18] ?_
   refine Qe ?_
   refine Za (yv (congrArg nv (show ((t:Nat):Int)+1=((t+1:Nat):Int) by omega)) (yi_add rfl rfl rfl (by omega) (by omega))) ?_
   refine ZM ?_
   refine Qk ?_
   have hl:=((hl.below (dW7.mono (by omega))).below (hw9.mono (by omega))).below (st10.below _ (by omega))
   have r1:=RowAt.below dW7 r1.lt r1
   have r1:=RowAt.below hw9 r1.lt r1
   have r1:=st10.keep r1 (by omega)
   have hd:=((hd.below (dW7.mono (by omega))).below (hw9.mono (by omega))).offB (by omega) (OffS.fr f3 (by omega)) (Set1.alt st10)
   have u:=Un (Un u dW7) hw9
   have u:=u.trans (st10.below _ (by omega))
   exact fun a ha=>(show t<((dirI (2*L.i) (L.tree.length:Int)).length+1)∧_ from ⟨(by omega),ha.keep (fk rfl (fk rfl (fk rfl (fk rfl (fk rfl fn))))),hl,r1,hd,u,(by omega),(by omega),(g10.up.cast (join_yes htn c6))⟩)
  refine Zan (yb (dF c6) yi_eql) [1,4,16,17,18,7,29] ?_
  refine cg_cf rfl ?_
  refine cg_skip ?_
  refine Qi ?_
  refine Nx [1,4,16,17,18] ?_
  refine Qe ?_
  refine Za (yv (congrArg nv (show ((t:Nat):Int)+1=((t+1:Nat):Int) by omega)) (yi_add rfl rfl rfl (by omega) (by omega))) ?_
  refine ZM ?_
  refine Qk ?_
  exact fun a ha=>(show t<((dirI (2*L.i) (L.tree.length:Int)).length+1)∧_ from ⟨(by omega),ha.keep (fk rfl (fk rfl (fk rfl (fk rfl (fk rfl fn))))),hl,r1,hd,u,(by omega),(by omega),(go.up.cast (join_no htn c6))⟩)
 refine Zan (yb (dF c4) yi_lss) [1,4,16,17,18,19] ?_
 refine Qd ?_
 refine cg_cf rfl ?_
 refine cg_exit ?_
 refine Qh ?_
 refine Qh ?_
 refine Ql ?_
 refine Nx [1,4] ?_
 refine ZrM ?_
 refine Za (y_loadA r1) ?_
 refine Zc (laidP_any (go.row.more (B':=v.heap.size) (by omega)) (hl.more (B':=v.heap.size) (by omega)) (Nat.le_refl _) (joinW_is (i:=L.i) (by omega) (by omega) _ hti) (by rw [joinW_len];exact hN) hc) rfl rfl ?_
 rintro _ w11 ⟨s11,rfl,m11,hw11⟩
 have zw11:=hw11.size
 refine Za y_extract ?_
 refine Za y_extract ?_
 refine ZA ?_
 refine ZAnr [2,3] ?_
 obtain rfl:t=(dirI (2*L.i) (L.tree.length:Int)).length:=by omega
 have u:=Un u hw11
 exact eg_ret_tmp2 rfl rfl rfl ⟨_,rfl,_,rfl,m11.cast (by rw [List.take_length]),u⟩
theorem at_any {W:World} {B b:Nat} {fs:List FV} {es:List Int} {gv:FV} {l:SqV} {L:Sq} {E:Int} {Ls:List Nd} (hl:IsSq W B l L) (hB:B≤W.heap.size) (hr:RowAt W b 64 (fs.map FV.v).toArray) (hm:fs.length≤10) (hask:Asks W (.agg (l.cs L)) fs es) (hgv:okF gv.f) (hbec:firstE es=0→∀ w,Below W.heap.size W w→Calls Tryz.prog gv.f ([]++[Value.agg (l.cs L)]++gv.cap).toArray w fun e w'=>∃ v,e=.returned v∧∃ s':SlV,v=.tuple #[s'.v,nv E]∧RwNd w' w'.heap.size s' Ls∧Below w.heap.size w w'):Calls Tryz.prog 38 #[.agg #[(⟨some ⟨b,0,none⟩,fs.length,fs.length⟩:SlV).v,gv.v],.agg (l.cs L)] W fun e W'=>∃ v,e=.returned v∧∃ s':SlV,v=.tuple #[s'.v,nv (if firstE es=0 then E else firstE es)]∧RwNd W' W'.heap.size s' (if firstE es=0 then Ls else [])∧Below W.heap.size W W':=by
 refine Qf (n:=29) Tryz.func38 rfl Tryz.ntmps38 (by simp) ?_
 show CG _ _ _ [(0,.agg #[(⟨some ⟨b,0,none⟩,fs.length,fs.length⟩:SlV).v,gv.v]),(1,.agg (l.cs L))] _ _
 have u:=Below.refl W.heap.size W
 have hl:=hl.more hB
 have hrl:=hr.lt
 have hel:=asks_len hask
 refine Zr ?_
 refine lg_boxw Wn rfl rfl (by kernel_rfl) rfl (by decide) fun b1 w1 n1=>?_
 have r1:=n1.row
 have k1:=n1.blk
 have z1:=n1.size
 have lt1:b1<w1.heap.size:=by omega
 refine lg_boxw Wn rfl rfl (by kernel_rfl) rfl (by decide) fun b2 w2 n2=>?_
 have r2:=n2.row
 have k2:=n2.blk
 have z2:=n2.size
 have lt2:b2<w2.heap.size:=by omega
 refine ZA ?_
 refine ZAn [2,3,4,5] ?_
 refine Qd ?_
 refine Zr ?_
 refine Za (y_fld (off:=0)) ?_
 have r1:=n2.keep r1
 refine Za (Qo (v:=(⟨some ⟨b,0,none⟩,fs.length,fs.length⟩:SlV).v) r1 rfl (by kernel_rfl) rfl rfl) ?_
 refine Za (y_lenM (el:=64) (show fs.length=(⟨some ⟨b,0,none⟩,fs.length,fs.length⟩:SlV).m from rfl)) ?_
 refine ZM ?_
 refine Zn [2,3,4,5,10,11,12] ?_
 refine Qj ?_
 have hl:=(hl.below (n1.below.mono (by omega))).below (n2.below.mono (by omega))
 have hr:=n1.keep hr
 have hr:=n2.keep hr
 have u:=Un (Un u n1.below) n2.below
 refine Qr (fun t a v=>Holds 29 [(2,pv b1 0),(3,pv b2 0),(10,(⟨some ⟨b,0,none⟩,fs.length,fs.length⟩:SlV).v),(11,nv (fs.length:Int)),(12,nv ((t:Nat):Int))] a∧IsSq v W.heap.size l L∧RowAt v b 64 (fs.map FV.v).toArray∧RowAt v b1 69 #[(⟨some ⟨b,0,none⟩,fs.length,fs.length⟩:SlV).v,gv.v]∧RowAt v b2 62 (l.cs L)∧Below W.heap.size W v∧t≤fs.length∧∀ j,j<t→es.getD j 0=0) (fs.length+1) (fun a ha=>⟨ha.keep (fk rfl (fk rfl (fk rfl (fk rfl (fk rfl fn))))),hl,hr,r1,r2,u,(Nat.zero_le _),(fun j hj=>absurd hj (Nat.not_lt_zero _))⟩) ?_
 rintro t a v ht ⟨ha,hl,hr,r1,r2,u,tle,hpre⟩
 refine cg_at ha ?_
 clear ha a
 have zv:=u.size
 have l_hr:=hr.lt
 have l_r1:=r1.lt
 have l_r2:=r2.lt
 refine Zr ?_
 by_cases c3:((t:Nat):Int)<(fs.length:Int)
 ·refine Zan (yb (dT c3) yi_lss) [2,3,10,11,12,13] ?_
  refine Qd ?_
  refine cg_ct rfl ?_
  refine Zki [2,3,10,11,12] ?_
  refine Qd ?_
  refine Qj ?_
  refine Qd ?_
  have htn:t<fs.length:=by omega
  refine Qe ?_
  refine Za (y_ixR (s:=⟨some ⟨b,0,none⟩,fs.length,fs.length⟩) (el:=64) (k:=1) (i:=t) (iI:=((t:Nat):Int)) rfl (by kernel_rfl) (by kernel_rfl) (by omega) (by show t<fs.length;omega) rfl rfl rfl) ?_
  refine Za (y_celld (fn_cell hr (show t<fs.length by omega)) (by kernel_rfl) rfl rfl) ?_
  refine ZAn [2,3,10,11,12,7] ?_
  refine ZrM ?_
  refine Za (y_loadA r2) ?_
  refine lg_callv (f:=(fs.getD t FV.none).f) (fs:=[]) (vs:=[.agg (l.cs L)]) (us:=(fs.getD t FV.none).cap) Wn ((asks_at hask htn).2 _ u) (asks_at hask htn).1 rfl rfl rfl rfl (by decide) ?_
  rintro _ w4 ⟨rfl,hw4⟩
  have zw4:=hw4.size
  refine ZAn [2,3,10,11,12,8] ?_
  refine ZrM ?_
  by_cases c5:(es.getD t 0)=0
  ·refine Zan (yb (nd_f c5) yi_neq) [2,3,10,11,12,8,20] ?_
   refine cg_cf rfl ?_
   refine cg_skip ?_
   refine Qi ?_
   refine Nx [2,3,10,11,12] ?_
   refine Qe ?_
   refine Za (yv (congrArg nv (show ((t:Nat):Int)+1=((t+1:Nat):Int) by omega)) (yi_add rfl rfl rfl (by omega) (by omega))) ?_
   refine ZM ?_
   refine Qk ?_
   have hl:=hl.below (hw4.mono (by omega))
   have hr:=RowAt.below hw4 hr.lt hr
   have r1:=RowAt.below hw4 r1.lt r1
   have r2:=RowAt.below hw4 r2.lt r2
   have u:=Un u hw4
   exact fun a ha=>(show t<(fs.length+1)∧_ from ⟨(by omega),ha.keep (fk rfl (fk rfl (fk rfl (fk rfl (fk rfl fn))))),hl,hr,r1,r2,u,(by omega),(fun j hj=>if z:j<t then hpre j z else (show j=t by omega)▸c5)⟩)
  refine Zan (yb (nd_t c5) yi_neq) [2,3,10,11,12,8,20] ?_
  refine cg_ct rfl ?_
  refine ZrM ?_
  refine ZA ?_
  refine ZAnr [2,3,10,11,12,4,5] ?_
  refine Qg ?_
  refine Qc ?_
  refine Qc ?_
  refine Qg ?_
  refine Qc ?_
  have hne:=c5
  have hz:=firstE_at hpre (by omega) hne
  have hz2:¬firstE es=0:=by rw [hz];exact hne
  have u:=Un u hw4
  exact eg_ret_tmp2 rfl rfl rfl ⟨_,rfl,nilS,congrArg (fun q=>Value.tuple #[_,nv q]) (by rw [if_neg hz2,hz]),(RwNd.nil _ _).cast (if_neg hz2).symm,u⟩
 refine Zan (yb (dF c3) yi_lss) [2,3,10,11,12,13] ?_
 refine Qd ?_
 refine cg_cf rfl ?_
 refine cg_exit ?_
 refine Qh ?_
 refine Qh ?_
 refine Ql ?_
 refine Nx [2,3] ?_
 refine Zr ?_
 refine Za (y_fld (off:=1)) ?_
 refine Za (Qo (v:=gv.v) r1 rfl (by kernel_rfl) rfl rfl) ?_
 refine Za (y_loadA r2) ?_
 have hz:=firstE_none (es:=es) fun j hj=>hpre j (by omega)
 refine lg_callv (f:=gv.f) (fs:=[]) (vs:=[.agg (l.cs L)]) (us:=gv.cap) Wn (hbec hz _ u) hgv rfl rfl rfl rfl (by decide) ?_
 rintro _ w6 ⟨s6,rfl,m6,hw6⟩
 have zw6:=hw6.size
 refine Za y_extract ?_
 refine Za y_extract ?_
 refine ZA ?_
 refine ZAnr [4,5] ?_
 have u:=Un u hw6
 exact eg_ret_tmp2 rfl rfl rfl ⟨_,rfl,_,congrArg (fun q=>Value.tuple #[_,nv q]) (if_pos hz).symm,m6.cast (if_pos hz).symm,u⟩
end Go.Proofs.YtfdmhdnlmndhdaaGreatDoor
