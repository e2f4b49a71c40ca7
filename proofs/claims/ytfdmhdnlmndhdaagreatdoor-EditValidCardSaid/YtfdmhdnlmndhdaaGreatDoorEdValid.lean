/-
  Whatever is done, all is valid.
-/
import Derived.Test.YtfdmhdnlmndhdaaGreatDoorEdAwake
import Derived.Test.YtfdmhdnlmndhdaaGreatDoorTrRef
import Derived.Test.YtfdmhdnlmndhdaaGreatDoorEdFacts
import Derived.Test.YtfdmhdnlmndhdaaGreatDoorEdSp
import Derived.Test.YtfdmhdnlmndhdaaGreatDoorChRef
namespace Go.Proofs.YtfdmhdnlmndhdaaGreatDoor
open Go.ChangeShapes Go.WideShapes Go.ChangeAt Go.RowKit
set_option linter.unusedVariables false

set_option maxRecDepth 20000
/-- Are the keys of all steps few, and the steps not many? -/
def spFew (Ss:List Sp):Prop:=(∀ i,i<Ss.length→ocFew (Ss.getD i Sp.zero).keys)∧Ss.length≤40
instance (Ss:List Sp):Decidable (spFew Ss):=by unfold spFew;infer_instance
theorem sp_at {Ss:List Sp} {i:Nat} {L:Sp} (h:Ss[i]?=some L):Ss.getD i Sp.zero=L:=by simp [List.getD_eq_getElem?_getD,h]
theorem RwSp.cap {w:World} {B:Nat} {s:SlV} {Ls:List Sp} (h:RwSp w B s Ls):s.m≤s.c∧s.c≤9223372036854775807:=⟨h.1,by have:=h.2.1;unfold maxLen at this;omega⟩
theorem mask3 (m:Int):maskK m 3<4:=by
 unfold maskK
 rw [BitVec.toNat_and,BitVec.toNat_ofNat]
 exact Nat.lt_of_le_of_lt Nat.and_le_right (by decide)
theorem par_dir {y w:Int} (h:isN y w):(0<(dirI y w).length→parI y w=(dirI y w).getD 0 0)∧∀ q,q+1<(dirI y w).length→parI ((dirI y w).getD q 0) w=(dirI y w).getD (q+1) 0:=by
 have key:=fin2 (p:=fun y w=>(dirI y w).length≤6∧(0<(dirI y w).length→parI y w=(dirI y w).getD 0 0)∧∀ q∈List.range 6,q+1<(dirI y w).length→parI ((dirI y w).getD q 0) w=(dirI y w).getD (q+1) 0) (by kernel_rfl) h
 exact ⟨key.2.1,fun q hq=>key.2.2 q (List.mem_range.2 (by omega)) hq⟩
theorem way_mid {y w:Int} (h:isN y w) {q m:Nat} (hq:q<m) (hm:m<(dirI y w).length):undI ((dirI y w).getD q 0) ((dirI y w).getD m 0) w:=by
 obtain ⟨h1,h2,_⟩:=way_at h (i:=q) (by omega)
 have hx:=(dir_all h _ (getD_in hm)).2.2.2
 refine (und_dir h1 hx).1 (.inr ?_)
 rw [h2,List.getD_eq_getElem?_getD,List.getElem?_eq_getElem hm]
 refine List.mem_iff_getElem.2 ⟨m-(q+1),by rw [List.length_drop];omega,?_⟩
 rw [List.getElem_drop]
 exact getElem_congr_idx (by omega)
theorem small_any {W:World} {B:Nat} {s:SlV} {Ss:List Sp} (h:RwSp W B s Ss) (hB:B≤W.heap.size):Calls Tryz.prog 22 #[s.v] W fun e W'=>∃ v,e=.returned v∧v=.bool (decide (spFew Ss))∧Below W.heap.size W W':=by
 refine Qf (n:=20) Tryz.func22 rfl Tryz.ntmps22 (by simp) ?_
 show CG _ _ _ [(0,s.v)] _ _
 have u:=Below.refl W.heap.size W
 have h:=h.more hB
 have q1:=h.len
 have q2:=h.cap
 refine ZrA ?_
 refine Zn [0,2] ?_
 refine Qd ?_
 refine ZrA ?_
 refine Zn [0,2,3] ?_
 refine Qj ?_
 refine Qr (fun t a v=>Holds 20 [(0,s.v),(3,nv ((t:Nat):Int))] a∧RwSp v W.heap.size s Ss∧Below W.heap.size W v∧∀ (j:Nat) (L:Sp),j<t→Ss[j]?=some L→ocFew L.keys) (Ss.length+1) (fun a ha=>⟨ha.keep (fk rfl (fk rfl fn)),h,u,(fun j L hj=>absurd hj (Nat.not_lt_zero _))⟩) ?_
 rintro t a v ht ⟨ha,h,u,hk⟩
 refine cg_at ha ?_
 clear ha a
 have zv:=u.size
 have q1:=h.len
 have q2:=h.cap
 refine Qd ?_
 refine ZrM ?_
 refine ZM ?_
 refine Za (y_lenM (el:=43) h.len) ?_
 by_cases c1:((t:Nat):Int)<(Ss.length:Int)
 ·refine Zan (yb (dT c1) yi_lss) [0,3,7] ?_
  refine cg_ct rfl ?_
  refine Zki [0,3] ?_
  refine Qd ?_
  refine Qj ?_
  refine ZrM ?_
  refine ZM ?_
  obtain ⟨eb2,eo2,el2,eL2,eA2,eB2,eg2,eh2,ec2⟩:=h.at (t) (by have:=h.len;omega)
  refine Za (y_ixR (s:=s) (el:=43) (k:=8) (i:=t) (iI:=((t:Nat):Int)) eA2 (by kernel_rfl) (by kernel_rfl) (by omega) (by have:=h.len;omega) rfl rfl rfl) ?_
  refine Za (y_fld (off:=6)) ?_
  refine Za (y_celld (ec2 6 _ rfl)) ?_
  by_cases c3:ocFew eL2.keys
  ·refine Zc (fewO_any (eh2.keys.more (B':=v.heap.size) (by omega)) (Nat.le_refl _)) rfl rfl ?_
   rintro u4 w4 ⟨e4,hw4⟩
   have zw4:=hw4.size
   obtain rfl:u4=.bool true:=e4.trans (congrArg Value.bool (decide_eq_true c3))
   refine Zan y_bnot [0,3,16] ?_
   refine cg_cf rfl ?_
   refine cg_skip ?_
   refine Qi ?_
   refine Nx [0,3] ?_
   refine Qe ?_
   refine ZM ?_
   refine Za (yv (congrArg nv (show ((t:Nat):Int)+1=((t+1:Nat):Int) by omega)) (yi_add rfl rfl rfl (by omega) (by omega))) ?_
   refine ZA ?_
   refine Qk ?_
   have h:=h.below (hw4.mono (by omega))
   have u:=Un u hw4
   exact fun a ha=>(show t<(Ss.length+1)∧_ from ⟨(by omega),ha.keep (fk rfl (fk rfl fn)),h,u,(fun j L hj e=>if z:j<t then hk j L z e else by (have y:j=t:=(by omega));subst y;obtain rfl:=Option.some.inj (eg2.symm.trans e);exact c3)⟩)
  refine Zc (fewO_any (eh2.keys.more (B':=v.heap.size) (by omega)) (Nat.le_refl _)) rfl rfl ?_
  rintro u5 w5 ⟨e5,hw5⟩
  have zw5:=hw5.size
  obtain rfl:u5=.bool false:=e5.trans (congrArg Value.bool (decide_eq_false c3))
  refine Zan y_bnot [0,3,16] ?_
  refine cg_ct rfl ?_
  refine ZrA ?_
  refine Znr [0,3,2] ?_
  refine Qg ?_
  refine Qc ?_
  refine Qc ?_
  refine Qg ?_
  refine Qc ?_
  have u:=Un u hw5
  exact Qa rfl rfl ⟨_,rfl,congrArg Value.bool (dF (p:=spFew Ss) (fun z=>c3 (by have y:=z.1 t (by omega);rwa [sp_at eg2] at y))).symm,u⟩
 refine Zan (yb (dF c1) yi_lss) [0,3,7] ?_
 refine cg_cf rfl ?_
 refine cg_exit ?_
 refine Qh ?_
 refine Qh ?_
 refine Ql ?_
 refine Nx [0] ?_
 refine ZrM ?_
 refine Za (y_lenM (el:=43) h.len) ?_
 by_cases c6:(Ss.length:Int)≤40
 ·refine Za (yb (dT c6) yi_leq) ?_
  refine ZAnr [2] ?_
  exact Qa rfl rfl ⟨_,rfl,congrArg Value.bool (dT (p:=spFew Ss) ⟨fun i hi=>by have e:=List.getElem?_eq_getElem hi;rw [sp_at e];exact hk i _ (by omega) e,by omega⟩).symm,u⟩
 refine Za (yb (dF c6) yi_leq) ?_
 refine ZAnr [2] ?_
 exact Qa rfl rfl ⟨_,rfl,congrArg Value.bool (dF (p:=spFew Ss) (fun z=>c6 (by have:=z.2;omega))).symm,u⟩
set_option maxHeartbeats 2000000 in
theorem doneX_any {W:World} {B:Nat} {s:SlV} {Ls:List Nd} (h:RwNd W B s Ls) {l:SpV} {wh ix:Int} {lf:Lf} {ks:List (List Int)} {ws:Bool} (hl:IsSp W B l ⟨wh,ix,lf,ks,ws⟩) (hB:B≤W.heap.size) (G:Good Ls) (rg:Tt W):Calls Tryz.prog 23 #[s.v,.agg (l.cs (⟨wh,ix,lf,ks,ws⟩:Sp))] W fun e W'=>∃ v,e=.returned v∧∃ (s':SlV) (T:List Nd) (er:Int),v=.tuple #[s'.v,nv er]∧RwNd W' W'.heap.size s' T∧Good T∧Below W.heap.size W W':=by
 refine Qf (n:=98) Tryz.func23 rfl Tryz.ntmps23 (by simp) ?_
 show CG _ _ _ [(0,s.v),(1,.agg (l.cs (⟨wh,ix,lf,ks,ws⟩:Sp)))] _ _
 have u:=Below.refl W.heap.size W
 have h:=h.more hB
 have hl:=hl.more hB
 have GA:Good (trAs Ls):=by rw [trAs_ok G.is];exact G
 have mk:=mask3 wh
 refine Zr ?_
 refine lg_boxw Wn rfl rfl (by kernel_rfl) rfl (by decide) fun b1 w1 n1=>?_
 have r1:=n1.row
 have k1:=n1.blk
 have z1:=n1.size
 have lt1:b1<w1.heap.size:=by omega
 refine ZA ?_
 refine ZAn [0,3,4,5] ?_
 refine Zr ?_
 refine Za (y_fld (off:=2)) ?_
 refine Za (y_part r1 (m:=4) rfl (show 2+4≤8 by decide) (by kernel_rfl) (by kernel_rfl) rfl rfl) ?_
 refine lg_allocw (cs:=LfV.zero.cs Lf.zero) Wn rfl (by kernel_rfl) rfl (by decide) fun b2 w2 n2=>?_
 have r2:=n2.row
 have k2:=n2.blk
 have z2:=n2.size
 have lt2:b2<w2.heap.size:=by omega
 have o3:=r2
 refine lg_stw Wn r2 rfl rfl rfl (by kernel_rfl) (by kernel_rfl) rfl rfl fun w3 s3=>?_
 have r2:=s3.row
 have z3:=s3.size
 refine Zn [0,3,4,5,6] ?_
 refine ZrA ?_
 refine Zn [0,3,4,5,6,7] ?_
 refine ZrA ?_
 refine Zn [0,3,4,5,6,7,8] ?_
 refine Qd ?_
 refine Zr ?_
 refine Za (y_fld (off:=0)) ?_
 have r1:=n2.keep r1
 have r1:=s3.keep r1 (by omega)
 refine Za (Qo (v:=nv wh) r1 rfl (by kernel_rfl) rfl rfl) ?_
 refine Zan (y_maskW 3 (by decide) rfl rfl rfl) [0,3,4,5,6,7,8,25] ?_
 refine Qj ?_
 refine Zr ?_
 by_cases c4:(maskK wh 3:Int)=0
 ·refine Za (yb (dT c4) yi_eql) ?_
  refine ZAnt [0,3,4,5,6,7,8,25,26] ?_
  refine ZrM ?_
  refine Za (y_loadA r2) ?_
  have h:=((h.below (n1.below.mono (by omega))).below (n2.below.mono (by omega))).below (s3.below _ (by omega))
  have hl:=((hl.below (n1.below.mono (by omega))).below (n2.below.mono (by omega))).below (s3.below _ (by omega))
  have u:=Un (Un u n1.below) n2.below
  have u:=u.trans (s3.below _ (by omega))
  refine Zc (add_any (h.more (B':=w3.heap.size) (by omega)) (hl.lf.more (B':=w3.heap.size) (by omega)) (Nat.le_refl _) (Tt.up u rg)) rfl rfl ?_
  rintro _ w5 ⟨s5,rfl,m5,hw5⟩
  have zw5:=hw5.size
  refine ZM ?_
  refine Za y_extract ?_
  refine Za y_extract ?_
  refine Za y_extract ?_
  refine ZA ?_
  refine ZA ?_
  refine ZAn [0,4,5,7,8,9,11] ?_
  refine ZrM ?_
  refine ZAn [0,4,5,8,11,7] ?_
  refine Qe ?_
  refine ZM ?_
  refine ZA ?_
  refine Qk ?_
  refine Qi ?_
  refine Nx [0,4,5,7,8] ?_
  refine Qd ?_
  refine ZrM ?_
  by_cases c6:(addE (trAs Ls) lf)=0
  ·refine Zan (yb (nd_f c6) yi_neq) [0,4,5,7,8,93] ?_
   refine Zcf [4,5,7,8] ?_
   refine ZrM ?_
   refine ZM ?_
   refine ZA ?_
   refine ZAnr [4,5] ?_
   have u:=Un u hw5
   exact eg_ret_tmp2 rfl rfl rfl ⟨_,rfl,s5,(addL (trAs Ls) lf),(addE (trAs Ls) lf),rfl,(m5.more (B':=w5.heap.size) (by omega)),(good_add GA),u⟩
  refine Zan (yb (nd_t c6) yi_neq) [0,4,5,7,8,93] ?_
  refine cg_ct rfl ?_
  refine ZrM ?_
  refine ZM ?_
  refine ZA ?_
  refine ZAnr [7,8,4,5] ?_
  refine Qc ?_
  have h:=h.below (hw5.mono (by omega))
  have u:=Un u hw5
  exact eg_ret_tmp2 rfl rfl rfl ⟨_,rfl,s,Ls,(addE (trAs Ls) lf),rfl,(h.more (B':=w5.heap.size) (by omega)),G,u⟩
 refine Za (yb (dF c4) yi_eql) ?_
 refine ZAn [0,3,4,5,6,7,8,25,26] ?_
 refine cg_cf rfl ?_
 refine Zr ?_
 by_cases c7:(maskK wh 3:Int)=1
 ·refine Za (yb (dT c7) yi_eql) ?_
  refine ZAnt [0,3,4,5,6,7,8,25,37] ?_
  refine ZrM ?_
  refine Za (y_fld (off:=1)) ?_
  refine Za (Qo (v:=nv ix) r1 rfl (by kernel_rfl) rfl rfl) ?_
  have h:=((h.below (n1.below.mono (by omega))).below (n2.below.mono (by omega))).below (s3.below _ (by omega))
  have u:=Un (Un u n1.below) n2.below
  have u:=u.trans (s3.below _ (by omega))
  refine Zc (rem_any (h.more (B':=w3.heap.size) (by omega)) ix (Nat.le_refl _) (Tt.up u rg)) rfl rfl ?_
  rintro _ w8 ⟨s8,rfl,m8,hw8⟩
  have zw8:=hw8.size
  refine ZM ?_
  refine Za y_extract ?_
  refine Za y_extract ?_
  refine ZA ?_
  refine ZAn [0,4,5,7,8,12,13] ?_
  refine ZrM ?_
  refine ZAn [0,4,5,8,13,7] ?_
  refine Qe ?_
  refine ZM ?_
  refine ZA ?_
  refine Qk ?_
  refine Qi ?_
  refine Nx [0,4,5,7,8] ?_
  refine Qd ?_
  refine ZrM ?_
  by_cases c9:(hadE (trAs Ls) ix)=0
  ·refine Zan (yb (nd_f c9) yi_neq) [0,4,5,7,8,93] ?_
   refine Zcf [4,5,7,8] ?_
   refine ZrM ?_
   refine ZM ?_
   refine ZA ?_
   refine ZAnr [4,5] ?_
   have u:=Un u hw8
   exact eg_ret_tmp2 rfl rfl rfl ⟨_,rfl,s8,(remL (trAs Ls) ix),(hadE (trAs Ls) ix),rfl,(m8.more (B':=w8.heap.size) (by omega)),(good_rem GA),u⟩
  refine Zan (yb (nd_t c9) yi_neq) [0,4,5,7,8,93] ?_
  refine cg_ct rfl ?_
  refine ZrM ?_
  refine ZM ?_
  refine ZA ?_
  refine ZAnr [7,8,4,5] ?_
  refine Qc ?_
  have h:=h.below (hw8.mono (by omega))
  have u:=Un u hw8
  exact eg_ret_tmp2 rfl rfl rfl ⟨_,rfl,s,Ls,(hadE (trAs Ls) ix),rfl,(h.more (B':=w8.heap.size) (by omega)),G,u⟩
 refine Za (yb (dF c7) yi_eql) ?_
 refine ZAn [0,3,4,5,6,7,8,25,37] ?_
 refine cg_cf rfl ?_
 refine Zr ?_
 by_cases c10:(maskK wh 3:Int)=2
 ·refine Za (yb (dT c10) yi_eql) ?_
  refine ZAnt [0,3,4,5,6,7,8,25,48] ?_
  refine ZrM ?_
  refine Za (y_fld (off:=1)) ?_
  refine Za (Qo (v:=nv ix) r1 rfl (by kernel_rfl) rfl rfl) ?_
  refine Za (y_loadA r2) ?_
  have hl:=((hl.below (n1.below.mono (by omega))).below (n2.below.mono (by omega))).below (s3.below _ (by omega))
  have h:=((h.below (n1.below.mono (by omega))).below (n2.below.mono (by omega))).below (s3.below _ (by omega))
  have u:=Un (Un u n1.below) n2.below
  have u:=u.trans (s3.below _ (by omega))
  refine Zc (cha_any (h.more (B':=w3.heap.size) (by omega)) ix (hl.lf.more (B':=w3.heap.size) (by omega)) (Nat.le_refl _) (Tt.up u rg)) rfl rfl ?_
  rintro _ w11 ⟨s11,rfl,m11,hw11⟩
  have zw11:=hw11.size
  refine ZM ?_
  refine Za y_extract ?_
  refine Za y_extract ?_
  refine ZA ?_
  refine ZAn [0,4,5,7,8,14,15] ?_
  refine ZrM ?_
  refine ZAn [0,4,5,8,15,7] ?_
  refine Qe ?_
  refine ZM ?_
  refine ZA ?_
  refine Qk ?_
  refine Qi ?_
  refine Nx [0,4,5,7,8] ?_
  refine Qd ?_
  refine ZrM ?_
  by_cases c12:(chaE (trAs Ls) ix lf)=0
  ·refine Zan (yb (nd_f c12) yi_neq) [0,4,5,7,8,93] ?_
   refine Zcf [4,5,7,8] ?_
   refine ZrM ?_
   refine ZM ?_
   refine ZA ?_
   refine ZAnr [4,5] ?_
   have u:=Un u hw11
   exact eg_ret_tmp2 rfl rfl rfl ⟨_,rfl,s11,(chaL (trAs Ls) ix lf),(chaE (trAs Ls) ix lf),rfl,(m11.more (B':=w11.heap.size) (by omega)),(good_cha GA),u⟩
  refine Zan (yb (nd_t c12) yi_neq) [0,4,5,7,8,93] ?_
  refine cg_ct rfl ?_
  refine ZrM ?_
  refine ZM ?_
  refine ZA ?_
  refine ZAnr [7,8,4,5] ?_
  refine Qc ?_
  have h:=h.below (hw11.mono (by omega))
  have u:=Un u hw11
  exact eg_ret_tmp2 rfl rfl rfl ⟨_,rfl,s,Ls,(chaE (trAs Ls) ix lf),rfl,(h.more (B':=w11.heap.size) (by omega)),G,u⟩
 refine Za (yb (dF c10) yi_eql) ?_
 refine ZAn [0,3,4,5,6,7,8,25,48] ?_
 refine cg_cf rfl ?_
 refine Zr ?_
 refine Za (yb (dT (show (maskK wh 3:Int)=3 from (by omega))) (yi_eql rfl rfl rfl)) ?_
 refine ZAnt [0,3,4,5,6,7,8,60] ?_
 refine ZrM ?_
 refine Za (y_fld (off:=1)) ?_
 refine Za (Qo (v:=nv ix) r1 rfl (by kernel_rfl) rfl rfl) ?_
 refine Za (y_fld (off:=6)) ?_
 refine Za (Qo (v:=l.keys.v) r1 rfl (by kernel_rfl) rfl rfl) ?_
 have hl:=((hl.below (n1.below.mono (by omega))).below (n2.below.mono (by omega))).below (s3.below _ (by omega))
 have h:=((h.below (n1.below.mono (by omega))).below (n2.below.mono (by omega))).below (s3.below _ (by omega))
 have u:=Un (Un u n1.below) n2.below
 have u:=u.trans (s3.below _ (by omega))
 refine Zc (plan_any (h.more (B':=w3.heap.size) (by omega)) ix (hl.keys.more (B':=w3.heap.size) (by omega)) (Nat.le_refl _) (Tt.up u rg)) rfl rfl ?_
 rintro _ w13 ⟨s13,r13,rfl,m13,n13,hw13⟩
 have zw13:=hw13.size
 have pl13:=planH_le (trAs Ls) ix ks
 refine ZM ?_
 refine Za y_extract ?_
 refine Za y_extract ?_
 refine Za y_extract ?_
 refine ZA ?_
 refine ZA ?_
 refine ZAn [0,3,4,5,6,7,8,17,18] ?_
 refine Qd ?_
 refine Zr ?_
 refine Za (y_fld (off:=7)) ?_
 have r1:=RowAt.below hw13 r1.lt r1
 refine Za (Qo (v:=.bool ws) r1 rfl (by kernel_rfl) rfl rfl) ?_
 cases ws
 ·refine ZM ?_
  refine Zf 74 ?_
  refine Zf 74 ?_
  refine Zan (y_pick false) [0,3,4,5,6,7,8,17,77] ?_
  refine Zcf [0,3,4,5,6,7,8] ?_
  refine ZrM ?_
  refine Za (y_fld (off:=1)) ?_
  refine Za (Qo (v:=nv ix) r1 rfl (by kernel_rfl) rfl rfl) ?_
  have r2:=RowAt.below hw13 r2.lt r2
  refine Za (y_loadA r2) ?_
  refine Za (y_fld (off:=6)) ?_
  refine Za (Qo (v:=l.keys.v) r1 rfl (by kernel_rfl) rfl rfl) ?_
  have hl:=hl.below (hw13.mono (by omega))
  have h:=h.below (hw13.mono (by omega))
  have u:=Un u hw13
  refine Zc (com_any (h.more (B':=w13.heap.size) (by omega)) ix (hl.lf.more (B':=w13.heap.size) (by omega)) (hl.keys.more (B':=w13.heap.size) (by omega)) (Nat.le_refl _) (Tt.up u rg)) rfl rfl ?_
  rintro _ w14 ⟨s14,rfl,m14,hw14⟩
  have zw14:=hw14.size
  refine ZM ?_
  refine Za y_extract ?_
  refine Za y_extract ?_
  refine ZA ?_
  refine ZAn [0,4,5,7,8,19,20] ?_
  refine ZrM ?_
  refine ZAn [0,4,5,8,20,7] ?_
  refine Qe ?_
  refine ZM ?_
  refine ZA ?_
  refine Qk ?_
  refine Qi ?_
  refine Nx [0,4,5,7,8] ?_
  refine Qd ?_
  refine ZrM ?_
  by_cases c15:(comE (trAs Ls) ix lf ks)=0
  ·refine Zan (yb (nd_f c15) yi_neq) [0,4,5,7,8,93] ?_
   refine Zcf [4,5,7,8] ?_
   refine ZrM ?_
   refine ZM ?_
   refine ZA ?_
   refine ZAnr [4,5] ?_
   have u:=Un u hw14
   exact eg_ret_tmp2 rfl rfl rfl ⟨_,rfl,s14,(comL (trAs Ls) ix lf ks),(comE (trAs Ls) ix lf ks),rfl,(m14.more (B':=w14.heap.size) (by omega)),(good_com GA),u⟩
  refine Zan (yb (nd_t c15) yi_neq) [0,4,5,7,8,93] ?_
  refine cg_ct rfl ?_
  refine ZrM ?_
  refine ZM ?_
  refine ZA ?_
  refine ZAnr [7,8,4,5] ?_
  refine Qc ?_
  have h:=h.below (hw14.mono (by omega))
  have u:=Un u hw14
  exact eg_ret_tmp2 rfl rfl rfl ⟨_,rfl,s,Ls,(comE (trAs Ls) ix lf ks),rfl,(h.more (B':=w14.heap.size) (by omega)),G,u⟩
 refine ZM ?_
 refine Zt 74 y_move ?_
 by_cases c16:(planE (trAs Ls) ix ks)=0
 ·refine Zt 74 (yb (dT c16) yi_eql) ?_
  refine Zan (y_pick true) [0,3,4,5,6,7,8,17,77] ?_
  refine cg_ct rfl ?_
  refine Qe ?_
  refine ZM ?_
  refine Za (y_fld (off:=3)) ?_
  have r2:=RowAt.below hw13 r2.lt r2
  have o17:=r2
  refine lg_st1 (new:=#[l.lf.enc.v,l.lf.cred.v,nv lf.src,r13.v]) Wn r2 rfl rfl rfl (by kernel_rfl) rfl (show 3<4 by decide) rfl rfl fun w17 s17=>?_
  have r2:=s17.row
  have z17:=s17.size
  refine Zn [0,3,4,5,6,7,8] ?_
  refine ZrM ?_
  refine Za (y_fld (off:=1)) ?_
  have r1:=s17.keep r1 (by omega)
  refine Za (Qo (v:=nv ix) r1 rfl (by kernel_rfl) rfl rfl) ?_
  refine Za (y_loadA r2) ?_
  refine Za (y_fld (off:=6)) ?_
  refine Za (Qo (v:=l.keys.v) r1 rfl (by kernel_rfl) rfl rfl) ?_
  have hl:=(hl.below (hw13.mono (by omega))).below (s17.below _ (by omega))
  have n13:=n13.set o17 rfl s17
  have h:=(h.below (hw13.mono (by omega))).below (s17.below _ (by omega))
  have u:=Un u hw13
  have u:=u.trans (s17.below _ (by omega))
  refine Zc (com_any (h.more (B':=w17.heap.size) (by omega)) ix (show IsLf w17 w17.heap.size (⟨l.lf.enc,l.lf.cred,r13⟩:LfV) (⟨lf.enc,lf.cred,lf.src,(planH (trAs Ls) ix ks)⟩:Lf) from ⟨(hl.lf.enc.more (B':=w17.heap.size) (by omega)),(hl.lf.cred.more (B':=w17.heap.size) (by omega)),(n13.more (B':=w17.heap.size) (by omega))⟩) (hl.keys.more (B':=w17.heap.size) (by omega)) (Nat.le_refl _) (Tt.up u rg)) rfl rfl ?_
  rintro _ w18 ⟨s18,rfl,m18,hw18⟩
  have zw18:=hw18.size
  refine ZM ?_
  refine Za y_extract ?_
  refine Za y_extract ?_
  refine ZA ?_
  refine ZAn [0,4,5,7,8,19,20] ?_
  refine ZrM ?_
  refine ZAn [0,4,5,8,20,7] ?_
  refine Qe ?_
  refine ZM ?_
  refine ZA ?_
  refine Qk ?_
  refine Qi ?_
  refine Nx [0,4,5,7,8] ?_
  refine Qd ?_
  refine ZrM ?_
  by_cases c19:(comE (trAs Ls) ix (⟨lf.enc,lf.cred,lf.src,(planH (trAs Ls) ix ks)⟩:Lf) ks)=0
  ·refine Zan (yb (nd_f c19) yi_neq) [0,4,5,7,8,93] ?_
   refine Zcf [4,5,7,8] ?_
   refine ZrM ?_
   refine ZM ?_
   refine ZA ?_
   refine ZAnr [4,5] ?_
   have u:=Un u hw18
   exact eg_ret_tmp2 rfl rfl rfl ⟨_,rfl,s18,(comL (trAs Ls) ix (⟨lf.enc,lf.cred,lf.src,(planH (trAs Ls) ix ks)⟩:Lf) ks),(comE (trAs Ls) ix (⟨lf.enc,lf.cred,lf.src,(planH (trAs Ls) ix ks)⟩:Lf) ks),rfl,(m18.more (B':=w18.heap.size) (by omega)),(good_com GA),u⟩
  refine Zan (yb (nd_t c19) yi_neq) [0,4,5,7,8,93] ?_
  refine cg_ct rfl ?_
  refine ZrM ?_
  refine ZM ?_
  refine ZA ?_
  refine ZAnr [7,8,4,5] ?_
  refine Qc ?_
  have h:=h.below (hw18.mono (by omega))
  have u:=Un u hw18
  exact eg_ret_tmp2 rfl rfl rfl ⟨_,rfl,s,Ls,(comE (trAs Ls) ix (⟨lf.enc,lf.cred,lf.src,(planH (trAs Ls) ix ks)⟩:Lf) ks),rfl,(h.more (B':=w18.heap.size) (by omega)),G,u⟩
 refine Zt 74 (yb (dF c16) yi_eql) ?_
 refine Zan (y_pick true) [0,3,4,5,6,7,8,17,77] ?_
 refine Zcf [0,3,4,5,6,7,8] ?_
 refine ZrM ?_
 refine Za (y_fld (off:=1)) ?_
 refine Za (Qo (v:=nv ix) r1 rfl (by kernel_rfl) rfl rfl) ?_
 have r2:=RowAt.below hw13 r2.lt r2
 refine Za (y_loadA r2) ?_
 refine Za (y_fld (off:=6)) ?_
 refine Za (Qo (v:=l.keys.v) r1 rfl (by kernel_rfl) rfl rfl) ?_
 have hl:=hl.below (hw13.mono (by omega))
 have h:=h.below (hw13.mono (by omega))
 have u:=Un u hw13
 refine Zc (com_any (h.more (B':=w13.heap.size) (by omega)) ix (hl.lf.more (B':=w13.heap.size) (by omega)) (hl.keys.more (B':=w13.heap.size) (by omega)) (Nat.le_refl _) (Tt.up u rg)) rfl rfl ?_
 rintro _ w20 ⟨s20,rfl,m20,hw20⟩
 have zw20:=hw20.size
 refine ZM ?_
 refine Za y_extract ?_
 refine Za y_extract ?_
 refine ZA ?_
 refine ZAn [0,4,5,7,8,19,20] ?_
 refine ZrM ?_
 refine ZAn [0,4,5,8,20,7] ?_
 refine Qe ?_
 refine ZM ?_
 refine ZA ?_
 refine Qk ?_
 refine Qi ?_
 refine Nx [0,4,5,7,8] ?_
 refine Qd ?_
 refine ZrM ?_
 by_cases c21:(comE (trAs Ls) ix lf ks)=0
 ·refine Zan (yb (nd_f c21) yi_neq) [0,4,5,7,8,93] ?_
  refine Zcf [4,5,7,8] ?_
  refine ZrM ?_
  refine ZM ?_
  refine ZA ?_
  refine ZAnr [4,5] ?_
  have u:=Un u hw20
  exact eg_ret_tmp2 rfl rfl rfl ⟨_,rfl,s20,(comL (trAs Ls) ix lf ks),(comE (trAs Ls) ix lf ks),rfl,(m20.more (B':=w20.heap.size) (by omega)),(good_com GA),u⟩
 refine Zan (yb (nd_t c21) yi_neq) [0,4,5,7,8,93] ?_
 refine cg_ct rfl ?_
 refine ZrM ?_
 refine ZM ?_
 refine ZA ?_
 refine ZAnr [7,8,4,5] ?_
 refine Qc ?_
 have h:=h.below (hw20.mono (by omega))
 have u:=Un u hw20
 exact eg_ret_tmp2 rfl rfl rfl ⟨_,rfl,s,Ls,(comE (trAs Ls) ix lf ks),rfl,(h.more (B':=w20.heap.size) (by omega)),G,u⟩
theorem doneE_any {W:World} {B:Nat} {s:SlV} {Ls:List Nd} (h:RwNd W B s Ls) {l:SpV} {L:Sp} (hl:IsSp W B l L) (hB:B≤W.heap.size) (G:Good Ls) (rg:Tt W):Calls Tryz.prog 23 #[s.v,.agg (l.cs L)] W fun e W'=>∃ v,e=.returned v∧∃ (s':SlV) (T:List Nd) (er:Int),v=.tuple #[s'.v,nv er]∧RwNd W' W'.heap.size s' T∧Good T∧Below W.heap.size W W':=by
 obtain ⟨wh,ix,lf,ks,ws⟩:=L
 exact doneX_any h hl hB G rg
set_option maxHeartbeats 1000000 in
theorem named_any {W:World} {B:Nat} {s:SlV} {Ls:List Nd} (h:RwNd W B s Ls) (x:Int) (hB:B≤W.heap.size) (hT:trIs Ls) (hx:isN x (Ls.length:Int)) (hn:nmd Ls x) (rg:Tt W):Calls Tryz.prog 25 #[s.v,nv x] W fun e W'=>∃ v,e=.returned v∧v=.bool true∧Below W.heap.size W W':=by
 refine Qf (n:=75) Tryz.func25 rfl Tryz.ntmps25 (by simp) ?_
 show CG _ _ _ [(0,s.v),(1,nv x)] _ _
 have u:=Below.refl W.heap.size W
 have h:=h.more hB
 have q1:=h.len
 have q2:=h.cap
 have hxl:=hx.le
 have hll:=trIs_le hT
 have hul:=(unm_small hT x.toNat).2
 refine ZrA ?_
 refine Zn [0,1,4] ?_
 refine Qd ?_
 obtain ⟨ebz1,eoz1,elz1,eLz1,eAz1,eBz1,egz1,ehz1,ecz1⟩:=h.at (x.toNat) (by have:=h.len;omega)
 have enz1:eLz1=atN Ls (x.toNat):=(atN_some egz1).symm
 subst enz1
 refine Qe ?_
 refine ZM ?_
 refine ZM ?_
 obtain ⟨eb2,eo2,el2,eL2,eA2,eB2,eg2,eh2,ec2⟩:=h.at (x.toNat) (by have:=h.len;omega)
 obtain rfl:(atN Ls x.toNat)=eL2:=Option.some.inj (egz1.symm.trans eg2)
 refine Za (y_ixR (s:=s) (el:=50) (k:=8) (i:=x.toNat) (iI:=x) eA2 (by kernel_rfl) (by kernel_rfl) (by omega) (by have:=h.len;omega) rfl rfl rfl) ?_
 refine Za (y_fld (off:=5)) ?_
 refine Za (y_fld (off:=2)) ?_
 refine Za (y_celld (ec2 7 _ rfl)) ?_
 refine ZAn [0,1,4,5] ?_
 refine Qd ?_
 refine ZrA ?_
 refine Zn [0,1,4,5,6] ?_
 refine Qj ?_
 refine Qr (fun t a v=>Holds 75 [(0,s.v),(1,nv x),(5,el2.inner.unm.v),(6,nv ((t:Nat):Int))] a∧RwNd v W.heap.size s Ls∧Below W.heap.size W v∧SlN v W.heap.size el2.inner.unm (atN Ls x.toNat).inner.unm∧t≤(atN Ls x.toNat).inner.unm.length) ((atN Ls x.toNat).inner.unm.length+1) (fun a ha=>⟨ha.keep (fk rfl (fk rfl (fk rfl (fk rfl fn)))),h,u,(eh2.inner.unm.more (by omega)),(Nat.zero_le _)⟩) ?_
 rintro t a v ht ⟨ha,h,u,hU,tle⟩
 refine cg_at ha ?_
 clear ha a
 have zv:=u.size
 have q1:=h.len
 have q2:=h.cap
 have q3:=hU.len
 refine Qd ?_
 refine ZrM ?_
 refine ZM ?_
 refine Za (y_lenM (el:=3) hU.len) ?_
 by_cases c3:((t:Nat):Int)<(((atN Ls x.toNat).inner.unm).length:Int)
 ·refine Zan (yb (dT c3) yi_lss) [0,1,5,6,18] ?_
  refine cg_ct rfl ?_
  refine Zki [0,1,5,6] ?_
  refine Qd ?_
  refine Qj ?_
  refine Qd ?_
  have htn:t<(atN Ls x.toNat).inner.unm.length:=by omega
  obtain ⟨n1,n2,n3⟩:=hn (((atN Ls x.toNat).inner.unm).getD t 0) (getD_in htn)
  have n1l:=n1.1.le
  refine Qe ?_
  refine ZM ?_
  refine ZM ?_
  refine Za (y_ixT (i:=t) (iI:=((t:Nat):Int)) hU (by omega) (by first | omega | (simp only [List.length_append,List.length_cons,List.length_nil];omega)) rfl rfl rfl) ?_
  refine Za (y_ldT (i:=t) hU (by first | omega | (simp only [List.length_append,List.length_cons,List.length_nil];omega)) rfl rfl) ?_
  refine Za (yi_mul rfl rfl rfl (by omega) (by omega)) ?_
  refine ZAn [0,1,5,6,7] ?_
  refine Qd ?_
  refine Qd ?_
  obtain ⟨ebz4,eoz4,elz4,eLz4,eAz4,eBz4,egz4,ehz4,ecz4⟩:=h.at ((2*(((atN Ls x.toNat).inner.unm).getD t 0)).toNat) (by have:=h.len;omega)
  have enz4:eLz4=atN Ls ((2*(((atN Ls x.toNat).inner.unm).getD t 0)).toNat):=(atN_some egz4).symm
  subst enz4
  refine Qe ?_
  refine ZM ?_
  refine ZM ?_
  refine ZM ?_
  refine Za (y_lenM (el:=50) h.len) ?_
  refine Zc (under_any (2*(((atN Ls x.toNat).inner.unm).getD t 0)) x (Ls.length:Int) _ (Tt.up u rg).b) rfl rfl ?_
  rintro u5 w5 ⟨e5,hw5⟩
  have zw5:=hw5.size
  obtain rfl:u5=.bool true:=e5.trans (congrArg Value.bool (decide_eq_true n1))
  refine Za y_bnot ?_
  refine ZM ?_
  refine Zt 32 y_move ?_
  refine Zt 32 y_move ?_
  have h:=h.below (hw5.mono (by omega))
  obtain ⟨eb6,eo6,el6,eL6,eA6,eB6,eg6,eh6,ec6⟩:=h.at ((2*(((atN Ls x.toNat).inner.unm).getD t 0)).toNat) (by have:=h.len;omega)
  obtain rfl:(atN Ls ((2*(((atN Ls x.toNat).inner.unm).getD t 0)).toNat))=eL6:=Option.some.inj (egz4.symm.trans eg6)
  refine Zt 32 (y_ixR (s:=s) (el:=50) (k:=8) (i:=(2*(((atN Ls x.toNat).inner.unm).getD t 0)).toNat) (iI:=(2*(((atN Ls x.toNat).inner.unm).getD t 0))) eA6 (by kernel_rfl) (by kernel_rfl) (by omega) (by have:=h.len;omega) rfl rfl rfl) ?_
  refine Zt 32 (y_fld (off:=0)) ?_
  refine Zt 32 (y_celld (ec6 0 _ rfl)) ?_
  refine Zt 32 (yb (nd_f n2) yi_neq) ?_
  refine Zan (y_pick false) [0,1,5,6,7,39] ?_
  refine Zcf [0,1,5,6,7] ?_
  refine Qd ?_
  have hk2:(atN Ls x.toNat).kind=2:=Classical.byContradiction fun z=>by rw [unm_kind (trIs_ok hT x.toNat).1 z] at htn;exact absurd htn (Nat.not_lt_zero _)
  have hxo:=inner_odd hT hx hk2
  have hxd:x∈(dirI (2*(((atN Ls x.toNat).inner.unm).getD t 0)) (Ls.length:Int)):=((und_dir n1.1 hx).2 n1).resolve_left fun e=>hxo (by omega)
  obtain ⟨mm,hmm,emm⟩:=mem_getD hxd
  obtain ⟨pd0,pd1⟩:=par_dir n1.1
  refine Qe ?_
  refine ZM ?_
  refine ZM ?_
  refine Za (y_lenM (el:=50) h.len) ?_
  have u:=Un u hw5
  refine Za (yv (congrArg nv (pd0 (by omega))) (Qp (parent_any (2*(((atN Ls x.toNat).inner.unm).getD t 0)) (Ls.length:Int) _ (Tt.up u rg).b) (by kernel_rfl) rfl rfl)) ?_
  refine ZAn [0,1,5,6,8] ?_
  refine Qj ?_
  have hU:=hU.below (hw5.mono (by omega))
  refine Qr (fun q a v=>Holds 75 [(0,s.v),(1,nv x),(5,el2.inner.unm.v),(6,nv ((t:Nat):Int)),(8,nv ((dirI (2*(((atN Ls x.toNat).inner.unm).getD t 0)) (Ls.length:Int)).getD q 0))] a∧RwNd v W.heap.size s Ls∧Below W.heap.size W v∧SlN v W.heap.size el2.inner.unm (atN Ls x.toNat).inner.unm∧q≤mm) (mm+1) (fun a ha=>⟨ha.keep (fk rfl (fk rfl (fk rfl (fk rfl (fk rfl fn))))),h,u,hU,(Nat.zero_le _)⟩) ?_
  rintro q a v ht ⟨ha,h,u,hU,qle⟩
  refine cg_at ha ?_
  clear ha a
  have zv:=u.size
  have q1:=h.len
  have q2:=h.cap
  have q3:=hU.len
  refine Qd ?_
  refine ZrM ?_
  refine ZM ?_
  by_cases c7:((dirI (2*(((atN Ls x.toNat).inner.unm).getD t 0)) (Ls.length:Int)).getD q 0)=x
  ·refine Za (yb (nd_f c7) yi_neq) ?_
   refine ZM ?_
   refine Zf 47 ?_
   refine Zf 47 ?_
   refine Zan (y_pick false) [0,1,5,6,8,50] ?_
   refine cg_cf rfl ?_
   refine cg_exit ?_
   refine Qh ?_
   refine Qh ?_
   refine Ql ?_
   refine Qi ?_
   refine Nx [0,1,5,6] ?_
   refine Qe ?_
   refine ZM ?_
   refine Za (yv (congrArg nv (show ((t:Nat):Int)+1=((t+1:Nat):Int) by omega)) (yi_add rfl rfl rfl (by omega) (by omega))) ?_
   refine ZA ?_
   refine Qk ?_
   exact fun a ha=>(show t<((atN Ls x.toNat).inner.unm.length+1)∧_ from ⟨(by omega),ha.keep (fk rfl (fk rfl (fk rfl (fk rfl fn)))),h,u,hU,(by omega)⟩)
  have hqm:q<mm:=by by_cases z:q=mm;exact absurd (z▸emm) c7;omega
  have hpd:=dir_all n1.1 ((dirI (2*(((atN Ls x.toNat).inner.unm).getD t 0)) (Ls.length:Int)).getD q 0) (getD_in (by omega))
  have hpdl:=hpd.2.2.2.le
  refine Za (yb (nd_t c7) yi_neq) ?_
  refine ZM ?_
  refine Zt 47 y_move ?_
  refine Zt 47 (yb (dT (show 0≤((dirI (2*(((atN Ls x.toNat).inner.unm).getD t 0)) (Ls.length:Int)).getD q 0) from hpd.1)) yi_geq) ?_
  refine Zan (y_pick true) [0,1,5,6,8,50] ?_
  refine cg_ct rfl ?_
  refine Zki [0,1,5,6,8] ?_
  refine Qd ?_
  refine Qj ?_
  refine Qd ?_
  obtain ⟨ebz8,eoz8,elz8,eLz8,eAz8,eBz8,egz8,ehz8,ecz8⟩:=h.at (((dirI (2*(((atN Ls x.toNat).inner.unm).getD t 0)) (Ls.length:Int)).getD q 0).toNat) (by have:=h.len;omega)
  have enz8:eLz8=atN Ls (((dirI (2*(((atN Ls x.toNat).inner.unm).getD t 0)) (Ls.length:Int)).getD q 0).toNat):=(atN_some egz8).symm
  subst enz8
  refine cg_still (by kernel_rfl) (by kernel_rfl) fun W9 eW9=>?_
  have dW9:=below_drew _ _ eW9
  have zW9:=size_drew _ _ eW9
  clear eW9
  refine Zsa y_move ?_
  refine Zsa y_move ?_
  have h:=h.below (dW9.mono (by omega))
  obtain ⟨eb10,eo10,el10,eL10,eA10,eB10,eg10,eh10,ec10⟩:=h.at (((dirI (2*(((atN Ls x.toNat).inner.unm).getD t 0)) (Ls.length:Int)).getD q 0).toNat) (by have:=h.len;omega)
  obtain rfl:(atN Ls (((dirI (2*(((atN Ls x.toNat).inner.unm).getD t 0)) (Ls.length:Int)).getD q 0).toNat))=eL10:=Option.some.inj (egz8.symm.trans eg10)
  refine Zsa (y_ixR (s:=s) (el:=50) (k:=8) (i:=((dirI (2*(((atN Ls x.toNat).inner.unm).getD t 0)) (Ls.length:Int)).getD q 0).toNat) (iI:=((dirI (2*(((atN Ls x.toNat).inner.unm).getD t 0)) (Ls.length:Int)).getD q 0)) eA10 (by kernel_rfl) (by kernel_rfl) (by omega) (by have:=h.len;omega) rfl rfl rfl) ?_
  refine Zsa (y_fld (off:=0)) ?_
  refine Zsa (y_celld (ec10 0 _ rfl)) ?_
  by_cases c11:(atN Ls (((dirI (2*(((atN Ls x.toNat).inner.unm).getD t 0)) (Ls.length:Int)).getD q 0).toNat)).kind=2
  ·refine Zsa (yb (dT c11) yi_eql) ?_
   refine Zsa y_move ?_
   refine Zst 61 y_move ?_
   refine Zst 61 y_move ?_
   obtain ⟨eb12,eo12,el12,eL12,eA12,eB12,eg12,eh12,ec12⟩:=h.at (((dirI (2*(((atN Ls x.toNat).inner.unm).getD t 0)) (Ls.length:Int)).getD q 0).toNat) (by have:=h.len;omega)
   obtain rfl:(atN Ls (((dirI (2*(((atN Ls x.toNat).inner.unm).getD t 0)) (Ls.length:Int)).getD q 0).toNat))=eL12:=Option.some.inj (egz8.symm.trans eg12)
   refine Zst 61 (y_ixR (s:=s) (el:=50) (k:=8) (i:=((dirI (2*(((atN Ls x.toNat).inner.unm).getD t 0)) (Ls.length:Int)).getD q 0).toNat) (iI:=((dirI (2*(((atN Ls x.toNat).inner.unm).getD t 0)) (Ls.length:Int)).getD q 0)) eA12 (by kernel_rfl) (by kernel_rfl) (by omega) (by have:=h.len;omega) rfl rfl rfl) ?_
   refine Zst 61 (y_fld (off:=5)) ?_
   refine Zst 61 (y_fld (off:=2)) ?_
   refine Zst 61 (y_celld (ec12 7 _ rfl)) ?_
   refine Zst 61 y_move ?_
   refine Zst 61 y_move ?_
   have hU:=hU.below (dW9.mono (by omega))
   refine Zst 61 (y_ixT (i:=t) (iI:=((t:Nat):Int)) hU (by omega) (by first | omega | (simp only [List.length_append,List.length_cons,List.length_nil];omega)) rfl rfl rfl) ?_
   refine Zst 61 (y_ldT (i:=t) hU (by first | omega | (simp only [List.length_append,List.length_cons,List.length_nil];omega)) rfl rfl) ?_
   refine Zst 61 (yb (dT (show (((atN Ls x.toNat).inner.unm).getD t 0)∈((atN Ls (((dirI (2*(((atN Ls x.toNat).inner.unm).getD t 0)) (Ls.length:Int)).getD q 0).toNat)).inner.unm) from (n3 ((dirI (2*(((atN Ls x.toNat).inner.unm).getD t 0)) (Ls.length:Int)).getD q 0) ((und_dir n1.1 hpd.2.2.2).1 (.inr (getD_in (by omega)))) (by have z:=way_mid n1.1 hqm hmm;rwa [emm] at z) c11))) (Qp (has_any eh12.inner.unm (((atN Ls x.toNat).inner.unm).getD t 0)) (by kernel_rfl) rfl rfl)) ?_
   refine Zst 61 y_bnot ?_
   refine Zsa (y_pick true) ?_
   refine Zsn [0,1,5,6,8,74] ?_
   refine cg_cf rfl ?_
   refine cg_skip ?_
   refine Qi ?_
   refine Nx [0,1,5,6,8] ?_
   refine Qe ?_
   refine ZM ?_
   refine ZM ?_
   refine Za (y_lenM (el:=50) h.len) ?_
   have u:=Un u dW9
   refine Za (yv (congrArg nv (pd1 q (by omega))) (Qp (parent_any ((dirI (2*(((atN Ls x.toNat).inner.unm).getD t 0)) (Ls.length:Int)).getD q 0) (Ls.length:Int) _ (Tt.up u rg).b) (by kernel_rfl) rfl rfl)) ?_
   refine ZA ?_
   refine Qk ?_
   exact fun a ha=>(show q<(mm+1)∧_ from ⟨(by omega),ha.keep (fk rfl (fk rfl (fk rfl (fk rfl (fk rfl fn))))),h,u,hU,(by omega)⟩)
  refine Zsa (yb (dF c11) yi_eql) ?_
  refine Zsa y_move ?_
  refine Zsf 61 ?_
  refine Zsf 61 ?_
  refine Zsf 61 ?_
  refine Zsf 61 ?_
  refine Zsf 61 ?_
  refine Zsf 61 ?_
  refine Zsf 61 ?_
  refine Zsf 61 ?_
  refine Zsf 61 ?_
  refine Zsf 61 ?_
  refine Zsf 61 ?_
  refine Zsf 61 ?_
  refine Zsa (y_pick false) ?_
  refine Zsn [0,1,5,6,8,74] ?_
  refine cg_cf rfl ?_
  refine cg_skip ?_
  refine Qi ?_
  refine Nx [0,1,5,6,8] ?_
  refine Qe ?_
  refine ZM ?_
  refine ZM ?_
  refine Za (y_lenM (el:=50) h.len) ?_
  have u:=Un u dW9
  refine Za (yv (congrArg nv (pd1 q (by omega))) (Qp (parent_any ((dirI (2*(((atN Ls x.toNat).inner.unm).getD t 0)) (Ls.length:Int)).getD q 0) (Ls.length:Int) _ (Tt.up u rg).b) (by kernel_rfl) rfl rfl)) ?_
  refine ZA ?_
  refine Qk ?_
  have hU:=hU.below (dW9.mono (by omega))
  exact fun a ha=>(show q<(mm+1)∧_ from ⟨(by omega),ha.keep (fk rfl (fk rfl (fk rfl (fk rfl (fk rfl fn))))),h,u,hU,(by omega)⟩)
 refine Zan (yb (dF c3) yi_lss) [0,1,5,6,18] ?_
 refine cg_cf rfl ?_
 refine cg_exit ?_
 refine Qh ?_
 refine Qh ?_
 refine Ql ?_
 refine nx (E':=[]) fn ?_
 refine ZrA ?_
 refine Znr [4] ?_
 exact Qa rfl rfl ⟨_,rfl,rfl,u⟩
set_option maxHeartbeats 4000000 in
theorem editValid_any {W:World} {s:SlV} {Ss:List Sp} (h:RwSp W W.heap.size s Ss) (rg:Tt W):Calls Tryz.prog 4 #[s.v] W fun e W'=>∃ v,e=.returned v∧v=.bool true∧Below W.heap.size W W':=by
 refine Qf (n:=65) Tryz.func4 rfl Tryz.ntmps4 (by simp) ?_
 show CG _ _ _ [(0,s.v)] _ _
 have u:=Below.refl W.heap.size W
 have q1:=h.len
 have q2:=h.cap
 refine ZrA ?_
 refine Zn [0,2] ?_
 refine Zr ?_
 refine Zc (awakeE_any _ (Tt.up u rg)) rfl rfl ?_
 rintro _ w1 ⟨rfl,hw1⟩
 have zw1:=hw1.size
 refine ZAn [0,2,3] ?_
 refine Qd ?_
 refine ZrM ?_
 have h:=h.below (hw1.mono (by omega))
 by_cases c2:spFew Ss
 ·refine Zc (small_any (h.more (B':=w1.heap.size) (by omega)) (Nat.le_refl _)) rfl rfl ?_
  rintro u3 w3 ⟨e3,hw3⟩
  have zw3:=hw3.size
  obtain rfl:u3=.bool true:=e3.trans (congrArg Value.bool (decide_eq_true c2))
  refine Zan y_bnot [0,2,3,12] ?_
  refine Zcf [0,2,3] ?_
  refine ZrA ?_
  refine Zn [0,2,3,4] ?_
  refine Qd ?_
  refine ZrA ?_
  refine Zn [0,2,3,4,5] ?_
  refine Qj ?_
  have h:=h.below (hw3.mono (by omega))
  have u:=Un (Un u hw1) hw3
  refine Qr (fun t a v=>∃ (sT:SlV) (T:List Nd),Holds 65 [(0,s.v),(3,.bool true),(4,sT.v),(5,nv ((t:Nat):Int))] a∧RwSp v W.heap.size s Ss∧Below W.heap.size W v∧RwNd v v.heap.size sT T∧Good T∧t≤Ss.length) (Ss.length+1) (fun a ha=>⟨nilS,[],ha.keep (fk rfl (fk rfl (fk rfl (fk rfl fn)))),h,u,(RwNd.nil _ _),good_nil,(Nat.zero_le _)⟩) ?_
  rintro t a v ht ⟨sT,T,ha,h,u,hT,G,tle⟩
  refine cg_at ha ?_
  clear ha a
  have zv:=u.size
  have q1:=h.len
  have q2:=h.cap
  refine Qd ?_
  refine ZrM ?_
  refine ZM ?_
  refine Za (y_lenM (el:=43) h.len) ?_
  by_cases c4:((t:Nat):Int)<(Ss.length:Int)
  ·refine Zan (yb (dT c4) yi_lss) [0,3,4,5,17] ?_
   refine cg_ct rfl ?_
   refine Zki [0,3,4,5] ?_
   refine Qd ?_
   refine Qj ?_
   refine Qd ?_
   have htn:t<Ss.length:=by omega
   refine Qe ?_
   refine ZM ?_
   refine ZM ?_
   refine ZM ?_
   obtain ⟨eb5,eo5,el5,eL5,eA5,eB5,eg5,eh5,ec5⟩:=h.at (t) (by have:=h.len;omega)
   refine Za (y_ixR (s:=s) (el:=43) (k:=8) (i:=t) (iI:=((t:Nat):Int)) eA5 (by kernel_rfl) (by kernel_rfl) (by omega) (by have:=h.len;omega) rfl rfl rfl) ?_
   refine Za (y_loadC (cs:=el5.cs eL5) ec5) ?_
   refine Zc (doneE_any (hT.more (B':=v.heap.size) (by omega)) (eh5.more (B':=v.heap.size) (by omega)) (Nat.le_refl _) G (Tt.up u rg)) rfl rfl ?_
   rintro _ w6 ⟨s6,T6,e6,rfl,m6,G6,hw6⟩
   have zw6:=hw6.size
   refine ZM ?_
   refine Za y_extract ?_
   refine Za y_extract ?_
   refine ZA ?_
   refine ZAn [0,3,4,5,6] ?_
   refine ZrM ?_
   refine ZAn [0,3,5,4] ?_
   refine Qd ?_
   refine Qd ?_
   have qT:=trIs_le G6.is
   refine Qe ?_
   refine ZM ?_
   refine Zc (sane_any (m6.more (B':=w6.heap.size) (by omega)) (Nat.le_refl _)) rfl rfl ?_
   rintro u7 w7 ⟨e7,hw7⟩
   have zw7:=hw7.size
   obtain rfl:u7=.bool true:=e7.trans (congrArg Value.bool (decide_eq_true (show trIs T6 from G6.is)))
   refine Za y_bnot ?_
   refine ZM ?_
   refine Zt 33 y_move ?_
   have m6:=m6.below (hw7.mono (by omega))
   refine Zt 33 (y_lenM (el:=50) m6.len) ?_
   by_cases c8:31<(T6.length:Int)
   ·refine Zt 33 (yb (dT c8) yi_gtr) ?_
    refine Zan (y_pick false) [0,3,5,4,37] ?_
    refine cg_ct rfl ?_
    refine ZrM ?_
    refine ZM ?_
    refine Zt 39 y_move ?_
    refine Zct 39 (sane_any (m6.more (B':=w7.heap.size) (by omega)) (Nat.le_refl _)) rfl rfl ?_
    rintro u9 w9 ⟨e9,hw9⟩
    have zw9:=hw9.size
    obtain rfl:u9=.bool true:=e9.trans (congrArg Value.bool (decide_eq_true (show trIs T6 from G6.is)))
    refine Za (y_pick true) ?_
    refine ZAnr [0,3,5,4,2] ?_
    refine Qc ?_
    refine Qg ?_
    refine Qc ?_
    refine Qc ?_
    refine Qg ?_
    refine Qc ?_
    have u:=Un (Un (Un u hw6) hw7) hw9
    exact Qa rfl rfl ⟨_,rfl,rfl,u⟩
   refine Zt 33 (yb (dF c8) yi_gtr) ?_
   refine Zan (y_pick false) [0,3,5,4,37] ?_
   refine Zcf [0,3,5,4] ?_
   refine Qd ?_
   refine ZrA ?_
   refine Zn [0,3,5,4,8] ?_
   refine Qj ?_
   have h:=(h.below (hw6.mono (by omega))).below (hw7.mono (by omega))
   have u:=Un (Un u hw6) hw7
   refine Qr (fun x a v=>Holds 65 [(0,s.v),(3,.bool true),(4,s6.v),(5,nv ((t:Nat):Int)),(8,nv ((x:Nat):Int))] a∧RwSp v W.heap.size s Ss∧Below W.heap.size W v∧RwNd v v.heap.size s6 T6∧x≤T6.length) 200 (fun a ha=>⟨ha.keep (fk rfl (fk rfl (fk rfl (fk rfl (fk rfl fn))))),h,u,(m6.more (B':=w7.heap.size) (by omega)),(Nat.zero_le _)⟩) ?_
   rintro x a v ht ⟨ha,h,u,hN,xle⟩
   refine cg_at ha ?_
   clear ha a
   have zv:=u.size
   have q1:=h.len
   have q3:=hN.len
   have q4:=hN.cap
   refine Qd ?_
   refine ZrM ?_
   refine ZM ?_
   refine Za (y_lenM (el:=50) hN.len) ?_
   by_cases c10:((x:Nat):Int)<(T6.length:Int)
   ·refine Zan (yb (dT c10) yi_lss) [0,3,4,5,8,46] ?_
    refine cg_ct rfl ?_
    refine Zki [0,3,4,5,8] ?_
    refine Qd ?_
    refine Qj ?_
    refine Qd ?_
    have hxt:x<T6.length:=by omega
    have hxn:isN ((x:Nat):Int) (T6.length:Int):=isN_of G6.is (by omega) (by omega)
    refine Qe ?_
    refine ZM ?_
    refine ZM ?_
    refine Zc (named_any (hN.more (B':=v.heap.size) (by omega)) ((x:Nat):Int) (Nat.le_refl _) G6.is hxn (G6.nm _ hxn) (Tt.up u rg)) rfl rfl ?_
    rintro _ w11 ⟨rfl,hw11⟩
    have zw11:=hw11.size
    refine Za y_bnot ?_
    refine ZM ?_
    refine Zt 53 y_move ?_
    refine Zt 53 y_move ?_
    have hN:=hN.below (hw11.mono (by omega))
    have u:=Un u hw11
    refine Zct 53 (valid_any (hN.more (B':=w11.heap.size) (by omega)) ((x:Nat):Int) (Nat.le_refl _) (Tt.up u rg)) rfl rfl ?_
    rintro u12 w12 ⟨e12,hw12⟩
    have zw12:=hw12.size
    obtain rfl:u12=.bool true:=e12.trans (congrArg Value.bool (decide_eq_true (show validL (trAs T6) ((x:Nat):Int) from (by rw [trAs_ok G6.is];exact G6.ok _ hxn))))
    refine Zt 53 y_bnot ?_
    refine Zan (y_pick false) [0,3,4,5,8,58] ?_
    refine cg_cf rfl ?_
    refine cg_skip ?_
    refine Qi ?_
    refine Nx [0,3,4,5,8] ?_
    refine Qe ?_
    refine ZM ?_
    refine Za (yv (congrArg nv (show ((x:Nat):Int)+1=((x+1:Nat):Int) by omega)) (yi_add rfl rfl rfl (by omega) (by omega))) ?_
    refine ZA ?_
    refine Qk ?_
    have hN:=hN.below (hw12.mono (by omega))
    have h:=(h.below (hw11.mono (by omega))).below (hw12.mono (by omega))
    have u:=Un u hw12
    exact fun a ha=>(show x<200∧_ from ⟨(by omega),ha.keep (fk rfl (fk rfl (fk rfl (fk rfl (fk rfl fn))))),h,u,(hN.more (B':=w12.heap.size) (by omega)),(by omega)⟩)
   refine Zan (yb (dF c10) yi_lss) [0,3,4,5,8,46] ?_
   refine cg_cf rfl ?_
   refine cg_exit ?_
   refine Qh ?_
   refine Qh ?_
   refine Ql ?_
   refine Nx [0,3,4,5] ?_
   refine ZrM ?_
   refine Zc (trim_any hN (by omega)) rfl rfl ?_
   rintro _ w13 ⟨s13,rfl,m13,hw13⟩
   have zw13:=hw13.size
   refine ZM ?_
   have hN:=hN.below (hw13.mono (by omega))
   refine Zc (sameR_any (m13.more (B':=w13.heap.size) (by omega)) (hN.more (B':=w13.heap.size) (by omega)) (Nat.le_refl _)) rfl rfl ?_
   rintro u14 w14 ⟨e14,hw14⟩
   have zw14:=hw14.size
   obtain rfl:u14=.bool true:=e14.trans (congrArg Value.bool (decide_eq_true (show trSame (trimL T6) T6 from (by rw [G6.tr];exact tr_same _))))
   refine Zan y_bnot [0,3,4,5,63] ?_
   refine cg_cf rfl ?_
   refine cg_skip ?_
   refine Qi ?_
   refine Nx [0,3,4,5] ?_
   refine Qe ?_
   refine ZM ?_
   refine Za (yv (congrArg nv (show ((t:Nat):Int)+1=((t+1:Nat):Int) by omega)) (yi_add rfl rfl rfl (by omega) (by omega))) ?_
   refine ZA ?_
   refine Qk ?_
   have hN:=hN.below (hw14.mono (by omega))
   have h:=(h.below (hw13.mono (by omega))).below (hw14.mono (by omega))
   have u:=Un (Un u hw13) hw14
   exact fun a ha=>(show t<(Ss.length+1)∧_ from ⟨(by omega),s6,T6,ha.keep (fk rfl (fk rfl (fk rfl (fk rfl fn)))),h,u,(hN.more (B':=w14.heap.size) (by omega)),G6,(by omega)⟩)
  refine Zan (yb (dF c4) yi_lss) [0,3,4,5,17] ?_
  refine cg_cf rfl ?_
  refine cg_exit ?_
  refine Qh ?_
  refine Qh ?_
  refine Ql ?_
  refine Nx [3] ?_
  refine ZrM ?_
  refine ZAnr [2] ?_
  exact Qa rfl rfl ⟨_,rfl,rfl,u⟩
 refine Zc (small_any (h.more (B':=w1.heap.size) (by omega)) (Nat.le_refl _)) rfl rfl ?_
 rintro u15 w15 ⟨e15,hw15⟩
 have zw15:=hw15.size
 obtain rfl:u15=.bool false:=e15.trans (congrArg Value.bool (decide_eq_false c2))
 refine Zan y_bnot [0,2,3,12] ?_
 refine cg_ct rfl ?_
 refine ZrM ?_
 refine ZAnr [0,3,2] ?_
 refine Qc ?_
 have u:=Un (Un u hw1) hw15
 exact Qa rfl rfl ⟨_,rfl,rfl,u⟩
end Go.Proofs.YtfdmhdnlmndhdaaGreatDoor
