/-
  What may be done to a tree: the document.
-/
import Derived.Test.YtfdmhdnlmndhdaaGreatDoorChRefP
import Derived.Test.YtfdmhdnlmndhdaaGreatDoorEdMath
import Derived.Test.YtfdmhdnlmndhdaaGreatDoorJnFr
namespace Go.Proofs.YtfdmhdnlmndhdaaGreatDoor
open Go.ChangeShapes Go.WideShapes Go.ChangeAt Go.RowKit
set_option linter.unusedVariables false

set_option maxRecDepth 20000
theorem rsource_any {W:World} {B:Nat} {l:LfV} {L:Lf} (hl:IsLf W B l L) (k:Int) (hB:B≤W.heap.size):Calls Tryz.prog 40 #[.agg (l.cs L),nv k] W fun e W'=>∃ v,e=.returned v∧v=nv (srcE L k)∧Below W.heap.size W W':=by
 refine Qf (n:=17) Tryz.func40 rfl Tryz.ntmps40 (by simp) ?_
 show CG _ _ _ [(0,.agg (l.cs L)),(1,nv k)] _ _
 have u:=Below.refl W.heap.size W
 have hl:=hl.more hB
 refine Zr ?_
 refine lg_boxw Wn rfl rfl (by kernel_rfl) rfl (by decide) fun b1 w1 n1=>?_
 have r1:=n1.row
 have k1:=n1.blk
 have z1:=n1.size
 have lt1:b1<w1.heap.size:=by omega
 refine ZAn [1,2,4] ?_
 refine Zr ?_
 refine Za (y_loadA r1) ?_
 have hl:=hl.below (n1.below.mono (by omega))
 refine Zc (rcheck_any (hl.more (B':=w1.heap.size) (by omega)) (Nat.le_refl _)) rfl rfl ?_
 rintro _ w2 ⟨rfl,hw2⟩
 have zw2:=hw2.size
 refine ZAn [1,2,4,5] ?_
 refine Qd ?_
 refine ZrM ?_
 by_cases c3:(lfCheck L)=0
 ·refine Za (yb (dT c3) yi_eql) ?_
  refine ZM ?_
  refine Zt 10 (y_fld (off:=2)) ?_
  have r1:=RowAt.below hw2 r1.lt r1
  refine Zt 10 (Qo (v:=nv L.src) r1 rfl (by kernel_rfl) rfl rfl) ?_
  refine Zt 10 y_move ?_
  by_cases c4:L.src=k
  ·refine Zt 10 (yb (nd_f c4) yi_neq) ?_
   refine Zan (y_pick true) [4,5,15] ?_
   refine Zcf [4,5] ?_
   refine ZrM ?_
   refine ZAnr [4] ?_
   have u:=Un (Un u n1.below) hw2
   exact Qa rfl rfl ⟨_,rfl,congrArg nv (c3.trans (srcE_is c3 c4).symm),u⟩
  refine Zt 10 (yb (nd_t c4) yi_neq) ?_
  refine Zan (y_pick true) [4,5,15] ?_
  refine cg_ct rfl ?_
  refine ZrA ?_
  refine Znr [5,4] ?_
  refine Qc ?_
  have u:=Un (Un u n1.below) hw2
  exact Qa rfl rfl ⟨_,rfl,congrArg nv (srcE_src c3 c4).symm,u⟩
 refine Za (yb (dF c3) yi_eql) ?_
 refine ZM ?_
 refine Zf 10 ?_
 refine Zf 10 ?_
 refine Zf 10 ?_
 refine Zf 10 ?_
 refine Zan (y_pick false) [4,5,15] ?_
 refine Zcf [4,5] ?_
 refine ZrM ?_
 refine ZAnr [4] ?_
 have u:=Un (Un u n1.below) hw2
 exact Qa rfl rfl ⟨_,rfl,congrArg nv (srcE_bad c3).symm,u⟩
theorem rlaid_any {W:World} {B:Nat} {s:SlV} {Ls:List Nd} (h:RwNd W B s Ls) (i:Int) {l:LfV} {L:Lf} (hl:IsLf W B l L) (hB:B≤W.heap.size) (hN:isN (2*i) (Ls.length:Int)):Calls Tryz.prog 43 #[s.v,nv i,.agg (l.cs L)] W fun e W'=>∃ v,e=.returned v∧∃ (s':SlV) (bs:Nat),v=s'.v∧W.heap.size≤bs∧bs≤W'.heap.size∧OwnNd W' bs bs s'.v (laidL Ls i L)∧Below W.heap.size W W':=by
 refine Qf (n:=18) Tryz.func43 rfl Tryz.ntmps43 (by simp) ?_
 show CG _ _ _ [(0,s.v),(1,nv i),(2,.agg (l.cs L))] _ _
 have u:=Below.refl W.heap.size W
 have h:=h.more hB
 have hl:=hl.more hB
 have h0:=hN.le
 have q1:=h.len
 have q2:=h.cap
 have hn:IsNd W W.heap.size ⟨l,⟨nilS,nilS,nilS⟩⟩ (leafN L):=⟨hl,IsPn.zero _ _⟩
 refine Zr ?_
 refine lg_boxw Wn rfl rfl (by kernel_rfl) rfl (by decide) fun b1 w1 n1=>?_
 have r1:=n1.row
 have k1:=n1.blk
 have z1:=n1.size
 have lt1:b1<w1.heap.size:=by omega
 refine ZAn [0,1,5,6] ?_
 refine Zr ?_
 obtain ⟨bs3,hbs3⟩:∃ q,q=w1.heap.size:=⟨_,rfl⟩
 refine lg_bs0R Wn rfl rfl (by decide) fun v2 w2 g2 l2=>?_
 rw [←hbs3] at g2
 have z2:=l2.size
 refine ZM ?_
 have h:=(h.below (n1.below.mono (by omega))).below (l2.mono (by omega))
 refine lg_appR g2 (h.src.more (B':=bs3) (by omega)) (Nat.le_refl _) (by first | omega | (simp only [List.length_nil];omega)) (by omega) Wn rfl rfl rfl rfl rfl (by decide) fun r4 w4 g4 m4 l4 z4=>?_
 rw [List.nil_append] at g4
 clear m4
 refine ZAn [1,5,6,7] ?_
 refine ZrM ?_
 refine ZM ?_
 refine Za (yv (congrArg nv (show 2*i=(((2*i).toNat:Nat):Int) by omega)) (yi_mul rfl rfl rfl (by omega) (by omega))) ?_
 have r1:=RowAt.below l2 r1.lt r1
 have r1:=RowAt.below l4 (by omega) r1
 refine Za (y_loadA r1) ?_
 refine Za (y_build (cs:=(⟨l,PnV.zero⟩:NdV).cs (⟨1,L,Pn.zero⟩:Nd))) ?_
 obtain ⟨gb5,gA5,gl5,gu5⟩:=g4.addr (i:=((2*i).toNat)) (by first | omega | (simp only [List.length_append,List.length_cons,List.length_nil,List.length_take,List.length_drop,List.length_set,List.length_replicate,clr_len];omega))
 refine Za (y_ixR (s:=r4) (el:=50) (k:=8) (i:=((2*i).toNat)) (iI:=(((2*i).toNat:Nat):Int)) gA5 (by kernel_rfl) (by kernel_rfl) (by omega) (by have q1:=(g4.rowS (by omega)).len;first | omega | (simp only [List.length_append,List.length_cons,List.length_nil,List.length_take,List.length_drop,List.length_set,List.length_replicate,clr_len] at q1;omega)) rfl rfl rfl) ?_
 have hn:=((hn.below (n1.below.mono (by omega))).below (l2.mono (by omega))).below (l4.mono (by omega))
 refine lg_stR (i:=((2*i).toNat)) g4 (hn.more (by omega)) (Nat.le_refl _) (by first | omega | (simp only [List.length_append,List.length_cons,List.length_nil,List.length_take,List.length_drop,List.length_set,List.length_replicate,clr_len];omega)) gA5 Wn rfl rfl rfl rfl fun w6 old6 new6 ro6 st6 g6 l6 z6=>?_
 refine Zn [6,7] ?_
 refine ZrM ?_
 refine ZAnr [6] ?_
 have u:=Un (Un u n1.below) l2
 have u:=(u.trans (l4.mono (by omega))).trans (l6.mono (by omega))
 exact Qa rfl rfl ⟨_,rfl,_,bs3,rfl,by omega,by omega,g6,u⟩
theorem have_any {W:World} {B:Nat} {s:SlV} {Ls:List Nd} (h:RwNd W B s Ls) (i:Int) (hB:B≤W.heap.size) (ht:trIs Ls):Calls Tryz.prog 48 #[s.v,nv i] W fun e W'=>∃ v,e=.returned v∧v=nv (hadE Ls i)∧Below W.heap.size W W':=by
 refine Qf (n:=20) Tryz.func48 rfl Tryz.ntmps48 (by simp) ?_
 show CG _ _ _ [(0,s.v),(1,nv i)] _ _
 have u:=Below.refl W.heap.size W
 have h:=h.more hB
 have hta:=trAs_ok ht
 have hll:=trIs_le ht
 have hlv:=leavesA_eq Ls
 have q1:=h.len
 refine ZrA ?_
 refine Zn [0,1,4] ?_
 refine Qd ?_
 refine ZrM ?_
 by_cases c1:i<0
 ·refine Za (yb (dT c1) yi_lss) ?_
  refine ZM ?_
  refine Zf 7 ?_
  refine Zf 7 ?_
  refine Zf 7 ?_
  refine Zf 7 ?_
  refine Zan (y_pick true) [0,1,4,12] ?_
  refine cg_ct rfl ?_
  refine ZrA ?_
  refine Znr [0,1,4] ?_
  refine Qc ?_
  exact Qa rfl rfl ⟨_,rfl,congrArg nv (hadE_no (fun z=>by omega)).symm,u⟩
 refine Za (yb (dF c1) yi_lss) ?_
 refine ZM ?_
 refine Zt 7 y_move ?_
 refine Zt 7 y_move ?_
 refine Zct 7 ((by have z:=rleavesT_any (h.more (B':=W.heap.size) (by omega)) (Nat.le_refl _);rwa [hta] at z)) rfl rfl ?_
 rintro _ w2 ⟨rfl,hw2⟩
 have zw2:=hw2.size
 by_cases c3:((leavesA Ls:Nat):Int)≤i
 ·refine Zt 7 (yb (dT c3) yi_geq) ?_
  refine Zan (y_pick false) [0,1,4,12] ?_
  refine cg_ct rfl ?_
  refine ZrA ?_
  refine Znr [0,1,4] ?_
  refine Qc ?_
  have u:=Un u hw2
  exact Qa rfl rfl ⟨_,rfl,congrArg nv (hadE_no (fun z=>by omega)).symm,u⟩
 have hr:0≤i∧i<leavesA Ls:=⟨by omega,by omega⟩
 refine Zt 7 (yb (dF c3) yi_geq) ?_
 refine Zan (y_pick false) [0,1,4,12] ?_
 refine Zcf [0,1,4] ?_
 refine Qd ?_
 refine Qd ?_
 have h:=h.below (hw2.mono (by omega))
 obtain ⟨ebz4,eoz4,elz4,eLz4,eAz4,eBz4,egz4,ehz4,ecz4⟩:=h.at ((2*i).toNat) (by have:=h.len;omega)
 have enz4:eLz4=atN Ls ((2*i).toNat):=(atN_some egz4).symm
 subst enz4
 refine Qe ?_
 refine ZM ?_
 refine ZM ?_
 refine Za (yi_mul rfl rfl rfl (by omega) (by omega)) ?_
 obtain ⟨eb5,eo5,el5,eL5,eA5,eB5,eg5,eh5,ec5⟩:=h.at ((2*i).toNat) (by have:=h.len;omega)
 obtain rfl:(atN Ls ((2*i).toNat))=eL5:=Option.some.inj (egz4.symm.trans eg5)
 refine Za (y_ixR (s:=s) (el:=50) (k:=8) (i:=(2*i).toNat) (iI:=(2*i)) eA5 (by kernel_rfl) (by kernel_rfl) (by omega) (by have:=h.len;omega) rfl rfl rfl) ?_
 refine Za (y_fld (off:=0)) ?_
 refine Za (y_celld (ec5 0 _ rfl)) ?_
 by_cases c6:(atN Ls ((2*i).toNat)).kind=0
 ·refine Zan (yb (dT c6) yi_eql) [4,19] ?_
  refine cg_ct rfl ?_
  refine ZrA ?_
  refine Znr [4] ?_
  refine Qc ?_
  have u:=Un u hw2
  exact Qa rfl rfl ⟨_,rfl,congrArg nv (hadE_blank hr c6).symm,u⟩
 refine Zan (yb (dF c6) yi_eql) [4,19] ?_
 refine Zcf [4] ?_
 refine ZrA ?_
 refine Znr [4] ?_
 have u:=Un u hw2
 exact Qa rfl rfl ⟨_,rfl,congrArg nv (hadE_is hr c6).symm,u⟩
theorem rrem_any {W:World} {B:Nat} {s:SlV} {Ls:List Nd} (h:RwNd W B s Ls) (i:Int) (hB:B≤W.heap.size) (rg:Tb W):Calls Tryz.prog 16 #[s.v,nv i] W fun e W'=>∃ v,e=.returned v∧∃ s':SlV,v=.tuple #[s'.v,nv (hadE (trAs Ls) i)]∧RwNd W' W'.heap.size s' (remL (trAs Ls) i)∧Below W.heap.size W W':=by
 refine Qf (n:=26) Tryz.func16 rfl Tryz.ntmps16 (by simp) ?_
 show CG _ _ _ [(0,s.v),(1,nv i)] _ _
 have u:=Below.refl W.heap.size W
 have h:=h.more hB
 have hlv:=leavesA_eq (trAs Ls)
 have tl:=trAs_le Ls
 refine ZrA ?_
 refine ZAn [0,1,4,5] ?_
 refine ZrM ?_
 refine Zc (as_any h (by omega)) rfl rfl ?_
 rintro _ w1 ⟨s1,rfl,m1,hw1⟩
 have zw1:=hw1.size
 have tl1:=trAs_le Ls
 refine ZAn [1,4,5,6] ?_
 refine ZrM ?_
 refine ZM ?_
 refine Zc (have_any (m1.more (B':=w1.heap.size) (by omega)) i (Nat.le_refl _) (trAs_is Ls)) rfl rfl ?_
 rintro _ w2 ⟨rfl,hw2⟩
 have zw2:=hw2.size
 refine ZAn [1,4,5,6,7] ?_
 refine Qd ?_
 refine ZrM ?_
 by_cases c3:(hadE (trAs Ls) i)=0
 ·refine Zan (yb (nd_f c3) yi_neq) [1,4,5,6,7,16] ?_
  refine Zcf [1,4,5,6] ?_
  refine ZrM ?_
  refine ZM ?_
  have m1:=m1.below (hw2.mono (by omega))
  have u:=Un (Un u hw1) hw2
  refine Zc (rclear_any (m1.more (B':=w2.heap.size) (by omega)) i (Nat.le_refl _) (rg.up u)) rfl rfl ?_
  rintro _ w4 ⟨s4,rfl,m4,hw4⟩
  have zw4:=hw4.size
  refine ZM ?_
  refine Za y_extract ?_
  refine Za y_extract ?_
  refine ZA ?_
  refine ZAn [4,5,8] ?_
  refine ZrM ?_
  refine Zc (rtrim_any m4 (by omega)) rfl rfl ?_
  rintro _ w5 ⟨s5,rfl,m5,hw5⟩
  have zw5:=hw5.size
  refine ZA ?_
  refine ZAnr [4,5] ?_
  have u:=Un (Un u hw4) hw5
  exact eg_ret_tmp2 rfl rfl rfl ⟨_,rfl,_,congrArg (fun q=>Value.tuple #[_,nv q]) c3.symm,(m5.more (by omega)).cast (rem_ok c3).symm,u⟩
 refine Zan (yb (nd_t c3) yi_neq) [1,4,5,6,7,16] ?_
 refine cg_ct rfl ?_
 refine ZrM ?_
 refine ZA ?_
 refine ZAnr [1,6,4,5] ?_
 refine Qc ?_
 have u:=Un (Un u hw1) hw2
 exact eg_ret_tmp2 rfl rfl rfl ⟨_,rfl,nilS,congrArg (fun q=>Value.tuple #[_,nv q]) rfl,(RwNd.nil _ _).cast (rem_no c3).symm,u⟩
theorem rcha_any {W:World} {B:Nat} {s:SlV} {Ls:List Nd} (h:RwNd W B s Ls) (i:Int) {l:LfV} {L:Lf} (hl:IsLf W B l L) (hB:B≤W.heap.size) (rg:Tb W):Calls Tryz.prog 19 #[s.v,nv i,.agg (l.cs L)] W fun e W'=>∃ v,e=.returned v∧∃ s':SlV,v=.tuple #[s'.v,nv (chaE (trAs Ls) i L)]∧RwNd W' W'.heap.size s' (chaL (trAs Ls) i L)∧Below W.heap.size W W':=by
 refine Qf (n:=34) Tryz.func19 rfl Tryz.ntmps19 (by simp) ?_
 show CG _ _ _ [(0,s.v),(1,nv i),(2,.agg (l.cs L))] _ _
 have u:=Below.refl W.heap.size W
 have h:=h.more hB
 have hlv:=leavesA_eq (trAs Ls)
 have tl:=trAs_le Ls
 have hl:=hl.more hB
 refine Zr ?_
 refine lg_boxw Wn rfl rfl (by kernel_rfl) rfl (by decide) fun b1 w1 n1=>?_
 have r1:=n1.row
 have k1:=n1.blk
 have z1:=n1.size
 have lt1:b1<w1.heap.size:=by omega
 refine ZA ?_
 refine ZAn [0,1,5,6,7] ?_
 refine ZrM ?_
 have h:=h.below (n1.below.mono (by omega))
 refine Zc (as_any h (by omega)) rfl rfl ?_
 rintro _ w2 ⟨s2,rfl,m2,hw2⟩
 have zw2:=hw2.size
 have tl2:=trAs_le Ls
 refine ZAn [1,5,6,7,8] ?_
 refine ZrM ?_
 refine ZM ?_
 refine Zc (have_any (m2.more (B':=w2.heap.size) (by omega)) i (Nat.le_refl _) (trAs_is Ls)) rfl rfl ?_
 rintro _ w3 ⟨rfl,hw3⟩
 have zw3:=hw3.size
 refine ZAn [1,5,6,7,8,9] ?_
 refine Qd ?_
 refine ZrM ?_
 by_cases c4:(hadE (trAs Ls) i)=0
 ·have hh:=hadE_ok c4
  obtain ⟨hN,_⟩:=had_node (trAs_is Ls) c4
  obtain ⟨ci,cl⟩:=clear_is (trAs_is Ls) hh.1
  refine Zan (yb (dT c4) yi_eql) [1,5,6,7,8,9,18] ?_
  refine cg_ct rfl ?_
  refine Qe ?_
  have r1:=RowAt.below hw2 r1.lt r1
  have r1:=RowAt.below hw3 r1.lt r1
  refine Za (y_loadA r1) ?_
  have hl:=((hl.below (n1.below.mono (by omega))).below (hw2.mono (by omega))).below (hw3.mono (by omega))
  refine Zc (rsource_any (hl.more (B':=w3.heap.size) (by omega)) 2 (Nat.le_refl _)) rfl rfl ?_
  rintro _ w5 ⟨rfl,hw5⟩
  have zw5:=hw5.size
  refine ZAn [1,5,6,7,8,9] ?_
  refine Qd ?_
  refine ZrM ?_
  by_cases c6:(srcE L 2)=0
  ·refine Zan (yb (nd_f c6) yi_neq) [1,5,6,7,8,9,22] ?_
   refine Zcf [1,5,6,7,8] ?_
   refine ZrM ?_
   refine ZM ?_
   have m2:=(m2.below (hw3.mono (by omega))).below (hw5.mono (by omega))
   have u:=Un (Un u n1.below) hw2
   have u:=Un (Un u hw3) hw5
   refine Zc (rclear_any (m2.more (B':=w5.heap.size) (by omega)) i (Nat.le_refl _) (rg.up u)) rfl rfl ?_
   rintro _ w7 ⟨s7,rfl,m7,hw7⟩
   have zw7:=hw7.size
   refine ZM ?_
   refine Za y_extract ?_
   refine Za y_extract ?_
   refine ZA ?_
   refine ZAn [1,5,6,7,10] ?_
   refine ZrM ?_
   refine ZM ?_
   have r1:=RowAt.below hw5 r1.lt r1
   have r1:=RowAt.below hw7 r1.lt r1
   refine Za (y_loadA r1) ?_
   have hl:=(hl.below (hw5.mono (by omega))).below (hw7.mono (by omega))
   refine Zc (rlaid_any (m7.more (B':=w7.heap.size) (by omega)) i (hl.more (B':=w7.heap.size) (by omega)) (Nat.le_refl _) (by rw [cl];exact hN)) rfl rfl ?_
   rintro _ w8 ⟨s8,bs8,rfl,lb8,ub8,g8,hw8⟩
   have zw8:=hw8.size
   refine ZA ?_
   refine ZAnr [6,7] ?_
   have u:=Un (Un u hw7) hw8
   exact eg_ret_tmp2 rfl rfl rfl ⟨_,rfl,_,congrArg (fun q=>Value.tuple #[_,nv q]) ((chaE_yes c4).trans c6).symm,((g8.rowS (by omega)).more (by omega)).cast (cha_ok ((chaE_yes c4).trans c6)).symm,u⟩
  refine Zan (yb (nd_t c6) yi_neq) [1,5,6,7,8,9,22] ?_
  refine cg_ct rfl ?_
  refine ZrM ?_
  refine ZA ?_
  refine ZAnr [1,5,8,6,7] ?_
  refine Qc ?_
  have u:=Un (Un u n1.below) hw2
  have u:=Un (Un u hw3) hw5
  exact eg_ret_tmp2 rfl rfl rfl ⟨_,rfl,nilS,congrArg (fun q=>Value.tuple #[_,nv q]) (chaE_yes c4).symm,(RwNd.nil _ _).cast (cha_no (by rw [chaE_yes c4];exact c6)).symm,u⟩
 refine Zan (yb (dF c4) yi_eql) [1,5,6,7,8,9,18] ?_
 refine Zcf [1,5,6,7,8,9] ?_
 refine Qd ?_
 refine ZrM ?_
 refine Zan (yb (nd_t c4) yi_neq) [1,5,6,7,8,9,22] ?_
 refine cg_ct rfl ?_
 refine ZrM ?_
 refine ZA ?_
 refine ZAnr [1,5,8,6,7] ?_
 refine Qc ?_
 have u:=Un (Un (Un u n1.below) hw2) hw3
 exact eg_ret_tmp2 rfl rfl rfl ⟨_,rfl,nilS,congrArg (fun q=>Value.tuple #[_,nv q]) (chaE_no c4).symm,(RwNd.nil _ _).cast (cha_no (by rw [chaE_no c4];exact c4)).symm,u⟩
theorem rcom_any {W:World} {B:Nat} {s:SlV} {Ls:List Nd} (h:RwNd W B s Ls) (i:Int) {l:LfV} {L:Lf} (hl:IsLf W B l L) {r:SlV} {Ks:List (List Int)} (hk:RwOc W B r Ks) (hB:B≤W.heap.size) (rg:Tb W):Calls Tryz.prog 21 #[s.v,nv i,.agg (l.cs L),r.v] W fun e W'=>∃ v,e=.returned v∧∃ s':SlV,v=.tuple #[s'.v,nv (comE (trAs Ls) i L Ks)]∧RwNd W' W'.heap.size s' (comL (trAs Ls) i L Ks)∧Below W.heap.size W W':=by
 refine Qf (n:=48) Tryz.func21 rfl Tryz.ntmps21 (by simp) ?_
 show CG _ _ _ [(0,s.v),(1,nv i),(2,.agg (l.cs L)),(3,r.v)] _ _
 have u:=Below.refl W.heap.size W
 have h:=h.more hB
 have hlv:=leavesA_eq (trAs Ls)
 have tl:=trAs_le Ls
 have hl:=hl.more hB
 have hk:=hk.more hB
 refine Zr ?_
 refine lg_boxw Wn rfl rfl (by kernel_rfl) rfl (by decide) fun b1 w1 n1=>?_
 have r1:=n1.row
 have k1:=n1.blk
 have z1:=n1.size
 have lt1:b1<w1.heap.size:=by omega
 refine ZA ?_
 refine ZAn [0,1,3,6,8,9] ?_
 refine ZrM ?_
 have h:=h.below (n1.below.mono (by omega))
 refine Zc (as_any h (by omega)) rfl rfl ?_
 rintro _ w2 ⟨s2,rfl,m2,hw2⟩
 have zw2:=hw2.size
 have tl2:=trAs_le Ls
 refine ZAn [1,3,6,8,9,10] ?_
 refine ZrM ?_
 refine ZM ?_
 refine Zc (have_any (m2.more (B':=w2.heap.size) (by omega)) i (Nat.le_refl _) (trAs_is Ls)) rfl rfl ?_
 rintro _ w3 ⟨rfl,hw3⟩
 have zw3:=hw3.size
 refine ZAn [1,3,6,8,9,10,11] ?_
 refine Qd ?_
 refine ZrM ?_
 by_cases c4:(hadE (trAs Ls) i)=0
 ·have hh:=hadE_ok c4
  obtain ⟨hN,_⟩:=had_node (trAs_is Ls) c4
  obtain ⟨ci,cl⟩:=clear_is (trAs_is Ls) hh.1
  refine Zan (yb (dT c4) yi_eql) [1,3,6,8,9,10,11,21] ?_
  refine cg_ct rfl ?_
  refine Qe ?_
  have r1:=RowAt.below hw2 r1.lt r1
  have r1:=RowAt.below hw3 r1.lt r1
  refine Za (y_loadA r1) ?_
  have hl:=((hl.below (n1.below.mono (by omega))).below (hw2.mono (by omega))).below (hw3.mono (by omega))
  refine Zc (rsource_any (hl.more (B':=w3.heap.size) (by omega)) 3 (Nat.le_refl _)) rfl rfl ?_
  rintro _ w5 ⟨rfl,hw5⟩
  have zw5:=hw5.size
  refine ZAn [1,3,6,8,9,10,11] ?_
  refine Qd ?_
  refine ZrM ?_
  by_cases c6:(srcE L 3)=0
  ·refine Zan (yb (nd_f c6) yi_neq) [1,3,6,8,9,10,11,25] ?_
   refine Zcf [1,3,6,8,9,10] ?_
   refine ZrM ?_
   refine ZM ?_
   refine ZM ?_
   have hk:=(hk.below (n1.below.mono (by omega))).below (hw2.mono (by omega))
   have hk:=(hk.below (hw3.mono (by omega))).below (hw5.mono (by omega))
   have m2:=(m2.below (hw3.mono (by omega))).below (hw5.mono (by omega))
   have u:=Un (Un u n1.below) hw2
   have u:=Un (Un u hw3) hw5
   refine Zc ((by have z:=rplan_any (m2.more (B':=w5.heap.size) (by omega)) i (hk.more (B':=w5.heap.size) (by omega)) (Nat.le_refl _) (rg.up u);rwa [trAs_as] at z)) rfl rfl ?_
   rintro _ w7 ⟨s7,r7,rfl,m7,n7,hw7⟩
   have zw7:=hw7.size
   have pl7:=planH_le (trAs Ls) i Ks
   refine ZM ?_
   refine Za y_extract ?_
   refine Za y_extract ?_
   refine Za y_extract ?_
   refine ZA ?_
   refine ZA ?_
   refine ZAn [1,6,8,9,12,13,14] ?_
   refine Qd ?_
   refine ZrM ?_
   by_cases c8:(planE (trAs Ls) i Ks)=0
   ·have hpl:=planP_len c8
    refine Zan (yb (nd_f c8) yi_neq) [1,6,8,9,12,13,14,36] ?_
    refine Zcf [1,6,8,9,12,13] ?_
    refine Qd ?_
    refine ZrM ?_
    have by9:Bytes (planH (trAs Ls) i Ks):=n7.bytes
    refine Za (y_strS n7) ?_
    refine Za (y_fld (off:=3)) ?_
    have r1:=RowAt.below hw5 r1.lt r1
    have r1:=RowAt.below hw7 r1.lt r1
    refine Za (Qo (v:=l.par.v) r1 rfl (by kernel_rfl) rfl rfl) ?_
    have hl:=(hl.below (hw5.mono (by omega))).below (hw7.mono (by omega))
    have by10:Bytes L.par:=hl.par.bytes
    refine Za (y_strS hl.par) ?_
    by_cases c11:(planH (trAs Ls) i Ks)=L.par
    ·refine Zan (yb (nd_f c11) (y_sneS (xs:=(planH (trAs Ls) i Ks)) (ys:=L.par) by9 by10)) [1,6,8,9,12,43] ?_
     refine Zcf [1,6,8,9,12] ?_
     refine ZrM ?_
     refine ZM ?_
     refine Za (y_loadA r1) ?_
     refine Zc (rlaid_any (m7.more (B':=w7.heap.size) (by omega)) i (hl.more (B':=w7.heap.size) (by omega)) (Nat.le_refl _) (by rw [hpl];exact hN)) rfl rfl ?_
     rintro _ w12 ⟨s12,bs12,rfl,lb12,ub12,g12,hw12⟩
     have zw12:=hw12.size
     refine ZA ?_
     refine ZAnr [8,9] ?_
     have u:=Un (Un u hw7) hw12
     exact eg_ret_tmp2 rfl rfl rfl ⟨_,rfl,_,congrArg (fun q=>Value.tuple #[_,nv q]) (comE_is c4 c6 c8 c11.symm).symm,((g12.rowS (by omega)).more (by omega)).cast (com_ok (comE_is c4 c6 c8 c11.symm)).symm,u⟩
    refine Zan (yb (nd_t c11) (y_sneS (xs:=(planH (trAs Ls) i Ks)) (ys:=L.par) by9 by10)) [1,6,8,9,12,43] ?_
    refine cg_ct rfl ?_
    refine ZrA ?_
    refine ZAnr [1,6,12,8,9] ?_
    refine Qc ?_
    have u:=Un u hw7
    exact eg_ret_tmp2 rfl rfl rfl ⟨_,rfl,nilS,congrArg (fun q=>Value.tuple #[_,nv q]) (comE_hash c4 c6 c8 (fun q=>c11 q.symm)).symm,(RwNd.nil _ _).cast (comi_no (by rw [comE_hash c4 c6 c8 (fun q=>c11 q.symm)];decide)).symm,u⟩
   refine Zan (yb (nd_t c8) yi_neq) [1,6,8,9,12,13,14,36] ?_
   refine cg_ct rfl ?_
   refine ZrM ?_
   refine ZA ?_
   refine ZAnr [1,6,12,13,8,9] ?_
   refine Qc ?_
   have u:=Un u hw7
   exact eg_ret_tmp2 rfl rfl rfl ⟨_,rfl,nilS,congrArg (fun q=>Value.tuple #[_,nv q]) (comE_plan c4 c6 c8).symm,(RwNd.nil _ _).cast (comi_no (by rw [comE_plan c4 c6 c8];exact c8)).symm,u⟩
  refine Zan (yb (nd_t c6) yi_neq) [1,3,6,8,9,10,11,25] ?_
  refine cg_ct rfl ?_
  refine ZrM ?_
  refine ZA ?_
  refine ZAnr [1,3,6,10,8,9] ?_
  refine Qc ?_
  have u:=Un (Un u n1.below) hw2
  have u:=Un (Un u hw3) hw5
  exact eg_ret_tmp2 rfl rfl rfl ⟨_,rfl,nilS,congrArg (fun q=>Value.tuple #[_,nv q]) (comE_src c4 c6).symm,(RwNd.nil _ _).cast (comi_no (by rw [comE_src c4 c6];exact c6)).symm,u⟩
 refine Zan (yb (dF c4) yi_eql) [1,3,6,8,9,10,11,21] ?_
 refine Zcf [1,3,6,8,9,10,11] ?_
 refine Qd ?_
 refine ZrM ?_
 refine Zan (yb (nd_t c4) yi_neq) [1,3,6,8,9,10,11,25] ?_
 refine cg_ct rfl ?_
 refine ZrM ?_
 refine ZA ?_
 refine ZAnr [1,3,6,10,8,9] ?_
 refine Qc ?_
 have u:=Un (Un (Un u n1.below) hw2) hw3
 exact eg_ret_tmp2 rfl rfl rfl ⟨_,rfl,nilS,congrArg (fun q=>Value.tuple #[_,nv q]) (comE_had c4).symm,(RwNd.nil _ _).cast (comi_no (by rw [comE_had c4];exact c4)).symm,u⟩
set_option maxHeartbeats 1000000 in
theorem radd_any {W:World} {B:Nat} {s:SlV} {Ls:List Nd} (h:RwNd W B s Ls) {l:LfV} {L:Lf} (hl:IsLf W B l L) (hB:B≤W.heap.size) (rg:Tb W):Calls Tryz.prog 14 #[s.v,.agg (l.cs L)] W fun e W'=>∃ v,e=.returned v∧∃ s':SlV,v=.tuple #[s'.v,nv (addI (trAs Ls) L),nv (addE (trAs Ls) L)]∧RwNd W' W'.heap.size s' (addL (trAs Ls) L)∧Below W.heap.size W W':=by
 refine Qf (n:=78) Tryz.func14 rfl Tryz.ntmps14 (by simp) ?_
 show CG _ _ _ [(0,s.v),(1,.agg (l.cs L))] _ _
 have u:=Below.refl W.heap.size W
 have h:=h.more hB
 have hlv:=leavesA_eq (trAs Ls)
 have tl:=trAs_le Ls
 have hl:=hl.more hB
 refine Zr ?_
 refine lg_boxw Wn rfl rfl (by kernel_rfl) rfl (by decide) fun b1 w1 n1=>?_
 have r1:=n1.row
 have k1:=n1.blk
 have z1:=n1.size
 have lt1:b1<w1.heap.size:=by omega
 refine ZA ?_
 refine ZA ?_
 refine ZAn [0,3,4,5,6] ?_
 refine ZrM ?_
 have h:=h.below (n1.below.mono (by omega))
 refine Zc (as_any h (by omega)) rfl rfl ?_
 rintro _ w2 ⟨s2,rfl,m2,hw2⟩
 have zw2:=hw2.size
 have tl2:=trAs_le Ls
 refine ZAn [3,4,5,6,7] ?_
 refine Zr ?_
 have r1:=RowAt.below hw2 r1.lt r1
 refine Za (y_loadA r1) ?_
 have hl:=(hl.below (n1.below.mono (by omega))).below (hw2.mono (by omega))
 refine Zc (rsource_any (hl.more (B':=w2.heap.size) (by omega)) 1 (Nat.le_refl _)) rfl rfl ?_
 rintro _ w3 ⟨rfl,hw3⟩
 have zw3:=hw3.size
 refine ZAn [3,4,5,6,7,8] ?_
 refine Qd ?_
 refine ZrM ?_
 by_cases c4:(srcE L 1)=0
 ·refine Zan (yb (nd_f c4) yi_neq) [3,4,5,6,7,8,21] ?_
  refine Zcf [3,4,5,6,7] ?_
  refine cg_cut (fun v E'=>∃ (sR:SlV),E'=[(3,pv b1 0),(7,sR.v)]∧IsLf v W.heap.size l L∧RowAt v b1 25 (l.cs L)∧Below W.heap.size W v∧RwNd v v.heap.size sR (roomL (trAs Ls))∧roomE (trAs Ls)=0) ?_ ?_
  ·refine ZrM ?_
   have m2:=m2.below (hw3.mono (by omega))
   refine Zc ((by have z:=rfree_any (m2.more (B':=w3.heap.size) (by omega)) (Nat.le_refl _);rwa [trAs_as] at z)) rfl rfl ?_
   rintro _ w5 ⟨rfl,hw5⟩
   have zw5:=hw5.size
   by_cases c6:(freeA (trAs Ls))<0
   ·refine Zan (yb (dT c6) yi_lss) [3,4,5,6,7,25] ?_
    refine cg_ct rfl ?_
    refine ZrM ?_
    have m2:=m2.below (hw5.mono (by omega))
    refine Zc (rgrow_any (m2.more (B':=w5.heap.size) (by omega)) (Nat.le_refl _)) rfl rfl ?_
    rintro _ w7 ⟨s7,rfl,m7,hw7⟩
    have zw7:=hw7.size
    refine ZM ?_
    refine Za y_extract ?_
    refine Za y_extract ?_
    refine ZA ?_
    refine ZAn [3,4,5,6,7,9,10] ?_
    refine Qd ?_
    refine ZrM ?_
    by_cases c8:(growE (trAs Ls))=0
    ·refine Zan (yb (nd_f c8) yi_neq) [3,4,5,6,7,9,10,32] ?_
     refine Zcf [3,4,5,6,7,9] ?_
     refine Qe ?_
     refine ZM ?_
     refine ZA ?_
     refine Qk ?_
     have hf:freeA (trAs Ls)=-1:=by have:=(freeA_range (trAs Ls)).1;omega
     obtain ⟨rm1,rm2⟩:=room_no hf
     rw [c8] at rm1
     have hl:=((hl.below (hw3.mono (by omega))).below (hw5.mono (by omega))).below (hw7.mono (by omega))
     have r1:=RowAt.below hw3 r1.lt r1
     have r1:=RowAt.below hw5 r1.lt r1
     have r1:=RowAt.below hw7 r1.lt r1
     have u:=Un (Un u n1.below) hw2
     have u:=Un (Un (Un u hw3) hw5) hw7
     exact fun a ha=>⟨_,⟨s7,rfl,hl,r1,u,((m7.more (B':=w7.heap.size) (by omega)).cast rm2.symm),rm1⟩,ha.keep (fk rfl (fk rfl fn))⟩
    refine Zan (yb (nd_t c8) yi_neq) [3,4,5,6,7,9,10,32] ?_
    refine cg_ct rfl ?_
    refine ZrM ?_
    refine ZA ?_
    refine ZA ?_
    refine ZAnr [3,7,9,4,5,6] ?_
    refine Qc ?_
    refine Qc ?_
    have hf:freeA (trAs Ls)=-1:=by have:=(freeA_range (trAs Ls)).1;omega
    have u:=Un (Un u n1.below) hw2
    have u:=Un (Un (Un u hw3) hw5) hw7
    obtain ⟨x1,x2⟩:=add_no (a:=(trAs Ls)) (l:=L) (by rw [(addE_room c4).trans (room_no hf).1];exact c8)
    exact eg_ret_tmp3 rfl rfl rfl rfl ⟨_,rfl,nilS,(by rw [x1,(addE_room c4).trans (room_no hf).1];rfl),(RwNd.nil _ _).cast x2.symm,u⟩
   refine Zan (yb (dF c6) yi_lss) [3,4,5,6,7,25] ?_
   refine cg_cf rfl ?_
   refine cg_skip ?_
   have hf:¬freeA (trAs Ls)=-1:=by omega
   obtain ⟨rm1,rm2⟩:=room_yes hf
   have m2:=m2.below (hw5.mono (by omega))
   have hl:=(hl.below (hw3.mono (by omega))).below (hw5.mono (by omega))
   have r1:=RowAt.below hw3 r1.lt r1
   have r1:=RowAt.below hw5 r1.lt r1
   have u:=Un (Un u n1.below) hw2
   have u:=Un (Un u hw3) hw5
   exact fun a ha=>⟨_,⟨s2,rfl,hl,r1,u,((m2.more (B':=w5.heap.size) (by omega)).cast rm2.symm),rm1⟩,ha.keep (fk rfl (fk rfl fn))⟩
  rintro vc9 _ ⟨sR,rfl,hl,r1,u,hR,rm1⟩
  have zv:=u.size
  have l_r1:=r1.lt
  refine Qd ?_
  obtain ⟨ro0,ro1,ro2,ro3,ro4,_⟩:=room_ok (trAs_is Ls) rm1
  have hra:trAs (roomL (trAs Ls))=(roomL (trAs Ls)):=trAs_ok ro0
  have r4l:=ro4.le
  have hrl:=trIs_le ro0
  refine Qe ?_
  refine ZM ?_
  refine Zc ((by have z:=rfree_any (hR.more (B':=vc9.heap.size) (by omega)) (Nat.le_refl _);rwa [hra] at z)) rfl rfl ?_
  rintro _ w10 ⟨rfl,hw10⟩
  have zw10:=hw10.size
  refine ZAn [3,7,11] ?_
  refine ZrM ?_
  refine ZM ?_
  have r1:=RowAt.below hw10 r1.lt r1
  refine Za (y_loadA r1) ?_
  have hR:=hR.below (hw10.mono (by omega))
  have hl:=hl.below (hw10.mono (by omega))
  refine Zc (rlaid_any (hR.more (B':=w10.heap.size) (by omega)) (freeA (roomL (trAs Ls))) (hl.more (B':=w10.heap.size) (by omega)) (Nat.le_refl _) ro4) rfl rfl ?_
  rintro _ w11 ⟨s11,bs11,rfl,lb11,ub11,g11,hw11⟩
  have zw11:=hw11.size
  refine ZAn [11,12] ?_
  refine Qd ?_
  obtain ⟨ga,gb,gn⟩:=OwnNa.of g11 (Nat.le_refl _) (by omega) (by rw [laid_len];omega)
  have gnl:=gn.lt
  refine Qe ?_
  refine ZM ?_
  refine Za (yi_mul rfl rfl rfl (by omega) (by omega)) ?_
  refine ZM ?_
  refine Za (yv (congrArg nv (show ((laidL (roomL (trAs Ls)) (freeA (roomL (trAs Ls))) L).length:Int)=((roomL (trAs Ls)).length:Int) by rw [laid_len])) (y_lenM (el:=50) gn.row.len (by kernel_rfl) rfl rfl)) ?_
  have u:=Un (Un u hw10) hw11
  refine Zc (rdirectF (2*(freeA (roomL (trAs Ls)))) ((roomL (trAs Ls)).length:Int) _ (rg.up u)) rfl rfl ?_
  rintro _ w12 ⟨s12,rfl,m12,f12,hw12⟩
  have zw12:=hw12.size
  refine ZAn [11,12,13] ?_
  refine Qd ?_
  refine ZrA ?_
  refine Zn [11,12,13,14] ?_
  refine Qj ?_
  obtain ⟨C,hC⟩:∃ q,q=w12.heap.size:=⟨_,rfl⟩
  have dlt:=dirL (2*(freeA (roomL (trAs Ls)))) ((roomL (trAs Ls)).length:Int)
  have gn:=gn.below hw12
  have u:=Un u hw12
  refine Qr (fun t a v=>Holds 78 [(11,nv (freeA (roomL (trAs Ls)))),(12,s11.v),(13,s12.v),(14,nv ((t:Nat):Int))] a∧SlN v C s12 (dirI (2*(freeA (roomL (trAs Ls)))) ((roomL (trAs Ls)).length:Int))∧Below W.heap.size W v∧C≤v.heap.size∧t≤(dirI (2*(freeA (roomL (trAs Ls)))) ((roomL (trAs Ls)).length:Int)).length∧OwnNa v ga v.heap.size s11 (joinW (freeA (roomL (trAs Ls))) ((dirI (2*(freeA (roomL (trAs Ls)))) ((roomL (trAs Ls)).length:Int)).take t) (laidL (roomL (trAs Ls)) (freeA (roomL (trAs Ls))) L))) ((dirI (2*(freeA (roomL (trAs Ls)))) ((roomL (trAs Ls)).length:Int)).length+1) (fun a ha=>⟨ha.keep (fk rfl (fk rfl (fk rfl (fk rfl fn)))),(m12.more (by omega)),u,(by omega),(Nat.zero_le _),gn.up⟩) ?_
  rintro t a v ht ⟨ha,hd,u,cC,tle,go⟩
  refine cg_at ha ?_
  clear ha a
  have zv:=u.size
  have qd:=hd.len
  have jl:=joinW_len (freeA (roomL (trAs Ls))) ((dirI (2*(freeA (roomL (trAs Ls)))) ((roomL (trAs Ls)).length:Int)).take t) (laidL (roomL (trAs Ls)) (freeA (roomL (trAs Ls))) L)
  rw [laid_len] at jl
  have qo:=go.len
  have gl:=go.lt
  refine Qd ?_
  refine ZrM ?_
  refine ZM ?_
  refine Za (y_lenM (el:=3) hd.len) ?_
  by_cases c13:((t:Nat):Int)<((dirI (2*(freeA (roomL (trAs Ls)))) ((roomL (trAs Ls)).length:Int)).length:Int)
  ·refine Zan (yb (dT c13) yi_lss) [11,12,13,14,49] ?_
   refine cg_ct rfl ?_
   refine Zki [11,12,13,14] ?_
   refine Qd ?_
   refine Qj ?_
   refine Qd ?_
   have htn:t<(dirI (2*(freeA (roomL (trAs Ls)))) ((roomL (trAs Ls)).length:Int)).length:=by omega
   have hdn:=dir_all ro4 ((dirI (2*(freeA (roomL (trAs Ls)))) ((roomL (trAs Ls)).length:Int)).getD t 0) (getD_in htn)
   refine Qe ?_
   refine ZM ?_
   refine ZM ?_
   refine ZM ?_
   refine Za (y_ixT (i:=t) (iI:=((t:Nat):Int)) hd (by omega) (by first | omega | (simp only [List.length_append,List.length_cons,List.length_nil];omega)) rfl rfl rfl) ?_
   refine Za (yv (congrArg nv (show ((dirI (2*(freeA (roomL (trAs Ls)))) ((roomL (trAs Ls)).length:Int)).getD t 0)=(((dirI (2*(freeA (roomL (trAs Ls)))) ((roomL (trAs Ls)).length:Int)).getD t 0).toNat:Int) by omega)) (y_ldT (i:=t) hd (by first | omega | (simp only [List.length_append,List.length_cons,List.length_nil];omega)) rfl rfl)) ?_
   refine Za (y_ixR (s:=s11) (el:=50) (k:=8) (i:=(((dirI (2*(freeA (roomL (trAs Ls)))) ((roomL (trAs Ls)).length:Int)).getD t 0).toNat)) (iI:=((((dirI (2*(freeA (roomL (trAs Ls)))) ((roomL (trAs Ls)).length:Int)).getD t 0).toNat:Nat):Int)) go.1 (by kernel_rfl) (by kernel_rfl) (by omega) (by have q1:=go.len;first | omega | (simp only [List.length_append,List.length_cons,List.length_nil,List.length_take,List.length_drop,List.length_set,List.length_replicate,clr_len] at q1;omega)) rfl rfl rfl) ?_
   obtain ⟨el14,eh14,ef14,ec14⟩:=go.at (i:=(((dirI (2*(freeA (roomL (trAs Ls)))) ((roomL (trAs Ls)).length:Int)).getD t 0).toNat)) (by first | omega | (simp only [List.length_append,List.length_cons,List.length_nil,List.length_take,List.length_drop,List.length_set,List.length_replicate,clr_len];omega))
   refine Za (y_loadC (cs:=el14.cs (atN (joinW (freeA (roomL (trAs Ls))) ((dirI (2*(freeA (roomL (trAs Ls)))) ((roomL (trAs Ls)).length:Int)).take t) (laidL (roomL (trAs Ls)) (freeA (roomL (trAs Ls))) L)) (((dirI (2*(freeA (roomL (trAs Ls)))) ((roomL (trAs Ls)).length:Int)).getD t 0).toNat))) ec14) ?_
   refine lg_allocw (cs:=NdV.zero.cs Nd.zero) Wn rfl (by kernel_rfl) rfl (by decide) fun b15 w15 n15=>?_
   have r15:=n15.row
   have k15:=n15.blk
   have z15:=n15.size
   have lt15:b15<w15.heap.size:=by omega
   have o16:=r15
   refine lg_stw Wn r15 rfl rfl rfl (by kernel_rfl) (by kernel_rfl) rfl rfl fun w16 s16=>?_
   have r15:=s16.row
   have z16:=s16.size
   refine Zn [11,12,13,14,15] ?_
   refine Zr ?_
   refine Za (y_fld (off:=0)) ?_
   refine Za (Qo (v:=nv ((atN (joinW (freeA (roomL (trAs Ls))) ((dirI (2*(freeA (roomL (trAs Ls)))) ((roomL (trAs Ls)).length:Int)).take t) (laidL (roomL (trAs Ls)) (freeA (roomL (trAs Ls))) L)) (((dirI (2*(freeA (roomL (trAs Ls)))) ((roomL (trAs Ls)).length:Int)).getD t 0).toNat)).kind)) r15 rfl (by kernel_rfl) rfl rfl) ?_
   by_cases c17:(atN (joinW (freeA (roomL (trAs Ls))) ((dirI (2*(freeA (roomL (trAs Ls)))) ((roomL (trAs Ls)).length:Int)).take t) (laidL (roomL (trAs Ls)) (freeA (roomL (trAs Ls))) L)) (((dirI (2*(freeA (roomL (trAs Ls)))) ((roomL (trAs Ls)).length:Int)).getD t 0).toNat)).kind=2
   ·refine Zan (yb (dT c17) yi_eql) [11,12,13,14,15,61] ?_
    refine cg_ct rfl ?_
    refine Qd ?_
    have hun:=(unm_small (joinW_is (i:=(freeA (roomL (trAs Ls)))) (by omega) (by omega) ((dirI (2*(freeA (roomL (trAs Ls)))) ((roomL (trAs Ls)).length:Int)).take t) (laid_is ro0 (srcE_ok c4).1 ro1)) ((dirI (2*(freeA (roomL (trAs Ls)))) ((roomL (trAs Ls)).length:Int)).getD t 0).toNat).2
    refine Qe ?_
    refine Za (y_fld (off:=5)) ?_
    refine Za (y_fld (off:=2)) ?_
    refine Za (Qo (v:=el14.inner.unm.v) r15 rfl (by kernel_rfl) rfl rfl) ?_
    refine ZM ?_
    have eh14:=(eh14.below (n15.below.mono (by omega))).below (s16.below _ (by omega))
    refine Zc (rjoinF_any (freeA (roomL (trAs Ls))) (eh14.inner.unm.more (B':=w16.heap.size) (by omega)) (Nat.le_refl _) (by first | omega | (simp only [List.length_append,List.length_cons,List.length_nil,numOct_length,flagOct_length];omega))) rfl rfl ?_
    rintro _ w18 ⟨r18,rfl,m18,f18,hw18⟩
    have zw18:=hw18.size
    refine Za (y_fld (off:=5)) ?_
    refine Za (y_fld (off:=2)) ?_
    have r15:=RowAt.below hw18 r15.lt r15
    have o19:=r15
    refine lg_st1 (new:=#[nv ((atN (joinW (freeA (roomL (trAs Ls))) ((dirI (2*(freeA (roomL (trAs Ls)))) ((roomL (trAs Ls)).length:Int)).take t) (laidL (roomL (trAs Ls)) (freeA (roomL (trAs Ls))) L)) (((dirI (2*(freeA (roomL (trAs Ls)))) ((roomL (trAs Ls)).length:Int)).getD t 0).toNat)).kind),el14.leaf.enc.v,el14.leaf.cred.v,nv ((atN (joinW (freeA (roomL (trAs Ls))) ((dirI (2*(freeA (roomL (trAs Ls)))) ((roomL (trAs Ls)).length:Int)).take t) (laidL (roomL (trAs Ls)) (freeA (roomL (trAs Ls))) L)) (((dirI (2*(freeA (roomL (trAs Ls)))) ((roomL (trAs Ls)).length:Int)).getD t 0).toNat)).leaf.src),el14.leaf.par.v,el14.inner.enc.v,el14.inner.hash.v,r18.v]) Wn r15 rfl rfl rfl (by kernel_rfl) rfl (show 7<8 by decide) rfl rfl fun w19 s19=>?_
    have r15:=s19.row
    have z19:=s19.size
    refine Zn [11,12,13,14,15] ?_
    have r15o:=r15
    have hd:=(hd.below (n15.below.mono (by omega))).below (s16.below _ (by omega))
    have hd:=(hd.below (hw18.mono (by omega))).below (s19.below _ (by omega))
    have hdo:=hd
    refine cg_heldS (fun q=>Alt w19 q ga) (by kernel_rfl) (fun W20 eW20=>?_) fun W20 eW20=>?_
    ·exact Below.kept (below_drew _ _ eW20)
    have dW20:=below_drew _ _ eW20
    have zW20:=size_drew _ _ eW20
    clear eW20
    have al0:Alt w19 W20 ga:=Below.kept dW20
    refine hgs_take 0 (by rfl) Wn (by rfl) rfl (by decide) (by kernel_rfl) (by kernel_rfl) (by kernel_rfl) (fun _ _ _ h=>h) al0 (fun q hq=>y_move rfl rfl) ?_
    refine hgs_take 1 (by rfl) Wn (by rfl) rfl (by decide) (by kernel_rfl) (by kernel_rfl) (by kernel_rfl) (fun _ _ _ h=>h) al0 (fun q hq=>y_move rfl rfl) ?_
    refine hgs_take 2 (by rfl) Wn (by rfl) rfl (by decide) (by kernel_rfl) (by kernel_rfl) (by kernel_rfl) (fun _ _ _ h=>h) al0 (fun q hq=>y_move rfl rfl) ?_
    refine hgs_take 3 (by rfl) Wn (by rfl) rfl (by decide) (by kernel_rfl) (by kernel_rfl) (by kernel_rfl) (fun _ _ _ h=>h) al0 (fun q hq=>y_ixT (i:=t) (iI:=((t:Nat):Int)) (hdo.offB (by omega) (OffS.fr f12 (by omega)) hq) (by omega) (by first | omega | (simp only [List.length_append,List.length_cons,List.length_nil];omega)) rfl rfl rfl) ?_
    refine hgs_take 4 (by rfl) Wn (by rfl) rfl (by decide) (by kernel_rfl) (by kernel_rfl) (by kernel_rfl) (fun _ _ _ h=>h) al0 (fun q hq=>yv (congrArg nv (show ((dirI (2*(freeA (roomL (trAs Ls)))) ((roomL (trAs Ls)).length:Int)).getD t 0)=(((dirI (2*(freeA (roomL (trAs Ls)))) ((roomL (trAs Ls)).length:Int)).getD t 0).toNat:Int) by omega)) (y_ldT (i:=t) (hdo.offB (by omega) (OffS.fr f12 (by omega)) hq) (by first | omega | (simp only [List.length_append,List.length_cons,List.length_nil];omega)) rfl rfl)) ?_
    refine hgs_take 5 (by rfl) Wn (by rfl) rfl (by decide) (by kernel_rfl) (by kernel_rfl) (by kernel_rfl) (fun _ _ _ h=>h) al0 (fun q hq=>y_loadA (hq.row (show b15≠ga by omega) r15o) (by kernel_rfl) (by kernel_rfl) rfl rfl) ?_
    have go:=(go.below n15.below).set1 s16 (by omega) (by omega)
    have go:=((go.below hw18).set1 s19 (by omega) (by omega)).below dW20
    refine hgs_take 6 (by rfl) Wn (by rfl) rfl (by decide) (by kernel_rfl) (by kernel_rfl) (by kernel_rfl) (fun _ _ _ h=>h) al0 (fun q hq=>y_ixR (s:=s11) (el:=50) (k:=8) (i:=(((dirI (2*(freeA (roomL (trAs Ls)))) ((roomL (trAs Ls)).length:Int)).getD t 0).toNat)) (iI:=((((dirI (2*(freeA (roomL (trAs Ls)))) ((roomL (trAs Ls)).length:Int)).getD t 0).toNat:Nat):Int)) go.1 (by kernel_rfl) (by kernel_rfl) (by omega) (by have q1:=go.len;first | omega | (simp only [List.length_append,List.length_cons,List.length_nil,List.length_take,List.length_drop,List.length_set,List.length_replicate,clr_len] at q1;omega)) rfl rfl rfl) ?_
    refine hgs_one 7 (by rfl) (by kernel_rfl) Wn ?_
    have eh14:=((eh14.below (hw18.mono (by omega))).below (s19.below _ (by omega))).below (dW20.mono (by omega))
    have m18:=(m18.setf f18 (by omega) s19).below (dW20.mono (by omega))
    refine lg_stA (i:=(((dirI (2*(freeA (roomL (trAs Ls)))) ((roomL (trAs Ls)).length:Int)).getD t 0).toNat)) go (show IsNd W20 W20.heap.size (⟨el14.leaf,(⟨el14.inner.enc,el14.inner.hash,r18⟩:PnV)⟩:NdV) (⟨(atN (joinW (freeA (roomL (trAs Ls))) ((dirI (2*(freeA (roomL (trAs Ls)))) ((roomL (trAs Ls)).length:Int)).take t) (laidL (roomL (trAs Ls)) (freeA (roomL (trAs Ls))) L)) (((dirI (2*(freeA (roomL (trAs Ls)))) ((roomL (trAs Ls)).length:Int)).getD t 0).toNat)).kind,(atN (joinW (freeA (roomL (trAs Ls))) ((dirI (2*(freeA (roomL (trAs Ls)))) ((roomL (trAs Ls)).length:Int)).take t) (laidL (roomL (trAs Ls)) (freeA (roomL (trAs Ls))) L)) (((dirI (2*(freeA (roomL (trAs Ls)))) ((roomL (trAs Ls)).length:Int)).getD t 0).toNat)).leaf,(⟨(atN (joinW (freeA (roomL (trAs Ls))) ((dirI (2*(freeA (roomL (trAs Ls)))) ((roomL (trAs Ls)).length:Int)).take t) (laidL (roomL (trAs Ls)) (freeA (roomL (trAs Ls))) L)) (((dirI (2*(freeA (roomL (trAs Ls)))) ((roomL (trAs Ls)).length:Int)).getD t 0).toNat)).inner.enc,(atN (joinW (freeA (roomL (trAs Ls))) ((dirI (2*(freeA (roomL (trAs Ls)))) ((roomL (trAs Ls)).length:Int)).take t) (laidL (roomL (trAs Ls)) (freeA (roomL (trAs Ls))) L)) (((dirI (2*(freeA (roomL (trAs Ls)))) ((roomL (trAs Ls)).length:Int)).getD t 0).toNat)).inner.hash,(joinK ((atN (joinW (freeA (roomL (trAs Ls))) ((dirI (2*(freeA (roomL (trAs Ls)))) ((roomL (trAs Ls)).length:Int)).take t) (laidL (roomL (trAs Ls)) (freeA (roomL (trAs Ls))) L)) (((dirI (2*(freeA (roomL (trAs Ls)))) ((roomL (trAs Ls)).length:Int)).getD t 0).toNat)).inner.unm) (freeA (roomL (trAs Ls))))⟩:Pn)⟩:Nd) from ⟨(eh14.leaf.more (B':=W20.heap.size) (by omega)),(show IsPn W20 W20.heap.size (⟨el14.inner.enc,el14.inner.hash,r18⟩:PnV) (⟨(atN (joinW (freeA (roomL (trAs Ls))) ((dirI (2*(freeA (roomL (trAs Ls)))) ((roomL (trAs Ls)).length:Int)).take t) (laidL (roomL (trAs Ls)) (freeA (roomL (trAs Ls))) L)) (((dirI (2*(freeA (roomL (trAs Ls)))) ((roomL (trAs Ls)).length:Int)).getD t 0).toNat)).inner.enc,(atN (joinW (freeA (roomL (trAs Ls))) ((dirI (2*(freeA (roomL (trAs Ls)))) ((roomL (trAs Ls)).length:Int)).take t) (laidL (roomL (trAs Ls)) (freeA (roomL (trAs Ls))) L)) (((dirI (2*(freeA (roomL (trAs Ls)))) ((roomL (trAs Ls)).length:Int)).getD t 0).toNat)).inner.hash,(joinK ((atN (joinW (freeA (roomL (trAs Ls))) ((dirI (2*(freeA (roomL (trAs Ls)))) ((roomL (trAs Ls)).length:Int)).take t) (laidL (roomL (trAs Ls)) (freeA (roomL (trAs Ls))) L)) (((dirI (2*(freeA (roomL (trAs Ls)))) ((roomL (trAs Ls)).length:Int)).getD t 0).toNat)).inner.unm) (freeA (roomL (trAs Ls))))⟩:Pn) from ⟨(eh14.inner.enc.more (B':=W20.heap.size) (by omega)),(eh14.inner.hash.more (B':=W20.heap.size) (by omega)),(m18.more (B':=W20.heap.size) (by omega))⟩)⟩) (⟨ef14.enc,ef14.cred,ef14.par,ef14.ienc,ef14.hash,OffS.fr f18 (by omega)⟩) (by first | omega | (simp only [List.length_append,List.length_cons,List.length_nil,List.length_take,List.length_drop,List.length_set,List.length_replicate,clr_len];omega)) Wn rfl rfl rfl rfl fun w21 new21 st21 g21=>?_
    have z21:=st21.size
    have al0:=al0.trans (Set1.alt st21)
    refine hgs_next al0 ?_
    refine hgs_done (by kernel_rfl) ?_
    refine Qi ?_
    refine Nx [11,12,13,14] ?_
    refine Qe ?_
    refine ZM ?_
    refine Za (yv (congrArg nv (show ((t:Nat):Int)+1=((t+1:Nat):Int) by omega)) (yi_add rfl rfl rfl (by omega) (by omega))) ?_
    refine ZA ?_
    refine Qk ?_
    have hd:=(hd.below (dW20.mono (by omega))).offB (by omega) (OffS.fr f12 (by omega)) (Set1.alt st21)
    have u:=Un u n15.below
    have u:=u.trans (s16.below _ (by omega))
    have u:=Un u hw18
    have u:=u.trans (s19.below _ (by omega))
    have u:=Un u dW20
    have u:=u.trans (st21.below _ (by omega))
    exact fun a ha=>(show t<((dirI (2*(freeA (roomL (trAs Ls)))) ((roomL (trAs Ls)).length:Int)).length+1)∧_ from ⟨(by omega),ha.keep (fk rfl (fk rfl (fk rfl (fk rfl fn)))),hd,u,(by omega),(by omega),(g21.up.cast (join_yes htn c17))⟩)
   refine Zan (yb (dF c17) yi_eql) [11,12,13,14,15,61] ?_
   refine cg_cf rfl ?_
   refine cg_skip ?_
   refine Qi ?_
   refine Nx [11,12,13,14] ?_
   refine Qe ?_
   refine ZM ?_
   refine Za (yv (congrArg nv (show ((t:Nat):Int)+1=((t+1:Nat):Int) by omega)) (yi_add rfl rfl rfl (by omega) (by omega))) ?_
   refine ZA ?_
   refine Qk ?_
   have go:=(go.below n15.below).set1 s16 (by omega) (by omega)
   have hd:=(hd.below (n15.below.mono (by omega))).below (s16.below _ (by omega))
   have u:=Un u n15.below
   have u:=u.trans (s16.below _ (by omega))
   exact fun a ha=>(show t<((dirI (2*(freeA (roomL (trAs Ls)))) ((roomL (trAs Ls)).length:Int)).length+1)∧_ from ⟨(by omega),ha.keep (fk rfl (fk rfl (fk rfl (fk rfl fn)))),hd,u,(by omega),(by omega),(go.up.cast (join_no htn c17))⟩)
  refine Zan (yb (dF c13) yi_lss) [11,12,13,14,49] ?_
  refine cg_cf rfl ?_
  refine cg_exit ?_
  refine Qh ?_
  refine Qh ?_
  refine Ql ?_
  refine Nx [11,12] ?_
  refine ZrM ?_
  refine ZM ?_
  refine ZA ?_
  refine ZA ?_
  refine ZAnr [4,5,6] ?_
  obtain rfl:t=(dirI (2*(freeA (roomL (trAs Ls)))) ((roomL (trAs Ls)).length:Int)).length:=by omega
  have hz:addE (trAs Ls) L=0:=(addE_room c4).trans rm1
  obtain ⟨x1,x2⟩:=add_ok hz
  exact eg_ret_tmp3 rfl rfl rfl rfl ⟨_,rfl,s11,by rw [x1,hz],go.row.cast (by rw [List.take_length,x2,join_laid ro4]),u⟩
 refine Zan (yb (nd_t c4) yi_neq) [3,4,5,6,7,8,21] ?_
 refine cg_ct rfl ?_
 refine ZrM ?_
 refine ZA ?_
 refine ZA ?_
 refine ZAnr [3,7,4,5,6] ?_
 refine Qc ?_
 have u:=Un (Un (Un u n1.below) hw2) hw3
 obtain ⟨x1,x2⟩:=add_no (a:=(trAs Ls)) (l:=L) (by rw [addE_src c4];exact c4)
 exact eg_ret_tmp3 rfl rfl rfl rfl ⟨_,rfl,nilS,(by rw [x1,addE_src c4]),(RwNd.nil _ _).cast x2.symm,u⟩
end Go.Proofs.YtfdmhdnlmndhdaaGreatDoor
