/-
  Who made which node: the program.
-/
import Derived.Test.YtfdmhdnlmndhdaaGreatDoorChMath
import Derived.Test.YtfdmhdnlmndhdaaGreatDoorChWk
namespace Go.Proofs.YtfdmhdnlmndhdaaGreatDoor
open Go.ChangeShapes Go.WideShapes Go.ChangeAt Go.RowKit
set_option linter.unusedVariables false

set_option maxRecDepth 20000
/-- An inner node of a tree. -/
def inP (t:List Nd) (x:Int):Prop:=trIs t∧isN x (t.length:Int)∧(atN t x.toNat).kind=2
instance (t:List Nd) (x:Int):Decidable (inP t x):=by unfold inP;infer_instance
def chP (t:List Nd) (x c:Int):Prop:=c=leftI x (t.length:Int)∨c=rightI x (t.length:Int)
instance (t:List Nd) (x c:Int):Decidable (chP t x c):=by unfold chP;infer_instance
theorem Tt.set {w w':World} {b:Nat} {t t0:TypeId} {cs old:Array Value} (st:Set1 w w' b t cs) (h:Tt w) (h1:b≠1) (h2:b≠2):Tt w':=by
 obtain ⟨⟨tg,r⟩,tg2,r2⟩:=h
 exact ⟨⟨tg,st.keep r (Ne.symm h1)⟩,tg2,st.keep r2 (Ne.symm h2)⟩
theorem in_no {t:List Nd} {x:Int} (h:¬inP t x):¬(isN x ((trAs t).length:Int)∧(atN (trAs t) x.toNat).kind=2):=fun q=>by
 by_cases h1:trIs t
 ·rw [trAs_ok h1] at q
  exact h ⟨h1,q⟩
 rw [trAs_no h1] at q
 have:=q.1.le
 simp only [List.length_nil] at this
 omega
theorem no_tree {t:List Nd} {x:Int} (h:¬trIs t):¬isN x ((trAs t).length:Int):=fun q=>by
 rw [trAs_no h] at q
 have:=q.le
 simp only [List.length_nil] at this
 omega
theorem says_any {W:World} {B:Nat} {l:NdV} {L:Nd} (hl:IsNd W B l L) (hB:B≤W.heap.size):Calls Tryz.prog 148 #[.agg (l.cs L)] W fun e W'=>∃ v,e=.returned v∧∃ r:SlV,v=r.v∧Sl W' W'.heap.size r (saysN L)∧Below W.heap.size W W':=by
 have hl:=hl.more hB
 refine Qf (n:=12) Tryz.func148 rfl Tryz.ntmps148 (by simp) ?_
 show CG _ _ _ [(0,.agg (l.cs L))] _ _
 have u:=Below.refl W.heap.size W
 refine Zr ?_
 refine lg_boxw Wn rfl rfl (by kernel_rfl) rfl (by decide) fun b1 w1 n1=>?_
 have r1:=n1.row
 have k1:=n1.blk
 have z1:=n1.size
 have lt1:b1<w1.heap.size:=by omega
 refine ZAn [1,2] ?_
 refine Qd ?_
 refine Zr ?_
 refine Za (y_fld (off:=0)) ?_
 refine Za (Qo (v:=nv L.kind) r1 rfl (by kernel_rfl) rfl rfl) ?_
 by_cases c2:L.kind=1
 ·refine Zan (yb (dT c2) yi_eql) [1,2,5] ?_
  refine cg_ct rfl ?_
  refine Zr ?_
  refine Za (y_fld (off:=1)) ?_
  refine Za (y_fld (off:=3)) ?_
  refine Za (Qo (v:=l.leaf.par.v) r1 rfl (by kernel_rfl) rfl rfl) ?_
  refine ZAnr [1,2] ?_
  refine Qc ?_
  have hl:=hl.below (n1.below.mono (by omega))
  have u:=Un u n1.below
  exact Qa rfl rfl ⟨_,rfl,_,rfl,(by rw [saysN,if_pos c2];exact (hl.leaf.par.more (B':=w1.heap.size) (by omega))),u⟩
 refine Zan (yb (dF c2) yi_eql) [1,2,5] ?_
 refine Zcf [1,2] ?_
 refine Zr ?_
 refine Za (y_fld (off:=5)) ?_
 refine Za (y_fld (off:=1)) ?_
 refine Za (Qo (v:=l.inner.hash.v) r1 rfl (by kernel_rfl) rfl rfl) ?_
 refine ZAnr [2] ?_
 have hl:=hl.below (n1.below.mono (by omega))
 have u:=Un u n1.below
 exact Qa rfl rfl ⟨_,rfl,_,rfl,(by rw [saysN,if_neg c2];exact (hl.inner.hash.more (B':=w1.heap.size) (by omega))),u⟩
theorem isInner_any {W:World} {B:Nat} {s:SlV} {Ls:List Nd} (h:RwNd W B s Ls) (x:Int) (hB:B≤W.heap.size) (rg:Tb W):Calls Tryz.prog 61 #[s.v,nv x] W fun e W'=>∃ v,e=.returned v∧v=.bool (decide (inP Ls x))∧Below W.heap.size W W':=by
 have h:=h.more hB
 refine Qf (n:=21) Tryz.func61 rfl Tryz.ntmps61 (by simp) ?_
 show CG _ _ _ [(0,s.v),(1,nv x)] _ _
 have u:=Below.refl W.heap.size W
 have q1:=h.len
 have q2:=h.cap
 refine ZrA ?_
 refine Zn [0,1,4] ?_
 refine ZrM ?_
 by_cases c1:trIs Ls
 ·refine Zc (sane_any (h.more (B':=W.heap.size) (by omega)) (Nat.le_refl _)) rfl rfl ?_
  rintro u2 w2 ⟨e2,hw2⟩
  have zw2:=hw2.size
  obtain rfl:u2=.bool true:=e2.trans (congrArg Value.bool (decide_eq_true c1))
  refine ZM ?_
  refine Zt 7 y_move ?_
  refine Zt 7 y_move ?_
  have h:=h.below (hw2.mono (by omega))
  refine Zt 7 (y_lenM (el:=50) h.len) ?_
  by_cases c3:isN x (Ls.length:Int)
  ·have lex:=c3.le
   refine Zt 7 (yb (dT c3) (Qp (isL_any x (Ls.length:Int) _))) ?_
   refine Za (y_pick true) ?_
   refine ZM ?_
   refine Zt 13 y_move ?_
   refine Zt 13 y_move ?_
   obtain ⟨eb4,eo4,el4,eL4,eA4,eB4,eg4,eh4,ec4⟩:=h.at (x.toNat) (by have:=h.len;omega)
   refine Zt 13 (y_ixR (s:=s) (el:=50) (k:=8) (i:=x.toNat) (iI:=x) eA4 (by kernel_rfl) (by kernel_rfl) (by omega) (by have:=h.len;omega) rfl rfl rfl) ?_
   refine Zt 13 (y_fld (off:=0)) ?_
   refine Zt 13 (y_celld (ec4 0 _ rfl)) ?_
   by_cases c5:eL4.kind=2
   ·refine Zt 13 (yb (dT c5) yi_eql) ?_
    refine Za (y_pick true) ?_
    refine ZAnr [4] ?_
    have u:=Un u hw2
    exact Qa rfl rfl ⟨_,rfl,congrArg Value.bool (dT ⟨c1,c3,(by rw [atN_some eg4];exact c5)⟩).symm,u⟩
   refine Zt 13 (yb (dF c5) yi_eql) ?_
   refine Za (y_pick true) ?_
   refine ZAnr [4] ?_
   have u:=Un u hw2
   exact Qa rfl rfl ⟨_,rfl,congrArg Value.bool (dF (fun q=>c5 (by have z:=q.2.2;rwa [atN_some eg4] at z))).symm,u⟩
  refine Zt 7 (yb (dF c3) (Qp (isL_any x (Ls.length:Int) _))) ?_
  refine Za (y_pick true) ?_
  refine ZM ?_
  refine Zf 13 ?_
  refine Zf 13 ?_
  refine Zf 13 ?_
  refine Zf 13 ?_
  refine Zf 13 ?_
  refine Zf 13 ?_
  refine Za (y_pick false) ?_
  refine ZAnr [4] ?_
  have u:=Un u hw2
  exact Qa rfl rfl ⟨_,rfl,congrArg Value.bool (dF (fun q=>c3 q.2.1)).symm,u⟩
 refine Zc (sane_any (h.more (B':=W.heap.size) (by omega)) (Nat.le_refl _)) rfl rfl ?_
 rintro u6 w6 ⟨e6,hw6⟩
 have zw6:=hw6.size
 obtain rfl:u6=.bool false:=e6.trans (congrArg Value.bool (decide_eq_false c1))
 refine ZM ?_
 refine Zf 7 ?_
 refine Zf 7 ?_
 refine Zf 7 ?_
 refine Zf 7 ?_
 refine Za (y_pick false) ?_
 refine ZM ?_
 refine Zf 13 ?_
 refine Zf 13 ?_
 refine Zf 13 ?_
 refine Zf 13 ?_
 refine Zf 13 ?_
 refine Zf 13 ?_
 refine Za (y_pick false) ?_
 refine ZAnr [4] ?_
 have u:=Un u hw6
 exact Qa rfl rfl ⟨_,rfl,congrArg Value.bool (dF (fun q=>c1 q.1)).symm,u⟩
theorem isChild_any {W:World} {B:Nat} {s:SlV} {Ls:List Nd} (h:RwNd W B s Ls) (x c:Int) (hB:B≤W.heap.size) (rg:Tb W):Calls Tryz.prog 146 #[s.v,nv x,nv c] W fun e W'=>∃ v,e=.returned v∧v=.bool (decide (chP Ls x c))∧Below W.heap.size W W':=by
 have h:=h.more hB
 refine Qf (n:=21) Tryz.func146 rfl Tryz.ntmps146 (by simp) ?_
 show CG _ _ _ [(0,s.v),(1,nv x),(2,nv c)] _ _
 have u:=Below.refl W.heap.size W
 have q1:=h.len
 have q2:=h.cap
 refine ZrA ?_
 refine Zn [0,1,2,6] ?_
 refine ZrM ?_
 refine ZM ?_
 refine ZM ?_
 refine Za (y_lenM (el:=50) h.len) ?_
 refine Za (Qp (left_any x (Ls.length:Int) _ (rg.up u))) ?_
 by_cases c1:c=(leftI x (Ls.length:Int))
 ·refine Za (yb (dT c1) yi_eql) ?_
  refine ZM ?_
  refine Zf 13 ?_
  refine Zf 13 ?_
  refine Zf 13 ?_
  refine Zf 13 ?_
  refine Zf 13 ?_
  refine Zf 13 ?_
  refine Za (y_pick true) ?_
  refine ZAnr [6] ?_
  exact Qa rfl rfl ⟨_,rfl,congrArg Value.bool (dT (.inl c1)).symm,u⟩
 refine Za (yb (dF c1) yi_eql) ?_
 refine ZM ?_
 refine Zt 13 y_move ?_
 refine Zt 13 y_move ?_
 refine Zt 13 y_move ?_
 refine Zt 13 (y_lenM (el:=50) h.len) ?_
 refine Zt 13 (Qp (right_any x (Ls.length:Int) _ (rg.up u))) ?_
 by_cases c2:c=(rightI x (Ls.length:Int))
 ·refine Zt 13 (yb (dT c2) yi_eql) ?_
  refine Za (y_pick false) ?_
  refine ZAnr [6] ?_
  exact Qa rfl rfl ⟨_,rfl,congrArg Value.bool (dT (.inr c2)).symm,u⟩
 refine Zt 13 (yb (dF c2) yi_eql) ?_
 refine Za (y_pick false) ?_
 refine ZAnr [6] ?_
 exact Qa rfl rfl ⟨_,rfl,congrArg Value.bool (dF (fun q=>q.elim c1 c2)).symm,u⟩
theorem unmerged_any {W:World} {B:Nat} {s:SlV} {Ls:List Nd} (h:RwNd W B s Ls) (hti:trIs Ls) {x:Int} (hx:isN x (Ls.length:Int)) (c:Int) (hB:B≤W.heap.size) (rg:Tb W):Calls Tryz.prog 105 #[s.v,nv x,nv c] W fun e W'=>∃ v,e=.returned v∧∃ r:SlV,v=r.v∧SlN W' W'.heap.size r (unmB Ls x c)∧Below W.heap.size W W':=by
 have h:=h.more hB
 refine Qf (n:=34) Tryz.func105 rfl Tryz.ntmps105 (by simp) ?_
 show CG _ _ _ [(0,s.v),(1,nv x),(2,nv c)] _ _
 have u:=Below.refl W.heap.size W
 have q1:=h.len
 have q2:=h.cap
 have lex:=hx.le
 have hun:=unm_small hti x.toNat
 refine ZrA ?_
 refine Zn [0,1,2,6] ?_
 refine ZrA ?_
 refine Zn [0,1,2,6,7] ?_
 refine Qd ?_
 refine ZrM ?_
 refine ZM ?_
 obtain ⟨eb1,eo1,el1,eL1,eA1,eB1,eg1,eh1,ec1⟩:=h.at (x.toNat) (by have:=h.len;omega)
 refine Za (y_ixR (s:=s) (el:=50) (k:=8) (i:=x.toNat) (iI:=x) eA1 (by kernel_rfl) (by kernel_rfl) (by omega) (by have:=h.len;omega) rfl rfl rfl) ?_
 refine Za (y_fld (off:=5)) ?_
 refine Za (y_fld (off:=2)) ?_
 refine Za (y_celld (ec1 7 _ rfl)) ?_
 refine Za (y_lenM (el:=3) eh1.inner.unm.len) ?_
 refine ZM ?_
 refine Zn [0,2,6,7,15,16,17] ?_
 refine Qj ?_
 obtain ⟨C,hC⟩:∃ q,q=W.heap.size:=⟨_,rfl⟩
 have eL:eL1=atN Ls x.toNat:=(atN_some eg1).symm
 subst eL
 refine Qr (fun t a v=>∃ (qr:SlV),Holds 34 [(0,s.v),(2,nv c),(7,qr.v),(15,el1.inner.unm.v),(16,nv ((atN Ls x.toNat).inner.unm.length:Int)),(17,nv ((t:Nat):Int))] a∧RwNd v W.heap.size s Ls∧SlN v W.heap.size el1.inner.unm (atN Ls x.toNat).inner.unm∧v.ownsRow C 3 1 qr.v ((unmO ((atN Ls x.toNat).inner.unm.take t) c (Ls.length:Int))).length (((unmO ((atN Ls x.toNat).inner.unm.take t) c (Ls.length:Int))).map (Value.int .i64))∧Below W.heap.size W v∧C≤v.heap.size∧t≤(atN Ls x.toNat).inner.unm.length∧W.heap.size≤C) ((atN Ls x.toNat).inner.unm.length+1) (fun a ha=>⟨nilS,ha.keep (fk rfl (fk rfl (fk rfl (fk rfl (fk rfl (fk rfl fn)))))),h,(eh1.inner.unm.more (by omega)),(own_nilN _ _),u,(by omega),(Nat.zero_le _),(by omega)⟩) ?_
 rintro t a v ht ⟨qr,ha,h,hu,g0,u,cC,tle,cW⟩
 refine cg_at ha ?_
 clear ha a
 have zv:=u.size
 have q1:=h.len
 have q2:=h.cap
 have ul:=unmO_le ((atN Ls x.toNat).inner.unm.take t) c (Ls.length:Int)
 rw [List.length_take] at ul
 have le_u:=hu.len;have ca_u:=hu.cap
 refine Zr ?_
 by_cases c2:((t:Nat):Int)<((atN Ls x.toNat).inner.unm.length:Int)
 ·refine Zan (yb (dT c2) yi_lss) [0,2,7,15,16,17,18] ?_
  refine Qd ?_
  refine cg_ct rfl ?_
  refine Zki [0,2,7,15,16,17] ?_
  refine Qd ?_
  refine Qj ?_
  refine Qd ?_
  have htn:t<(atN Ls x.toNat).inner.unm.length:=by omega
  have hub:=hun.1 _ (getD_mem htn)
  refine Qe ?_
  refine Za (y_ixT (i:=t) (iI:=((t:Nat):Int)) hu (by omega) (by first | omega | (simp only [List.length_append,List.length_cons,List.length_nil];omega)) rfl rfl rfl) ?_
  refine Za (y_ldT (i:=t) hu (by first | omega | (simp only [List.length_append,List.length_cons,List.length_nil];omega)) rfl rfl) ?_
  refine ZAn [0,2,7,15,16,17,9] ?_
  refine ZrM ?_
  refine Za (yi_mul rfl rfl rfl (by omega) (by omega)) ?_
  refine ZM ?_
  refine ZM ?_
  refine Za (y_lenM (el:=50) h.len) ?_
  by_cases c3:undI (2*(((atN Ls x.toNat).inner.unm).getD t 0)) c (Ls.length:Int)
  ·refine Zc (under_any (2*(((atN Ls x.toNat).inner.unm).getD t 0)) c (Ls.length:Int) _ (rg.up u)) rfl rfl ?_
   rintro u4 w4 ⟨e4,hw4⟩
   have zw4:=hw4.size
   obtain rfl:u4=.bool true:=e4.trans (congrArg Value.bool (decide_eq_true c3))
   refine Znt [0,2,7,15,16,17,9,26] ?_
   refine Qe ?_
   refine ZM ?_
   refine ZM ?_
   refine Za (yi_mul rfl rfl rfl (by omega) (by omega)) ?_
   refine lg_bslice (el:=3) (z:=nv 0) (cs:=#[nv (2*(((atN Ls x.toNat).inner.unm).getD t 0))]) huIs (by kernel_rfl) (by decide) (by decide) rfl rfl (by kernel_rfl) rfl rfl (by decide) fun b5 w5 n5=>?_
   have r5:=n5.row
   have k5:=n5.blk
   have z5:=n5.size
   have m5:SlN w5 (b5+1) ⟨some ⟨b5,0,none⟩,1,1⟩ [(2*(((atN Ls x.toNat).inner.unm).getD t 0))]:=new_SlN (xs:=[(2*(((atN Ls x.toNat).inner.unm).getD t 0))]) r5 rfl (of_decide_eq_true (by kernel_rfl))
   have og5:w5.ownsRow b5 3 1 (.slice (some ⟨b5,0,none⟩) 1 1) ([(2*(((atN Ls x.toNat).inner.unm).getD t 0))]:List Int).length (([(2*(((atN Ls x.toNat).inner.unm).getD t 0))]:List Int).map (Value.int .i64)):=new_ownN (xs:=[(2*(((atN Ls x.toNat).inner.unm).getD t 0))]) n5 rfl (of_decide_eq_true (by kernel_rfl))
   have g0:=own_below g0 hw4
   have g0:=own_below g0 n5.below
   refine lg_appT g0 m5 (by first | omega | (simp only [List.length_cons,List.length_nil];omega)) (by omega) Wn rfl rfl rfl rfl rfl (by decide) fun r6 w6 m6 g6 l6 z6=>?_
   refine ZA ?_
   refine Qk ?_
   refine Qi ?_
   refine Nx [0,2,15,16,17,7] ?_
   refine Qe ?_
   refine Za (yv (congrArg nv (show ((t:Nat):Int)+1=((t+1:Nat):Int) by omega)) (yi_add rfl rfl rfl (by omega) (by omega))) ?_
   refine ZM ?_
   refine Qk ?_
   have h:=((h.below (hw4.mono (by omega))).below (n5.below.mono (by omega))).below (l6.mono (by omega))
   have hu:=((hu.below (hw4.mono (by omega))).below (n5.below.mono (by omega))).below (l6.mono (by omega))
   have u:=Un (Un u hw4) n5.below
   have u:=u.trans (l6.mono (by omega))
   exact fun a ha=>(show t<((atN Ls x.toNat).inner.unm.length+1)∧_ from ⟨(by omega),r6,ha.keep (fk rfl (fk rfl (fk rfl (fk rfl (fk rfl (fk rfl fn)))))),h,hu,(own_castN g6 (by rw [unmO_take htn,if_pos c3])),u,(by omega),(by omega),cW⟩)
  refine Zc (under_any (2*(((atN Ls x.toNat).inner.unm).getD t 0)) c (Ls.length:Int) _ (rg.up u)) rfl rfl ?_
  rintro u7 w7 ⟨e7,hw7⟩
  have zw7:=hw7.size
  obtain rfl:u7=.bool false:=e7.trans (congrArg Value.bool (decide_eq_false c3))
  refine Zn [0,2,7,15,16,17,9,26] ?_
  refine cg_cf rfl ?_
  refine cg_skip ?_
  refine Qi ?_
  refine Nx [0,2,7,15,16,17] ?_
  refine Qe ?_
  refine Za (yv (congrArg nv (show ((t:Nat):Int)+1=((t+1:Nat):Int) by omega)) (yi_add rfl rfl rfl (by omega) (by omega))) ?_
  refine ZM ?_
  refine Qk ?_
  have g0:=own_below g0 hw7
  have h:=h.below (hw7.mono (by omega))
  have hu:=hu.below (hw7.mono (by omega))
  have u:=Un u hw7
  exact fun a ha=>(show t<((atN Ls x.toNat).inner.unm.length+1)∧_ from ⟨(by omega),qr,ha.keep (fk rfl (fk rfl (fk rfl (fk rfl (fk rfl (fk rfl fn)))))),h,hu,(own_castN g0 (by rw [unmO_take htn,if_neg c3,List.append_nil])),u,(by omega),(by omega),cW⟩)
 refine Zan (yb (dF c2) yi_lss) [0,2,7,15,16,17,18] ?_
 refine Qd ?_
 refine cg_cf rfl ?_
 refine cg_exit ?_
 refine Qh ?_
 refine Qh ?_
 refine Ql ?_
 refine Nx [7] ?_
 refine ZrM ?_
 refine ZAnr [6] ?_
 obtain rfl:t=(atN Ls x.toNat).inner.unm.length:=by omega
 exact Qa rfl rfl ⟨_,rfl,_,rfl,own_num (own_castN g0 (by rw [List.take_length];rfl)),u⟩
theorem sumF_any {W:World} {B:Nat} {s:SlV} {xs:List Int} (h:Sl W B s xs) (hB:B≤W.heap.size) (hl:xs.length≤100000) (tt:Tt W):Calls Tryz.prog 132 #[s.v] W fun e W'=>∃ v,e=.returned v∧∃ r:SlV,v=r.v∧Hs W' r (sumL xs)∧Fr W.heap.size r∧Below W.heap.size W W':=by
 obtain ⟨tg,r⟩:=tt.k
 refine (sumT_any s.A s.m s.c xs W r (h.2.2.more hB) h.1 (by have:=h.len;omega)).mono ?_
 rintro e W' ⟨v,rfl,hs⟩
 exact ⟨v,rfl,Hs.ofF hs⟩
theorem pn_small {t:List Nd} (ht:trIs t) (i:Nat):(atN t i).inner.enc.length≤200∧(atN t i).inner.hash.length≤200:=by
 rcases nd_cases (trIs_ok ht i).1 with e | ⟨_,e,_⟩ | ⟨_,_,e⟩
 ·rw [e]
  exact ⟨Nat.zero_le _,Nat.zero_le _⟩
 ·rw [e]
  exact ⟨Nat.zero_le _,Nat.zero_le _⟩
 exact ⟨(pnCheck_ok e).2.1,(pnCheck_ok e).2.2.1⟩
theorem gives_any {W:World} {B:Nat} {s:SlV} {Ls:List Nd} (h:RwNd W B s Ls) (hti:trIs Ls) {x:Int} (hx:isN x (Ls.length:Int)) (b:Int) (hB:B≤W.heap.size) (rg:Tt W):Calls Tryz.prog 97 #[s.v,nv x,nv b] W fun e W'=>∃ v,e=.returned v∧∃ r:SlV,v=r.v∧Hs W' r (givesL Ls x b)∧Fr W.heap.size r∧Below W.heap.size W W':=by
 have h:=h.more hB
 refine Qf (n:=21) Tryz.func97 rfl Tryz.ntmps97 (by simp) ?_
 show CG _ _ _ [(0,s.v),(1,nv x),(2,nv b)] _ _
 have u:=Below.refl W.heap.size W
 have q1:=h.len
 have q2:=h.cap
 have lex:=hx.le
 have hta:=trAs_ok hti
 have hun:=(unm_small hti x.toNat).2
 have hpl:=pn_small hti x.toNat
 refine ZrA ?_
 refine Zn [0,1,2,6] ?_
 refine ZrM ?_
 refine ZM ?_
 obtain ⟨eb1,eo1,el1,eL1,eA1,eB1,eg1,eh1,ec1⟩:=h.at (x.toNat) (by have:=h.len;omega)
 refine Za (y_ixR (s:=s) (el:=50) (k:=8) (i:=x.toNat) (iI:=x) eA1 (by kernel_rfl) (by kernel_rfl) (by omega) (by have:=h.len;omega) rfl rfl rfl) ?_
 refine Za (y_fld (off:=5)) ?_
 refine Za (y_loadC (cs:=el1.inner.cs eL1.inner) (nd_sub ec1)) ?_
 refine lg_allocw (cs:=PnV.zero.cs Pn.zero) Wn rfl (by kernel_rfl) rfl (by decide) fun b2 w2 n2=>?_
 have r2:=n2.row
 have k2:=n2.blk
 have z2:=n2.size
 have lt2:b2<w2.heap.size:=by omega
 have o3:=r2
 refine lg_stw Wn r2 rfl rfl rfl (by kernel_rfl) (by kernel_rfl) rfl rfl fun w3 s3=>?_
 have r2:=s3.row
 have z3:=s3.size
 refine Zn [0,2,6,7] ?_
 refine Qd ?_
 have eL:eL1=atN Ls x.toNat:=(atN_some eg1).symm
 subst eL
 refine cg_held (by kernel_rfl) fun W4 eW4=>?_
 have dW4:=below_drew _ _ eW4
 have zW4:=size_drew _ _ eW4
 clear eW4
 have r2:=RowAt.below dW4 r2.lt r2
 refine Zh 0 (fun q hq=>y_loadA (RowAt.below hq r2.lt r2) (by kernel_rfl) (by kernel_rfl) rfl rfl) ?_
 refine Zh 1 (fun q hq=>y_move rfl rfl) ?_
 refine Zh 2 (fun q hq=>y_move rfl rfl) ?_
 refine Zh 3 (fun q hq=>y_fld (off:=2) (by kernel_rfl) rfl rfl) ?_
 refine Zh 4 (fun q hq=>Qo (v:=el1.inner.unm.v) (RowAt.below hq r2.lt r2) rfl (by kernel_rfl) rfl rfl) ?_
 have h:=((h.below (n2.below.mono (by omega))).below (s3.below _ (by omega))).below (dW4.mono (by omega))
 have eh1:=((eh1.below (n2.below.mono (by omega))).below (s3.below _ (by omega))).below (dW4.mono (by omega))
 have u:=Un u n2.below
 have u:=u.trans (s3.below _ (by omega))
 have u:=Un u dW4
 refine Zo 5 ?_
 refine Zc (without_any (h.more (B':=W4.heap.size) (by omega)) b (eh1.inner.unm.more (B':=W4.heap.size) (by omega)) (Nat.le_refl _) (by first | omega | (simp only [List.length_append,List.length_cons,List.length_nil,numOct_length,flagOct_length];omega)) (Tt.up u rg)) rfl rfl ?_
 rintro _ w5 ⟨r5,rfl,m5,hw5⟩
 have zw5:=hw5.size
 have ol5:=ofH_len (dropL ((atN Ls x.toNat).inner.unm) (trAs Ls)) b
 refine hg_next hw5 ?_
 refine hg_up hw5 ?_
 have eh1:=eh1.below (hw5.mono (by omega))
 refine Zo 6 ?_
 refine Zc (ofParentN_any (eh1.inner.more (B':=w5.heap.size) (by omega)) (m5.more (B':=w5.heap.size) (by omega)) (Nat.le_refl _) (by first | omega | (simp only [List.length_append,List.length_cons,List.length_nil,numOct_length,flagOct_length];omega)) (by first | omega | (simp only [List.length_append,List.length_cons,List.length_nil,numOct_length,flagOct_length];omega)) (by first | omega | (simp only [List.length_append,List.length_cons,List.length_nil,numOct_length,flagOct_length];omega))) rfl rfl ?_
 rintro _ w6 ⟨r6,rfl,m6,hw6⟩
 have zw6:=hw6.size
 have lp6:=ofParentO_le (atN Ls x.toNat).inner (ofH (dropL ((atN Ls x.toNat).inner.unm) (trAs Ls)) b)
 refine hg_next hw6 ?_
 refine hg_up hw6 ?_
 have u:=Un (Un u hw5) hw6
 refine Zo 7 ?_
 refine Zc (sumF_any (m6.more (B':=w6.heap.size) (by omega)) (Nat.le_refl _) (by first | omega | (simp only [List.length_append,List.length_cons,List.length_nil,numOct_length,flagOct_length];omega)) (Tt.up u rg)) rfl rfl ?_
 rintro _ w7 ⟨r7,rfl,m7,f7,hw7⟩
 have zw7:=hw7.size
 refine hg_next hw7 ?_
 refine hg_up hw7 ?_
 refine Zh 8 (fun q hq=>y_assign rfl rfl) ?_
 refine hg_done (by kernel_rfl) ?_
 refine Nx [6] ?_
 refine cg_ret ?_
 have u:=Un u hw7
 exact Qa rfl rfl ⟨_,rfl,_,rfl,(by have z:=m7;rwa [hta] at z),Fr.le f7 (by omega),u⟩
theorem wrong_any {W:World} {B:Nat} {s:SlV} {Xs:List (List Int)} (h:RwOc W B s Xs) (hB:B≤W.heap.size):Calls Tryz.prog 95 #[s.v] W fun e W'=>∃ v,e=.returned v∧v=nv (keysE Xs)∧Below W.heap.size W W':=by
 have h:=h.more hB
 refine Qf (n:=19) Tryz.func95 rfl Tryz.ntmps95 (by simp) ?_
 show CG _ _ _ [(0,s.v)] _ _
 have u:=Below.refl W.heap.size W
 have q1:=h.len
 have q2:=h.cap
 refine ZrA ?_
 refine Zn [0,2] ?_
 refine Qd ?_
 refine ZrM ?_
 refine Za (y_lenM (el:=23) h.len) ?_
 refine ZM ?_
 refine Zn [2,6,7,8] ?_
 refine Qj ?_
 refine Qr (fun t a v=>Holds 19 [(6,s.v),(7,nv (Xs.length:Int)),(8,nv ((t:Nat):Int))] a∧RwOc v W.heap.size s Xs∧Below W.heap.size W v∧(∀ i,i<t→keyE (Xs.getD i [])=0)∧t≤Xs.length) (Xs.length+1) (fun a ha=>⟨ha.keep (fk rfl (fk rfl (fk rfl fn))),h,u,(fun i hi=>absurd hi (Nat.not_lt_zero _)),(Nat.zero_le _)⟩) ?_
 rintro t a v ht ⟨ha,h,u,he,tle⟩
 refine cg_at ha ?_
 clear ha a
 have zv:=u.size
 have q1:=h.len
 have q2:=h.cap
 refine Zr ?_
 by_cases c1:((t:Nat):Int)<(Xs.length:Int)
 ·refine Zan (yb (dT c1) yi_lss) [6,7,8,9] ?_
  refine Qd ?_
  refine cg_ct rfl ?_
  refine Zki [6,7,8] ?_
  refine Qd ?_
  refine Qj ?_
  refine Zr ?_
  obtain ⟨eb2,eo2,er2,eA2,eB2,eh2,ec2⟩:=h.at (t) (by have:=h.len;first | omega | (simp only [allH_len,allN_len,List.length_append,List.length_cons,List.length_nil] at this;omega))
  refine Za (y_ixR (s:=s) (el:=23) (k:=1) (i:=t) (iI:=((t:Nat):Int)) eA2 (by kernel_rfl) (by kernel_rfl) (by omega) (by have:=h.len;first | omega | (simp only [allH_len,allN_len,List.length_append,List.length_cons,List.length_nil] at this;omega)) rfl rfl rfl) ?_
  refine Za (y_celld (ec2)) ?_
  refine ZAn [6,7,8,4] ?_
  refine ZrM ?_
  refine Za (y_build (cs:=(⟨er2,nilS,nilS⟩:PnV).cs (⟨(Xs.getD t []),[],[]⟩:Pn))) ?_
  refine Zc (checkP_any (show IsPn v v.heap.size (⟨er2,nilS,nilS⟩:PnV) (⟨(Xs.getD t []),[],[]⟩:Pn) from ⟨(eh2.more (B':=v.heap.size) (by omega)),((Sl.nil _ 0).more (B':=v.heap.size) (by omega)),((SlN.nil _ 0).more (B':=v.heap.size) (by omega))⟩) (Nat.le_refl _)) rfl rfl ?_
  rintro _ w3 ⟨rfl,hw3⟩
  have zw3:=hw3.size
  refine ZAn [6,7,8,5] ?_
  refine ZrM ?_
  by_cases c4:(pnCheck (⟨(Xs.getD t []),[],[]⟩:Pn))=0
  ·refine Zan (yb (nd_f c4) yi_neq) [6,7,8,5,16] ?_
   refine cg_cf rfl ?_
   refine cg_skip ?_
   refine Qi ?_
   refine Nx [6,7,8] ?_
   refine Qe ?_
   refine Za (yv (congrArg nv (show ((t:Nat):Int)+1=((t+1:Nat):Int) by omega)) (yi_add rfl rfl rfl (by omega) (by omega))) ?_
   refine ZM ?_
   refine Qk ?_
   have h:=h.below (hw3.mono (by omega))
   have u:=Un u hw3
   exact fun a ha=>(show t<(Xs.length+1)∧_ from ⟨(by omega),ha.keep (fk rfl (fk rfl (fk rfl fn))),h,u,(fun i hi=>if q:i<t then he i q else by
     obtain rfl:i=t:=by omega
     exact (pn_key _).symm.trans c4),(by omega)⟩)
  refine Zan (yb (nd_t c4) yi_neq) [6,7,8,5,16] ?_
  refine cg_ct rfl ?_
  refine ZrM ?_
  refine ZAnr [6,7,8,2] ?_
  refine Qg ?_
  refine Qc ?_
  refine Qc ?_
  refine Qg ?_
  refine Qc ?_
  have u:=Un u hw3
  have hk:¬keyE (Xs.getD t [])=0:=fun q=>c4 ((pn_key _).trans q)
  exact Qa rfl rfl ⟨_,rfl,congrArg nv ((pn_key _).trans (keysE_first he (by omega) hk).symm),u⟩
 refine Zan (yb (dF c1) yi_lss) [6,7,8,9] ?_
 refine Qd ?_
 refine cg_cf rfl ?_
 refine cg_exit ?_
 refine Qh ?_
 refine Qh ?_
 refine Ql ?_
 refine nx (E':=[]) fn ?_
 refine ZrA ?_
 refine Znr [2] ?_
 exact Qa rfl rfl ⟨_,rfl,congrArg nv (keysE_none fun i hi=>he i (by omega)).symm,u⟩
theorem link_any {W:World} {B:Nat} {s:SlV} {Ls:List Nd} (h:RwNd W B s Ls) (x c d:Int) (hB:B≤W.heap.size) (rg:Tt W):Calls Tryz.prog 108 #[s.v,nv x,nv c,nv d] W fun e W'=>∃ v,e=.returned v∧v=.bool (decide (linkL (trAs Ls) x c d))∧Below W.heap.size W W':=by
 have h:=h.more hB
 refine Qf (n:=60) Tryz.func108 rfl Tryz.ntmps108 (by simp) ?_
 show CG _ _ _ [(0,s.v),(1,nv x),(2,nv c),(3,nv d)] _ _
 have u:=Below.refl W.heap.size W
 have q1:=h.len
 have q2:=h.cap
 refine ZrA ?_
 refine Zn [0,1,2,3,8] ?_
 refine Qd ?_
 refine ZrM ?_
 refine ZM ?_
 by_cases c1:inP Ls x
 ·obtain ⟨hti,hx,hk2⟩:=id c1
  have hta:=trAs_ok hti
  have rl:=res_len (trAs_is Ls) c
  refine Zc (isInner_any (h.more (B':=W.heap.size) (by omega)) x (Nat.le_refl _) (Tt.up u rg).b) rfl rfl ?_
  rintro u2 w2 ⟨e2,hw2⟩
  have zw2:=hw2.size
  obtain rfl:u2=.bool true:=e2.trans (congrArg Value.bool (decide_eq_true c1))
  refine Za y_bnot ?_
  refine ZM ?_
  refine Zt 14 y_move ?_
  refine Zt 14 y_move ?_
  refine Zt 14 y_move ?_
  have h:=h.below (hw2.mono (by omega))
  have u:=Un u hw2
  by_cases c3:chP Ls x c
  ·refine Zct 14 (isChild_any (h.more (B':=w2.heap.size) (by omega)) x c (Nat.le_refl _) (Tt.up u rg).b) rfl rfl ?_
   rintro u4 w4 ⟨e4,hw4⟩
   have zw4:=hw4.size
   obtain rfl:u4=.bool true:=e4.trans (congrArg Value.bool (decide_eq_true c3))
   refine Zt 14 y_bnot ?_
   refine Za (y_pick false) ?_
   refine ZM ?_
   refine Zt 21 y_move ?_
   refine Zt 21 y_move ?_
   have h:=h.below (hw4.mono (by omega))
   refine Zt 21 (y_lenM (el:=50) h.len) ?_
   by_cases c5:isN d (Ls.length:Int)
   ·have led:=c5.le
    refine Zt 21 (yb (dT c5) (Qp (isL_any d (Ls.length:Int) _))) ?_
    refine Zt 21 y_bnot ?_
    refine Zan (y_pick false) [0,1,2,3,8,27] ?_
    refine Zcf [0,1,2,3,8] ?_
    refine ZrM ?_
    refine ZM ?_
    have u:=Un u hw4
    refine Zc (resolve_any (h.more (B':=w4.heap.size) (by omega)) c (Nat.le_refl _) (Tt.up u rg).b) rfl rfl ?_
    rintro _ w6 ⟨s6,rfl,m6,hw6⟩
    have zw6:=hw6.size
    refine ZAn [0,1,2,3,8,9] ?_
    refine Qd ?_
    refine ZrM ?_
    refine ZM ?_
    by_cases c7:d∈(resL (trAs Ls) c)
    ·refine Za (yb (dT c7) (Qp (containsI_any m6 d))) ?_
     refine Za y_bnot ?_
     refine ZM ?_
     refine Zt 35 y_move ?_
     refine Zt 35 y_move ?_
     refine lg_bsliceW (el:=3) (z:=nv 0) (cs:=#[nv d]) (want_t (dj:=35) (by rfl) (by kernel_rfl) rfl) huIs (by kernel_rfl) (by decide) (by decide) rfl rfl (by kernel_rfl) rfl (by decide) fun b8 w8 n8=>?_
     have r8:=n8.row
     have k8:=n8.blk
     have z8:=n8.size
     have m8:SlN w8 (b8+1) ⟨some ⟨b8,0,none⟩,1,1⟩ [d]:=new_SlN (xs:=[d]) r8 rfl (of_decide_eq_true (by kernel_rfl))
     have og8:w8.ownsRow b8 3 1 (.slice (some ⟨b8,0,none⟩) 1 1) ([d]:List Int).length (([d]:List Int).map (Value.int .i64)):=new_ownN (xs:=[d]) n8 rfl (of_decide_eq_true (by kernel_rfl))
     have m6:=m6.below (n8.below.mono (by omega))
     refine Zct 35 (cutP_any m6 m8 (by omega) (by omega) (by first | omega | (simp only [List.length_append,List.length_cons,List.length_nil,numOct_length,flagOct_length];omega)) (by first | omega | (simp only [List.length_cons,List.length_nil];omega))) rfl rfl ?_
     rintro _ w9 ⟨r9,rfl,m9,hw9⟩
     have zw9:=hw9.size
     have cl9:=cutK_length (resL (trAs Ls) c) ([d]:List Int)
     refine Zt 35 y_move ?_
     refine Zt 35 y_move ?_
     refine Zt 35 y_move ?_
     have h:=((h.below (hw6.mono (by omega))).below (n8.below.mono (by omega))).below (hw9.mono (by omega))
     have u:=Un (Un (Un u hw6) n8.below) hw9
     refine Zct 35 (unmerged_any (h.more (B':=w9.heap.size) (by omega)) hti hx c (Nat.le_refl _) (Tt.up u rg).b) rfl rfl ?_
     rintro _ w10 ⟨r10,rfl,m10,hw10⟩
     have zw10:=hw10.size
     have ul10:(unmB Ls x c).length≤64:=Nat.le_trans (unmO_le _ _ _) (unm_small hti _).2
     have m9:=m9.below (hw10.mono (by omega))
     by_cases c11:(cutK (resL (trAs Ls) c) ([d]:List Int))=(unmB Ls x c)
     ·refine Zct 35 (equalN_S m9 m10 (by omega) (by omega)) rfl rfl ?_
      rintro u12 w12 ⟨e12,hw12⟩
      have zw12:=hw12.size
      obtain rfl:u12=.bool true:=e12.trans (congrArg Value.bool (decide_eq_true c11))
      refine Zt 35 y_bnot ?_
      refine Zan (y_pick false) [0,1,2,3,8,46] ?_
      refine Zcf [0,1,2,3,8] ?_
      refine ZrM ?_
      refine ZM ?_
      have h:=(h.below (hw10.mono (by omega))).below (hw12.mono (by omega))
      obtain ⟨eb13,eo13,el13,eL13,eA13,eB13,eg13,eh13,ec13⟩:=h.at (d.toNat) (by have:=h.len;omega)
      refine Za (y_ixR (s:=s) (el:=50) (k:=8) (i:=d.toNat) (iI:=d) eA13 (by kernel_rfl) (by kernel_rfl) (by omega) (by have:=h.len;omega) rfl rfl rfl) ?_
      refine Za (y_loadC (cs:=el13.cs eL13) ec13) ?_
      refine Zc (says_any (eh13.more (B':=w12.heap.size) (by omega)) (Nat.le_refl _)) rfl rfl ?_
      rintro _ w14 ⟨r14,rfl,m14,hw14⟩
      have zw14:=hw14.size
      refine ZM ?_
      refine ZM ?_
      refine ZM ?_
      refine ZM ?_
      have h:=h.below (hw14.mono (by omega))
      refine Za (y_lenM (el:=50) h.len) ?_
      have u:=Un (Un (Un u hw10) hw12) hw14
      refine Za (Qp (sibling_any c (Ls.length:Int) _ (Tt.up u rg).b)) ?_
      refine Zc (gives_any (h.more (B':=w14.heap.size) (by omega)) hti hx (sibI c (Ls.length:Int)) (Nat.le_refl _) (Tt.up u rg)) rfl rfl ?_
      rintro _ w15 ⟨r15,rfl,m15,f15,hw15⟩
      have zw15:=hw15.size
      have gl15:=gives_len Ls x (sibI c (Ls.length:Int))
      have m14:=m14.below (hw15.mono (by omega))
      by_cases c16:(saysN eL13)=(givesL Ls x (sibI c (Ls.length:Int)))
      ·refine Za (yb (dT c16) (Qp (bytesEq_S m14 m15.1))) ?_
       refine ZAnr [8] ?_
       have u:=Un u hw15
       exact Qa rfl rfl ⟨_,rfl,congrArg Value.bool (dT (by rw [hta];exact ⟨hx,hk2,c3,(by have z:=c7;rwa [hta] at z),(by have z:=c11;rwa [hta] at z),(by rw [atN_some eg13];exact c16)⟩)).symm,u⟩
      refine Za (yb (dF c16) (Qp (bytesEq_S m14 m15.1))) ?_
      refine ZAnr [8] ?_
      have u:=Un u hw15
      exact Qa rfl rfl ⟨_,rfl,congrArg Value.bool (dF (fun q=>c16 (by have z:=q.2.2.2.2.2;rwa [hta,atN_some eg13] at z))).symm,u⟩
     refine Zct 35 (equalN_S m9 m10 (by omega) (by omega)) rfl rfl ?_
     rintro u17 w17 ⟨e17,hw17⟩
     have zw17:=hw17.size
     obtain rfl:u17=.bool false:=e17.trans (congrArg Value.bool (decide_eq_false c11))
     refine Zt 35 y_bnot ?_
     refine Zan (y_pick false) [0,1,2,3,8,46] ?_
     refine cg_ct rfl ?_
     refine ZrA ?_
     refine Znr [0,1,2,3,8] ?_
     refine Qc ?_
     have u:=Un (Un u hw10) hw17
     exact Qa rfl rfl ⟨_,rfl,congrArg Value.bool (dF (fun q=>c11 (by have z:=q.2.2.2.2.1;rw [hta] at z ⊢;exact z))).symm,u⟩
    refine Za (yb (dF c7) (Qp (containsI_any m6 d))) ?_
    refine Za y_bnot ?_
    refine ZM ?_
    refine Zf 35 ?_
    refine Zf 35 ?_
    refine Zf 35 ?_
    refine Zf 35 ?_
    refine Zf 35 ?_
    refine Zf 35 ?_
    refine Zf 35 ?_
    refine Zf 35 ?_
    refine Zf 35 ?_
    refine Zf 35 ?_
    refine Zan (y_pick true) [0,1,2,3,8,46] ?_
    refine cg_ct rfl ?_
    refine ZrA ?_
    refine Znr [0,1,2,3,8] ?_
    refine Qc ?_
    have u:=Un u hw6
    exact Qa rfl rfl ⟨_,rfl,congrArg Value.bool (dF (fun q=>c7 q.2.2.2.1)).symm,u⟩
   refine Zt 21 (yb (dF c5) (Qp (isL_any d (Ls.length:Int) _))) ?_
   refine Zt 21 y_bnot ?_
   refine Zan (y_pick false) [0,1,2,3,8,27] ?_
   refine cg_ct rfl ?_
   refine ZrA ?_
   refine Znr [0,1,2,3,8] ?_
   refine Qc ?_
   have u:=Un u hw4
   exact Qa rfl rfl ⟨_,rfl,congrArg Value.bool (dF (fun q=>c5 (by obtain ⟨_,_,_,q4,_,q6⟩:=q;rw [hta] at q4 q6;exact (says_node q6 (res_range hti q4).1 hti).1))).symm,u⟩
  refine Zct 14 (isChild_any (h.more (B':=w2.heap.size) (by omega)) x c (Nat.le_refl _) (Tt.up u rg).b) rfl rfl ?_
  rintro u18 w18 ⟨e18,hw18⟩
  have zw18:=hw18.size
  obtain rfl:u18=.bool false:=e18.trans (congrArg Value.bool (decide_eq_false c3))
  refine Zt 14 y_bnot ?_
  refine Za (y_pick false) ?_
  refine ZM ?_
  refine Zf 21 ?_
  refine Zf 21 ?_
  refine Zf 21 ?_
  refine Zf 21 ?_
  refine Zf 21 ?_
  refine Zan (y_pick true) [0,1,2,3,8,27] ?_
  refine cg_ct rfl ?_
  refine ZrA ?_
  refine Znr [0,1,2,3,8] ?_
  refine Qc ?_
  have u:=Un u hw18
  exact Qa rfl rfl ⟨_,rfl,congrArg Value.bool (dF (fun q=>c3 (by have z:=q.2.2.1;rwa [hta] at z))).symm,u⟩
 refine Zc (isInner_any (h.more (B':=W.heap.size) (by omega)) x (Nat.le_refl _) (Tt.up u rg).b) rfl rfl ?_
 rintro u19 w19 ⟨e19,hw19⟩
 have zw19:=hw19.size
 obtain rfl:u19=.bool false:=e19.trans (congrArg Value.bool (decide_eq_false c1))
 refine Za y_bnot ?_
 refine ZM ?_
 refine Zf 14 ?_
 refine Zf 14 ?_
 refine Zf 14 ?_
 refine Zf 14 ?_
 refine Zf 14 ?_
 refine Za (y_pick true) ?_
 refine ZM ?_
 refine Zf 21 ?_
 refine Zf 21 ?_
 refine Zf 21 ?_
 refine Zf 21 ?_
 refine Zf 21 ?_
 refine Zan (y_pick true) [0,1,2,3,8,27] ?_
 refine cg_ct rfl ?_
 refine ZrA ?_
 refine Znr [0,1,2,3,8] ?_
 refine Qc ?_
 have u:=Un u hw19
 exact Qa rfl rfl ⟨_,rfl,congrArg Value.bool (dF (fun q=>in_no c1 ⟨q.1,q.2.1⟩)).symm,u⟩
theorem made_any {W:World} {B:Nat} {s:SlV} {Ls:List Nd} (h:RwNd W B s Ls) (hti:trIs Ls) {x:Int} (hx:isN x (Ls.length:Int)) (hB:B≤W.heap.size) (rg:Tt W):Calls Tryz.prog 62 #[s.v,nv x] W fun e W'=>∃ v,e=.returned v∧v=.bool (decide (madeL Ls x (leftI x (Ls.length:Int))∨madeL Ls x (rightI x (Ls.length:Int))))∧Below W.heap.size W W':=by
 have h:=h.more hB
 refine Qf (n:=44) Tryz.func62 rfl Tryz.ntmps62 (by simp) ?_
 show CG _ _ _ [(0,s.v),(1,nv x)] _ _
 have u:=Below.refl W.heap.size W
 have q1:=h.len
 have q2:=h.cap
 have hta:=trAs_ok hti
 refine ZrA ?_
 refine Zn [0,1,4] ?_
 refine cg_scope ?_
 refine Qd ?_
 refine cg_label ?_
 refine Nx [0,1,4] ?_
 refine Qd ?_
 refine ZrM ?_
 refine ZM ?_
 refine Za (y_lenM (el:=50) h.len) ?_
 refine Za (Qp (left_any x (Ls.length:Int) _ (Tt.up u rg).b)) ?_
 refine ZM ?_
 refine ZM ?_
 refine Za (y_lenM (el:=50) h.len) ?_
 refine Za (Qp (right_any x (Ls.length:Int) _ (Tt.up u rg).b)) ?_
 refine Za (y_build (cs:=#[nv (leftI x (Ls.length:Int)),nv (rightI x (Ls.length:Int))])) ?_
 refine ZM ?_
 refine Zn [0,1,4,18,19] ?_
 refine Qj ?_
 refine Qr (fun t a v=>Holds 44 [(0,s.v),(1,nv x),(18,.agg #[nv (leftI x (Ls.length:Int)),nv (rightI x (Ls.length:Int))]),(19,nv ((t:Nat):Int))] a∧RwNd v W.heap.size s Ls∧Below W.heap.size W v∧(∀ i,i<t→¬madeL Ls x (kidI x (Ls.length:Int) i))) 2 (fun a ha=>⟨ha.keep (fk rfl (fk rfl (fk rfl (fk rfl fn)))),h,u,(fun i hi=>absurd hi (Nat.not_lt_zero _))⟩) ?_
 rintro t a v ht ⟨ha,h,u,hno⟩
 refine cg_at ha ?_
 clear ha a
 have zv:=u.size
 have q1:=h.len
 have q2:=h.cap
 refine Zr ?_
 by_cases c1:((t:Nat):Int)<2
 ·refine Zan (yb (dT c1) yi_lss) [0,1,18,19,20] ?_
  refine Qd ?_
  refine cg_ct rfl ?_
  refine Zki [0,1,18,19] ?_
  refine Qd ?_
  refine Qj ?_
  refine Zr ?_
  have hk2:(#[nv (leftI x (Ls.length:Int)),nv (rightI x (Ls.length:Int))]:Array Value)[t]?=some (nv (kidI x (Ls.length:Int) t)):=by
   rcases (by omega:t=0∨t=1) with rfl | rfl<;>rfl
  refine Za (y_idx (len:=2) (el:=3) (k:=.i64) (by kernel_rfl) (by kernel_rfl) (by kernel_rfl) (by omega) hk2 rfl rfl rfl) ?_
  refine ZAn [0,1,18,19,6] ?_
  refine ZrM ?_
  refine ZM ?_
  refine ZM ?_
  refine Zc (unmerged_any (h.more (B':=v.heap.size) (by omega)) hti hx (kidI x (Ls.length:Int) t) (Nat.le_refl _) (Tt.up u rg).b) rfl rfl ?_
  rintro _ w2 ⟨r2,rfl,m2,hw2⟩
  have zw2:=hw2.size
  have ul2:(unmB Ls x (kidI x (Ls.length:Int) t)).length≤64:=Nat.le_trans (unmO_le _ _ _) (unm_small hti _).2
  refine ZAn [0,1,18,19,6,7] ?_
  refine ZrM ?_
  refine ZM ?_
  have h:=h.below (hw2.mono (by omega))
  have u:=Un u hw2
  refine Zc (resolve_any (h.more (B':=w2.heap.size) (by omega)) (kidI x (Ls.length:Int) t) (Nat.le_refl _) (Tt.up u rg).b) rfl rfl ?_
  rintro _ w3 ⟨s3,rfl,m3,hw3⟩
  have zw3:=hw3.size
  refine Za (yv (congrArg nv (show ((resL (trAs Ls) (kidI x (Ls.length:Int) t)).length:Int)=((resL Ls (kidI x (Ls.length:Int) t)).length:Int) by rw [hta])) (y_lenM (el:=3) m3.len (by kernel_rfl) rfl rfl)) ?_
  refine ZM ?_
  refine Zn [0,1,18,19,6,7,28,29,30] ?_
  refine Qj ?_
  have ht2:t<2:=by omega
  obtain ⟨C,hC⟩:∃ q,q=w3.heap.size:=⟨_,rfl⟩
  have m2:=m2.below (hw3.mono (by omega))
  have h:=h.below (hw3.mono (by omega))
  have u:=Un u hw3
  refine Qr (fun j a v=>Holds 44 [(0,s.v),(1,nv x),(6,nv (kidI x (Ls.length:Int) t)),(7,r2.v),(18,.agg #[nv (leftI x (Ls.length:Int)),nv (rightI x (Ls.length:Int))]),(19,nv ((t:Nat):Int)),(28,s3.v),(29,nv ((resL Ls (kidI x (Ls.length:Int) t)).length:Int)),(30,nv ((j:Nat):Int))] a∧RwNd v W.heap.size s Ls∧Below W.heap.size W v∧SlN v C r2 (unmB Ls x (kidI x (Ls.length:Int) t))∧SlN v C s3 (resL Ls (kidI x (Ls.length:Int) t))∧C≤v.heap.size∧W.heap.size≤C∧j≤(resL Ls (kidI x (Ls.length:Int) t)).length∧(∀ q,q<j→(resL Ls (kidI x (Ls.length:Int) t)).getD q 0∈unmB Ls x (kidI x (Ls.length:Int) t))) ((resL Ls (kidI x (Ls.length:Int) t)).length+1) (fun a ha=>⟨ha.keep (fk rfl (fk rfl (fk rfl (fk rfl (fk rfl (fk rfl (fk rfl (fk rfl (fk rfl fn))))))))),h,u,(m2.more (by omega)),(by have z:=m3.more (B':=C) (by omega);rwa [hta] at z),(by omega),(by omega),(Nat.zero_le _),(fun q hq=>absurd hq (Nat.not_lt_zero _))⟩) ?_
  rintro j a v ht ⟨ha,h,u,ho,hr,cC,cW,jle,hin⟩
  refine cg_at ha ?_
  clear ha a
  have zv:=u.size
  have q1:=h.len
  have q2:=h.cap
  have q3:=hr.len
  have q4:=hr.cap
  have q5:=ho.len
  have q6:=ho.cap
  refine Zr ?_
  by_cases c4:((j:Nat):Int)<((resL Ls (kidI x (Ls.length:Int) t)).length:Int)
  ·refine Zan (yb (dT c4) yi_lss) [0,1,6,7,18,19,28,29,30,31] ?_
   refine Qd ?_
   refine cg_ct rfl ?_
   refine Zki [0,1,6,7,18,19,28,29,30] ?_
   refine Qd ?_
   refine Qj ?_
   refine Qd ?_
   have hjn:j<(resL Ls (kidI x (Ls.length:Int) t)).length:=by omega
   refine Qe ?_
   refine Za (y_ixT (i:=j) (iI:=((j:Nat):Int)) hr (by omega) (by first | omega | (simp only [List.length_append,List.length_cons,List.length_nil];omega)) rfl rfl rfl) ?_
   refine Za (y_ldT (i:=j) hr (by first | omega | (simp only [List.length_append,List.length_cons,List.length_nil];omega)) rfl rfl) ?_
   refine ZAn [0,1,6,7,18,19,28,29,30,9] ?_
   refine Qd ?_
   refine ZrM ?_
   refine ZM ?_
   by_cases c5:((resL Ls (kidI x (Ls.length:Int) t)).getD j 0)∈(unmB Ls x (kidI x (Ls.length:Int) t))
   ·refine Zan (yb (dT c5) (Qp (containsI_any ho ((resL Ls (kidI x (Ls.length:Int) t)).getD j 0)))) [0,1,6,7,18,19,28,29,30,9,36] ?_
    refine cg_ct rfl ?_
    refine cg_exit ?_
    refine Qh ?_
    refine Ql ?_
    refine Nx [0,1,6,7,18,19,28,29,30] ?_
    refine Qe ?_
    refine Za (yv (congrArg nv (show ((j:Nat):Int)+1=((j+1:Nat):Int) by omega)) (yi_add rfl rfl rfl (by omega) (by omega))) ?_
    refine ZM ?_
    refine Qk ?_
    exact fun a ha=>(show j<((resL Ls (kidI x (Ls.length:Int) t)).length+1)∧_ from ⟨(by omega),ha.keep (fk rfl (fk rfl (fk rfl (fk rfl (fk rfl (fk rfl (fk rfl (fk rfl (fk rfl fn))))))))),h,u,ho,hr,(by omega),cW,(by omega),(fun q hq=>if z:q<j then hin q z else by
      obtain rfl:q=j:=by omega
      exact c5)⟩)
   refine Zan (yb (dF c5) (Qp (containsI_any ho ((resL Ls (kidI x (Ls.length:Int) t)).getD j 0)))) [0,1,6,7,18,19,28,29,30,9,36] ?_
   refine Zcf [0,1,6,7,18,19,28,29,30,9] ?_
   refine Qd ?_
   refine ZrM ?_
   refine ZM ?_
   refine ZM ?_
   refine ZM ?_
   by_cases c6:linkL (trAs Ls) x (kidI x (Ls.length:Int) t) ((resL Ls (kidI x (Ls.length:Int) t)).getD j 0)
   ·refine Zc (link_any (h.more (B':=v.heap.size) (by omega)) x (kidI x (Ls.length:Int) t) ((resL Ls (kidI x (Ls.length:Int) t)).getD j 0) (Nat.le_refl _) (Tt.up u rg)) rfl rfl ?_
    rintro u7 w7 ⟨e7,hw7⟩
    have zw7:=hw7.size
    obtain rfl:u7=.bool true:=e7.trans (congrArg Value.bool (decide_eq_true c6))
    refine Znt [0,1,6,7,18,19,28,29,30,41] ?_
    refine ZrA ?_
    refine Znr [0,1,6,7,18,19,28,29,30,4] ?_
    refine Qc ?_
    refine Qg ?_
    refine Qc ?_
    refine Qc ?_
    refine Qg ?_
    refine Qg ?_
    refine Qc ?_
    refine Qc ?_
    refine Qg ?_
    refine Qc ?_
    refine eg_scope_ret ?_
    have u:=Un u hw7
    exact Qa rfl rfl ⟨_,rfl,congrArg Value.bool (dT (show madeL Ls x (leftI x (Ls.length:Int))∨madeL Ls x (rightI x (Ls.length:Int)) from by
     have hl:linkL Ls x (kidI x (Ls.length:Int) t) ((resL Ls (kidI x (Ls.length:Int) t)).getD j 0):=by have z:=c6;rwa [hta] at z
     have hm:madeL Ls x (kidI x (Ls.length:Int) t):=⟨_,hl.2.2.2.1,hl⟩
     rcases (by omega:t=0∨t=1) with rfl | rfl
     ·exact .inl hm
     exact .inr hm)).symm,u⟩
   refine Zc (link_any (h.more (B':=v.heap.size) (by omega)) x (kidI x (Ls.length:Int) t) ((resL Ls (kidI x (Ls.length:Int) t)).getD j 0) (Nat.le_refl _) (Tt.up u rg)) rfl rfl ?_
   rintro u8 w8 ⟨e8,hw8⟩
   have zw8:=hw8.size
   obtain rfl:u8=.bool false:=e8.trans (congrArg Value.bool (decide_eq_false c6))
   refine Zn [0,1,6,7,18,19,28,29,30,41] ?_
   refine Zcf [0,1,6,7,18,19,28,29,30] ?_
   refine cg_exit ?_
   refine eg_block_other (by decide) ?_
   refine Qh ?_
   refine Qh ?_
   refine eg_block_other (by decide) ?_
   refine Ql ?_
   refine Nx [0,1,18,19] ?_
   refine Qe ?_
   refine Za (yv (congrArg nv (show ((t:Nat):Int)+1=((t+1:Nat):Int) by omega)) (yi_add rfl rfl rfl (by omega) (by omega))) ?_
   refine ZM ?_
   refine Qk ?_
   have h:=h.below (hw8.mono (by omega))
   have u:=Un u hw8
   exact fun a ha=>(show t<2∧_ from ⟨(by omega),ha.keep (fk rfl (fk rfl (fk rfl (fk rfl fn)))),h,u,(fun i hi=>if q:i<t then hno i q else by
     obtain rfl:i=t:=by omega
     exact (fun ⟨d,_,hd⟩=>c6 (by rw [hta];exact (link_first hd (by omega) hin c5)▸hd)))⟩)
  refine Zan (yb (dF c4) yi_lss) [0,1,6,7,18,19,28,29,30,31] ?_
  refine Qd ?_
  refine cg_cf rfl ?_
  refine cg_exit ?_
  refine Qh ?_
  refine Qh ?_
  refine Ql ?_
  refine Qi ?_
  refine Nx [0,1,18,19] ?_
  refine Qe ?_
  refine Za (yv (congrArg nv (show ((t:Nat):Int)+1=((t+1:Nat):Int) by omega)) (yi_add rfl rfl rfl (by omega) (by omega))) ?_
  refine ZM ?_
  refine Qk ?_
  exact fun a ha=>(show t<2∧_ from ⟨(by omega),ha.keep (fk rfl (fk rfl (fk rfl (fk rfl fn)))),h,u,(fun i hi=>if q:i<t then hno i q else by
    obtain rfl:i=t:=by omega
    exact (fun ⟨d,_,hd⟩=>link_none hd fun q hq=>hin q (by omega)))⟩)
 refine Zan (yb (dF c1) yi_lss) [0,1,18,19,20] ?_
 refine Qd ?_
 refine cg_cf rfl ?_
 refine cg_exit ?_
 refine Qh ?_
 refine Qh ?_
 refine Ql ?_
 refine nx (E':=[]) fn ?_
 refine ZrA ?_
 refine Znr [4] ?_
 refine eg_scope_ret ?_
 exact Qa rfl rfl ⟨_,rfl,congrArg Value.bool (dF (fun q=>q.elim (hno 0 (by omega)) (hno 1 (by omega)))).symm,u⟩
theorem valid_any {W:World} {B:Nat} {s:SlV} {Ls:List Nd} (h:RwNd W B s Ls) (x:Int) (hB:B≤W.heap.size) (rg:Tt W):Calls Tryz.prog 26 #[s.v,nv x] W fun e W'=>∃ v,e=.returned v∧v=.bool (decide (validL (trAs Ls) x))∧Below W.heap.size W W':=by
 have h:=h.more hB
 refine Qf (n:=19) Tryz.func26 rfl Tryz.ntmps26 (by simp) ?_
 show CG _ _ _ [(0,s.v),(1,nv x)] _ _
 have u:=Below.refl W.heap.size W
 have q1:=h.len
 have q2:=h.cap
 refine ZrA ?_
 refine Zn [0,1,4] ?_
 refine Qd ?_
 refine ZrM ?_
 refine ZM ?_
 by_cases c1:inP Ls x
 ·obtain ⟨hti,hx,hk2⟩:=id c1
  have hta:=trAs_ok hti
  refine Zc (isInner_any (h.more (B':=W.heap.size) (by omega)) x (Nat.le_refl _) (Tt.up u rg).b) rfl rfl ?_
  rintro u2 w2 ⟨e2,hw2⟩
  have zw2:=hw2.size
  obtain rfl:u2=.bool true:=e2.trans (congrArg Value.bool (decide_eq_true c1))
  refine Znt [0,1,4,7] ?_
  refine ZrM ?_
  refine ZM ?_
  have h:=h.below (hw2.mono (by omega))
  have u:=Un u hw2
  by_cases c3:madeL Ls x (leftI x (Ls.length:Int))∨madeL Ls x (rightI x (Ls.length:Int))
  ·refine Zc (made_any (h.more (B':=w2.heap.size) (by omega)) hti hx  (Nat.le_refl _) (Tt.up u rg)) rfl rfl ?_
   rintro u4 w4 ⟨e4,hw4⟩
   have zw4:=hw4.size
   obtain rfl:u4=.bool true:=e4.trans (congrArg Value.bool (decide_eq_true c3))
   refine ZAnr [0,1,4] ?_
   refine Qc ?_
   have u:=Un u hw4
   exact Qa rfl rfl ⟨_,rfl,congrArg Value.bool (dT (by rw [hta];exact ⟨hx,fun _=>c3⟩)).symm,u⟩
  refine Zc (made_any (h.more (B':=w2.heap.size) (by omega)) hti hx  (Nat.le_refl _) (Tt.up u rg)) rfl rfl ?_
  rintro u5 w5 ⟨e5,hw5⟩
  have zw5:=hw5.size
  obtain rfl:u5=.bool false:=e5.trans (congrArg Value.bool (decide_eq_false c3))
  refine ZAnr [0,1,4] ?_
  refine Qc ?_
  have u:=Un u hw5
  exact Qa rfl rfl ⟨_,rfl,congrArg Value.bool (dF (fun q=>c3 (by rw [hta] at q;exact q.2 hk2))).symm,u⟩
 have hnin:=c1
 refine Zc (isInner_any (h.more (B':=W.heap.size) (by omega)) x (Nat.le_refl _) (Tt.up u rg).b) rfl rfl ?_
 rintro u6 w6 ⟨e6,hw6⟩
 have zw6:=hw6.size
 obtain rfl:u6=.bool false:=e6.trans (congrArg Value.bool (decide_eq_false c1))
 refine Zn [0,1,4,7] ?_
 refine Zcf [0,1,4] ?_
 refine ZrM ?_
 have h:=h.below (hw6.mono (by omega))
 by_cases c7:trIs Ls
 ·refine Zc (sane_any (h.more (B':=w6.heap.size) (by omega)) (Nat.le_refl _)) rfl rfl ?_
  rintro u8 w8 ⟨e8,hw8⟩
  have zw8:=hw8.size
  obtain rfl:u8=.bool true:=e8.trans (congrArg Value.bool (decide_eq_true c7))
  refine ZM ?_
  refine Zt 13 y_move ?_
  refine Zt 13 y_move ?_
  have h:=h.below (hw8.mono (by omega))
  refine Zt 13 (y_lenM (el:=50) h.len) ?_
  by_cases c9:isN x (Ls.length:Int)
  ·refine Zt 13 (yb (dT c9) (Qp (isL_any x (Ls.length:Int) _))) ?_
   refine Za (y_pick true) ?_
   refine ZAnr [4] ?_
   have u:=Un (Un u hw6) hw8
   exact Qa rfl rfl ⟨_,rfl,congrArg Value.bool (dT ⟨(by rw [trAs_ok c7];exact c9),fun k=>absurd k fun k=>hnin ⟨c7,c9,(by rw [trAs_ok c7] at k;exact k)⟩⟩).symm,u⟩
  refine Zt 13 (yb (dF c9) (Qp (isL_any x (Ls.length:Int) _))) ?_
  refine Za (y_pick true) ?_
  refine ZAnr [4] ?_
  have u:=Un (Un u hw6) hw8
  exact Qa rfl rfl ⟨_,rfl,congrArg Value.bool (dF (fun q=>c9 (by have z:=q.1;rwa [trAs_ok c7] at z))).symm,u⟩
 refine Zc (sane_any (h.more (B':=w6.heap.size) (by omega)) (Nat.le_refl _)) rfl rfl ?_
 rintro u10 w10 ⟨e10,hw10⟩
 have zw10:=hw10.size
 obtain rfl:u10=.bool false:=e10.trans (congrArg Value.bool (decide_eq_false c7))
 refine ZM ?_
 refine Zf 13 ?_
 refine Zf 13 ?_
 refine Zf 13 ?_
 refine Zf 13 ?_
 refine Za (y_pick false) ?_
 refine ZAnr [4] ?_
 have u:=Un (Un u hw6) hw10
 exact Qa rfl rfl ⟨_,rfl,congrArg Value.bool (dF (fun q=>no_tree c7 q.1)).symm,u⟩
theorem verify_any {W:World} {B:Nat} {s:SlV} {Ls:List Nd} (h:RwNd W B s Ls) (hB:B≤W.heap.size) (rg:Tt W):Calls Tryz.prog 32 #[s.v] W fun e W'=>∃ v,e=.returned v∧v=.bool (decide (verL (trAs Ls)))∧Below W.heap.size W W':=by
 have h:=h.more hB
 refine Qf (n:=17) Tryz.func32 rfl Tryz.ntmps32 (by simp) ?_
 show CG _ _ _ [(0,s.v)] _ _
 have u:=Below.refl W.heap.size W
 have q1:=h.len
 have q2:=h.cap
 refine ZrA ?_
 refine Zn [0,2] ?_
 refine Qd ?_
 refine ZrM ?_
 by_cases c1:trIs Ls
 ·have hti:=c1
  have hta:=trAs_ok hti
  refine Zc (sane_any (h.more (B':=W.heap.size) (by omega)) (Nat.le_refl _)) rfl rfl ?_
  rintro u2 w2 ⟨e2,hw2⟩
  have zw2:=hw2.size
  obtain rfl:u2=.bool true:=e2.trans (congrArg Value.bool (decide_eq_true c1))
  refine Zan y_bnot [0,2,6] ?_
  refine Zcf [0,2] ?_
  refine Qd ?_
  refine ZrM ?_
  have h:=h.below (hw2.mono (by omega))
  refine Za (y_lenM (el:=50) h.len) ?_
  refine ZM ?_
  refine Zn [0,2,8,9] ?_
  refine Qj ?_
  have u:=Un u hw2
  refine Qr (fun t a v=>Holds 17 [(0,s.v),(8,nv (Ls.length:Int)),(9,nv ((t:Nat):Int))] a∧RwNd v W.heap.size s Ls∧Below W.heap.size W v∧(∀ i,i<t→validL Ls (i:Int))∧t≤Ls.length) (Ls.length+1) (fun a ha=>⟨ha.keep (fk rfl (fk rfl (fk rfl fn))),h,u,(fun i hi=>absurd hi (Nat.not_lt_zero _)),(Nat.zero_le _)⟩) ?_
  rintro t a v ht ⟨ha,h,u,he,tle⟩
  refine cg_at ha ?_
  clear ha a
  have zv:=u.size
  have q1:=h.len
  have q2:=h.cap
  refine Zr ?_
  by_cases c3:((t:Nat):Int)<(Ls.length:Int)
  ·refine Zan (yb (dT c3) yi_lss) [0,8,9,10] ?_
   refine Qd ?_
   refine cg_ct rfl ?_
   refine Zki [0,8,9] ?_
   refine Qd ?_
   refine Qj ?_
   refine ZrM ?_
   refine ZAn [0,8,9,3] ?_
   refine ZrM ?_
   refine ZM ?_
   by_cases c4:validL (trAs Ls) ((t:Nat):Int)
   ·refine Zc (valid_any (h.more (B':=v.heap.size) (by omega)) ((t:Nat):Int) (Nat.le_refl _) (Tt.up u rg)) rfl rfl ?_
    rintro u5 w5 ⟨e5,hw5⟩
    have zw5:=hw5.size
    obtain rfl:u5=.bool true:=e5.trans (congrArg Value.bool (decide_eq_true c4))
    refine Zan y_bnot [0,8,9,15] ?_
    refine cg_cf rfl ?_
    refine cg_skip ?_
    refine Qi ?_
    refine Nx [0,8,9] ?_
    refine Qe ?_
    refine Za (yv (congrArg nv (show ((t:Nat):Int)+1=((t+1:Nat):Int) by omega)) (yi_add rfl rfl rfl (by omega) (by omega))) ?_
    refine ZM ?_
    refine Qk ?_
    have h:=h.below (hw5.mono (by omega))
    have u:=Un u hw5
    exact fun a ha=>(show t<(Ls.length+1)∧_ from ⟨(by omega),ha.keep (fk rfl (fk rfl (fk rfl fn))),h,u,(fun i hi=>if q:i<t then he i q else by
      obtain rfl:i=t:=by omega
      have z:=c4
      rwa [hta] at z),(by omega)⟩)
   refine Zc (valid_any (h.more (B':=v.heap.size) (by omega)) ((t:Nat):Int) (Nat.le_refl _) (Tt.up u rg)) rfl rfl ?_
   rintro u6 w6 ⟨e6,hw6⟩
   have zw6:=hw6.size
   obtain rfl:u6=.bool false:=e6.trans (congrArg Value.bool (decide_eq_false c4))
   refine Zan y_bnot [0,8,9,15] ?_
   refine cg_ct rfl ?_
   refine ZrA ?_
   refine Znr [0,8,9,2] ?_
   refine Qg ?_
   refine Qc ?_
   refine Qc ?_
   refine Qg ?_
   refine Qc ?_
   have u:=Un u hw6
   exact Qa rfl rfl ⟨_,rfl,congrArg Value.bool (dF (fun q=>c4 (by rw [hta] at q ⊢;exact q t (by omega)))).symm,u⟩
  refine Zan (yb (dF c3) yi_lss) [0,8,9,10] ?_
  refine Qd ?_
  refine cg_cf rfl ?_
  refine cg_exit ?_
  refine Qh ?_
  refine Qh ?_
  refine Ql ?_
  refine nx (E':=[]) fn ?_
  refine ZrA ?_
  refine Znr [2] ?_
  exact Qa rfl rfl ⟨_,rfl,congrArg Value.bool (dT (by rw [hta];exact fun i hi=>he i (by omega))).symm,u⟩
 have hta:=trAs_no c1
 refine Zc (sane_any (h.more (B':=W.heap.size) (by omega)) (Nat.le_refl _)) rfl rfl ?_
 rintro u7 w7 ⟨e7,hw7⟩
 have zw7:=hw7.size
 obtain rfl:u7=.bool false:=e7.trans (congrArg Value.bool (decide_eq_false c1))
 refine Zan y_bnot [0,2,6] ?_
 refine cg_ct rfl ?_
 refine ZrA ?_
 refine Znr [0,2] ?_
 refine Qc ?_
 have u:=Un u hw7
 exact Qa rfl rfl ⟨_,rfl,congrArg Value.bool (dT (by rw [hta];exact fun i hi=>absurd hi (Nat.not_lt_zero _))).symm,u⟩
end Go.Proofs.YtfdmhdnlmndhdaaGreatDoor
