/-
  Blank nodes behind are not put.
-/
import Derived.Test.YtognnnjdoemgfaaDoorOcAwake
import Derived.Test.YtognnnjdoemgfaaDoorTrRef
import Derived.Test.YtognnnjdoemgfaaDoorOcMore
namespace Go.Proofs.YtognnnjdoemgfaaDoor
open Go.ChangeShapes Go.WideShapes Go.ChangeAt Go.RowKit
set_option linter.unusedVariables false

set_option maxRecDepth 20000
set_option maxHeartbeats 4000000 in
theorem octetsTrail_any {W:World} {s:SlV} {Ls:List Nd} (h:RwNd W W.heap.size s Ls) (rg:Tb W):Calls Tryd.prog 4 #[s.v] W fun e W'=>∃ v,e=.returned v∧v=.bool true∧Below W.heap.size W W':=by
 refine Qf (n:=61) Tryd.func4 rfl Tryd.ntmps4 (by simp) ?_
 show CG _ _ _ [(0,s.v)] _ _
 have u:=Below.refl W.heap.size W
 have q1:=h.len
 have q2:=h.cap
 obtain ⟨no1,no2⟩:=numO_le (trAs Ls)
 have no3:=trAs_le Ls
 refine ZrA ?_
 refine Zn [0,2] ?_
 refine Zr ?_
 refine Zc (awakeO_any _ (rg.up u)) rfl rfl ?_
 rintro _ w1 ⟨rfl,hw1⟩
 have zw1:=hw1.size
 refine ZAn [0,2,3] ?_
 refine Qd ?_
 refine ZrM ?_
 have h:=h.below (hw1.mono (by omega))
 by_cases c2:trFew Ls
 ·refine Zc (fewR_any (h.more (B':=w1.heap.size) (by omega)) (Nat.le_refl _)) rfl rfl ?_
  rintro u3 w3 ⟨e3,hw3⟩
  have zw3:=hw3.size
  obtain rfl:u3=.bool true:=e3.trans (congrArg Value.bool (decide_eq_true c2))
  refine Za y_bnot ?_
  refine ZM ?_
  refine Zt 12 y_move ?_
  have h:=h.below (hw3.mono (by omega))
  by_cases c4:trIs Ls
  ·have htr:=c4
   have htl:=trIs_le htr
   have hta:=trAs_ok htr
   refine Zct 12 (sane_any (h.more (B':=w3.heap.size) (by omega)) (Nat.le_refl _)) rfl rfl ?_
   rintro u5 w5 ⟨e5,hw5⟩
   have zw5:=hw5.size
   obtain rfl:u5=.bool true:=e5.trans (congrArg Value.bool (decide_eq_true c4))
   refine Zt 12 y_bnot ?_
   refine Zan (y_pick false) [0,2,3,16] ?_
   refine Zcf [0,2,3] ?_
   refine ZrM ?_
   have h:=h.below (hw5.mono (by omega))
   refine Zc (grow_any (h.more (B':=w5.heap.size) (by omega)) (Nat.le_refl _)) rfl rfl ?_
   rintro _ w6 ⟨s6,rfl,m6,hw6⟩
   have zw6:=hw6.size
   refine ZM ?_
   refine Za y_extract ?_
   refine Za y_extract ?_
   refine ZA ?_
   refine ZAn [0,2,3,4,5] ?_
   refine Qd ?_
   refine ZrM ?_
   by_cases c7:(growE Ls)=0
   ·refine Zan (yb (nd_f c7) yi_neq) [0,2,3,4,24] ?_
    refine Zcf [0,2,3,4] ?_
    refine Zr ?_
    obtain ⟨bs9,hbs9⟩:∃ q,q=w6.heap.size:=⟨_,rfl⟩
    refine lg_bs0R Wn rfl rfl (by decide) fun v8 w8 gx8 l8=>?_
    rw [←hbs9] at gx8
    have z8:=l8.size
    refine ZM ?_
    have h:=(h.below (hw6.mono (by omega))).below (l8.mono (by omega))
    refine lg_appR gx8 (h.src.more (B':=bs9) (by omega)) (Nat.le_refl _) (by first | omega | (simp only [List.length_nil];omega)) (by omega) Wn rfl rfl rfl rfl rfl (by decide) fun r10 w10 gx10 m10 l10 z10=>?_
    rw [List.nil_append] at gx10
    clear m10
    refine ZAn [0,2,3,4,6] ?_
    refine Qd ?_
    refine ZrM ?_
    have h:=h.below (l10.mono (by omega))
    refine Zc (last_any (h.more (B':=w10.heap.size) (by omega)) (Nat.le_refl _)) rfl rfl ?_
    rintro _ w11 ⟨rfl,hw11⟩
    have zw11:=hw11.size
    refine Za (yv (congrArg nv (numO_le (trAs Ls)).2) (yi_add rfl rfl rfl (by omega) (by omega))) ?_
    refine ZAn [0,2,3,4,6,7] ?_
    refine Qj ?_
    have h:=h.below (hw11.mono (by omega))
    have u:=Un (Un u hw1) hw3
    have u:=Un (Un (Un u hw5) hw6) l8
    have u:=u.trans (l10.mono (by omega))
    have u:=Un u hw11
    have gx10:=gx10.keep hw11 (by omega)
    have m6:=((m6.below (l8.mono (by omega))).below (l10.mono (by omega))).below (hw11.mono (by omega))
    refine Qr (fun t a v=>∃ (qr:SlV),Holds 61 [(0,s.v),(3,.bool true),(4,s6.v),(6,qr.v),(7,nv (((numO (trAs Ls))+t:Nat):Int))] a∧RwNd v W.heap.size s Ls∧RwNd v bs9 s6 (growL Ls)∧Below W.heap.size W v∧OwnNd v bs9 bs9 qr.v Ls∧bs9≤v.heap.size∧W.heap.size≤bs9∧(numO (trAs Ls))+t≤Ls.length) (Ls.length+1) (fun a ha=>⟨r10,ha.keep (fk rfl (fk rfl (fk rfl (fk rfl (fk rfl fn))))),h,(m6.more (by omega)),u,(gx10),(by omega),(by omega),(by have:=(numO_le (trAs Ls)).1;have:=trAs_lel Ls;omega)⟩) ?_
    rintro t a v ht ⟨qr,ha,h,hg,u,gx0,cB,cW,tle⟩
    refine cg_at ha ?_
    clear ha a
    have zv:=u.size
    have q1:=h.len
    have q2:=h.cap
    have q5:=hg.len
    have q6:=hg.cap
    refine Qd ?_
    refine ZrM ?_
    refine ZM ?_
    refine Za (y_lenM (el:=40) (gx0.rowS (by omega)).len (by kernel_rfl) rfl rfl) ?_
    by_cases c12:(((numO (trAs Ls))+t:Nat):Int)<(Ls.length:Int)
    ·refine Zan (yb (dT c12) yi_lss) [0,3,4,6,7,35] ?_
     refine cg_ct rfl ?_
     refine Zki [0,3,4,6,7] ?_
     refine Qd ?_
     refine Qj ?_
     refine Qe ?_
     refine ZM ?_
     refine ZM ?_
     refine Za (y_build (cs:=NdV.zero.cs Nd.zero)) ?_
     obtain ⟨gb13,gA13,gl13,gu13⟩:=gx0.addr (i:=((numO (trAs Ls))+t)) (by first | omega | (simp only [List.length_append,List.length_cons,List.length_nil,List.length_take,List.length_drop,List.length_set,List.length_replicate,clr_len];omega))
     refine Za (y_ixR (s:=qr) (el:=40) (k:=8) (i:=((numO (trAs Ls))+t)) (iI:=(((numO (trAs Ls))+t:Nat):Int)) gA13 (by kernel_rfl) (by kernel_rfl) (by omega) (by have q1:=(gx0.rowS (by omega)).len;first | omega | (simp only [List.length_append,List.length_cons,List.length_nil,List.length_take,List.length_drop,List.length_set,List.length_replicate,clr_len] at q1;omega)) rfl rfl rfl) ?_
     refine lg_stR (i:=((numO (trAs Ls))+t)) gx0 (IsNd.zero _ _) (Nat.le_refl _) (by first | omega | (simp only [List.length_append,List.length_cons,List.length_nil,List.length_take,List.length_drop,List.length_set,List.length_replicate,clr_len];omega)) gA13 Wn rfl rfl rfl rfl fun w14 old14 new14 ro14 st14 gx14 l14 z14=>?_
     refine Qk ?_
     refine Qi ?_
     refine Nx [0,3,4,6,7] ?_
     refine Qe ?_
     refine ZM ?_
     refine Za (yv (congrArg nv (show (((numO (trAs Ls))+t:Nat):Int)+1=(((numO (trAs Ls))+(t+1):Nat):Int) by omega)) (yi_add rfl rfl rfl (by omega) (by omega))) ?_
     refine ZA ?_
     refine Qk ?_
     have h:=h.below (l14.mono (by omega))
     have hg:=hg.below (l14.mono (by omega))
     have u:=u.trans (l14.mono (by omega))
     exact fun a ha=>(show t<(Ls.length+1)∧_ from ⟨(by omega),qr,ha.keep (fk rfl (fk rfl (fk rfl (fk rfl (fk rfl fn))))),h,hg,u,(by have z:=gx14;rwa [set_end htr (by rw [hta];omega) (by omega)] at z),(by omega),cW,(by omega)⟩)
    refine Zan (yb (dF c12) yi_lss) [0,3,4,6,7,35] ?_
    refine cg_cf rfl ?_
    refine cg_exit ?_
    refine Qh ?_
    refine Qh ?_
    refine Ql ?_
    refine Nx [0,3,4,6] ?_
    refine Qd ?_
    have hc:=gx0.rowS (by omega)
    refine cg_held (by kernel_rfl) fun W15 eW15=>?_
    have dW15:=below_drew _ _ eW15
    have zW15:=size_drew _ _ eW15
    clear eW15
    refine Zh 0 (fun q hq=>y_move rfl rfl) ?_
    refine Zh 1 (fun q hq=>y_move rfl rfl) ?_
    refine Zht 2 43 (fun q hq=>y_move rfl rfl) ?_
    refine Zht 5 43 (fun q hq=>y_move rfl rfl) ?_
    have hg:=hg.below (dW15.mono (by omega))
    refine Zot 3 43 ?_
    refine Zct 43 (putO_any (hg.more (B':=W15.heap.size) (by omega)) (Nat.le_refl _)) rfl rfl ?_
    rintro _ w16 ⟨r16,rfl,m16,hw16⟩
    have zw16:=hw16.size
    refine hg_next hw16 ?_
    refine hg_up hw16 ?_
    have by17:Bytes (opL (trAs (growL Ls))):=m16.bytes
    refine Zht 4 43 (fun q hq=>y_strS (m16.below (hq.mono (by omega))) rfl rfl) ?_
    have h:=(h.below (dW15.mono (by omega))).below (hw16.mono (by omega))
    refine Zot 6 43 ?_
    refine Zct 43 (putO_any (h.more (B':=w16.heap.size) (by omega)) (Nat.le_refl _)) rfl rfl ?_
    rintro _ w18 ⟨r18,rfl,m18,hw18⟩
    have zw18:=hw18.size
    refine hg_next hw18 ?_
    refine hg_up hw18 ?_
    have by19:Bytes (opL (trAs Ls)):=m18.bytes
    refine Zht 7 43 (fun q hq=>y_strS (m18.below (hq.mono (by omega))) rfl rfl) ?_
    refine Zht 8 43 (fun q hq=>yb (dT (show (opL (trAs (growL Ls)))=(opL (trAs Ls)) from (op_grow htr c7))) (y_seqS (xs:=(opL (trAs (growL Ls)))) (ys:=(opL (trAs Ls))) by17 by19 rfl rfl rfl)) ?_
    refine Zh 9 (fun q hq=>y_pick true rfl rfl rfl) ?_
    refine Zh 10 (fun q hq=>y_move rfl rfl) ?_
    refine Zht 11 52 (fun q hq=>y_move rfl rfl) ?_
    refine Zht 14 52 (fun q hq=>y_move rfl rfl) ?_
    have hc:=((hc.below (dW15.mono (by omega))).below (hw16.mono (by omega))).below (hw18.mono (by omega))
    refine Zot 12 52 ?_
    refine Zct 52 (putO_any (hc.more (B':=w18.heap.size) (by omega)) (Nat.le_refl _)) rfl rfl ?_
    rintro _ w20 ⟨r20,rfl,m20,hw20⟩
    have zw20:=hw20.size
    refine hg_next hw20 ?_
    refine hg_up hw20 ?_
    have by21:Bytes (opL (trAs Ls)):=m20.bytes
    refine Zht 13 52 (fun q hq=>y_strS (m20.below (hq.mono (by omega))) rfl rfl) ?_
    have h:=(h.below (hw18.mono (by omega))).below (hw20.mono (by omega))
    refine Zot 15 52 ?_
    refine Zct 52 (putO_any (h.more (B':=w20.heap.size) (by omega)) (Nat.le_refl _)) rfl rfl ?_
    rintro _ w22 ⟨r22,rfl,m22,hw22⟩
    have zw22:=hw22.size
    refine hg_next hw22 ?_
    refine hg_up hw22 ?_
    have by23:Bytes (opL (trAs Ls)):=m22.bytes
    refine Zht 16 52 (fun q hq=>y_strS (m22.below (hq.mono (by omega))) rfl rfl) ?_
    refine Zht 17 52 (fun q hq=>yb (dT rfl) (y_seqS (xs:=(opL (trAs Ls))) (ys:=(opL (trAs Ls))) by21 by23 rfl rfl rfl)) ?_
    refine Zh 18 (fun q hq=>y_pick true rfl rfl rfl) ?_
    refine Zh 19 (fun q hq=>y_assign rfl rfl) ?_
    refine hg_done (by kernel_rfl) ?_
    refine Nx [2] ?_
    refine cg_ret ?_
    have u:=Un (Un u dW15) hw16
    have u:=Un (Un (Un u hw18) hw20) hw22
    exact Qa rfl rfl ⟨_,rfl,rfl,u⟩
   refine Zan (yb (nd_t c7) yi_neq) [0,2,3,4,24] ?_
   refine cg_ct rfl ?_
   refine ZrM ?_
   refine ZAnr [0,3,4,2] ?_
   refine Qc ?_
   have u:=Un (Un u hw1) hw3
   have u:=Un (Un u hw5) hw6
   exact Qa rfl rfl ⟨_,rfl,rfl,u⟩
  refine Zct 12 (sane_any (h.more (B':=w3.heap.size) (by omega)) (Nat.le_refl _)) rfl rfl ?_
  rintro u24 w24 ⟨e24,hw24⟩
  have zw24:=hw24.size
  obtain rfl:u24=.bool false:=e24.trans (congrArg Value.bool (decide_eq_false c4))
  refine Zt 12 y_bnot ?_
  refine Zan (y_pick false) [0,2,3,16] ?_
  refine cg_ct rfl ?_
  refine ZrM ?_
  refine ZAnr [0,3,2] ?_
  refine Qc ?_
  have u:=Un (Un (Un u hw1) hw3) hw24
  exact Qa rfl rfl ⟨_,rfl,rfl,u⟩
 refine Zc (fewR_any (h.more (B':=w1.heap.size) (by omega)) (Nat.le_refl _)) rfl rfl ?_
 rintro u25 w25 ⟨e25,hw25⟩
 have zw25:=hw25.size
 obtain rfl:u25=.bool false:=e25.trans (congrArg Value.bool (decide_eq_false c2))
 refine Za y_bnot ?_
 refine ZM ?_
 refine Zf 12 ?_
 refine Zf 12 ?_
 refine Zf 12 ?_
 refine Zan (y_pick true) [0,2,3,16] ?_
 refine cg_ct rfl ?_
 refine ZrM ?_
 refine ZAnr [0,3,2] ?_
 refine Qc ?_
 have u:=Un (Un u hw1) hw25
 exact Qa rfl rfl ⟨_,rfl,rfl,u⟩
end Go.Proofs.YtognnnjdoemgfaaDoor
