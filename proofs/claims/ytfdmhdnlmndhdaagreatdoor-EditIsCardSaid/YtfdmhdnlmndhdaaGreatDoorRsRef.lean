/-
  Who has a key below a node: what the document answers.
-/
import Derived.Test.YtfdmhdnlmndhdaaGreatDoorKitG
import Derived.Test.YtfdmhdnlmndhdaaGreatDoorRsFork
namespace Go.Proofs.YtfdmhdnlmndhdaaGreatDoor
open Go.ChangeShapes Go.WideShapes Go.ChangeAt Go.RowKit
set_option linter.unusedVariables false

theorem below_step {Ls:List Nd} (hti:trIs Ls) {x:Int} (hx:isN x (Ls.length:Int)) {W:World} {B:Nat} {s:SlV} (h:RwNd W B s Ls) (hB:B≤W.heap.size) (rg:Tb W)
  (ih:∀ y,isN y (Ls.length:Int)→lvl y=lvl x-1→∀ (W:World) (B:Nat),B≤W.heap.size→RwNd W B s Ls→Tb W→Calls Tryz.prog 124 #[s.v,nv y] W fun e W'=>∃ v,e=.returned v∧∃ r:SlV,v=r.v∧SlN W' W'.heap.size r (resL Ls y)∧Below W.heap.size W W') :
  Calls Tryz.prog 124 #[s.v,nv x] W fun e W'=>∃ v,e=.returned v∧∃ r:SlV,v=r.v∧SlN W' W'.heap.size r (resL Ls x)∧Below W.heap.size W W':=by
 have h:=h.more hB
 refine Qf (n:=61) Tryz.func124 rfl Tryz.ntmps124 (by simp) ?_
 show CG _ _ _ [(0,s.v),(1,nv x)] _ _
 have u:=Below.refl W.heap.size W
 have q1:=h.len
 have q2:=h.cap
 have lex:=hx.le
 have htl:=trIs_le hti
 refine ZrA ?_
 refine Zn [0,1,4] ?_
 refine Qd ?_
 refine ZrM ?_
 refine ZM ?_
 obtain ⟨eb1,eo1,el1,eL1,eA1,eB1,eg1,eh1,ec1⟩:=h.at (x.toNat) (by have:=h.len;omega)
 refine Za (y_ixR (s:=s) (el:=50) (k:=8) (i:=x.toNat) (iI:=x) eA1 (by kernel_rfl) (by kernel_rfl) (by omega) (by have:=h.len;omega) rfl rfl rfl) ?_
 refine Za (y_fld (off:=0)) ?_
 refine Za (y_celld (ec1 0 _ rfl)) ?_
 by_cases c2:eL1.kind=0
 ·refine Zan (yb (nd_f c2) yi_neq) [0,1,4,13] ?_
  refine Zcf [0,1,4] ?_
  refine Qd ?_
  refine ZrM ?_
  refine Za (yi_rem rfl rfl rfl (by omega) (by omega)) ?_
  by_cases c3:(x % 2)=0
  ·refine Zan (yb (dT c3) yi_eql) [0,1,4,43] ?_
   refine cg_ct rfl ?_
   refine ZrA ?_
   refine Znr [0,1,4] ?_
   refine Qc ?_
   exact Qa rfl rfl ⟨_,rfl,nilS,rfl,(by rw [res_leaf hx (at_kind (p:=fun k=>k=0) eg1 c2) c3];exact SlN.nil _ _),u⟩
  have ho:=c3
  have rl1:=res_len hti (leftI x (Ls.length:Int))
  have rl2:=res_len hti (rightI x (Ls.length:Int))
  refine Zan (yb (dF c3) yi_eql) [0,1,4,43] ?_
  refine Zcf [0,1,4] ?_
  refine Zr ?_
  obtain ⟨bs5,hbs5⟩:∃ q,q=W.heap.size:=⟨_,rfl⟩
  refine lg_bs0T Wn rfl rfl (by decide) fun v4 w4 g4 l4=>?_
  rw [←hbs5] at g4
  have z4:=l4.size
  refine ZM ?_
  refine ZM ?_
  refine ZM ?_
  have h:=h.below (l4.mono (by omega))
  refine Za (y_lenM (el:=50) h.len) ?_
  have u:=Un u l4
  refine Za (Qp (rleft_any x (Ls.length:Int) _ (rg.up u))) ?_
  refine Zc (ih _ (odd_kids hx ho).1.1 (odd_kids hx ho).1.2 _ _ (Nat.le_refl _) (h.more (B':=w4.heap.size) (by omega)) (rg.up u)) rfl rfl ?_
  rintro _ w6 ⟨s6,rfl,m6,hw6⟩
  have zw6:=hw6.size
  have g4:=own_below g4 hw6
  refine lg_appT g4 m6 (by first | omega | (simp only [List.length_nil];omega)) (by omega) Wn rfl rfl rfl rfl rfl (by decide) fun r7 w7 m7 g7 l7 z7=>?_
  simp only [List.nil_append] at m7 g7
  refine ZAn [0,1,4,7] ?_
  refine ZrM ?_
  refine ZM ?_
  refine ZM ?_
  refine ZM ?_
  have h:=(h.below (hw6.mono (by omega))).below (l7.mono (by omega))
  refine Za (y_lenM (el:=50) h.len) ?_
  have u:=Un u hw6
  have u:=u.trans (l7.mono (by omega))
  refine Za (Qp (rright_any x (Ls.length:Int) _ (rg.up u))) ?_
  refine Zc (ih _ (odd_kids hx ho).2.1 (odd_kids hx ho).2.2 _ _ (Nat.le_refl _) (h.more (B':=w7.heap.size) (by omega)) (rg.up u)) rfl rfl ?_
  rintro _ w8 ⟨s8,rfl,m8,hw8⟩
  have zw8:=hw8.size
  have g7:=own_below g7 hw8
  refine lg_appT g7 m8 (by first | omega | (simp only [List.length_append,List.length_cons,List.length_nil];omega)) (by omega) Wn rfl rfl rfl rfl rfl (by decide) fun r9 w9 m9 g9 l9 z9=>?_
  refine ZAn [4,7] ?_
  refine ZrM ?_
  refine ZAnr [4] ?_
  have u:=Un u hw8
  have u:=u.trans (l9.mono (by omega))
  exact Qa rfl rfl ⟨_,rfl,_,rfl,(by rw [res_both hx (at_kind (p:=fun k=>k=0) eg1 c2)];exact m9),u⟩
 refine Zan (yb (nd_t c2) yi_neq) [0,1,4,13] ?_
 refine cg_ct rfl ?_
 refine ZrM ?_
 refine lg_bslice (el:=3) (z:=nv 0) (cs:=#[nv x]) huIs (by kernel_rfl) (by decide) (by decide) rfl rfl (by kernel_rfl) rfl rfl (by decide) fun b10 w10 n10=>?_
 have r10:=n10.row
 have k10:=n10.blk
 have z10:=n10.size
 have m10:SlN w10 (b10+1) ⟨some ⟨b10,0,none⟩,1,1⟩ [x]:=new_SlN (xs:=[x]) r10 rfl (of_decide_eq_true (by kernel_rfl))
 have og10:w10.ownsRow b10 3 1 (.slice (some ⟨b10,0,none⟩) 1 1) ([x]:List Int).length (([x]:List Int).map (Value.int .i64)):=new_ownN (xs:=[x]) n10 rfl (of_decide_eq_true (by kernel_rfl))
 refine ZAn [0,1,4,5] ?_
 refine Qd ?_
 refine ZrA ?_
 refine Zn [0,1,4,5,6] ?_
 refine Qj ?_
 have hun:=unm_small hti x.toNat
 rw [atN_some eg1] at hun
 have le_u:=hun.2
 have h:=h.below (n10.below.mono (by omega))
 have u:=Un u n10.below
 refine Qr (fun t a v=>∃ (qr:SlV),Holds 61 [(0,s.v),(1,nv x),(5,qr.v),(6,nv ((t:Nat):Int))] a∧RwNd v W.heap.size s Ls∧v.ownsRow b10 3 1 qr.v ([x]++(eL1.inner.unm.take t).map (2*·)).length (([x]++(eL1.inner.unm.take t).map (2*·)).map (Value.int .i64))∧Below W.heap.size W v∧b10≤v.heap.size∧t≤eL1.inner.unm.length) (eL1.inner.unm.length+1) (fun a ha=>⟨(⟨some ⟨b10,0,none⟩,1,1⟩:SlV),ha.keep (fk rfl (fk rfl (fk rfl (fk rfl fn)))),h,(own_castN og10 (by simp)),u,(by omega),(Nat.zero_le _)⟩) ?_
 rintro t a v ht ⟨qr,ha,h,g0,u,cC,htl2⟩
 refine cg_at ha ?_
 clear ha a
 have zv:=u.size
 have q1:=h.len
 have q2:=h.cap
 have fl:((eL1.inner.unm.take t).map (2*·)).length≤64:=by rw [List.length_map,List.length_take];omega
 refine Qd ?_
 refine ZrM ?_
 refine ZM ?_
 refine ZM ?_
 obtain ⟨eb11,eo11,el11,eL11,eA11,eB11,eg11,eh11,ec11⟩:=h.at (x.toNat) (by have:=h.len;omega)
 obtain rfl:eL1=eL11:=Option.some.inj (eg1.symm.trans eg11)
 refine Za (y_ixR (s:=s) (el:=50) (k:=8) (i:=x.toNat) (iI:=x) eA11 (by kernel_rfl) (by kernel_rfl) (by omega) (by have:=h.len;omega) rfl rfl rfl) ?_
 refine Za (y_fld (off:=5)) ?_
 refine Za (y_fld (off:=2)) ?_
 refine Za (y_celld (ec11 7 _ rfl)) ?_
 refine Za (y_lenM (el:=3) eh11.inner.unm.len) ?_
 by_cases c12:((t:Nat):Int)<(eL1.inner.unm.length:Int)
 ·refine Zan (yb (dT c12) yi_lss) [0,1,5,6,24] ?_
  refine cg_ct rfl ?_
  refine Zki [0,1,5,6] ?_
  refine Qd ?_
  refine Qj ?_
  have htlt:t<eL1.inner.unm.length:=by omega
  have hub:=hun.1 _ (getD_in htlt)
  refine Qe ?_
  refine ZM ?_
  refine ZM ?_
  refine ZM ?_
  obtain ⟨eb13,eo13,el13,eL13,eA13,eB13,eg13,eh13,ec13⟩:=h.at (x.toNat) (by have:=h.len;omega)
  obtain rfl:eL1=eL13:=Option.some.inj (eg1.symm.trans eg13)
  refine Za (y_ixR (s:=s) (el:=50) (k:=8) (i:=x.toNat) (iI:=x) eA13 (by kernel_rfl) (by kernel_rfl) (by omega) (by have:=h.len;omega) rfl rfl rfl) ?_
  refine Za (y_fld (off:=5)) ?_
  refine Za (y_fld (off:=2)) ?_
  refine Za (y_celld (ec13 7 _ rfl)) ?_
  refine ZM ?_
  refine Za (y_ixT (i:=t) (iI:=((t:Nat):Int)) eh13.inner.unm (by omega) (by omega) rfl rfl rfl) ?_
  refine Za (y_ldT (i:=t) eh13.inner.unm (by omega) rfl rfl) ?_
  refine Za (yi_mul rfl rfl rfl (by omega) (by omega)) ?_
  refine lg_bslice (el:=3) (z:=nv 0) (cs:=#[nv (2*(eL1.inner.unm.getD t 0))]) huIs (by kernel_rfl) (by decide) (by decide) rfl rfl (by kernel_rfl) rfl rfl (by decide) fun b14 w14 n14=>?_
  have r14:=n14.row
  have k14:=n14.blk
  have z14:=n14.size
  have m14:SlN w14 (b14+1) ⟨some ⟨b14,0,none⟩,1,1⟩ [(2*(eL1.inner.unm.getD t 0))]:=new_SlN (xs:=[(2*(eL1.inner.unm.getD t 0))]) r14 rfl (of_decide_eq_true (by kernel_rfl))
  have og14:w14.ownsRow b14 3 1 (.slice (some ⟨b14,0,none⟩) 1 1) ([(2*(eL1.inner.unm.getD t 0))]:List Int).length (([(2*(eL1.inner.unm.getD t 0))]:List Int).map (Value.int .i64)):=new_ownN (xs:=[(2*(eL1.inner.unm.getD t 0))]) n14 rfl (of_decide_eq_true (by kernel_rfl))
  have g0:=own_below g0 n14.below
  refine lg_appT g0 m14 (by first | omega | (simp only [List.length_append,List.length_cons,List.length_nil];omega)) (by omega) Wn rfl rfl rfl rfl rfl (by decide) fun r15 w15 m15 g15 l15 z15=>?_
  refine ZA ?_
  refine Qk ?_
  refine Qi ?_
  refine Nx [0,1,6,5] ?_
  refine Qe ?_
  refine ZM ?_
  refine Za (yv (congrArg nv (show ((t:Nat):Int)+1=((t+1:Nat):Int) by omega)) (yi_add rfl rfl rfl (by omega) (by omega))) ?_
  refine ZA ?_
  refine Qk ?_
  have h:=(h.below (n14.below.mono (by omega))).below (l15.mono (by omega))
  have u:=Un u n14.below
  have u:=u.trans (l15.mono (by omega))
  exact fun a ha=>(show t<(eL1.inner.unm.length+1)∧_ from ⟨(by omega),r15,ha.keep (fk rfl (fk rfl (fk rfl (fk rfl fn)))),h,(own_castN g15 (by rw [take_succ_getD _ _ (by omega),List.map_append,List.append_assoc];rfl)),u,(by omega),(by omega)⟩)
 refine Zan (yb (dF c12) yi_lss) [0,1,5,6,24] ?_
 refine cg_cf rfl ?_
 refine cg_exit ?_
 refine Qh ?_
 refine Qh ?_
 refine Ql ?_
 refine Nx [0,1,5] ?_
 refine ZrM ?_
 refine ZAnr [0,1,4] ?_
 refine Qc ?_
 obtain rfl:t=eL1.inner.unm.length:=by omega
 exact Qa rfl rfl ⟨_,rfl,_,rfl,(by rw [res_one hx (at_kind (p:=fun k=>¬k=0) eg1 c2),nodeR,atN_some eg1];exact own_num (own_castN g0 (by rw [List.take_length];rfl))),u⟩
theorem rkeyBelow_all {Ls:List Nd} (hti:trIs Ls) {s:SlV}:∀ (n:Nat) (x:Int),isN x (Ls.length:Int)→lvl x<n→∀ (W:World) (B:Nat),B≤W.heap.size→RwNd W B s Ls→Tb W→Calls Tryz.prog 124 #[s.v,nv x] W fun e W'=>∃ v,e=.returned v∧∃ r:SlV,v=r.v∧SlN W' W'.heap.size r (resL Ls x)∧Below W.heap.size W W'
 | 0,x,hx,hl,_,_,_,_,_=>by
  have:=(kids hx).1
  omega
 | n+1,x,hx,hl,W,B,hB,h,rg=>below_step hti hx h hB rg fun y hy e W' B' hB' h' rg'=>rkeyBelow_all hti n y hy (by omega) W' B' hB' h' rg'
theorem rkeyBelow_any {Ls:List Nd} (hti:trIs Ls) {x:Int} (hx:isN x (Ls.length:Int)) {W:World} {B:Nat} {s:SlV} (h:RwNd W B s Ls) (hB:B≤W.heap.size) (rg:Tb W) :
  Calls Tryz.prog 124 #[s.v,nv x] W fun e W'=>∃ v,e=.returned v∧∃ r:SlV,v=r.v∧SlN W' W'.heap.size r (resL Ls x)∧Below W.heap.size W W' :=
 rkeyBelow_all hti 7 x hx (by have:=(kids hx).2.1;omega) W B hB h rg
theorem rfilter_any {W:World} {B:Nat} {s:SlV} {Ls:List Nd} (h:RwNd W B s Ls) (i:Int) (hB:B≤W.heap.size) (rg:Tb W):Calls Tryz.prog 88 #[s.v,nv i] W fun e W'=>∃ v,e=.returned v∧∃ r:SlV,v=r.v∧SlN W' W'.heap.size r ((forkL (trAs Ls) i).map Prod.fst)∧Below W.heap.size W W':=by
 have h:=h.more hB
 refine Qf (n:=52) Tryz.func88 rfl Tryz.ntmps88 (by simp) ?_
 show CG _ _ _ [(0,s.v),(1,nv i)] _ _
 have u:=Below.refl W.heap.size W
 have tl:=trAs_le Ls
 have lvd:leavesA (trAs Ls)=((trAs Ls).length+1) / 2:=rfl
 refine ZrA ?_
 refine Zn [0,1,4] ?_
 refine ZrM ?_
 refine Zc (as_any h (by omega)) rfl rfl ?_
 rintro _ w1 ⟨s1,rfl,m1,hw1⟩
 have zw1:=hw1.size
 have tl1:=trAs_le Ls
 refine ZAn [1,4,5] ?_
 refine Qd ?_
 refine ZrM ?_
 by_cases c2:i<0
 ·refine Za (yb (dT c2) yi_lss) ?_
  refine ZM ?_
  refine Zf 14 ?_
  refine Zf 14 ?_
  refine Zf 14 ?_
  refine Zf 14 ?_
  refine Zan (y_pick true) [1,4,5,19] ?_
  refine cg_ct rfl ?_
  refine ZrA ?_
  refine Znr [1,5,4] ?_
  refine Qc ?_
  have u:=Un u hw1
  exact Qa rfl rfl ⟨_,rfl,nilS,rfl,(by rw [fork_no (fun q=>by omega)];exact SlN.nil _ _),u⟩
 refine Za (yb (dF c2) yi_lss) ?_
 refine ZM ?_
 refine Zt 14 y_move ?_
 refine Zt 14 y_move ?_
 refine Zct 14 ((by have z:=rleavesT_any (m1.more (B':=w1.heap.size) (by omega)) (Nat.le_refl _);rwa [trAs_as] at z)) rfl rfl ?_
 rintro _ w3 ⟨rfl,hw3⟩
 have zw3:=hw3.size
 by_cases c4:((leavesA (trAs Ls):Nat):Int)≤i
 ·refine Zt 14 (yb (dT c4) yi_geq) ?_
  refine Zan (y_pick false) [1,4,5,19] ?_
  refine cg_ct rfl ?_
  refine ZrA ?_
  refine Znr [1,5,4] ?_
  refine Qc ?_
  have u:=Un (Un u hw1) hw3
  exact Qa rfl rfl ⟨_,rfl,nilS,rfl,(by rw [fork_no (fun q=>by omega)];exact SlN.nil _ _),u⟩
 have hN:isN (2*i) ((trAs Ls).length:Int):=isN_of (trAs_is Ls) (by omega) (by omega)
 have hxs:=fork_yes (a:=trAs Ls) (i:=i) ⟨by omega,by omega⟩
 refine Zt 14 (yb (dF c4) yi_geq) ?_
 refine Zan (y_pick false) [1,4,5,19] ?_
 refine Zcf [1,4,5] ?_
 refine ZrM ?_
 refine Za (yi_mul rfl rfl rfl (by omega) (by omega)) ?_
 refine ZM ?_
 have m1:=m1.below (hw3.mono (by omega))
 refine Za (y_lenM (el:=50) m1.len) ?_
 have u:=Un (Un u hw1) hw3
 refine Zc (rdirectF (2*i) ((trAs Ls).length:Int) _ (rg.up u)) rfl rfl ?_
 rintro _ w5 ⟨s5,rfl,m5,f5,hw5⟩
 have zw5:=hw5.size
 refine ZAn [1,4,5,6] ?_
 refine ZrM ?_
 refine Za (yi_mul rfl rfl rfl (by omega) (by omega)) ?_
 refine ZM ?_
 have m1:=m1.below (hw5.mono (by omega))
 refine Za (y_lenM (el:=50) m1.len) ?_
 have u:=Un u hw5
 refine Zc (rcopathF (2*i) ((trAs Ls).length:Int) _ (rg.up u)) rfl rfl ?_
 rintro _ w6 ⟨s6,rfl,m6,f6,hw6⟩
 have zw6:=hw6.size
 refine ZAn [4,5,6,7] ?_
 refine ZrA ?_
 refine Zn [4,5,6,7,8] ?_
 refine Qd ?_
 refine ZrA ?_
 refine Zn [4,5,6,7,8,9] ?_
 refine Qj ?_
 obtain ⟨C,hC⟩:∃ q,q=w6.heap.size:=⟨_,rfl⟩
 obtain ⟨wl,cl⟩:=wayP_len hN
 have dl:=dirL (2*i) ((trAs Ls).length:Int)
 have m1:=m1.below (hw6.mono (by omega))
 have m5:=m5.below (hw6.mono (by omega))
 have u:=Un u hw6
 refine Qr (fun t a v=>∃ (qr:SlV),Holds 52 [(5,s1.v),(6,s5.v),(7,s6.v),(8,qr.v),(9,nv ((t:Nat):Int))] a∧RwNd v C s1 (trAs Ls)∧SlN v C s6 (copI (2*i) ((trAs Ls).length:Int))∧SlN v C s5 (dirI (2*i) ((trAs Ls).length:Int))∧v.ownsRow C 3 1 qr.v ((forkF (trAs Ls) ((wayP (trAs Ls) i).take t)).map Prod.fst).length (((forkF (trAs Ls) ((wayP (trAs Ls) i).take t)).map Prod.fst).map (Value.int .i64))∧Below W.heap.size W v∧C≤v.heap.size∧t≤(copI (2*i) ((trAs Ls).length:Int)).length∧W.heap.size≤C) ((copI (2*i) ((trAs Ls).length:Int)).length+1) (fun a ha=>⟨nilS,ha.keep (fk rfl (fk rfl (fk rfl (fk rfl (fk rfl fn))))),(m1.more (by omega)),(m6.more (by omega)),(m5.more (by omega)),(own_nilN _ _),u,(by omega),(Nat.zero_le _),(by omega)⟩) ?_
 rintro t a v ht ⟨qr,ha,hra,hc,hd,g0,u,cC,htl,cW⟩
 refine cg_at ha ?_
 clear ha a
 have zv:=u.size
 have q1:=hra.len
 have q2:=hra.cap
 have q3:=hc.len
 have q4:=hc.cap
 have q5:=hd.len
 have q6:=hd.cap
 have fl:((forkF (trAs Ls) ((wayP (trAs Ls) i).take t)).map Prod.fst).length≤6:=by rw [List.length_map];exact Nat.le_trans (List.length_filter_le _ _) (by rw [List.length_take];omega)
 refine Qd ?_
 refine ZrM ?_
 refine ZM ?_
 refine Za (y_lenM (el:=3) hd.len) ?_
 by_cases c7:((t:Nat):Int)<((dirI (2*i) ((trAs Ls).length:Int)).length:Int)
 ·refine Zan (yb (dT c7) yi_lss) [5,6,7,8,9,33] ?_
  refine cg_ct rfl ?_
  refine Zki [5,6,7,8,9] ?_
  refine Qd ?_
  refine Qj ?_
  refine Qd ?_
  have htlt:t<(copI (2*i) ((trAs Ls).length:Int)).length:=by omega
  refine Qe ?_
  refine ZM ?_
  refine ZM ?_
  refine ZM ?_
  refine Za (y_ixT (i:=t) (iI:=((t:Nat):Int)) hc (by omega) (by first | omega | (simp only [List.length_append,List.length_cons,List.length_nil];omega)) rfl rfl rfl) ?_
  refine Za (y_ldT (i:=t) hc (by first | omega | (simp only [List.length_append,List.length_cons,List.length_nil];omega)) rfl rfl) ?_
  refine Zc (rkeyBelow_any (trAs_is Ls) (cop_node hN (by omega)).1 (hra.more (B':=v.heap.size) (by omega)) (Nat.le_refl _) (rg.up u)) rfl rfl ?_
  rintro _ w8 ⟨s8,rfl,m8,hw8⟩
  have zw8:=hw8.size
  have rl8:=res_len (trAs_is Ls) ((copI (2*i) ((trAs Ls).length:Int)).getD t 0)
  refine Za (y_lenM (el:=3) m8.len) ?_
  by_cases c9:0<((resL (trAs Ls) ((copI (2*i) ((trAs Ls).length:Int)).getD t 0)).length:Int)
  ·refine Zan (yb (dT c9) yi_gtr) [5,6,7,8,9,43] ?_
   refine cg_ct rfl ?_
   refine Qe ?_
   refine ZM ?_
   refine ZM ?_
   refine ZM ?_
   have hd:=hd.below (hw8.mono (by omega))
   refine Za (y_ixT (i:=t) (iI:=((t:Nat):Int)) hd (by omega) (by first | omega | (simp only [List.length_append,List.length_cons,List.length_nil];omega)) rfl rfl rfl) ?_
   refine Za (y_ldT (i:=t) hd (by first | omega | (simp only [List.length_append,List.length_cons,List.length_nil];omega)) rfl rfl) ?_
   refine lg_bslice (el:=3) (z:=nv 0) (cs:=#[nv ((dirI (2*i) ((trAs Ls).length:Int)).getD t 0)]) huIs (by kernel_rfl) (by decide) (by decide) rfl rfl (by kernel_rfl) rfl rfl (by decide) fun b10 w10 n10=>?_
   have r10:=n10.row
   have k10:=n10.blk
   have z10:=n10.size
   have m10:SlN w10 (b10+1) ⟨some ⟨b10,0,none⟩,1,1⟩ [((dirI (2*i) ((trAs Ls).length:Int)).getD t 0)]:=new_SlN (xs:=[((dirI (2*i) ((trAs Ls).length:Int)).getD t 0)]) r10 rfl (of_decide_eq_true (by kernel_rfl))
   have og10:w10.ownsRow b10 3 1 (.slice (some ⟨b10,0,none⟩) 1 1) ([((dirI (2*i) ((trAs Ls).length:Int)).getD t 0)]:List Int).length (([((dirI (2*i) ((trAs Ls).length:Int)).getD t 0)]:List Int).map (Value.int .i64)):=new_ownN (xs:=[((dirI (2*i) ((trAs Ls).length:Int)).getD t 0)]) n10 rfl (of_decide_eq_true (by kernel_rfl))
   have g0:=own_below g0 hw8
   have g0:=own_below g0 n10.below
   refine lg_appT g0 m10 (by first | omega | (simp only [List.length_cons,List.length_nil];omega)) (by omega) Wn rfl rfl rfl rfl rfl (by decide) fun r11 w11 m11 g11 l11 z11=>?_
   refine ZA ?_
   refine Qk ?_
   refine Qi ?_
   refine Nx [5,6,7,9,8] ?_
   refine Qe ?_
   refine ZM ?_
   refine Za (yv (congrArg nv (show ((t:Nat):Int)+1=((t+1:Nat):Int) by omega)) (yi_add rfl rfl rfl (by omega) (by omega))) ?_
   refine ZA ?_
   refine Qk ?_
   have hra:=((hra.below (hw8.mono (by omega))).below (n10.below.mono (by omega))).below (l11.mono (by omega))
   have hc:=((hc.below (hw8.mono (by omega))).below (n10.below.mono (by omega))).below (l11.mono (by omega))
   have hd:=(hd.below (n10.below.mono (by omega))).below (l11.mono (by omega))
   have u:=Un (Un u hw8) n10.below
   have u:=u.trans (l11.mono (by omega))
   exact fun a ha=>(show t<((copI (2*i) ((trAs Ls).length:Int)).length+1)∧_ from ⟨(by omega),r11,ha.keep (fk rfl (fk rfl (fk rfl (fk rfl (fk rfl fn))))),hra,hc,hd,(own_castN g11 (by rw [(wayP_at hN (show t<(dirI (2*i) ((trAs Ls).length:Int)).length by omega)),forkF_yes (p:=((dirI (2*i) ((trAs Ls).length:Int)).getD t 0,(copI (2*i) ((trAs Ls).length:Int)).getD t 0)) (res_some.1 c9),List.map_append];rfl)),u,(by omega),(by omega),cW⟩)
  refine Zan (yb (dF c9) yi_gtr) [5,6,7,8,9,43] ?_
  refine cg_cf rfl ?_
  refine cg_skip ?_
  refine Qi ?_
  refine Nx [5,6,7,8,9] ?_
  refine Qe ?_
  refine ZM ?_
  refine Za (yv (congrArg nv (show ((t:Nat):Int)+1=((t+1:Nat):Int) by omega)) (yi_add rfl rfl rfl (by omega) (by omega))) ?_
  refine ZA ?_
  refine Qk ?_
  have g0:=own_below g0 hw8
  have hra:=hra.below (hw8.mono (by omega))
  have hc:=hc.below (hw8.mono (by omega))
  have hd:=hd.below (hw8.mono (by omega))
  have u:=Un u hw8
  exact fun a ha=>(show t<((copI (2*i) ((trAs Ls).length:Int)).length+1)∧_ from ⟨(by omega),qr,ha.keep (fk rfl (fk rfl (fk rfl (fk rfl (fk rfl fn))))),hra,hc,hd,(own_castN g0 (by rw [(wayP_at hN (show t<(dirI (2*i) ((trAs Ls).length:Int)).length by omega)),forkF_no (p:=((dirI (2*i) ((trAs Ls).length:Int)).getD t 0,(copI (2*i) ((trAs Ls).length:Int)).getD t 0)) (fun q=>c9 (res_some.2 q))])),u,(by omega),(by omega),cW⟩)
 refine Zan (yb (dF c7) yi_lss) [5,6,7,8,9,33] ?_
 refine cg_cf rfl ?_
 refine cg_exit ?_
 refine Qh ?_
 refine Qh ?_
 refine Ql ?_
 refine Nx [8] ?_
 refine ZrM ?_
 refine ZAnr [4] ?_
 obtain rfl:t=(copI (2*i) ((trAs Ls).length:Int)).length:=by omega
 exact Qa rfl rfl ⟨_,rfl,_,rfl,(by rw [hxs];exact own_num (own_castN g0 (by rw [List.take_of_length_le (by omega)]))),u⟩
end Go.Proofs.YtfdmhdnlmndhdaaGreatDoor
