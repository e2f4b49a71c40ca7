/-
  What is planned: the document.
-/
import Derived.Test.YtfdmhdnlmndhdaaGreatDoorChRef
namespace Go.Proofs.YtfdmhdnlmndhdaaGreatDoor
open Go.ChangeShapes Go.WideShapes Go.ChangeAt Go.RowKit
set_option linter.unusedVariables false

set_option maxRecDepth 20000
theorem rbesideF_any {W:World} {B:Nat} {s:SlV} {Ls:List Nd} (h:RwNd W B s Ls) (i:Int) (hB:B≤W.heap.size) (rg:Tb W):Calls Tryz.prog 90 #[s.v,nv i] W fun e W'=>∃ v,e=.returned v∧∃ r:SlV,v=r.v∧SlN W' W'.heap.size r ((forkL (trAs Ls) i).map Prod.snd)∧Fr W.heap.size r∧Below W.heap.size W W':=by
 have h:=h.more hB
 refine Qf (n:=46) Tryz.func90 rfl Tryz.ntmps90 (by simp) ?_
 show CG _ _ _ [(0,s.v),(1,nv i)] _ _
 have u:=Below.refl W.heap.size W
 have tl:=trAs_le Ls
 have lvd:leavesA (trAs Ls)=((trAs Ls).length+1) / 2:=rfl
 refine ZrA ?_
 refine Zn [0,1,4] ?_
 refine ZrM ?_
 refine Zc (as_any h (by omega)) rfl rfl ?_
 rintro _ w1 ⟨s1,rfl,m1,hw1⟩
 have zw1:=hw1.size
 have tl1:=trAs_le Ls
 refine ZAn [1,4,5] ?_
 refine Qd ?_
 refine ZrM ?_
 by_cases c2:i<0
 ·refine Za (yb (dT c2) yi_lss) ?_
  refine ZM ?_
  refine Zf 13 ?_
  refine Zf 13 ?_
  refine Zf 13 ?_
  refine Zf 13 ?_
  refine Zan (y_pick true) [1,4,5,18] ?_
  refine cg_ct rfl ?_
  refine ZrA ?_
  refine Znr [1,5,4] ?_
  refine Qc ?_
  have u:=Un u hw1
  exact Qa rfl rfl ⟨_,rfl,nilS,rfl,(by rw [fork_no (fun q=>by omega)];exact SlN.nil _ _),Fr.nil _,u⟩
 refine Za (yb (dF c2) yi_lss) ?_
 refine ZM ?_
 refine Zt 13 y_move ?_
 refine Zt 13 y_move ?_
 refine Zct 13 ((by have z:=rleavesT_any (m1.more (B':=w1.heap.size) (by omega)) (Nat.le_refl _);rwa [trAs_as] at z)) rfl rfl ?_
 rintro _ w3 ⟨rfl,hw3⟩
 have zw3:=hw3.size
 by_cases c4:((leavesA (trAs Ls):Nat):Int)≤i
 ·refine Zt 13 (yb (dT c4) yi_geq) ?_
  refine Zan (y_pick false) [1,4,5,18] ?_
  refine cg_ct rfl ?_
  refine ZrA ?_
  refine Znr [1,5,4] ?_
  refine Qc ?_
  have u:=Un (Un u hw1) hw3
  exact Qa rfl rfl ⟨_,rfl,nilS,rfl,(by rw [fork_no (fun q=>by omega)];exact SlN.nil _ _),Fr.nil _,u⟩
 have hN:isN (2*i) ((trAs Ls).length:Int):=isN_of (trAs_is Ls) (by omega) (by omega)
 have hxs:=fork_yes (a:=trAs Ls) (i:=i) ⟨by omega,by omega⟩
 refine Zt 13 (yb (dF c4) yi_geq) ?_
 refine Zan (y_pick false) [1,4,5,18] ?_
 refine Zcf [1,4,5] ?_
 refine ZrM ?_
 refine Za (yi_mul rfl rfl rfl (by omega) (by omega)) ?_
 refine ZM ?_
 have m1:=m1.below (hw3.mono (by omega))
 refine Za (y_lenM (el:=50) m1.len) ?_
 have u:=Un (Un u hw1) hw3
 refine Zc (rcopathF (2*i) ((trAs Ls).length:Int) _ (rg.up u)) rfl rfl ?_
 rintro _ w5 ⟨s5,rfl,m5,f5,hw5⟩
 have zw5:=hw5.size
 refine ZAn [4,5,6] ?_
 refine ZrA ?_
 refine Zn [4,5,6,7] ?_
 refine Qd ?_
 refine ZrA ?_
 refine Zn [4,5,6,7,8] ?_
 refine Qj ?_
 obtain ⟨C,hC⟩:∃ q,q=w5.heap.size:=⟨_,rfl⟩
 obtain ⟨wl,cl⟩:=wayP_len hN
 have dl:=dirL (2*i) ((trAs Ls).length:Int)
 have m1:=m1.below (hw5.mono (by omega))
 have u:=Un u hw5
 refine Qr (fun t a v=>∃ (qr:SlV),Holds 46 [(5,s1.v),(6,s5.v),(7,qr.v),(8,nv ((t:Nat):Int))] a∧RwNd v C s1 (trAs Ls)∧SlN v C s5 (copI (2*i) ((trAs Ls).length:Int))∧v.ownsRow C 3 1 qr.v ((forkF (trAs Ls) ((wayP (trAs Ls) i).take t)).map Prod.snd).length (((forkF (trAs Ls) ((wayP (trAs Ls) i).take t)).map Prod.snd).map (Value.int .i64))∧Below W.heap.size W v∧C≤v.heap.size∧t≤(copI (2*i) ((trAs Ls).length:Int)).length∧W.heap.size≤C) ((copI (2*i) ((trAs Ls).length:Int)).length+1) (fun a ha=>⟨nilS,ha.keep (fk rfl (fk rfl (fk rfl (fk rfl fn)))),(m1.more (by omega)),(m5.more (by omega)),(own_nilN _ _),u,(by omega),(Nat.zero_le _),(by omega)⟩) ?_
 rintro t a v ht ⟨qr,ha,hra,hc,g0,u,cC,htl,cW⟩
 refine cg_at ha ?_
 clear ha a
 have zv:=u.size
 have q1:=hra.len
 have q2:=hra.cap
 have q3:=hc.len
 have q4:=hc.cap
 have fl:((forkF (trAs Ls) ((wayP (trAs Ls) i).take t)).map Prod.snd).length≤6:=by rw [List.length_map];exact Nat.le_trans (List.length_filter_le _ _) (by rw [List.length_take];omega)
 refine Qd ?_
 refine ZrM ?_
 refine ZM ?_
 refine Za (y_lenM (el:=3) hc.len) ?_
 by_cases c6:((t:Nat):Int)<((copI (2*i) ((trAs Ls).length:Int)).length:Int)
 ·refine Zan (yb (dT c6) yi_lss) [5,6,7,8,27] ?_
  refine cg_ct rfl ?_
  refine Zki [5,6,7,8] ?_
  refine Qd ?_
  refine Qj ?_
  refine Qd ?_
  have htlt:t<(copI (2*i) ((trAs Ls).length:Int)).length:=by omega
  refine Qe ?_
  refine ZM ?_
  refine ZM ?_
  refine ZM ?_
  refine Za (y_ixT (i:=t) (iI:=((t:Nat):Int)) hc (by omega) (by first | omega | (simp only [List.length_append,List.length_cons,List.length_nil];omega)) rfl rfl rfl) ?_
  refine Za (y_ldT (i:=t) hc (by first | omega | (simp only [List.length_append,List.length_cons,List.length_nil];omega)) rfl rfl) ?_
  refine Zc (rkeyBelow_any (trAs_is Ls) (cop_node hN (by omega)).1 (hra.more (B':=v.heap.size) (by omega)) (Nat.le_refl _) (rg.up u)) rfl rfl ?_
  rintro _ w7 ⟨s7,rfl,m7,hw7⟩
  have zw7:=hw7.size
  have rl7:=res_len (trAs_is Ls) ((copI (2*i) ((trAs Ls).length:Int)).getD t 0)
  refine Za (y_lenM (el:=3) m7.len) ?_
  by_cases c8:0<((resL (trAs Ls) ((copI (2*i) ((trAs Ls).length:Int)).getD t 0)).length:Int)
  ·refine Zan (yb (dT c8) yi_gtr) [5,6,7,8,37] ?_
   refine cg_ct rfl ?_
   refine Qe ?_
   refine ZM ?_
   refine ZM ?_
   refine ZM ?_
   have hc:=hc.below (hw7.mono (by omega))
   refine Za (y_ixT (i:=t) (iI:=((t:Nat):Int)) hc (by omega) (by first | omega | (simp only [List.length_append,List.length_cons,List.length_nil];omega)) rfl rfl rfl) ?_
   refine Za (y_ldT (i:=t) hc (by first | omega | (simp only [List.length_append,List.length_cons,List.length_nil];omega)) rfl rfl) ?_
   refine lg_bslice (el:=3) (z:=nv 0) (cs:=#[nv ((copI (2*i) ((trAs Ls).length:Int)).getD t 0)]) huIs (by kernel_rfl) (by decide) (by decide) rfl rfl (by kernel_rfl) rfl rfl (by decide) fun b9 w9 n9=>?_
   have r9:=n9.row
   have k9:=n9.blk
   have z9:=n9.size
   have m9:SlN w9 (b9+1) ⟨some ⟨b9,0,none⟩,1,1⟩ [((copI (2*i) ((trAs Ls).length:Int)).getD t 0)]:=new_SlN (xs:=[((copI (2*i) ((trAs Ls).length:Int)).getD t 0)]) r9 rfl (of_decide_eq_true (by kernel_rfl))
   have og9:w9.ownsRow b9 3 1 (.slice (some ⟨b9,0,none⟩) 1 1) ([((copI (2*i) ((trAs Ls).length:Int)).getD t 0)]:List Int).length (([((copI (2*i) ((trAs Ls).length:Int)).getD t 0)]:List Int).map (Value.int .i64)):=new_ownN (xs:=[((copI (2*i) ((trAs Ls).length:Int)).getD t 0)]) n9 rfl (of_decide_eq_true (by kernel_rfl))
   have g0:=own_below g0 hw7
   have g0:=own_below g0 n9.below
   refine lg_appT g0 m9 (by first | omega | (simp only [List.length_cons,List.length_nil];omega)) (by omega) Wn rfl rfl rfl rfl rfl (by decide) fun r10 w10 m10 g10 l10 z10=>?_
   refine ZA ?_
   refine Qk ?_
   refine Qi ?_
   refine Nx [5,6,8,7] ?_
   refine Qe ?_
   refine ZM ?_
   refine Za (yv (congrArg nv (show ((t:Nat):Int)+1=((t+1:Nat):Int) by omega)) (yi_add rfl rfl rfl (by omega) (by omega))) ?_
   refine ZA ?_
   refine Qk ?_
   have hra:=((hra.below (hw7.mono (by omega))).below (n9.below.mono (by omega))).below (l10.mono (by omega))
   have hc:=(hc.below (n9.below.mono (by omega))).below (l10.mono (by omega))
   have u:=Un (Un u hw7) n9.below
   have u:=u.trans (l10.mono (by omega))
   exact fun a ha=>(show t<((copI (2*i) ((trAs Ls).length:Int)).length+1)∧_ from ⟨(by omega),r10,ha.keep (fk rfl (fk rfl (fk rfl (fk rfl fn)))),hra,hc,(own_castN g10 (by rw [(wayP_at hN (show t<(dirI (2*i) ((trAs Ls).length:Int)).length by omega)),forkF_yes (p:=((dirI (2*i) ((trAs Ls).length:Int)).getD t 0,(copI (2*i) ((trAs Ls).length:Int)).getD t 0)) (res_some.1 c8),List.map_append];rfl)),u,(by omega),(by omega),cW⟩)
  refine Zan (yb (dF c8) yi_gtr) [5,6,7,8,37] ?_
  refine cg_cf rfl ?_
  refine cg_skip ?_
  refine Qi ?_
  refine Nx [5,6,7,8] ?_
  refine Qe ?_
  refine ZM ?_
  refine Za (yv (congrArg nv (show ((t:Nat):Int)+1=((t+1:Nat):Int) by omega)) (yi_add rfl rfl rfl (by omega) (by omega))) ?_
  refine ZA ?_
  refine Qk ?_
  have g0:=own_below g0 hw7
  have hra:=hra.below (hw7.mono (by omega))
  have hc:=hc.below (hw7.mono (by omega))
  have u:=Un u hw7
  exact fun a ha=>(show t<((copI (2*i) ((trAs Ls).length:Int)).length+1)∧_ from ⟨(by omega),qr,ha.keep (fk rfl (fk rfl (fk rfl (fk rfl fn)))),hra,hc,(own_castN g0 (by rw [(wayP_at hN (show t<(dirI (2*i) ((trAs Ls).length:Int)).length by omega)),forkF_no (p:=((dirI (2*i) ((trAs Ls).length:Int)).getD t 0,(copI (2*i) ((trAs Ls).length:Int)).getD t 0)) (fun q=>c8 (res_some.2 q))])),u,(by omega),(by omega),cW⟩)
 refine Zan (yb (dF c6) yi_lss) [5,6,7,8,27] ?_
 refine cg_cf rfl ?_
 refine cg_exit ?_
 refine Qh ?_
 refine Qh ?_
 refine Ql ?_
 refine Nx [7] ?_
 refine ZrM ?_
 refine ZAnr [4] ?_
 obtain rfl:t=(copI (2*i) ((trAs Ls).length:Int)).length:=by omega
 exact Qa rfl rfl ⟨_,rfl,_,rfl,(by rw [hxs];exact own_num (own_castN g0 (by rw [List.take_of_length_le (by omega)]))),own_fr (n:=0) g0 rfl (by omega),u⟩
theorem OwnNa.hs {w w':World} {g T:Nat} {s r:SlV} {Ls:List Nd} {xs:List Int} (h:OwnNa w g T s Ls) (hs:Hs w r xs) (k:Alt w w' g):Hs w' r xs:=by
 obtain ⟨_,_,ps,cur,_,_,_,_,h5,_⟩:=h
 refine hs.kept k fun q c e z=>?_
 subst z
 unfold RowAt at h5
 rw [h5] at e
 injection e with e
 injection e with _ e
 exact nd_ne_u8 e
theorem clr_take {ds:List Int} {t:Nat} {a:List Nd} (h:t<ds.length):(clr (ds.take t) a).set (ds.getD t 0).toNat Nd.zero=clr (ds.take (t+1)) a:=by
 rw [take_succ_getD ds t h,clr_snoc]
theorem plan_tree {a:List Nd} (ha:trIs a) {i:Int} {ks:List (List Int)} (h:planE a i ks=0) (k:Nat):trIs (planF (plan0 a i) ((planZ a i ks).drop k)).1:=planF_is (plan0_is ha i) fun z hz=>by
 rw [plan0_len]
 exact planZ_nodes ha h z (List.mem_of_mem_drop hz)
theorem fork_at {a:List Nd} (ha:trIs a) {i:Int} {k:Nat} (hk:k<(forkL a i).length):isN (((forkL a i).map Prod.fst).getD k 0) (a.length:Int)∧sibI (sibI (((forkL a i).map Prod.snd).getD k 0) (a.length:Int)) (a.length:Int)=((forkL a i).map Prod.snd).getD k 0:=by
 have hm:(forkL a i)[k]∈forkL a i:=List.getElem_mem hk
 obtain ⟨h1,h2,h3,h4,h5⟩:=fork_nodes ha hm
 rw [List.getD_eq_getElem?_getD,List.getD_eq_getElem?_getD,List.getElem?_map,List.getElem?_map,List.getElem?_eq_getElem hk]
 exact ⟨h1,sib_way h4 (List.of_mem_zip h5).2⟩
theorem Tb.set {w w':World} {b:Nat} {t:TypeId} {cs:Array Value} (st:Set1 w w' b t cs) (h:Tb w) (h1:b≠1):Tb w':=by
 obtain ⟨tg,r⟩:=h
 exact ⟨tg,st.keep r (Ne.symm h1)⟩
theorem dirI_in {x w:Int} (h:isN x w):∀ d∈dirI x w,0≤d∧d<w:=fin2 (p:=fun x w=>∀ d∈dirI x w,0≤d∧d<w) (by kernel_rfl) h
theorem getD_inO {l:List (List Int)} {k:Nat} (h:k<l.length):l.getD k []∈l:=by
 rw [List.getD_eq_getElem?_getD,List.getElem?_eq_getElem h]
 exact List.getElem_mem h
set_option maxHeartbeats 4000000 in
theorem rplan_any {W:World} {B:Nat} {s r:SlV} {Ls:List Nd} {Ks:List (List Int)} (h:RwNd W B s Ls) (i:Int) (hk:RwOc W B r Ks) (hB:B≤W.heap.size) (rg:Tb W):Calls Tryz.prog 54 #[s.v,nv i,r.v] W fun e W'=>∃ v,e=.returned v∧∃ s' r':SlV,v=.tuple #[s'.v,r'.v,nv (planE (trAs Ls) i Ks)]∧RwNd W' W'.heap.size s' (planP (trAs Ls) i Ks)∧Sl W' W'.heap.size r' (planH (trAs Ls) i Ks)∧Below W.heap.size W W':=by
 have rg0:=rg.lt
 have h:=h.more hB
 have hk:=hk.more hB
 refine Qf (n:=99) Tryz.func54 rfl Tryz.ntmps54 (by simp) ?_
 show CG _ _ _ [(0,s.v),(1,nv i),(2,r.v)] _ _
 have u:=Below.refl W.heap.size W
 have q1:=h.len
 have q2:=h.cap
 have q3:=hk.len
 have q4:=hk.cap
 have tl:=trAs_le Ls
 have lvd:leavesA (trAs Ls)=((trAs Ls).length+1) / 2:=rfl
 refine ZrA ?_
 refine ZA ?_
 refine ZAn [0,1,2,6,7,8] ?_
 refine ZrM ?_
 refine Zc (as_any h (by omega)) rfl rfl ?_
 rintro _ w1 ⟨s1,rfl,m1,hw1⟩
 have zw1:=hw1.size
 have tl1:=trAs_le Ls
 refine ZAn [1,2,6,7,8,9] ?_
 refine Qd ?_
 refine ZrM ?_
 by_cases c2:i<0
 ·refine Za (yb (dT c2) yi_lss) ?_
  refine ZM ?_
  refine Zf 21 ?_
  refine Zf 21 ?_
  refine Zf 21 ?_
  refine Zf 21 ?_
  refine Zan (y_pick true) [1,2,6,7,8,9,26] ?_
  refine cg_ct rfl ?_
  refine ZrA ?_
  refine ZA ?_
  refine ZAnr [1,2,9,6,7,8] ?_
  refine Qc ?_
  have hpe:planE (trAs Ls) i Ks=3:=(planE_range (fun q=>by omega))
  obtain ⟨hp1,hp2⟩:=planP_no (a:=trAs Ls) (i:=i) (ks:=Ks) (by rw [hpe];decide)
  have u:=Un u hw1
  exact eg_ret_tmp3 rfl rfl rfl rfl ⟨_,rfl,nilS,nilS,congrArg (fun q=>Value.tuple #[_,_,nv q]) hpe.symm,(by rw [hp1];exact RwNd.nil _ _),(by rw [hp2];exact Sl.nil _ _),u⟩
 refine Za (yb (dF c2) yi_lss) ?_
 refine ZM ?_
 refine Zt 21 y_move ?_
 refine Zt 21 y_move ?_
 refine Zct 21 ((by have z:=rleavesT_any (m1.more (B':=w1.heap.size) (by omega)) (Nat.le_refl _);rwa [trAs_as] at z)) rfl rfl ?_
 rintro _ w3 ⟨rfl,hw3⟩
 have zw3:=hw3.size
 by_cases c4:((leavesA (trAs Ls):Nat):Int)≤i
 ·refine Zt 21 (yb (dT c4) yi_geq) ?_
  refine Zan (y_pick false) [1,2,6,7,8,9,26] ?_
  refine cg_ct rfl ?_
  refine ZrA ?_
  refine ZA ?_
  refine ZAnr [1,2,9,6,7,8] ?_
  refine Qc ?_
  have hpe:planE (trAs Ls) i Ks=3:=(planE_range (fun q=>by omega))
  obtain ⟨hp1,hp2⟩:=planP_no (a:=trAs Ls) (i:=i) (ks:=Ks) (by rw [hpe];decide)
  have u:=Un (Un u hw1) hw3
  exact eg_ret_tmp3 rfl rfl rfl rfl ⟨_,rfl,nilS,nilS,congrArg (fun q=>Value.tuple #[_,_,nv q]) hpe.symm,(by rw [hp1];exact RwNd.nil _ _),(by rw [hp2];exact Sl.nil _ _),u⟩
 have hi0:0≤i∧i<leavesA (trAs Ls):=⟨by omega,by omega⟩
 have hN:isN (2*i) ((trAs Ls).length:Int):=isN_of (trAs_is Ls) (by omega) (by omega)
 have hpos:0<(trAs Ls).length:=by omega
 have fl6:=fork_len (trAs Ls) i
 refine Zt 21 (yb (dF c4) yi_geq) ?_
 refine Zan (y_pick false) [1,2,6,7,8,9,26] ?_
 refine Zcf [1,2,6,7,8,9] ?_
 refine ZrM ?_
 refine ZM ?_
 have m1:=m1.below (hw3.mono (by omega))
 have u:=Un (Un u hw1) hw3
 refine Zc ((by have z:=rfilter_any (m1.more (B':=w3.heap.size) (by omega)) i (Nat.le_refl _) (rg.up u);rwa [trAs_as] at z)) rfl rfl ?_
 rintro _ w5 ⟨s5,rfl,m5,hw5⟩
 have zw5:=hw5.size
 refine ZAn [1,2,6,7,8,9,10] ?_
 refine Qd ?_
 refine ZrM ?_
 have hk:=((hk.below (hw1.mono (by omega))).below (hw3.mono (by omega))).below (hw5.mono (by omega))
 refine Za (y_lenM (el:=23) hk.len) ?_
 refine ZM ?_
 refine Za (y_lenM (el:=3) m5.len) ?_
 by_cases c6:(Ks.length:Int)=(((forkL (trAs Ls) i).map Prod.fst).length:Int)
 ·have hkl:Ks.length=(forkL (trAs Ls) i).length:=by have z:=c6;rw [List.length_map] at z;omega
  refine Zan (yb (nd_f c6) yi_neq) [1,2,6,7,8,9,10,34] ?_
  refine Zcf [1,2,6,7,8,9,10] ?_
  refine Qd ?_
  refine ZrM ?_
  refine Zc (rwrong_any (hk.more (B':=w5.heap.size) (by omega)) (Nat.le_refl _)) rfl rfl ?_
  rintro _ w7 ⟨rfl,hw7⟩
  have zw7:=hw7.size
  by_cases c8:(keysE Ks)=0
  ·have hE:planE (trAs Ls) i Ks=0:=by rw [planE_keys hi0 hkl];exact c8
   refine Zan (yb (nd_f c8) yi_neq) [1,2,6,7,8,9,10,37] ?_
   refine Zcf [1,2,6,7,8,9,10] ?_
   refine Zr ?_
   obtain ⟨bs10,hbs10⟩:∃ q,q=w7.heap.size:=⟨_,rfl⟩
   refine lg_bs0R Wn rfl rfl (by decide) fun v9 w9 g9 l9=>?_
   rw [←hbs10] at g9
   have z9:=l9.size
   refine ZM ?_
   have m1:=((m1.below (hw5.mono (by omega))).below (hw7.mono (by omega))).below (l9.mono (by omega))
   refine lg_appR g9 (m1.src.more (B':=bs10) (by omega)) (Nat.le_refl _) (by first | omega | (simp only [List.length_nil];omega)) (by omega) Wn rfl rfl rfl rfl rfl (by decide) fun r11 w11 g11 m11 l11 z11=>?_
   rw [List.nil_append] at g11
   clear m11
   refine ZAn [1,2,6,7,8,9,10,11] ?_
   refine Qd ?_
   obtain ⟨ga,gb,gn⟩:=OwnNa.of g11 (Nat.le_refl _) (by omega) hpos
   have gnl:=gn.lt
   refine Qe ?_
   refine ZM ?_
   refine Za (yi_mul rfl rfl rfl (by omega) (by omega)) ?_
   refine ZM ?_
   have m1:=m1.below (l11.mono (by omega))
   refine Za (y_lenM (el:=50) m1.len) ?_
   have u:=Un (Un (Un u hw5) hw7) l9
   have u:=u.trans (l11.mono (by omega))
   refine Zc (rdirectF (2*i) ((trAs Ls).length:Int) _ (rg.up u)) rfl rfl ?_
   rintro _ w12 ⟨s12,rfl,m12,f12,hw12⟩
   have zw12:=hw12.size
   refine ZAn [1,2,6,7,8,9,10,11,12] ?_
   refine Qd ?_
   refine ZrA ?_
   refine Zn [1,2,6,7,8,9,10,11,12,13] ?_
   refine Qj ?_
   obtain ⟨C,hC⟩:∃ q,q=w12.heap.size:=⟨_,rfl⟩
   have dlt:=dirL (2*i) ((trAs Ls).length:Int)
   have m1:=m1.below (hw12.mono (by omega))
   have m5:=(m5.below (hw7.mono (by omega))).below (l9.mono (by omega))
   have m5:=(m5.below (l11.mono (by omega))).below (hw12.mono (by omega))
   have gn:=gn.below hw12
   have hk:=(hk.below (hw7.mono (by omega))).below (l9.mono (by omega))
   have hk:=(hk.below (l11.mono (by omega))).below (hw12.mono (by omega))
   have u:=Un u hw12
   refine Qr (fun t a v=>Holds 99 [(1,nv i),(2,r.v),(9,s1.v),(10,s5.v),(11,r11.v),(12,s12.v),(13,nv ((t:Nat):Int))] a∧RwOc v W.heap.size r Ks∧RwNd v bs10 s1 (trAs Ls)∧SlN v bs10 s5 ((forkL (trAs Ls) i).map Prod.fst)∧SlN v C s12 (dirI (2*i) ((trAs Ls).length:Int))∧Below W.heap.size W v∧C≤v.heap.size∧t≤(dirI (2*i) ((trAs Ls).length:Int)).length∧OwnNa v ga v.heap.size r11 (clr ((dirI (2*i) ((trAs Ls).length:Int)).take t) (trAs Ls))) ((dirI (2*i) ((trAs Ls).length:Int)).length+1) (fun a ha=>⟨ha.keep (fk rfl (fk rfl (fk rfl (fk rfl (fk rfl (fk rfl (fk rfl fn))))))),hk,(m1.more (by omega)),(m5.more (by omega)),(m12.more (by omega)),u,(by omega),(Nat.zero_le _),gn.up⟩) ?_
   rintro t a v ht ⟨ha,hk,hra,hw,hd,u,cC,tle,go⟩
   refine cg_at ha ?_
   clear ha a
   have zv:=u.size
   have q3:=hk.len
   have q4:=hk.cap
   have qd:=hd.len
   have qw:=hw.len
   have cl:=clr_len ((dirI (2*i) ((trAs Ls).length:Int)).take t) (trAs Ls)
   have qo:=go.len
   have gl:=go.lt
   refine Qd ?_
   refine ZrM ?_
   refine ZM ?_
   refine Za (y_lenM (el:=3) hd.len) ?_
   by_cases c13:((t:Nat):Int)<((dirI (2*i) ((trAs Ls).length:Int)).length:Int)
   ·refine Zan (yb (dT c13) yi_lss) [1,2,9,10,11,12,13,51] ?_
    refine cg_ct rfl ?_
    refine Zki [1,2,9,10,11,12,13] ?_
    refine Qd ?_
    refine Qj ?_
    have htn:t<(dirI (2*i) ((trAs Ls).length:Int)).length:=by omega
    have hdn:=dirI_in hN _ (getD_in htn)
    refine Qe ?_
    refine ZM ?_
    refine ZM ?_
    refine ZM ?_
    refine Za (y_ixT (i:=t) (iI:=((t:Nat):Int)) hd (by omega) (by first | omega | (simp only [List.length_append,List.length_cons,List.length_nil];omega)) rfl rfl rfl) ?_
    refine Za (yv (congrArg nv (show (dirI (2*i) ((trAs Ls).length:Int)).getD t 0=(((dirI (2*i) ((trAs Ls).length:Int)).getD t 0).toNat:Int) by have:=dirI_in hN _ (getD_in htn);omega)) (y_ldT (i:=t) hd (by first | omega | (simp only [List.length_append,List.length_cons,List.length_nil];omega)) rfl rfl)) ?_
    refine Za (y_build (cs:=NdV.zero.cs Nd.zero)) ?_
    refine Za (y_ixR (s:=r11) (el:=50) (k:=8) (i:=(((dirI (2*i) ((trAs Ls).length:Int)).getD t 0).toNat)) (iI:=((((dirI (2*i) ((trAs Ls).length:Int)).getD t 0).toNat:Nat):Int)) go.1 (by kernel_rfl) (by kernel_rfl) (by omega) (by have q1:=go.len;first | omega | (simp only [List.length_append,List.length_cons,List.length_nil,List.length_take,List.length_drop,List.length_set,List.length_replicate,clr_len] at q1;omega)) rfl rfl rfl) ?_
    refine lg_stA (i:=(((dirI (2*i) ((trAs Ls).length:Int)).getD t 0).toNat)) go ((IsNd.zero _ 0).more (B':=v.heap.size) (by omega)) (OffNd.zero _) (by first | omega | (simp only [List.length_append,List.length_cons,List.length_nil,List.length_take,List.length_drop,List.length_set,List.length_replicate,clr_len];omega)) Wn rfl rfl rfl rfl fun w14 new14 st14 g14=>?_
    have z14:=st14.size
    refine Qk ?_
    refine Qi ?_
    refine Nx [1,2,9,10,11,12,13] ?_
    refine Qe ?_
    refine ZM ?_
    refine Za (yv (congrArg nv (show ((t:Nat):Int)+1=((t+1:Nat):Int) by omega)) (yi_add rfl rfl rfl (by omega) (by omega))) ?_
    refine ZA ?_
    refine Qk ?_
    have hk:=hk.below (st14.below _ (by omega))
    have hra:=hra.below (st14.below _ (by omega))
    have hw:=hw.below (st14.below _ (by omega))
    have hd:=hd.offB (by omega) (OffS.fr f12 (by omega)) (Set1.alt st14)
    have u:=u.trans (st14.below _ (by omega))
    exact fun a ha=>(show t<((dirI (2*i) ((trAs Ls).length:Int)).length+1)∧_ from ⟨(by omega),ha.keep (fk rfl (fk rfl (fk rfl (fk rfl (fk rfl (fk rfl (fk rfl fn))))))),hk,hra,hw,hd,u,(by omega),(by omega),(g14.up.cast (clr_take htn))⟩)
   refine Zan (yb (dF c13) yi_lss) [1,2,9,10,11,12,13,51] ?_
   refine cg_cf rfl ?_
   refine cg_exit ?_
   refine Qh ?_
   refine Qh ?_
   refine Ql ?_
   refine Nx [1,2,9,10,11] ?_
   refine ZrM ?_
   refine ZM ?_
   refine Zc ((by have z:=rbesideF_any (hra.more (B':=v.heap.size) (by omega)) i (Nat.le_refl _) (rg.up u);rwa [trAs_as] at z)) rfl rfl ?_
   rintro _ w15 ⟨s15,rfl,m15,f15,hw15⟩
   have zw15:=hw15.size
   refine ZAn [2,10,11,14] ?_
   refine ZrA ?_
   refine Zn [2,10,11,14,15] ?_
   refine Qd ?_
   refine ZrM ?_
   have hw:=hw.below (hw15.mono (by omega))
   refine Za (y_lenM (el:=3) hw.len) ?_
   refine Za (yv (congrArg nv (show (((forkL (trAs Ls) i).map Prod.fst).length:Int)-1=((forkL (trAs Ls) i).length:Int)-1-((0:Nat):Int) by rw [List.length_map];omega)) (yi_sub rfl rfl rfl (by omega) (by omega))) ?_
   refine ZAn [2,10,11,14,15,16] ?_
   refine Qj ?_
   have go:=go.below hw15
   obtain rfl:t=(dirI (2*i) ((trAs Ls).length:Int)).length:=by omega
   have go:=(go.cast (Ms:=(planF (plan0 (trAs Ls) i) ((planZ (trAs Ls) i Ks).drop ((forkL (trAs Ls) i).length-0))).1) (by rw [List.take_length,Nat.sub_zero,plan_end hkl];rfl))
   obtain ⟨C2,hC2⟩:∃ q,q=w15.heap.size:=⟨_,rfl⟩
   have hbf:Fr (ga+1) s15:=Fr.le f15 (by omega)
   have hk:=hk.below (hw15.mono (by omega))
   have u:=Un u hw15
   refine Qr (fun t a v=>∃ (qs:SlV),Holds 99 [(2,r.v),(10,s5.v),(11,r11.v),(14,s15.v),(15,qs.v),(16,nv (((forkL (trAs Ls) i).length:Int)-1-((t:Nat):Int)))] a∧RwOc v W.heap.size r Ks∧SlN v bs10 s5 ((forkL (trAs Ls) i).map Prod.fst)∧SlN v C2 s15 ((forkL (trAs Ls) i).map Prod.snd)∧Below W.heap.size W v∧C2≤v.heap.size∧t≤(forkL (trAs Ls) i).length∧OwnNa v ga v.heap.size r11 (planF (plan0 (trAs Ls) i) ((planZ (trAs Ls) i Ks).drop ((forkL (trAs Ls) i).length-t))).1∧Hs v qs (planF (plan0 (trAs Ls) i) ((planZ (trAs Ls) i Ks).drop ((forkL (trAs Ls) i).length-t))).2) ((forkL (trAs Ls) i).length+1) (fun a ha=>⟨nilS,ha.keep (fk rfl (fk rfl (fk rfl (fk rfl (fk rfl (fk rfl fn)))))),hk,hw,(m15.more (by omega)),u,(by omega),(Nat.zero_le _),go.up,(by rw [Nat.sub_zero,plan_end hkl];exact Hs.nil _)⟩) ?_
   rintro t a v ht ⟨qs,ha,hk,hw,hb,u,cC,tle,go,hs⟩
   refine cg_at ha ?_
   clear ha a
   have zv:=u.size
   have q3:=hk.len
   have q4:=hk.cap
   have qw:=hw.len
   have qb:=hb.len
   have qbl:((forkL (trAs Ls) i).map Prod.snd).length=(forkL (trAs Ls) i).length:=List.length_map ..
   have qwl:((forkL (trAs Ls) i).map Prod.fst).length=(forkL (trAs Ls) i).length:=List.length_map ..
   have pl:=planF_len (plan0 (trAs Ls) i) ((planZ (trAs Ls) i Ks).drop ((forkL (trAs Ls) i).length-t))
   rw [plan0_len] at pl
   have qo:=go.len
   have gl:=go.lt
   refine Qd ?_
   refine ZrM ?_
   by_cases c16:0≤(((forkL (trAs Ls) i).length:Int)-1-((t:Nat):Int))
   ·refine Zan (yb (dT c16) yi_geq) [2,10,11,14,15,16,68] ?_
    refine cg_ct rfl ?_
    refine Zki [2,10,11,14,15,16] ?_
    refine Qd ?_
    refine Qj ?_
    refine Qd ?_
    have htn:t<(forkL (trAs Ls) i).length:=by omega
    obtain ⟨hxn,hsb⟩:=fork_at (trAs_is Ls) (i:=i) (k:=((forkL (trAs Ls) i).length-1-t)) (by omega)
    have lex:=hxn.le
    have kok:=keysE_ok (planE_ok hE).2.2 (Ks.getD ((forkL (trAs Ls) i).length-1-t) []) (getD_inO (by omega))
    obtain ⟨eby17,eoy17,ery17,eAy17,eBy17,ehy17,ecy17⟩:=hk.at (((forkL (trAs Ls) i).length-1-t)) (by have:=hk.len;first | omega | (simp only [allH_len,allN_len,List.length_append,List.length_cons,List.length_nil] at this;omega))
    have hwo:=hw
    refine cg_heldS (fun q=>Alt v q ga) (by kernel_rfl) (fun W18 eW18=>?_) fun W18 eW18=>?_
    ·exact Below.kept (below_drew _ _ eW18)
    have dW18:=below_drew _ _ eW18
    have zW18:=size_drew _ _ eW18
    clear eW18
    have al0:Alt v W18 ga:=Below.kept dW18
    refine hgs_take 0 (by rfl) Wn (by rfl) rfl (by decide) (by kernel_rfl) (by kernel_rfl) (by kernel_rfl) (fun _ _ _ h=>h) al0 (fun q hq=>y_move rfl rfl) ?_
    refine hgs_take 1 (by rfl) Wn (by rfl) rfl (by decide) (by kernel_rfl) (by kernel_rfl) (by kernel_rfl) (fun _ _ _ h=>h) al0 (fun q hq=>y_move rfl rfl) ?_
    refine hgs_take 2 (by rfl) Wn (by rfl) rfl (by decide) (by kernel_rfl) (by kernel_rfl) (by kernel_rfl) (fun _ _ _ h=>h) al0 (fun q hq=>y_move rfl rfl) ?_
    refine hgs_take 3 (by rfl) Wn (by rfl) rfl (by decide) (by kernel_rfl) (by kernel_rfl) (by kernel_rfl) (fun _ _ _ h=>h) al0 (fun q hq=>y_ixT (i:=((forkL (trAs Ls) i).length-1-t)) (iI:=(((forkL (trAs Ls) i).length:Int)-1-((t:Nat):Int))) (hwo.belowN (Alt.below hq (by omega) (by omega))) (by omega) (by first | omega | (simp only [List.length_append,List.length_cons,List.length_nil];omega)) rfl rfl rfl) ?_
    refine hgs_take 4 (by rfl) Wn (by rfl) rfl (by decide) (by kernel_rfl) (by kernel_rfl) (by kernel_rfl) (fun _ _ _ h=>h) al0 (fun q hq=>yv (congrArg nv (show (((forkL (trAs Ls) i).map Prod.fst).getD ((forkL (trAs Ls) i).length-1-t) 0)=((((forkL (trAs Ls) i).map Prod.fst).getD ((forkL (trAs Ls) i).length-1-t) 0).toNat:Int) by omega)) (y_ldT (i:=((forkL (trAs Ls) i).length-1-t)) (hwo.belowN (Alt.below hq (by omega) (by omega))) (by first | omega | (simp only [List.length_append,List.length_cons,List.length_nil];omega)) rfl rfl)) ?_
    refine hgs_take 5 (by rfl) Wn (by rfl) rfl (by decide) (by kernel_rfl) (by kernel_rfl) (by kernel_rfl) (fun _ _ _ h=>h) al0 (fun q hq=>y_move rfl rfl) ?_
    refine hgs_take 6 (by rfl) Wn (by rfl) rfl (by decide) (by kernel_rfl) (by kernel_rfl) (by kernel_rfl) (fun _ _ _ h=>h) al0 (fun q hq=>y_move rfl rfl) ?_
    have hk:=hk.below (dW18.mono (by omega))
    refine hgs_take 7 (by rfl) Wn (by rfl) rfl (by decide) (by kernel_rfl) (by kernel_rfl) (by kernel_rfl) (fun _ _ _ h=>h) al0 (fun q hq=>y_ixR (s:=r) (el:=23) (k:=1) (i:=((forkL (trAs Ls) i).length-1-t)) (iI:=(((forkL (trAs Ls) i).length:Int)-1-((t:Nat):Int))) eAy17 (by kernel_rfl) (by kernel_rfl) (by omega) (by have:=hk.len;first | omega | (simp only [allH_len,allN_len,List.length_append,List.length_cons,List.length_nil] at this;omega)) rfl rfl rfl) ?_
    refine hgs_take 8 (by rfl) Wn (by rfl) rfl (by decide) (by kernel_rfl) (by kernel_rfl) (by kernel_rfl) (fun _ _ _ h=>h) al0 (fun q hq=>y_celld ((World.cell?_of_block (w:=v) (a:=⟨eby17,_,none⟩) (hq.block eby17 (by omega) (show eby17≠ga by omega))).trans (ecy17)) (by kernel_rfl) rfl rfl) ?_
    refine hgs_take 9 (by rfl) Wn (by rfl) rfl (by decide) (by kernel_rfl) (by kernel_rfl) (by kernel_rfl) (fun _ _ _ h=>h) al0 (fun q hq=>y_move rfl rfl) ?_
    refine hgs_take 10 (by rfl) Wn (by rfl) rfl (by decide) (by kernel_rfl) (by kernel_rfl) (by kernel_rfl) (fun _ _ _ h=>h) al0 (fun q hq=>y_build (cs:=(⟨ery17,qs,nilS⟩:PnV).cs (⟨(Ks.getD ((forkL (trAs Ls) i).length-1-t) []),(planF (plan0 (trAs Ls) i) ((planZ (trAs Ls) i Ks).drop ((forkL (trAs Ls) i).length-t))).2,[]⟩:Pn)) rfl rfl (by kernel_rfl)) ?_
    refine hgs_take 11 (by rfl) Wn (by rfl) rfl (by decide) (by kernel_rfl) (by kernel_rfl) (by kernel_rfl) (fun _ _ _ h=>h) al0 (fun q hq=>y_build (cs:=(⟨LfV.zero,(⟨ery17,qs,nilS⟩:PnV)⟩:NdV).cs (⟨2,Lf.zero,(⟨(Ks.getD ((forkL (trAs Ls) i).length-1-t) []),(planF (plan0 (trAs Ls) i) ((planZ (trAs Ls) i Ks).drop ((forkL (trAs Ls) i).length-t))).2,[]⟩:Pn)⟩:Nd)) rfl rfl (by kernel_rfl)) ?_
    have go:=go.below dW18
    refine hgs_take 12 (by rfl) Wn (by rfl) rfl (by decide) (by kernel_rfl) (by kernel_rfl) (by kernel_rfl) (fun _ _ _ h=>h) al0 (fun q hq=>y_ixR (s:=r11) (el:=50) (k:=8) (i:=((((forkL (trAs Ls) i).map Prod.fst).getD ((forkL (trAs Ls) i).length-1-t) 0).toNat)) (iI:=(((((forkL (trAs Ls) i).map Prod.fst).getD ((forkL (trAs Ls) i).length-1-t) 0).toNat:Nat):Int)) go.1 (by kernel_rfl) (by kernel_rfl) (by omega) (by have q1:=go.len;first | omega | (simp only [List.length_append,List.length_cons,List.length_nil,List.length_take,List.length_drop,List.length_set,List.length_replicate,clr_len] at q1;omega)) rfl rfl rfl) ?_
    refine hgs_one 13 (by rfl) (by kernel_rfl) Wn ?_
    have ehy17:=ehy17.below (dW18.mono (by omega))
    have hs:=hs.below dW18
    refine lg_stA (i:=((((forkL (trAs Ls) i).map Prod.fst).getD ((forkL (trAs Ls) i).length-1-t) 0).toNat)) go (show IsNd W18 W18.heap.size (⟨LfV.zero,(⟨ery17,qs,nilS⟩:PnV)⟩:NdV) (⟨2,Lf.zero,(⟨(Ks.getD ((forkL (trAs Ls) i).length-1-t) []),(planF (plan0 (trAs Ls) i) ((planZ (trAs Ls) i Ks).drop ((forkL (trAs Ls) i).length-t))).2,[]⟩:Pn)⟩:Nd) from ⟨((IsLf.zero _ 0).more (B':=W18.heap.size) (by omega)),(show IsPn W18 W18.heap.size (⟨ery17,qs,nilS⟩:PnV) (⟨(Ks.getD ((forkL (trAs Ls) i).length-1-t) []),(planF (plan0 (trAs Ls) i) ((planZ (trAs Ls) i Ks).drop ((forkL (trAs Ls) i).length-t))).2,[]⟩:Pn) from ⟨(ehy17.more (B':=W18.heap.size) (by omega)),(hs.1.more (B':=W18.heap.size) (by omega)),((SlN.nil _ 0).more (B':=W18.heap.size) (by omega))⟩)⟩) (⟨OffS.nil _,OffS.nil _,OffS.nil _,OffS.of ehy17 (by omega),go.offu8 hs,OffS.nil _⟩) (by first | omega | (simp only [List.length_append,List.length_cons,List.length_nil,List.length_take,List.length_drop,List.length_set,List.length_replicate,clr_len];omega)) Wn rfl rfl rfl rfl fun w19 new19 st19 g19=>?_
    have z19:=st19.size
    have al0:=al0.trans (Set1.alt st19)
    refine hgs_next al0 ?_
    refine hgs_done (by kernel_rfl) ?_
    refine Nx [2,10,11,14,15,16] ?_
    have hps:=plan_step (t:=plan0 (trAs Ls) i) hkl (k:=((forkL (trAs Ls) i).length-1-t)) (by omega)
    rw [show ((forkL (trAs Ls) i).length-1-t)+1=(forkL (trAs Ls) i).length-t by omega] at hps
    have hnew:((planF (plan0 (trAs Ls) i) ((planZ (trAs Ls) i Ks).drop ((forkL (trAs Ls) i).length-t))).1.set ((((forkL (trAs Ls) i).map Prod.fst).getD ((forkL (trAs Ls) i).length-1-t) 0).toNat) (⟨2,Lf.zero,(⟨(Ks.getD ((forkL (trAs Ls) i).length-1-t) []),(planF (plan0 (trAs Ls) i) ((planZ (trAs Ls) i Ks).drop ((forkL (trAs Ls) i).length-t))).2,[]⟩:Pn)⟩:Nd))=(planF (plan0 (trAs Ls) i) ((planZ (trAs Ls) i Ks).drop ((forkL (trAs Ls) i).length-1-t))).1:=by rw [hps];rfl
    have htN:trIs ((planF (plan0 (trAs Ls) i) ((planZ (trAs Ls) i Ks).drop ((forkL (trAs Ls) i).length-t))).1.set ((((forkL (trAs Ls) i).map Prod.fst).getD ((forkL (trAs Ls) i).length-1-t) 0).toNat) (⟨2,Lf.zero,(⟨(Ks.getD ((forkL (trAs Ls) i).length-1-t) []),(planF (plan0 (trAs Ls) i) ((planZ (trAs Ls) i Ks).drop ((forkL (trAs Ls) i).length-t))).2,[]⟩:Pn)⟩:Nd)):=by rw [hnew];exact plan_tree (trAs_is Ls) hE _
    have hln:((planF (plan0 (trAs Ls) i) ((planZ (trAs Ls) i Ks).drop ((forkL (trAs Ls) i).length-t))).1.set ((((forkL (trAs Ls) i).map Prod.fst).getD ((forkL (trAs Ls) i).length-1-t) 0).toNat) (⟨2,Lf.zero,(⟨(Ks.getD ((forkL (trAs Ls) i).length-1-t) []),(planF (plan0 (trAs Ls) i) ((planZ (trAs Ls) i Ks).drop ((forkL (trAs Ls) i).length-t))).2,[]⟩:Pn)⟩:Nd)).length=(trAs Ls).length:=by rw [List.length_set];omega
    refine cg_held (by kernel_rfl) fun W20 eW20=>?_
    have dW20:=below_drew _ _ eW20
    have zW20:=size_drew _ _ eW20
    clear eW20
    refine Zh 0 (fun q hq=>y_move rfl rfl) ?_
    refine Zh 1 (fun q hq=>y_move rfl rfl) ?_
    refine Zh 2 (fun q hq=>y_move rfl rfl) ?_
    have hw:=((hw.below (dW18.mono (by omega))).below (st19.below _ (by omega))).below (dW20.mono (by omega))
    refine Zh 3 (fun q hq=>y_ixT (i:=((forkL (trAs Ls) i).length-1-t)) (iI:=(((forkL (trAs Ls) i).length:Int)-1-((t:Nat):Int))) (hw.below (hq.mono (by omega))) (by omega) (by first | omega | (simp only [List.length_append,List.length_cons,List.length_nil];omega)) rfl rfl rfl) ?_
    refine Zh 4 (fun q hq=>y_ldT (i:=((forkL (trAs Ls) i).length-1-t)) (hw.below (hq.mono (by omega))) (by first | omega | (simp only [List.length_append,List.length_cons,List.length_nil];omega)) rfl rfl) ?_
    refine Zh 5 (fun q hq=>y_move rfl rfl) ?_
    refine Zh 6 (fun q hq=>y_move rfl rfl) ?_
    have hb:=((hb.below (dW18.mono (by omega))).offB (by omega) (OffS.fr hbf (by omega)) (Set1.alt st19)).below (dW20.mono (by omega))
    refine Zh 7 (fun q hq=>y_ixT (i:=((forkL (trAs Ls) i).length-1-t)) (iI:=(((forkL (trAs Ls) i).length:Int)-1-((t:Nat):Int))) (hb.below (hq.mono (by omega))) (by omega) (by first | omega | (simp only [List.length_append,List.length_cons,List.length_nil];omega)) rfl rfl rfl) ?_
    refine Zh 8 (fun q hq=>y_ldT (i:=((forkL (trAs Ls) i).length-1-t)) (hb.below (hq.mono (by omega))) (by first | omega | (simp only [List.length_append,List.length_cons,List.length_nil];omega)) rfl rfl) ?_
    refine Zh 9 (fun q hq=>y_move rfl rfl) ?_
    have g19:=g19.below dW20
    refine Zh 10 (fun q hq=>yv (congrArg nv (show ((_:Nat):Int)=((trAs Ls).length:Int) by rw [hln])) (y_lenM (el:=50) g19.row.len (by kernel_rfl) rfl rfl)) ?_
    have u:=Un u dW18
    have u:=u.trans (st19.below _ (by omega))
    have u:=Un u dW20
    refine Zo 11 ?_
    refine Za (Qp (rsibling_any (((forkL (trAs Ls) i).map Prod.snd).getD ((forkL (trAs Ls) i).length-1-t) 0) ((trAs Ls).length:Int) _ (rg.up u))) ?_
    refine hg_next (Below.refl _ _) ?_
    refine Zo 12 ?_
    refine Zc (rgiven_any (g19.row.more (B':=W20.heap.size) (by omega)) htN (by rw [hln];exact hxn) (sibI (((forkL (trAs Ls) i).map Prod.snd).getD ((forkL (trAs Ls) i).length-1-t) 0) ((trAs Ls).length:Int)) (Nat.le_refl _) (rg.up u)) rfl rfl ?_
    rintro _ w21 ⟨r21,rfl,m21,hw21⟩
    have zw21:=hw21.size
    have gl21:=gives_len ((planF (plan0 (trAs Ls) i) ((planZ (trAs Ls) i Ks).drop ((forkL (trAs Ls) i).length-t))).1.set ((((forkL (trAs Ls) i).map Prod.fst).getD ((forkL (trAs Ls) i).length-1-t) 0).toNat) (⟨2,Lf.zero,(⟨(Ks.getD ((forkL (trAs Ls) i).length-1-t) []),(planF (plan0 (trAs Ls) i) ((planZ (trAs Ls) i Ks).drop ((forkL (trAs Ls) i).length-t))).2,[]⟩:Pn)⟩:Nd)) (((forkL (trAs Ls) i).map Prod.fst).getD ((forkL (trAs Ls) i).length-1-t) 0) (sibI (((forkL (trAs Ls) i).map Prod.snd).getD ((forkL (trAs Ls) i).length-1-t) 0) ((trAs Ls).length:Int))
    refine hg_next hw21 ?_
    refine hg_up hw21 ?_
    refine Zh 13 (fun q hq=>y_assign rfl rfl) ?_
    refine hg_done (by kernel_rfl) ?_
    refine Qi ?_
    refine Nx [2,10,11,14,16,15] ?_
    refine Qe ?_
    refine ZM ?_
    refine Za (yv (congrArg nv (show ((forkL (trAs Ls) i).length:Int)-1-((t:Nat):Int)-1=((forkL (trAs Ls) i).length:Int)-1-((t+1:Nat):Int) by omega)) (yi_sub rfl rfl rfl (by omega) (by omega))) ?_
    refine ZA ?_
    refine Qk ?_
    have g19:=g19.below hw21
    have hk:=((hk.below (st19.below _ (by omega))).below (dW20.mono (by omega))).below (hw21.mono (by omega))
    have hw:=hw.below (hw21.mono (by omega))
    have hb:=hb.below (hw21.mono (by omega))
    have u:=Un u hw21
    exact fun a ha=>(show t<((forkL (trAs Ls) i).length+1)∧_ from ⟨(by omega),r21,ha.keep (fk rfl (fk rfl (fk rfl (fk rfl (fk rfl (fk rfl fn)))))),hk,hw,hb,u,(by omega),(by omega),(g19.up.cast (by rw [hnew,show (forkL (trAs Ls) i).length-(t+1)=((forkL (trAs Ls) i).length-1-t) by omega])),(by have z:=m21;rw [hln,hsb] at z;rw [show (forkL (trAs Ls) i).length-(t+1)=((forkL (trAs Ls) i).length-1-t) by omega,hps,planS_two];exact z)⟩)
   refine Zan (yb (dF c16) yi_geq) [2,10,11,14,15,16,68] ?_
   refine cg_cf rfl ?_
   refine cg_exit ?_
   refine Qh ?_
   refine Qh ?_
   refine Ql ?_
   refine Nx [11,15] ?_
   refine ZrM ?_
   refine ZM ?_
   refine ZA ?_
   refine ZA ?_
   refine ZAnr [6,7,8] ?_
   obtain rfl:t=(forkL (trAs Ls) i).length:=by omega
   obtain ⟨hp1,hp2⟩:=planP_ok hE
   exact eg_ret_tmp3 rfl rfl rfl rfl ⟨_,rfl,_,_,congrArg (fun q=>Value.tuple #[_,_,nv q]) hE.symm,(by rw [hp1];have z:=go.row;rwa [Nat.sub_self] at z),(by rw [hp2];have z:=hs.1;rwa [Nat.sub_self] at z),u⟩
  refine Zan (yb (nd_t c8) yi_neq) [1,2,6,7,8,9,10,37] ?_
  refine cg_ct rfl ?_
  refine ZrM ?_
  have hk:=hk.below (hw7.mono (by omega))
  refine Zc (rwrong_any (hk.more (B':=w7.heap.size) (by omega)) (Nat.le_refl _)) rfl rfl ?_
  rintro _ w22 ⟨rfl,hw22⟩
  have zw22:=hw22.size
  refine ZA ?_
  refine ZA ?_
  refine ZAnr [1,2,9,10,6,7,8] ?_
  refine Qc ?_
  have hpe:planE (trAs Ls) i Ks=(keysE Ks):=(planE_keys hi0 hkl)
  obtain ⟨hp1,hp2⟩:=planP_no (a:=trAs Ls) (i:=i) (ks:=Ks) (fun q=>c8 (by rw [←planE_keys hi0 hkl];exact q))
  have u:=Un (Un (Un u hw5) hw7) hw22
  exact eg_ret_tmp3 rfl rfl rfl rfl ⟨_,rfl,nilS,nilS,congrArg (fun q=>Value.tuple #[_,_,nv q]) hpe.symm,(by rw [hp1];exact RwNd.nil _ _),(by rw [hp2];exact Sl.nil _ _),u⟩
 refine Zan (yb (nd_t c6) yi_neq) [1,2,6,7,8,9,10,34] ?_
 refine cg_ct rfl ?_
 refine ZrA ?_
 refine ZA ?_
 refine ZAnr [1,2,9,10,6,7,8] ?_
 refine Qc ?_
 have hpe:planE (trAs Ls) i Ks=11:=(planE_path hi0 (fun q=>c6 (by rw [List.length_map];omega)))
 obtain ⟨hp1,hp2⟩:=planP_no (a:=trAs Ls) (i:=i) (ks:=Ks) (by rw [hpe];decide)
 have u:=Un u hw5
 exact eg_ret_tmp3 rfl rfl rfl rfl ⟨_,rfl,nilS,nilS,congrArg (fun q=>Value.tuple #[_,_,nv q]) hpe.symm,(by rw [hp1];exact RwNd.nil _ _),(by rw [hp2];exact Sl.nil _ _),u⟩
end Go.Proofs.YtfdmhdnlmndhdaaGreatDoor
