/-
  Trees: what the document answers.
-/
import Derived.Test.YtognnnjdoemgfaaGreatDoorKitT
import Derived.Test.YtognnnjdoemgfaaGreatDoorKitQ
namespace Go.Proofs.YtognnnjdoemgfaaGreatDoor
open Go.ChangeShapes Go.WideShapes Go.ChangeAt Go.RowKit
set_option linter.unusedVariables false

theorem OwnNd.cast {w:World} {base B:Nat} {v:Value} {Ls Ms:List Nd} (h:OwnNd w base B v Ls) (e:Ls=Ms):OwnNd w base B v Ms:=e▸h
theorem sameR_any {W:World} {B:Nat} {s r:SlV} {Ls Ms:List Nd} (h:RwNd W B s Ls) (h2:RwNd W B r Ms) (hB:B≤W.heap.size):Calls Tryz.prog 9 #[s.v,r.v] W fun e W'=>∃ v,e=.returned v∧v=.bool (decide (trSame Ls Ms))∧Below W.heap.size W W':=by
 refine Qf (n:=27) Tryz.func9 rfl Tryz.ntmps9 (by simp) ?_
 show CG _ _ _ [(0,s.v),(1,r.v)] _ _
 have u:=Below.refl W.heap.size W
 have h:=h.more hB
 have h2:=h2.more hB
 have q1:=h.len
 have q2:=h.cap
 have q3:=h2.len
 refine ZrA ?_
 refine Zn [0,1,4] ?_
 refine Qd ?_
 refine ZrM ?_
 refine Za (y_lenM (el:=38) h.len) ?_
 refine ZM ?_
 refine Za (y_lenM (el:=38) h2.len) ?_
 by_cases c1:(Ls.length:Int)=(Ms.length:Int)
 ·refine Zan (yb (nd_f c1) yi_neq) [0,1,4,10] ?_
  refine Zcf [0,1,4] ?_
  refine Qd ?_
  refine ZrA ?_
  refine Zn [0,1,4,5] ?_
  refine Qj ?_
  refine Qr (fun t a v=>Holds 27 [(0,s.v),(1,r.v),(5,nv ((t:Nat):Int))] a∧RwNd v W.heap.size s Ls∧RwNd v W.heap.size r Ms∧Below W.heap.size W v∧(∀ i,i<t→NdSame (atN Ls i) (atN Ms i))) (Ls.length+1) (fun a ha=>⟨ha.keep (fk rfl (fk rfl (fk rfl fn))),h,h2,u,(fun i hi=>absurd hi (by omega))⟩) ?_
  rintro t a v ht ⟨ha,h,h2,u,hk⟩
  refine cg_at ha ?_
  clear ha a
  have zv:=u.size
  have q1:=h.len
  have q2:=h.cap
  have q3:=h2.len
  refine Qd ?_
  refine ZrM ?_
  refine ZM ?_
  refine Za (y_lenM (el:=38) h.len) ?_
  by_cases c2:((t:Nat):Int)<(Ls.length:Int)
  ·refine Zan (yb (dT c2) yi_lss) [0,1,5,14] ?_
   refine cg_ct rfl ?_
   refine Zki [0,1,5] ?_
   refine Qd ?_
   refine Qj ?_
   refine Qd ?_
   refine cg_held (by kernel_rfl) fun W3 eW3=>?_
   have dW3:=below_drew _ _ eW3
   have zW3:=size_drew _ _ eW3
   clear eW3
   refine Zh 0 (fun q hq=>y_move rfl rfl) ?_
   refine Zh 1 (fun q hq=>y_move rfl rfl) ?_
   have h:=h.below (dW3.mono (by omega))
   obtain ⟨eb4,eo4,el4,eL4,eA4,eB4,eg4,eh4,ec4⟩:=h.at (t) (by have:=h.len;omega)
   refine Zh 2 (fun q hq=>y_ixR (s:=s) (el:=38) (k:=8) (i:=t) (iI:=((t:Nat):Int)) eA4 (by kernel_rfl) (by kernel_rfl) (by omega) (by have:=h.len;omega) rfl rfl rfl) ?_
   refine Zh 3 (fun q hq=>y_loadC (cs:=el4.cs eL4) (fun k u e=>(hq.cell (p:=⟨eb4,_,none⟩) (show eb4<_ by omega)).trans (ec4 k u e)) (by kernel_rfl) (by kernel_rfl) rfl rfl) ?_
   refine Zh 4 (fun q hq=>y_move rfl rfl) ?_
   refine Zh 5 (fun q hq=>y_move rfl rfl) ?_
   have h2:=h2.below (dW3.mono (by omega))
   obtain ⟨eb5,eo5,el5,eL5,eA5,eB5,eg5,eh5,ec5⟩:=h2.at (t) (by have:=h2.len;omega)
   refine Zh 6 (fun q hq=>y_ixR (s:=r) (el:=38) (k:=8) (i:=t) (iI:=((t:Nat):Int)) eA5 (by kernel_rfl) (by kernel_rfl) (by omega) (by have:=h2.len;omega) rfl rfl rfl) ?_
   refine Zh 7 (fun q hq=>y_loadC (cs:=el5.cs eL5) (fun k u e=>(hq.cell (p:=⟨eb5,_,none⟩) (show eb5<_ by omega)).trans (ec5 k u e)) (by kernel_rfl) (by kernel_rfl) rfl rfl) ?_
   by_cases c6:NdSame eL4 eL5
   ·refine Zo 8 ?_
    refine Zc (rsameN_any (eh4.more (B':=W3.heap.size) (by omega)) (eh5.more (B':=W3.heap.size) (by omega)) (Nat.le_refl _)) rfl rfl ?_
    rintro u7 w7 ⟨e7,hw7⟩
    have zw7:=hw7.size
    obtain rfl:u7=.bool true:=e7.trans (congrArg Value.bool (decide_eq_true c6))
    refine hg_next hw7 ?_
    refine hg_up hw7 ?_
    refine Zh 9 (fun q hq=>y_bnot rfl rfl) ?_
    refine hg_done (by kernel_rfl) ?_
    refine Nx [0,1,5,26] ?_
    refine cg_cf rfl ?_
    refine cg_skip ?_
    refine Qi ?_
    refine Nx [0,1,5] ?_
    refine Qe ?_
    refine ZM ?_
    refine Za (yv (congrArg nv (show ((t:Nat):Int)+1=((t+1:Nat):Int) by omega)) (yi_add rfl rfl rfl (by omega) (by omega))) ?_
    refine ZA ?_
    refine Qk ?_
    have h:=h.below (hw7.mono (by omega))
    have h2:=h2.below (hw7.mono (by omega))
    have u:=Un (Un u dW3) hw7
    exact fun a ha=>(show t<(Ls.length+1)∧_ from ⟨(by omega),ha.keep (fk rfl (fk rfl (fk rfl fn))),h,h2,u,(fun i hi=>by by_cases q:i=t;subst q;rw [atN_some eg4,atN_some eg5];exact c6;exact hk i (by omega))⟩)
   refine Zo 8 ?_
   refine Zc (rsameN_any (eh4.more (B':=W3.heap.size) (by omega)) (eh5.more (B':=W3.heap.size) (by omega)) (Nat.le_refl _)) rfl rfl ?_
   rintro u8 w8 ⟨e8,hw8⟩
   have zw8:=hw8.size
   obtain rfl:u8=.bool false:=e8.trans (congrArg Value.bool (decide_eq_false c6))
   refine hg_next hw8 ?_
   refine hg_up hw8 ?_
   refine Zh 9 (fun q hq=>y_bnot rfl rfl) ?_
   refine hg_done (by kernel_rfl) ?_
   refine Nx [0,1,5,26] ?_
   refine cg_ct rfl ?_
   refine ZrA ?_
   refine Znr [0,1,5,4] ?_
   refine Qg ?_
   refine Qc ?_
   refine Qc ?_
   refine Qg ?_
   refine Qc ?_
   have u:=Un (Un u dW3) hw8
   exact Qa rfl rfl ⟨_,rfl,congrArg Value.bool (dF (fun q=>c6 (by have h3:=q.2 t (by omega);rwa [atN_some eg4,atN_some eg5] at h3))).symm,u⟩
  refine Zan (yb (dF c2) yi_lss) [0,1,5,14] ?_
  refine cg_cf rfl ?_
  refine cg_exit ?_
  refine Qh ?_
  refine Qh ?_
  refine Ql ?_
  refine nx (E':=[]) fn ?_
  refine ZrA ?_
  refine Znr [4] ?_
  exact Qa rfl rfl ⟨_,rfl,congrArg Value.bool (dT ⟨(by omega),fun i hi=>hk i (by omega)⟩).symm,u⟩
 refine Zan (yb (nd_t c1) yi_neq) [0,1,4,10] ?_
 refine cg_ct rfl ?_
 refine ZrA ?_
 refine Znr [0,1,4] ?_
 refine Qc ?_
 exact Qa rfl rfl ⟨_,rfl,congrArg Value.bool (dF (fun q=>by have:=q.1;omega)).symm,u⟩
theorem fewR_any {W:World} {B:Nat} {s:SlV} {Ls:List Nd} (h:RwNd W B s Ls) (hB:B≤W.heap.size):Calls Tryz.prog 6 #[s.v] W fun e W'=>∃ v,e=.returned v∧v=.bool (decide (trFew Ls))∧Below W.heap.size W W':=by
 refine Qf (n:=19) Tryz.func6 rfl Tryz.ntmps6 (by simp) ?_
 show CG _ _ _ [(0,s.v)] _ _
 have u:=Below.refl W.heap.size W
 have h:=h.more hB
 have q1:=h.len
 have q2:=h.cap
 refine ZrA ?_
 refine Zn [0,2] ?_
 refine Qd ?_
 refine ZrA ?_
 refine Zn [0,2,3] ?_
 refine Qj ?_
 refine Qr (fun t a v=>Holds 19 [(0,s.v),(3,nv ((t:Nat):Int))] a∧RwNd v W.heap.size s Ls∧Below W.heap.size W v∧(∀ i,i<t→ndFew (atN Ls i))) (Ls.length+1) (fun a ha=>⟨ha.keep (fk rfl (fk rfl fn)),h,u,(fun i hi=>absurd hi (by omega))⟩) ?_
 rintro t a v ht ⟨ha,h,u,hk⟩
 refine cg_at ha ?_
 clear ha a
 have zv:=u.size
 have q1:=h.len
 have q2:=h.cap
 refine Qd ?_
 refine ZrM ?_
 refine ZM ?_
 refine Za (y_lenM (el:=38) h.len) ?_
 by_cases c1:((t:Nat):Int)<(Ls.length:Int)
 ·refine Zan (yb (dT c1) yi_lss) [0,3,7] ?_
  refine cg_ct rfl ?_
  refine Zki [0,3] ?_
  refine Qd ?_
  refine Qj ?_
  refine ZrM ?_
  refine ZM ?_
  obtain ⟨eb2,eo2,el2,eL2,eA2,eB2,eg2,eh2,ec2⟩:=h.at (t) (by have:=h.len;omega)
  refine Za (y_ixR (s:=s) (el:=38) (k:=8) (i:=t) (iI:=((t:Nat):Int)) eA2 (by kernel_rfl) (by kernel_rfl) (by omega) (by have:=h.len;omega) rfl rfl rfl) ?_
  refine Za (y_loadC (cs:=el2.cs eL2) ec2) ?_
  by_cases c3:ndFew eL2
  ·refine Zc (fewN_any (eh2.more (B':=v.heap.size) (by omega)) (Nat.le_refl _)) rfl rfl ?_
   rintro u4 w4 ⟨e4,hw4⟩
   have zw4:=hw4.size
   obtain rfl:u4=.bool true:=e4.trans (congrArg Value.bool (decide_eq_true c3))
   refine Zan y_bnot [0,3,15] ?_
   refine cg_cf rfl ?_
   refine cg_skip ?_
   refine Qi ?_
   refine Nx [0,3] ?_
   refine Qe ?_
   refine ZM ?_
   refine Za (yv (congrArg nv (show ((t:Nat):Int)+1=((t+1:Nat):Int) by omega)) (yi_add rfl rfl rfl (by omega) (by omega))) ?_
   refine ZA ?_
   refine Qk ?_
   have h:=h.below (hw4.mono (by omega))
   have u:=Un u hw4
   exact fun a ha=>(show t<(Ls.length+1)∧_ from ⟨(by omega),ha.keep (fk rfl (fk rfl fn)),h,u,(ok_step (p:=fun _ L=>ndFew L) hk eg2 c3)⟩)
  refine Zc (fewN_any (eh2.more (B':=v.heap.size) (by omega)) (Nat.le_refl _)) rfl rfl ?_
  rintro u5 w5 ⟨e5,hw5⟩
  have zw5:=hw5.size
  obtain rfl:u5=.bool false:=e5.trans (congrArg Value.bool (decide_eq_false c3))
  refine Zan y_bnot [0,3,15] ?_
  refine cg_ct rfl ?_
  refine ZrA ?_
  refine Znr [0,3,2] ?_
  refine Qg ?_
  refine Qc ?_
  refine Qc ?_
  refine Qg ?_
  refine Qc ?_
  have u:=Un u hw5
  exact Qa rfl rfl ⟨_,rfl,congrArg Value.bool (dF (fun q=>c3 (by have h3:=q.1 t (by omega);rwa [atN_some eg2] at h3))).symm,u⟩
 refine Zan (yb (dF c1) yi_lss) [0,3,7] ?_
 refine cg_cf rfl ?_
 refine cg_exit ?_
 refine Qh ?_
 refine Qh ?_
 refine Ql ?_
 refine Nx [0] ?_
 refine ZrM ?_
 refine Za (y_lenM (el:=38) h.len) ?_
 by_cases c6:(Ls.length:Int)≤300
 ·refine Za (yb (dT c6) yi_leq) ?_
  refine ZAnr [2] ?_
  exact Qa rfl rfl ⟨_,rfl,congrArg Value.bool (dT ⟨fun i hi=>hk i (by omega),(by omega)⟩).symm,u⟩
 refine Za (yb (dF c6) yi_leq) ?_
 refine ZAnr [2] ?_
 exact Qa rfl rfl ⟨_,rfl,congrArg Value.bool (dF (fun q=>by have:=q.2;omega)).symm,u⟩
theorem fits_any (x:Nat) (k:Int) (W:World):Calls Tryz.prog 93 #[nv (x:Int),nv k] W fun e W'=>e=.returned (.bool (decide (fitK x k)))∧W'=W:=by
 refine Qf (n:=21) Tryz.func93 rfl Tryz.ntmps93 (by simp) ?_
 show CG _ _ _ [(0,nv (x:Int)),(1,nv k)] _ _
 refine ZrA ?_
 refine Zn [0,1,4] ?_
 refine ZrM ?_
 refine Za (yi_rem rfl rfl rfl (by omega) (by omega)) ?_
 by_cases c1:(((x:Nat):Int) % 2)=0
 ·refine Za (yb (nd_f c1) yi_neq) ?_
  refine ZM ?_
  refine Zt 8 y_move ?_
  by_cases c2:k=2
  ·refine Zt 8 (yb (nd_f c2) yi_neq) ?_
   refine Za (y_pick false) ?_
   refine ZM ?_
   refine Zf 12 ?_
   refine Zf 12 ?_
   refine Zf 12 ?_
   refine Zf 12 ?_
   refine Zu 16 ?_
   refine Zu 16 ?_
   refine Zf 12 ?_
   refine Za (y_pick false) ?_
   refine ZAnr [4] ?_
   exact Qa rfl rfl ⟨congrArg (fun q=>Ending.returned (.bool q)) (dF (by unfold fitK;omega)).symm,rfl⟩
  refine Zt 8 (yb (nd_t c2) yi_neq) ?_
  refine Za (y_pick false) ?_
  refine ZM ?_
  refine Zt 12 y_move ?_
  refine Zt 12 (yi_rem rfl rfl rfl (by omega) (by omega)) ?_
  refine Zt 12 (yb (dT c1) yi_eql) ?_
  refine Zt 12 y_move ?_
  refine Zf 16 ?_
  refine Zf 16 ?_
  refine Zt 12 (y_pick true) ?_
  refine Za (y_pick true) ?_
  refine ZAnr [4] ?_
  exact Qa rfl rfl ⟨congrArg (fun q=>Ending.returned (.bool q)) (dT (by unfold fitK;omega)).symm,rfl⟩
 refine Za (yb (nd_t c1) yi_neq) ?_
 refine ZM ?_
 refine Zf 8 ?_
 refine Zf 8 ?_
 refine Za (y_pick true) ?_
 refine ZM ?_
 refine Zt 12 y_move ?_
 refine Zt 12 (yi_rem rfl rfl rfl (by omega) (by omega)) ?_
 refine Zt 12 (yb (dF c1) yi_eql) ?_
 refine Zt 12 y_move ?_
 refine Zt 16 y_move ?_
 by_cases c3:k=1
 ·refine Zt 16 (yb (nd_f c3) yi_neq) ?_
  refine Zt 12 (y_pick false) ?_
  refine Za (y_pick true) ?_
  refine ZAnr [4] ?_
  exact Qa rfl rfl ⟨congrArg (fun q=>Ending.returned (.bool q)) (dF (by unfold fitK;omega)).symm,rfl⟩
 refine Zt 16 (yb (nd_t c3) yi_neq) ?_
 refine Zt 12 (y_pick false) ?_
 refine Za (y_pick true) ?_
 refine ZAnr [4] ?_
 exact Qa rfl rfl ⟨congrArg (fun q=>Ending.returned (.bool q)) (dT (by unfold fitK;omega)).symm,rfl⟩
theorem rsane_any {W:World} {B:Nat} {s:SlV} {Ls:List Nd} (h:RwNd W B s Ls) (hB:B≤W.heap.size):Calls Tryz.prog 58 #[s.v] W fun e W'=>∃ v,e=.returned v∧v=.bool (decide (trIs Ls))∧Below W.heap.size W W':=by
 refine Qf (n:=33) Tryz.func58 rfl Tryz.ntmps58 (by simp) ?_
 show CG _ _ _ [(0,s.v)] _ _
 have u:=Below.refl W.heap.size W
 have h:=h.more hB
 have q1:=h.len
 have q2:=h.cap
 refine ZrA ?_
 refine Zn [0,2] ?_
 refine Qd ?_
 refine ZrM ?_
 refine Za (y_lenM (el:=38) h.len) ?_
 by_cases c1:(Ls.length:Int)=0
 ·refine Zan (yb (dT c1) yi_eql) [0,2,6] ?_
  refine cg_ct rfl ?_
  refine ZrA ?_
  refine Znr [0,2] ?_
  refine Qc ?_
  exact Qa rfl rfl ⟨_,rfl,congrArg Value.bool (dT ⟨.inl (by omega),fun i hi=>absurd hi (by omega)⟩).symm,u⟩
 refine Zan (yb (dF c1) yi_eql) [0,2,6] ?_
 refine Zcf [0,2] ?_
 refine Qd ?_
 refine ZrM ?_
 refine Za (y_lenM (el:=38) h.len) ?_
 by_cases c2:isW (Ls.length:Int)
 ·refine Za (yb (dT c2) (Qp (rwholeL (Ls.length:Int) _))) ?_
  refine Zan y_bnot [0,2,10] ?_
  refine Zcf [0,2] ?_
  refine Qd ?_
  refine ZrA ?_
  refine Zn [0,2,3] ?_
  refine Qj ?_
  refine Qr (fun t a v=>Holds 33 [(0,s.v),(3,nv ((t:Nat):Int))] a∧RwNd v W.heap.size s Ls∧Below W.heap.size W v∧∀ i,i<t→okAt i (atN Ls i)) (Ls.length+1) (fun a ha=>⟨ha.keep (fk rfl (fk rfl fn)),h,u,(fun i hi=>absurd hi (by omega))⟩) ?_
  rintro t a v ht ⟨ha,h,u,hk⟩
  refine cg_at ha ?_
  clear ha a
  have zv:=u.size
  have q1:=h.len
  have q2:=h.cap
  refine Qd ?_
  refine ZrM ?_
  refine ZM ?_
  refine Za (y_lenM (el:=38) h.len) ?_
  by_cases c3:((t:Nat):Int)<(Ls.length:Int)
  ·refine Zan (yb (dT c3) yi_lss) [0,3,14] ?_
   refine cg_ct rfl ?_
   refine Zki [0,3] ?_
   refine Qd ?_
   refine Qj ?_
   refine ZrM ?_
   refine ZM ?_
   obtain ⟨eb4,eo4,el4,eL4,eA4,eB4,eg4,eh4,ec4⟩:=h.at (t) (by have:=h.len;omega)
   refine Za (y_ixR (s:=s) (el:=38) (k:=8) (i:=t) (iI:=((t:Nat):Int)) eA4 (by kernel_rfl) (by kernel_rfl) (by omega) (by have:=h.len;omega) rfl rfl rfl) ?_
   refine Za (y_loadC (cs:=el4.cs eL4) ec4) ?_
   refine Zc (rcheckN_any (eh4.more (B':=v.heap.size) (by omega)) (Nat.le_refl _)) rfl rfl ?_
   rintro _ w5 ⟨rfl,hw5⟩
   have zw5:=hw5.size
   by_cases c6:(ndCheck eL4)=0
   ·refine Za (yb (nd_f c6) yi_neq) ?_
    refine ZM ?_
    refine Zt 23 y_move ?_
    refine Zt 23 y_move ?_
    refine Zt 23 y_move ?_
    have h:=h.below (hw5.mono (by omega))
    obtain ⟨eb7,eo7,el7,eL7,eA7,eB7,eg7,eh7,ec7⟩:=h.at (t) (by have:=h.len;omega)
    obtain rfl:eL4=eL7:=Option.some.inj (eg4.symm.trans eg7)
    refine Zt 23 (y_ixR (s:=s) (el:=38) (k:=8) (i:=t) (iI:=((t:Nat):Int)) eA7 (by kernel_rfl) (by kernel_rfl) (by omega) (by have:=h.len;omega) rfl rfl rfl) ?_
    refine Zt 23 (y_fld (off:=0)) ?_
    refine Zt 23 (y_celld (ec7 0 _ rfl)) ?_
    by_cases c8:fitK t eL4.kind
    ·refine Zt 23 (yb (dT c8) (Qp (fits_any t eL4.kind _))) ?_
     refine Zt 23 y_bnot ?_
     refine Zan (y_pick false) [0,3,32] ?_
     refine cg_cf rfl ?_
     refine cg_skip ?_
     refine Qi ?_
     refine Nx [0,3] ?_
     refine Qe ?_
     refine ZM ?_
     refine Za (yv (congrArg nv (show ((t:Nat):Int)+1=((t+1:Nat):Int) by omega)) (yi_add rfl rfl rfl (by omega) (by omega))) ?_
     refine ZA ?_
     refine Qk ?_
     have u:=Un u hw5
     exact fun a ha=>(show t<(Ls.length+1)∧_ from ⟨(by omega),ha.keep (fk rfl (fk rfl fn)),h,u,(ok_step hk eg4 ⟨c6,c8⟩)⟩)
    refine Zt 23 (yb (dF c8) (Qp (fits_any t eL4.kind _))) ?_
    refine Zt 23 y_bnot ?_
    refine Zan (y_pick false) [0,3,32] ?_
    refine cg_ct rfl ?_
    refine ZrA ?_
    refine Znr [0,3,2] ?_
    refine Qg ?_
    refine Qc ?_
    refine Qc ?_
    refine Qg ?_
    refine Qc ?_
    have u:=Un u hw5
    exact Qa rfl rfl ⟨_,rfl,congrArg Value.bool (dF (trIs_bad eg4 fun q=>c8 q.2)).symm,u⟩
   refine Za (yb (nd_t c6) yi_neq) ?_
   refine ZM ?_
   refine Zf 23 ?_
   refine Zf 23 ?_
   refine Zf 23 ?_
   refine Zf 23 ?_
   refine Zf 23 ?_
   refine Zf 23 ?_
   refine Zf 23 ?_
   refine Zf 23 ?_
   refine Zan (y_pick true) [0,3,32] ?_
   refine cg_ct rfl ?_
   refine ZrA ?_
   refine Znr [0,3,2] ?_
   refine Qg ?_
   refine Qc ?_
   refine Qc ?_
   refine Qg ?_
   refine Qc ?_
   have u:=Un u hw5
   exact Qa rfl rfl ⟨_,rfl,congrArg Value.bool (dF (trIs_bad eg4 fun q=>c6 q.1)).symm,u⟩
  refine Zan (yb (dF c3) yi_lss) [0,3,14] ?_
  refine cg_cf rfl ?_
  refine cg_exit ?_
  refine Qh ?_
  refine Qh ?_
  refine Ql ?_
  refine nx (E':=[]) fn ?_
  refine ZrA ?_
  refine Znr [2] ?_
  exact Qa rfl rfl ⟨_,rfl,congrArg Value.bool (dT ⟨.inr c2,fun i hi=>hk i (by omega)⟩).symm,u⟩
 refine Za (yb (dF c2) (Qp (rwholeL (Ls.length:Int) _))) ?_
 refine Zan y_bnot [0,2,10] ?_
 refine cg_ct rfl ?_
 refine ZrA ?_
 refine Znr [0,2] ?_
 refine Qc ?_
 exact Qa rfl rfl ⟨_,rfl,congrArg Value.bool (dF (fun q=>c2 (q.1.resolve_left (by omega)))).symm,u⟩
theorem as_any {W:World} {B:Nat} {s:SlV} {Ls:List Nd} (h:RwNd W B s Ls) (hB:B≤W.heap.size):Calls Tryz.prog 26 #[s.v] W fun e W'=>∃ v,e=.returned v∧∃ s':SlV,v=s'.v∧RwNd W' B s' (trAs Ls)∧Below W.heap.size W W':=by
 refine Qf (n:=7) Tryz.func26 rfl Tryz.ntmps26 (by simp) ?_
 show CG _ _ _ [(0,s.v)] _ _
 have u:=Below.refl W.heap.size W
 refine ZrA ?_
 refine Zn [0,2] ?_
 refine Qd ?_
 refine ZrM ?_
 by_cases c1:trIs Ls
 ·refine Zc (rsane_any (h.more (B':=W.heap.size) (by omega)) (Nat.le_refl _)) rfl rfl ?_
  rintro u2 w2 ⟨e2,hw2⟩
  have zw2:=hw2.size
  obtain rfl:u2=.bool true:=e2.trans (congrArg Value.bool (decide_eq_true c1))
  refine Zan y_bnot [0,2,5] ?_
  refine Zcf [0,2] ?_
  refine ZrM ?_
  refine ZAnr [2] ?_
  have h:=h.below (hw2.mono (by omega))
  have u:=Un u hw2
  exact Qa rfl rfl ⟨_,rfl,_,rfl,h.cast (trAs_ok c1).symm,u⟩
 refine Zc (rsane_any (h.more (B':=W.heap.size) (by omega)) (Nat.le_refl _)) rfl rfl ?_
 rintro u3 w3 ⟨e3,hw3⟩
 have zw3:=hw3.size
 obtain rfl:u3=.bool false:=e3.trans (congrArg Value.bool (decide_eq_false c1))
 refine Zan y_bnot [0,2,5] ?_
 refine cg_ct rfl ?_
 refine ZrA ?_
 refine Znr [0,2] ?_
 refine Qc ?_
 have u:=Un u hw3
 exact Qa rfl rfl ⟨_,rfl,nilS,rfl,(RwNd.nil _ _).cast (trAs_no c1).symm,u⟩
theorem rlast_any {W:World} {B:Nat} {s:SlV} {Ls:List Nd} (h:RwNd W B s Ls) (hB:B≤W.heap.size):Calls Tryz.prog 31 #[s.v] W fun e W'=>∃ v,e=.returned v∧v=nv (lastA (trAs Ls))∧Below W.heap.size W W':=by
 refine Qf (n:=21) Tryz.func31 rfl Tryz.ntmps31 (by simp) ?_
 show CG _ _ _ [(0,s.v)] _ _
 have u:=Below.refl W.heap.size W
 have h:=h.more hB
 refine ZrA ?_
 refine Zn [0,2] ?_
 refine ZrM ?_
 refine Zc (as_any h (by omega)) rfl rfl ?_
 rintro _ w1 ⟨s1,rfl,m1,hw1⟩
 have zw1:=hw1.size
 have tl1:=trAs_le Ls
 refine ZAn [2,3] ?_
 refine Qd ?_
 refine ZrM ?_
 refine Za (y_lenM (el:=38) m1.len) ?_
 refine Za (yv (congrArg nv (show ((trAs Ls).length:Int)-1=((trAs Ls).length:Int)-1-((0:Nat):Int) by omega)) (yi_sub rfl rfl rfl (by omega) (by omega))) ?_
 refine ZAn [2,3,4] ?_
 refine Qj ?_
 have u:=Un u hw1
 refine Qr (fun t a v=>∃ (r:SlV),Holds 21 [(3,r.v),(4,nv (((trAs Ls).length:Int)-1-(t:Int)))] a∧RwNd v W.heap.size r (trAs Ls)∧Below W.heap.size W v∧(∀ j,(trAs Ls).length-t≤j→j<(trAs Ls).length→(atN (trAs Ls) j).kind=0)∧t≤(trAs Ls).length) (Ls.length+200) (fun a ha=>⟨s1,ha.keep (fk rfl (fk rfl fn)),m1,u,(fun j h1 h2=>absurd h2 (by omega)),(Nat.zero_le _)⟩) ?_
 rintro t a v ht ⟨r,ha,hr,u,hk,tle⟩
 refine cg_at ha ?_
 clear ha a
 have zv:=u.size
 have q1:=hr.len
 have q2:=hr.cap
 have q3:=trAs_le Ls
 refine Qd ?_
 refine ZrM ?_
 by_cases c2:0≤(((trAs Ls).length:Int)-1-(t:Int))
 ·refine Zan (yb (dT c2) yi_geq) [3,4,11] ?_
  refine cg_ct rfl ?_
  refine Zki [3,4] ?_
  refine Qd ?_
  refine Qj ?_
  refine ZrM ?_
  refine ZM ?_
  obtain ⟨eb3,eo3,el3,eL3,eA3,eB3,eg3,eh3,ec3⟩:=hr.at (((trAs Ls).length-1-t)) (by have:=hr.len;omega)
  refine Za (y_ixR (s:=r) (el:=38) (k:=8) (i:=((trAs Ls).length-1-t)) (iI:=(((trAs Ls).length:Int)-1-(t:Int))) eA3 (by kernel_rfl) (by kernel_rfl) (by omega) (by have:=hr.len;omega) rfl rfl rfl) ?_
  refine Za (y_fld (off:=0)) ?_
  refine Za (y_celld (ec3 0 _ rfl)) ?_
  by_cases c4:eL3.kind=0
  ·refine Zan (yb (nd_f c4) yi_neq) [3,4,19] ?_
   refine cg_cf rfl ?_
   refine cg_skip ?_
   refine Qi ?_
   refine Nx [3,4] ?_
   refine Qe ?_
   refine ZM ?_
   refine Za (yv (congrArg nv (show (((trAs Ls).length:Int)-1-(t:Int))-1=((trAs Ls).length:Int)-1-((t+1:Nat):Int) by omega)) (yi_sub rfl rfl rfl (by omega) (by omega))) ?_
   refine ZA ?_
   refine Qk ?_
   exact fun a ha=>(show t<(Ls.length+200)∧_ from ⟨(by omega),r,ha.keep (fk rfl (fk rfl fn)),hr,u,(fun j h1 h2=>by by_cases q:j=(trAs Ls).length-1-t;rw [q];exact at_kind (p:=fun k=>k=0) eg3 c4;exact hk j (by omega) h2),(by omega)⟩)
  refine Zan (yb (nd_t c4) yi_neq) [3,4,19] ?_
  refine cg_ct rfl ?_
  refine ZrM ?_
  refine ZAnr [3,4,2] ?_
  refine Qg ?_
  refine Qc ?_
  refine Qc ?_
  refine Qg ?_
  refine Qc ?_
  exact Qa rfl rfl ⟨_,rfl,congrArg nv ((show (((trAs Ls).length:Int)-1-(t:Int))=(((trAs Ls).length-1-t:Nat):Int) by omega).trans (lastA_one (by omega) (at_kind (p:=fun k=>k≠0) eg3 c4) (fun j h1 h2=>hk j (by omega) h2)).symm),u⟩
 refine Zan (yb (dF c2) yi_geq) [3,4,11] ?_
 refine cg_cf rfl ?_
 refine cg_exit ?_
 refine Qh ?_
 refine Qh ?_
 refine Ql ?_
 refine nx (E':=[]) fn ?_
 refine ZrA ?_
 refine Znr [2] ?_
 exact Qa rfl rfl ⟨_,rfl,congrArg nv (lastA_no (fun j hj=>hk j (by omega) hj)).symm,u⟩
end Go.Proofs.YtognnnjdoemgfaaGreatDoor
