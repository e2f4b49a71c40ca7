/-
  Trees: what the document answers.
-/
import Derived.Test.YtfdmhdnlmndhdaaGreatDoorKitT
import Derived.Test.YtfdmhdnlmndhdaaGreatDoorKitQ
namespace Go.Proofs.YtfdmhdnlmndhdaaGreatDoor
open Go.ChangeShapes Go.WideShapes Go.ChangeAt Go.RowKit
set_option linter.unusedVariables false

theorem isN_of {a:List Nd} {x:Int} (h:trIs a) (h0:0≤x) (h1:x<(a.length:Int)):isN x (a.length:Int):=by
 have hl:=trIs_len h
 exact ⟨by unfold isW;omega,h0,h1⟩
theorem OwnNd.cast {w:World} {base B:Nat} {v:Value} {Ls Ms:List Nd} (h:OwnNd w base B v Ls) (e:Ls=Ms):OwnNd w base B v Ms:=e▸h
theorem noLeaf_half {a:List Nd} (h:trIs a) (h1:1<a.length):noLeaf (a.drop (a.length / 2))↔noLeaf (a.drop (a.length / 2+1)):=by
 have hl:=trIs_len h
 constructor
 ·intro q i hi
  rw [List.length_drop] at hi
  have h2:=q (i+1) (by rw [List.length_drop];omega)
  rw [atN_drop] at h2 ⊢
  rwa [show a.length / 2+1+i=a.length / 2+(i+1) by omega]
 intro q i hi
 rw [List.length_drop] at hi
 rw [atN_drop]
 by_cases e:i=0
 ·have hk:=ok_kind (trIs_ok h (a.length / 2+i))
  omega
 have h2:=q (i-1) (by rw [List.length_drop];omega)
 rw [atN_drop] at h2
 rwa [show a.length / 2+i=a.length / 2+1+(i-1) by omega]
theorem drop_noLeaf {a:List Nd} {i:Nat} (h:∀ j,i≤j→j<a.length→(atN a j).kind≠1):noLeaf (a.drop i):=fun q hq=>by
 rw [List.length_drop] at hq
 rw [atN_drop]
 exact h _ (by omega) (by omega)
theorem drop_leaf {a:List Nd} {i j:Nat} {L:Nd} (hi:i≤j) (h:a[j]?=some L) (hk:L.kind=1):¬noLeaf (a.drop i):=fun q=>by
 have hj:=(List.getElem?_eq_some_iff.1 h).1
 have h2:=q (j-i) (by rw [List.length_drop];omega)
 rw [atN_drop,show i+(j-i)=j by omega,atN_some h] at h2
 exact h2 hk
theorem sameR_any {W:World} {B:Nat} {s r:SlV} {Ls Ms:List Nd} (h:RwNd W B s Ls) (h2:RwNd W B r Ms) (hB:B≤W.heap.size):Calls Tryz.prog 17 #[s.v,r.v] W fun e W'=>∃ v,e=.returned v∧v=.bool (decide (trSame Ls Ms))∧Below W.heap.size W W':=by
 refine Qf (n:=27) Tryz.func17 rfl Tryz.ntmps17 (by simp) ?_
 show CG _ _ _ [(0,s.v),(1,r.v)] _ _
 have u:=Below.refl W.heap.size W
 have h:=h.more hB
 have h2:=h2.more hB
 have q1:=h.len
 have q2:=h.cap
 have q3:=h2.len
 refine ZrA ?_
 refine Zn [0,1,4] ?_
 refine Qd ?_
 refine ZrM ?_
 refine Za (y_lenM (el:=50) h.len) ?_
 refine ZM ?_
 refine Za (y_lenM (el:=50) h2.len) ?_
 by_cases c1:(Ls.length:Int)=(Ms.length:Int)
 ·refine Zan (yb (nd_f c1) yi_neq) [0,1,4,10] ?_
  refine Zcf [0,1,4] ?_
  refine Qd ?_
  refine ZrA ?_
  refine Zn [0,1,4,5] ?_
  refine Qj ?_
  refine Qr (fun t a v=>Holds 27 [(0,s.v),(1,r.v),(5,nv ((t:Nat):Int))] a∧RwNd v W.heap.size s Ls∧RwNd v W.heap.size r Ms∧Below W.heap.size W v∧(∀ i,i<t→NdSame (atN Ls i) (atN Ms i))) (Ls.length+1) (fun a ha=>⟨ha.keep (fk rfl (fk rfl (fk rfl fn))),h,h2,u,(fun i hi=>absurd hi (by omega))⟩) ?_
  rintro t a v ht ⟨ha,h,h2,u,hk⟩
  refine cg_at ha ?_
  clear ha a
  have zv:=u.size
  have q1:=h.len
  have q2:=h.cap
  have q3:=h2.len
  refine Qd ?_
  refine ZrM ?_
  refine ZM ?_
  refine Za (y_lenM (el:=50) h.len) ?_
  by_cases c2:((t:Nat):Int)<(Ls.length:Int)
  ·refine Zan (yb (dT c2) yi_lss) [0,1,5,14] ?_
   refine cg_ct rfl ?_
   refine Zki [0,1,5] ?_
   refine Qd ?_
   refine Qj ?_
   refine Qd ?_
   refine cg_held (by kernel_rfl) fun W3 eW3=>?_
   have dW3:=below_drew _ _ eW3
   have zW3:=size_drew _ _ eW3
   clear eW3
   refine Zh 0 (fun q hq=>y_move rfl rfl) ?_
   refine Zh 1 (fun q hq=>y_move rfl rfl) ?_
   have h:=h.below (dW3.mono (by omega))
   obtain ⟨eb4,eo4,el4,eL4,eA4,eB4,eg4,eh4,ec4⟩:=h.at (t) (by have:=h.len;omega)
   refine Zh 2 (fun q hq=>y_ixR (s:=s) (el:=50) (k:=8) (i:=t) (iI:=((t:Nat):Int)) eA4 (by kernel_rfl) (by kernel_rfl) (by omega) (by have:=h.len;omega) rfl rfl rfl) ?_
   refine Zh 3 (fun q hq=>y_loadC (cs:=el4.cs eL4) (fun k u e=>(hq.cell (p:=⟨eb4,_,none⟩) (show eb4<_ by omega)).trans (ec4 k u e)) (by kernel_rfl) (by kernel_rfl) rfl rfl) ?_
   refine Zh 4 (fun q hq=>y_move rfl rfl) ?_
   refine Zh 5 (fun q hq=>y_move rfl rfl) ?_
   have h2:=h2.below (dW3.mono (by omega))
   obtain ⟨eb5,eo5,el5,eL5,eA5,eB5,eg5,eh5,ec5⟩:=h2.at (t) (by have:=h2.len;omega)
   refine Zh 6 (fun q hq=>y_ixR (s:=r) (el:=50) (k:=8) (i:=t) (iI:=((t:Nat):Int)) eA5 (by kernel_rfl) (by kernel_rfl) (by omega) (by have:=h2.len;omega) rfl rfl rfl) ?_
   refine Zh 7 (fun q hq=>y_loadC (cs:=el5.cs eL5) (fun k u e=>(hq.cell (p:=⟨eb5,_,none⟩) (show eb5<_ by omega)).trans (ec5 k u e)) (by kernel_rfl) (by kernel_rfl) rfl rfl) ?_
   by_cases c6:NdSame eL4 eL5
   ·refine Zo 8 ?_
    refine Zc (rsameN_any (eh4.more (B':=W3.heap.size) (by omega)) (eh5.more (B':=W3.heap.size) (by omega)) (Nat.le_refl _)) rfl rfl ?_
    rintro u7 w7 ⟨e7,hw7⟩
    have zw7:=hw7.size
    obtain rfl:u7=.bool true:=e7.trans (congrArg Value.bool (decide_eq_true c6))
    refine hg_next hw7 ?_
    refine hg_up hw7 ?_
    refine Zh 9 (fun q hq=>y_bnot rfl rfl) ?_
    refine hg_done (by kernel_rfl) ?_
    refine Nx [0,1,5,26] ?_
    refine cg_cf rfl ?_
    refine cg_skip ?_
    refine Qi ?_
    refine Nx [0,1,5] ?_
    refine Qe ?_
    refine ZM ?_
    refine Za (yv (congrArg nv (show ((t:Nat):Int)+1=((t+1:Nat):Int) by omega)) (yi_add rfl rfl rfl (by omega) (by omega))) ?_
    refine ZA ?_
    refine Qk ?_
    have h:=h.below (hw7.mono (by omega))
    have h2:=h2.below (hw7.mono (by omega))
    have u:=Un (Un u dW3) hw7
    exact fun a ha=>(show t<(Ls.length+1)∧_ from ⟨(by omega),ha.keep (fk rfl (fk rfl (fk rfl fn))),h,h2,u,(fun i hi=>by by_cases q:i=t;subst q;rw [atN_some eg4,atN_some eg5];exact c6;exact hk i (by omega))⟩)
   refine Zo 8 ?_
   refine Zc (rsameN_any (eh4.more (B':=W3.heap.size) (by omega)) (eh5.more (B':=W3.heap.size) (by omega)) (Nat.le_refl _)) rfl rfl ?_
   rintro u8 w8 ⟨e8,hw8⟩
   have zw8:=hw8.size
   obtain rfl:u8=.bool false:=e8.trans (congrArg Value.bool (decide_eq_false c6))
   refine hg_next hw8 ?_
   refine hg_up hw8 ?_
   refine Zh 9 (fun q hq=>y_bnot rfl rfl) ?_
   refine hg_done (by kernel_rfl) ?_
   refine Nx [0,1,5,26] ?_
   refine cg_ct rfl ?_
   refine ZrA ?_
   refine Znr [0,1,5,4] ?_
   refine Qg ?_
   refine Qc ?_
   refine Qc ?_
   refine Qg ?_
   refine Qc ?_
   have u:=Un (Un u dW3) hw8
   exact Qa rfl rfl ⟨_,rfl,congrArg Value.bool (dF (fun q=>c6 (by have h3:=q.2 t (by omega);rwa [atN_some eg4,atN_some eg5] at h3))).symm,u⟩
  refine Zan (yb (dF c2) yi_lss) [0,1,5,14] ?_
  refine cg_cf rfl ?_
  refine cg_exit ?_
  refine Qh ?_
  refine Qh ?_
  refine Ql ?_
  refine nx (E':=[]) fn ?_
  refine ZrA ?_
  refine Znr [4] ?_
  exact Qa rfl rfl ⟨_,rfl,congrArg Value.bool (dT ⟨(by omega),fun i hi=>hk i (by omega)⟩).symm,u⟩
 refine Zan (yb (nd_t c1) yi_neq) [0,1,4,10] ?_
 refine cg_ct rfl ?_
 refine ZrA ?_
 refine Znr [0,1,4] ?_
 refine Qc ?_
 exact Qa rfl rfl ⟨_,rfl,congrArg Value.bool (dF (fun q=>by have:=q.1;omega)).symm,u⟩
theorem fewR_any {W:World} {B:Nat} {s:SlV} {Ls:List Nd} (h:RwNd W B s Ls) (hB:B≤W.heap.size):Calls Tryz.prog 11 #[s.v] W fun e W'=>∃ v,e=.returned v∧v=.bool (decide (trFew Ls))∧Below W.heap.size W W':=by
 refine Qf (n:=19) Tryz.func11 rfl Tryz.ntmps11 (by simp) ?_
 show CG _ _ _ [(0,s.v)] _ _
 have u:=Below.refl W.heap.size W
 have h:=h.more hB
 have q1:=h.len
 have q2:=h.cap
 refine ZrA ?_
 refine Zn [0,2] ?_
 refine Qd ?_
 refine ZrA ?_
 refine Zn [0,2,3] ?_
 refine Qj ?_
 refine Qr (fun t a v=>Holds 19 [(0,s.v),(3,nv ((t:Nat):Int))] a∧RwNd v W.heap.size s Ls∧Below W.heap.size W v∧(∀ i,i<t→ndFew (atN Ls i))) (Ls.length+1) (fun a ha=>⟨ha.keep (fk rfl (fk rfl fn)),h,u,(fun i hi=>absurd hi (by omega))⟩) ?_
 rintro t a v ht ⟨ha,h,u,hk⟩
 refine cg_at ha ?_
 clear ha a
 have zv:=u.size
 have q1:=h.len
 have q2:=h.cap
 refine Qd ?_
 refine ZrM ?_
 refine ZM ?_
 refine Za (y_lenM (el:=50) h.len) ?_
 by_cases c1:((t:Nat):Int)<(Ls.length:Int)
 ·refine Zan (yb (dT c1) yi_lss) [0,3,7] ?_
  refine cg_ct rfl ?_
  refine Zki [0,3] ?_
  refine Qd ?_
  refine Qj ?_
  refine ZrM ?_
  refine ZM ?_
  obtain ⟨eb2,eo2,el2,eL2,eA2,eB2,eg2,eh2,ec2⟩:=h.at (t) (by have:=h.len;omega)
  refine Za (y_ixR (s:=s) (el:=50) (k:=8) (i:=t) (iI:=((t:Nat):Int)) eA2 (by kernel_rfl) (by kernel_rfl) (by omega) (by have:=h.len;omega) rfl rfl rfl) ?_
  refine Za (y_loadC (cs:=el2.cs eL2) ec2) ?_
  by_cases c3:ndFew eL2
  ·refine Zc (fewN_any (eh2.more (B':=v.heap.size) (by omega)) (Nat.le_refl _)) rfl rfl ?_
   rintro u4 w4 ⟨e4,hw4⟩
   have zw4:=hw4.size
   obtain rfl:u4=.bool true:=e4.trans (congrArg Value.bool (decide_eq_true c3))
   refine Zan y_bnot [0,3,15] ?_
   refine cg_cf rfl ?_
   refine cg_skip ?_
   refine Qi ?_
   refine Nx [0,3] ?_
   refine Qe ?_
   refine ZM ?_
   refine Za (yv (congrArg nv (show ((t:Nat):Int)+1=((t+1:Nat):Int) by omega)) (yi_add rfl rfl rfl (by omega) (by omega))) ?_
   refine ZA ?_
   refine Qk ?_
   have h:=h.below (hw4.mono (by omega))
   have u:=Un u hw4
   exact fun a ha=>(show t<(Ls.length+1)∧_ from ⟨(by omega),ha.keep (fk rfl (fk rfl fn)),h,u,(ok_step (p:=fun _ L=>ndFew L) hk eg2 c3)⟩)
  refine Zc (fewN_any (eh2.more (B':=v.heap.size) (by omega)) (Nat.le_refl _)) rfl rfl ?_
  rintro u5 w5 ⟨e5,hw5⟩
  have zw5:=hw5.size
  obtain rfl:u5=.bool false:=e5.trans (congrArg Value.bool (decide_eq_false c3))
  refine Zan y_bnot [0,3,15] ?_
  refine cg_ct rfl ?_
  refine ZrA ?_
  refine Znr [0,3,2] ?_
  refine Qg ?_
  refine Qc ?_
  refine Qc ?_
  refine Qg ?_
  refine Qc ?_
  have u:=Un u hw5
  exact Qa rfl rfl ⟨_,rfl,congrArg Value.bool (dF (fun q=>c3 (by have h3:=q.1 t (by omega);rwa [atN_some eg2] at h3))).symm,u⟩
 refine Zan (yb (dF c1) yi_lss) [0,3,7] ?_
 refine cg_cf rfl ?_
 refine cg_exit ?_
 refine Qh ?_
 refine Qh ?_
 refine Ql ?_
 refine Nx [0] ?_
 refine ZrM ?_
 refine Za (y_lenM (el:=50) h.len) ?_
 by_cases c6:(Ls.length:Int)≤300
 ·refine Za (yb (dT c6) yi_leq) ?_
  refine ZAnr [2] ?_
  exact Qa rfl rfl ⟨_,rfl,congrArg Value.bool (dT ⟨fun i hi=>hk i (by omega),(by omega)⟩).symm,u⟩
 refine Za (yb (dF c6) yi_leq) ?_
 refine ZAnr [2] ?_
 exact Qa rfl rfl ⟨_,rfl,congrArg Value.bool (dF (fun q=>by have:=q.2;omega)).symm,u⟩
theorem fits_any (x:Nat) (k:Int) (W:World):Calls Tryz.prog 117 #[nv (x:Int),nv k] W fun e W'=>e=.returned (.bool (decide (fitK x k)))∧W'=W:=by
 refine Qf (n:=21) Tryz.func117 rfl Tryz.ntmps117 (by simp) ?_
 show CG _ _ _ [(0,nv (x:Int)),(1,nv k)] _ _
 refine ZrA ?_
 refine Zn [0,1,4] ?_
 refine ZrM ?_
 refine Za (yi_rem rfl rfl rfl (by omega) (by omega)) ?_
 by_cases c1:(((x:Nat):Int) % 2)=0
 ·refine Za (yb (nd_f c1) yi_neq) ?_
  refine ZM ?_
  refine Zt 8 y_move ?_
  by_cases c2:k=2
  ·refine Zt 8 (yb (nd_f c2) yi_neq) ?_
   refine Za (y_pick false) ?_
   refine ZM ?_
   refine Zf 12 ?_
   refine Zf 12 ?_
   refine Zf 12 ?_
   refine Zf 12 ?_
   refine Zu 16 ?_
   refine Zu 16 ?_
   refine Zf 12 ?_
   refine Za (y_pick false) ?_
   refine ZAnr [4] ?_
   exact Qa rfl rfl ⟨congrArg (fun q=>Ending.returned (.bool q)) (dF (by unfold fitK;omega)).symm,rfl⟩
  refine Zt 8 (yb (nd_t c2) yi_neq) ?_
  refine Za (y_pick false) ?_
  refine ZM ?_
  refine Zt 12 y_move ?_
  refine Zt 12 (yi_rem rfl rfl rfl (by omega) (by omega)) ?_
  refine Zt 12 (yb (dT c1) yi_eql) ?_
  refine Zt 12 y_move ?_
  refine Zf 16 ?_
  refine Zf 16 ?_
  refine Zt 12 (y_pick true) ?_
  refine Za (y_pick true) ?_
  refine ZAnr [4] ?_
  exact Qa rfl rfl ⟨congrArg (fun q=>Ending.returned (.bool q)) (dT (by unfold fitK;omega)).symm,rfl⟩
 refine Za (yb (nd_t c1) yi_neq) ?_
 refine ZM ?_
 refine Zf 8 ?_
 refine Zf 8 ?_
 refine Za (y_pick true) ?_
 refine ZM ?_
 refine Zt 12 y_move ?_
 refine Zt 12 (yi_rem rfl rfl rfl (by omega) (by omega)) ?_
 refine Zt 12 (yb (dF c1) yi_eql) ?_
 refine Zt 12 y_move ?_
 refine Zt 16 y_move ?_
 by_cases c3:k=1
 ·refine Zt 16 (yb (nd_f c3) yi_neq) ?_
  refine Zt 12 (y_pick false) ?_
  refine Za (y_pick true) ?_
  refine ZAnr [4] ?_
  exact Qa rfl rfl ⟨congrArg (fun q=>Ending.returned (.bool q)) (dF (by unfold fitK;omega)).symm,rfl⟩
 refine Zt 16 (yb (nd_t c3) yi_neq) ?_
 refine Zt 12 (y_pick false) ?_
 refine Za (y_pick true) ?_
 refine ZAnr [4] ?_
 exact Qa rfl rfl ⟨congrArg (fun q=>Ending.returned (.bool q)) (dT (by unfold fitK;omega)).symm,rfl⟩
theorem rsane_any {W:World} {B:Nat} {s:SlV} {Ls:List Nd} (h:RwNd W B s Ls) (hB:B≤W.heap.size):Calls Tryz.prog 78 #[s.v] W fun e W'=>∃ v,e=.returned v∧v=.bool (decide (trIs Ls))∧Below W.heap.size W W':=by
 refine Qf (n:=33) Tryz.func78 rfl Tryz.ntmps78 (by simp) ?_
 show CG _ _ _ [(0,s.v)] _ _
 have u:=Below.refl W.heap.size W
 have h:=h.more hB
 have q1:=h.len
 have q2:=h.cap
 refine ZrA ?_
 refine Zn [0,2] ?_
 refine Qd ?_
 refine ZrM ?_
 refine Za (y_lenM (el:=50) h.len) ?_
 by_cases c1:(Ls.length:Int)=0
 ·refine Zan (yb (dT c1) yi_eql) [0,2,6] ?_
  refine cg_ct rfl ?_
  refine ZrA ?_
  refine Znr [0,2] ?_
  refine Qc ?_
  exact Qa rfl rfl ⟨_,rfl,congrArg Value.bool (dT ⟨.inl (by omega),fun i hi=>absurd hi (by omega)⟩).symm,u⟩
 refine Zan (yb (dF c1) yi_eql) [0,2,6] ?_
 refine Zcf [0,2] ?_
 refine Qd ?_
 refine ZrM ?_
 refine Za (y_lenM (el:=50) h.len) ?_
 by_cases c2:isW (Ls.length:Int)
 ·refine Za (yb (dT c2) (Qp (rwholeL (Ls.length:Int) _))) ?_
  refine Zan y_bnot [0,2,10] ?_
  refine Zcf [0,2] ?_
  refine Qd ?_
  refine ZrA ?_
  refine Zn [0,2,3] ?_
  refine Qj ?_
  refine Qr (fun t a v=>Holds 33 [(0,s.v),(3,nv ((t:Nat):Int))] a∧RwNd v W.heap.size s Ls∧Below W.heap.size W v∧∀ i,i<t→okAt i (atN Ls i)) (Ls.length+1) (fun a ha=>⟨ha.keep (fk rfl (fk rfl fn)),h,u,(fun i hi=>absurd hi (by omega))⟩) ?_
  rintro t a v ht ⟨ha,h,u,hk⟩
  refine cg_at ha ?_
  clear ha a
  have zv:=u.size
  have q1:=h.len
  have q2:=h.cap
  refine Qd ?_
  refine ZrM ?_
  refine ZM ?_
  refine Za (y_lenM (el:=50) h.len) ?_
  by_cases c3:((t:Nat):Int)<(Ls.length:Int)
  ·refine Zan (yb (dT c3) yi_lss) [0,3,14] ?_
   refine cg_ct rfl ?_
   refine Zki [0,3] ?_
   refine Qd ?_
   refine Qj ?_
   refine ZrM ?_
   refine ZM ?_
   obtain ⟨eb4,eo4,el4,eL4,eA4,eB4,eg4,eh4,ec4⟩:=h.at (t) (by have:=h.len;omega)
   refine Za (y_ixR (s:=s) (el:=50) (k:=8) (i:=t) (iI:=((t:Nat):Int)) eA4 (by kernel_rfl) (by kernel_rfl) (by omega) (by have:=h.len;omega) rfl rfl rfl) ?_
   refine Za (y_loadC (cs:=el4.cs eL4) ec4) ?_
   refine Zc (rcheckN_any (eh4.more (B':=v.heap.size) (by omega)) (Nat.le_refl _)) rfl rfl ?_
   rintro _ w5 ⟨rfl,hw5⟩
   have zw5:=hw5.size
   by_cases c6:(ndCheck eL4)=0
   ·refine Za (yb (nd_f c6) yi_neq) ?_
    refine ZM ?_
    refine Zt 23 y_move ?_
    refine Zt 23 y_move ?_
    refine Zt 23 y_move ?_
    have h:=h.below (hw5.mono (by omega))
    obtain ⟨eb7,eo7,el7,eL7,eA7,eB7,eg7,eh7,ec7⟩:=h.at (t) (by have:=h.len;omega)
    obtain rfl:eL4=eL7:=Option.some.inj (eg4.symm.trans eg7)
    refine Zt 23 (y_ixR (s:=s) (el:=50) (k:=8) (i:=t) (iI:=((t:Nat):Int)) eA7 (by kernel_rfl) (by kernel_rfl) (by omega) (by have:=h.len;omega) rfl rfl rfl) ?_
    refine Zt 23 (y_fld (off:=0)) ?_
    refine Zt 23 (y_celld (ec7 0 _ rfl)) ?_
    by_cases c8:fitK t eL4.kind
    ·refine Zt 23 (yb (dT c8) (Qp (fits_any t eL4.kind _))) ?_
     refine Zt 23 y_bnot ?_
     refine Zan (y_pick false) [0,3,32] ?_
     refine cg_cf rfl ?_
     refine cg_skip ?_
     refine Qi ?_
     refine Nx [0,3] ?_
     refine Qe ?_
     refine ZM ?_
     refine Za (yv (congrArg nv (show ((t:Nat):Int)+1=((t+1:Nat):Int) by omega)) (yi_add rfl rfl rfl (by omega) (by omega))) ?_
     refine ZA ?_
     refine Qk ?_
     have u:=Un u hw5
     exact fun a ha=>(show t<(Ls.length+1)∧_ from ⟨(by omega),ha.keep (fk rfl (fk rfl fn)),h,u,(ok_step hk eg4 ⟨c6,c8⟩)⟩)
    refine Zt 23 (yb (dF c8) (Qp (fits_any t eL4.kind _))) ?_
    refine Zt 23 y_bnot ?_
    refine Zan (y_pick false) [0,3,32] ?_
    refine cg_ct rfl ?_
    refine ZrA ?_
    refine Znr [0,3,2] ?_
    refine Qg ?_
    refine Qc ?_
    refine Qc ?_
    refine Qg ?_
    refine Qc ?_
    have u:=Un u hw5
    exact Qa rfl rfl ⟨_,rfl,congrArg Value.bool (dF (trIs_bad eg4 fun q=>c8 q.2)).symm,u⟩
   refine Za (yb (nd_t c6) yi_neq) ?_
   refine ZM ?_
   refine Zf 23 ?_
   refine Zf 23 ?_
   refine Zf 23 ?_
   refine Zf 23 ?_
   refine Zf 23 ?_
   refine Zf 23 ?_
   refine Zf 23 ?_
   refine Zf 23 ?_
   refine Zan (y_pick true) [0,3,32] ?_
   refine cg_ct rfl ?_
   refine ZrA ?_
   refine Znr [0,3,2] ?_
   refine Qg ?_
   refine Qc ?_
   refine Qc ?_
   refine Qg ?_
   refine Qc ?_
   have u:=Un u hw5
   exact Qa rfl rfl ⟨_,rfl,congrArg Value.bool (dF (trIs_bad eg4 fun q=>c6 q.1)).symm,u⟩
  refine Zan (yb (dF c3) yi_lss) [0,3,14] ?_
  refine cg_cf rfl ?_
  refine cg_exit ?_
  refine Qh ?_
  refine Qh ?_
  refine Ql ?_
  refine nx (E':=[]) fn ?_
  refine ZrA ?_
  refine Znr [2] ?_
  exact Qa rfl rfl ⟨_,rfl,congrArg Value.bool (dT ⟨.inr c2,fun i hi=>hk i (by omega)⟩).symm,u⟩
 refine Za (yb (dF c2) (Qp (rwholeL (Ls.length:Int) _))) ?_
 refine Zan y_bnot [0,2,10] ?_
 refine cg_ct rfl ?_
 refine ZrA ?_
 refine Znr [0,2] ?_
 refine Qc ?_
 exact Qa rfl rfl ⟨_,rfl,congrArg Value.bool (dF (fun q=>c2 (q.1.resolve_left (by omega)))).symm,u⟩
theorem as_any {W:World} {B:Nat} {s:SlV} {Ls:List Nd} (h:RwNd W B s Ls) (hB:B≤W.heap.size):Calls Tryz.prog 39 #[s.v] W fun e W'=>∃ v,e=.returned v∧∃ s':SlV,v=s'.v∧RwNd W' B s' (trAs Ls)∧Below W.heap.size W W':=by
 refine Qf (n:=7) Tryz.func39 rfl Tryz.ntmps39 (by simp) ?_
 show CG _ _ _ [(0,s.v)] _ _
 have u:=Below.refl W.heap.size W
 refine ZrA ?_
 refine Zn [0,2] ?_
 refine Qd ?_
 refine ZrM ?_
 by_cases c1:trIs Ls
 ·refine Zc (rsane_any (h.more (B':=W.heap.size) (by omega)) (Nat.le_refl _)) rfl rfl ?_
  rintro u2 w2 ⟨e2,hw2⟩
  have zw2:=hw2.size
  obtain rfl:u2=.bool true:=e2.trans (congrArg Value.bool (decide_eq_true c1))
  refine Zan y_bnot [0,2,5] ?_
  refine Zcf [0,2] ?_
  refine ZrM ?_
  refine ZAnr [2] ?_
  have h:=h.below (hw2.mono (by omega))
  have u:=Un u hw2
  exact Qa rfl rfl ⟨_,rfl,_,rfl,h.cast (trAs_ok c1).symm,u⟩
 refine Zc (rsane_any (h.more (B':=W.heap.size) (by omega)) (Nat.le_refl _)) rfl rfl ?_
 rintro u3 w3 ⟨e3,hw3⟩
 have zw3:=hw3.size
 obtain rfl:u3=.bool false:=e3.trans (congrArg Value.bool (decide_eq_false c1))
 refine Zan y_bnot [0,2,5] ?_
 refine cg_ct rfl ?_
 refine ZrA ?_
 refine Znr [0,2] ?_
 refine Qc ?_
 have u:=Un u hw3
 exact Qa rfl rfl ⟨_,rfl,nilS,rfl,(RwNd.nil _ _).cast (trAs_no c1).symm,u⟩
theorem rleavesT_any {W:World} {B:Nat} {s:SlV} {Ls:List Nd} (h:RwNd W B s Ls) (hB:B≤W.heap.size):Calls Tryz.prog 80 #[s.v] W fun e W'=>∃ v,e=.returned v∧v=nv (leavesA (trAs Ls):Int)∧Below W.heap.size W W':=by
 refine Qf (n:=8) Tryz.func80 rfl Tryz.ntmps80 (by simp) ?_
 show CG _ _ _ [(0,s.v)] _ _
 have u:=Below.refl W.heap.size W
 refine ZrA ?_
 refine Zn [0,2] ?_
 refine ZrM ?_
 refine Zc (as_any h (by omega)) rfl rfl ?_
 rintro _ w1 ⟨s1,rfl,m1,hw1⟩
 have zw1:=hw1.size
 have tl1:=trAs_le Ls
 refine Za (y_lenM (el:=50) m1.len) ?_
 refine Za (yi_add rfl rfl rfl (by omega) (by omega)) ?_
 refine Za (yi_quo rfl rfl rfl (by omega) (by omega) (by omega)) ?_
 refine ZAnr [2] ?_
 have u:=Un u hw1
 exact Qa rfl rfl ⟨_,rfl,congrArg nv (show ((((trAs Ls).length:Int)+1) / 2)=_ by unfold leavesA;omega),u⟩
theorem rfree_any {W:World} {B:Nat} {s:SlV} {Ls:List Nd} (h:RwNd W B s Ls) (hB:B≤W.heap.size):Calls Tryz.prog 41 #[s.v] W fun e W'=>∃ v,e=.returned v∧v=nv (freeA (trAs Ls))∧Below W.heap.size W W':=by
 refine Qf (n:=21) Tryz.func41 rfl Tryz.ntmps41 (by simp) ?_
 show CG _ _ _ [(0,s.v)] _ _
 have u:=Below.refl W.heap.size W
 have h:=h.more hB
 refine ZrA ?_
 refine Zn [0,2] ?_
 refine ZrM ?_
 refine Zc (as_any h (by omega)) rfl rfl ?_
 rintro _ w1 ⟨s1,rfl,m1,hw1⟩
 have zw1:=hw1.size
 have tl1:=trAs_le Ls
 refine ZAn [2,3] ?_
 refine Qd ?_
 refine ZrA ?_
 refine Zn [2,3,4] ?_
 refine Qj ?_
 have u:=Un u hw1
 refine Qr (fun t a v=>∃ (r:SlV),Holds 21 [(3,r.v),(4,nv ((2*t:Nat):Int))] a∧RwNd v W.heap.size r (trAs Ls)∧Below W.heap.size W v∧(∀ j,j<t→(atN (trAs Ls) (2*j)).kind≠0)∧2*t≤(trAs Ls).length+1) (Ls.length+200) (fun a ha=>⟨s1,ha.keep (fk rfl (fk rfl fn)),m1,u,(fun i hi=>absurd hi (by omega)),(by omega)⟩) ?_
 rintro t a v ht ⟨r,ha,hr,u,hk,tle⟩
 refine cg_at ha ?_
 clear ha a
 have zv:=u.size
 have q1:=hr.len
 have q2:=hr.cap
 have q3:=trAs_le Ls
 refine Qd ?_
 refine ZrM ?_
 refine ZM ?_
 refine Za (y_lenM (el:=50) hr.len) ?_
 by_cases c2:((2*t:Nat):Int)<((trAs Ls).length:Int)
 ·refine Zan (yb (dT c2) yi_lss) [3,4,10] ?_
  refine cg_ct rfl ?_
  refine Zki [3,4] ?_
  refine Qd ?_
  refine Qj ?_
  refine ZrM ?_
  refine ZM ?_
  obtain ⟨eb3,eo3,el3,eL3,eA3,eB3,eg3,eh3,ec3⟩:=hr.at ((2*t)) (by have:=hr.len;omega)
  refine Za (y_ixR (s:=r) (el:=50) (k:=8) (i:=(2*t)) (iI:=((2*t:Nat):Int)) eA3 (by kernel_rfl) (by kernel_rfl) (by omega) (by have:=hr.len;omega) rfl rfl rfl) ?_
  refine Za (y_fld (off:=0)) ?_
  refine Za (y_celld (ec3 0 _ rfl)) ?_
  by_cases c4:eL3.kind=0
  ·refine Zan (yb (dT c4) yi_eql) [3,4,18] ?_
   refine cg_ct rfl ?_
   refine ZrM ?_
   refine Za (yi_quo rfl rfl rfl (by omega) (by omega) (by omega)) ?_
   refine ZAnr [3,4,2] ?_
   refine Qg ?_
   refine Qc ?_
   refine Qc ?_
   refine Qg ?_
   refine Qc ?_
   exact Qa rfl rfl ⟨_,rfl,congrArg nv ((show (((2*t:Nat):Int) / 2)=(t:Int) by omega).trans (freeA_one (by unfold leavesA;omega) (at_kind (p:=fun k=>k=0) eg3 c4) hk).symm),u⟩
  refine Zan (yb (dF c4) yi_eql) [3,4,18] ?_
  refine cg_cf rfl ?_
  refine cg_skip ?_
  refine Qi ?_
  refine Nx [3,4] ?_
  refine Qe ?_
  refine ZM ?_
  refine Za (yv (congrArg nv (show ((2*t:Nat):Int)+2=((2*(t+1):Nat):Int) by omega)) (yi_add rfl rfl rfl (by omega) (by omega))) ?_
  refine ZA ?_
  refine Qk ?_
  exact fun a ha=>(show t<(Ls.length+200)∧_ from ⟨(by omega),r,ha.keep (fk rfl (fk rfl fn)),hr,u,(fun j hj=>by by_cases q:j=t;subst q;exact at_kind (p:=fun k=>k≠0) eg3 c4;exact hk j (by omega)),(by omega)⟩)
 refine Zan (yb (dF c2) yi_lss) [3,4,10] ?_
 refine cg_cf rfl ?_
 refine cg_exit ?_
 refine Qh ?_
 refine Qh ?_
 refine Ql ?_
 refine nx (E':=[]) fn ?_
 refine ZrA ?_
 refine Znr [2] ?_
 exact Qa rfl rfl ⟨_,rfl,congrArg nv (freeA_no (fun j hj=>hk j (by unfold leavesA at hj;omega))).symm,u⟩
theorem leafless_any {W:World} {B:Nat} {s:SlV} {Ls:List Nd} (i:Nat) (h:RwNd W B s Ls) (hB:B≤W.heap.size):Calls Tryz.prog 83 #[s.v,nv (i:Int)] W fun e W'=>∃ v,e=.returned v∧v=.bool (decide (noLeaf (Ls.drop i)))∧Below W.heap.size W W':=by
 refine Qf (n:=19) Tryz.func83 rfl Tryz.ntmps83 (by simp) ?_
 show CG _ _ _ [(0,s.v),(1,nv (i:Int))] _ _
 have u:=Below.refl W.heap.size W
 have h:=h.more hB
 have q1:=h.len
 have q2:=h.cap
 refine ZrA ?_
 refine Zn [0,1,4] ?_
 refine Qd ?_
 refine ZrM ?_
 refine ZAn [0,4,5] ?_
 refine Qj ?_
 refine Qr (fun t a v=>Holds 19 [(0,s.v),(5,nv ((i+t:Nat):Int))] a∧RwNd v W.heap.size s Ls∧Below W.heap.size W v∧(∀ j,i≤j→j<i+t→(atN Ls j).kind≠1)) (Ls.length+1) (fun a ha=>⟨ha.keep (fk rfl (fk rfl fn)),h,u,(fun j h1 h2=>absurd h2 (by omega))⟩) ?_
 rintro t a v ht ⟨ha,h,u,hk⟩
 refine cg_at ha ?_
 clear ha a
 have zv:=u.size
 have q1:=h.len
 have q2:=h.cap
 refine Qd ?_
 refine ZrM ?_
 refine ZM ?_
 refine Za (y_lenM (el:=50) h.len) ?_
 by_cases c1:((i+t:Nat):Int)<(Ls.length:Int)
 ·refine Zan (yb (dT c1) yi_lss) [0,5,10] ?_
  refine cg_ct rfl ?_
  refine Zki [0,5] ?_
  refine Qd ?_
  refine Qj ?_
  refine ZrM ?_
  refine ZM ?_
  obtain ⟨eb2,eo2,el2,eL2,eA2,eB2,eg2,eh2,ec2⟩:=h.at ((i+t)) (by have:=h.len;omega)
  refine Za (y_ixR (s:=s) (el:=50) (k:=8) (i:=(i+t)) (iI:=((i+t:Nat):Int)) eA2 (by kernel_rfl) (by kernel_rfl) (by omega) (by have:=h.len;omega) rfl rfl rfl) ?_
  refine Za (y_fld (off:=0)) ?_
  refine Za (y_celld (ec2 0 _ rfl)) ?_
  by_cases c3:eL2.kind=1
  ·refine Zan (yb (dT c3) yi_eql) [0,5,18] ?_
   refine cg_ct rfl ?_
   refine ZrA ?_
   refine Znr [0,5,4] ?_
   refine Qg ?_
   refine Qc ?_
   refine Qc ?_
   refine Qg ?_
   refine Qc ?_
   exact Qa rfl rfl ⟨_,rfl,congrArg Value.bool (dF (drop_leaf (by omega) eg2 c3)).symm,u⟩
  refine Zan (yb (dF c3) yi_eql) [0,5,18] ?_
  refine cg_cf rfl ?_
  refine cg_skip ?_
  refine Qi ?_
  refine Nx [0,5] ?_
  refine Qe ?_
  refine ZM ?_
  refine Za (yv (congrArg nv (show ((i+t:Nat):Int)+1=((i+(t+1):Nat):Int) by omega)) (yi_add rfl rfl rfl (by omega) (by omega))) ?_
  refine ZA ?_
  refine Qk ?_
  exact fun a ha=>(show t<(Ls.length+1)∧_ from ⟨(by omega),ha.keep (fk rfl (fk rfl fn)),h,u,(fun j h1 h3=>by by_cases q:j=i+t;subst q;exact at_kind (p:=fun k=>k≠1) eg2 c3;exact hk j h1 (by omega))⟩)
 refine Zan (yb (dF c1) yi_lss) [0,5,10] ?_
 refine cg_cf rfl ?_
 refine cg_exit ?_
 refine Qh ?_
 refine Qh ?_
 refine Ql ?_
 refine nx (E':=[]) fn ?_
 refine ZrA ?_
 refine Znr [4] ?_
 exact Qa rfl rfl ⟨_,rfl,congrArg Value.bool (dT (drop_noLeaf fun j h1 h3=>hk j h1 (by omega))).symm,u⟩
theorem rtrim_any {W:World} {B:Nat} {s:SlV} {Ls:List Nd} (h:RwNd W B s Ls) (hB:B≤W.heap.size):Calls Tryz.prog 50 #[s.v] W fun e W'=>∃ v,e=.returned v∧∃ s':SlV,v=s'.v∧RwNd W' B s' (trimL Ls)∧Below W.heap.size W W':=by
 refine Qf (n:=32) Tryz.func50 rfl Tryz.ntmps50 (by simp) ?_
 show CG _ _ _ [(0,s.v)] _ _
 have u:=Below.refl W.heap.size W
 refine ZrA ?_
 refine Zn [0,2] ?_
 refine ZrM ?_
 refine Zc (as_any h (by omega)) rfl rfl ?_
 rintro _ w1 ⟨s1,rfl,m1,hw1⟩
 have zw1:=hw1.size
 have tl1:=trAs_le Ls
 refine ZAn [2,3] ?_
 refine Qd ?_
 refine Qj ?_
 have u:=Un u hw1
 refine Qr (fun t a v=>∃ (r:SlV) (ca:List Nd) (k:Nat),Holds 32 [(3,r.v)] a∧RwNd v B r ca∧Below W.heap.size W v∧trIs ca∧t+k=7∧ca.length<2 ^ k∧trimN k ca=trimN 7 (trAs Ls)) 8 (fun a ha=>⟨s1,_,7,ha.keep (fk rfl fn),m1,u,(trAs_is Ls),rfl,(by have:=trAs_le Ls;omega),rfl⟩) ?_
 rintro t a v ht ⟨r,ca,k,ha,hr,u,hti,hk,hlen,hval⟩
 refine cg_at ha ?_
 clear ha a
 have zv:=u.size
 have q1:=hr.len
 have q2:=hr.cap
 have q3:=trIs_le hti
 refine Qd ?_
 refine ZrM ?_
 refine Za (y_lenM (el:=50) hr.len) ?_
 by_cases c2:1<(ca.length:Int)
 ·refine Za (yb (dT c2) yi_gtr) ?_
  refine ZM ?_
  refine Zt 9 y_move ?_
  refine Zt 9 y_move ?_
  refine Zt 9 (y_lenM (el:=50) hr.len) ?_
  refine Zt 9 (yv (congrArg nv (show (ca.length:Int) / 2=((ca.length / 2:Nat):Int) by omega)) (yi_quo rfl rfl rfl (by omega) (by omega) (by omega))) ?_
  by_cases c3:noLeaf (ca.drop (ca.length / 2))
  ·refine Zct 9 (leafless_any (ca.length / 2) (hr.more (B':=v.heap.size) (by omega)) (Nat.le_refl _)) rfl rfl ?_
   rintro u4 w4 ⟨e4,hw4⟩
   have zw4:=hw4.size
   obtain rfl:u4=.bool true:=e4.trans (congrArg Value.bool (decide_eq_true c3))
   refine Zan (y_pick true) [3,15] ?_
   refine cg_ct rfl ?_
   refine Zki [3] ?_
   refine Qj ?_
   refine Qe ?_
   refine ZM ?_
   refine ZM ?_
   have hr:=hr.below (hw4.mono (by omega))
   refine Za (y_lenM (el:=50) hr.len) ?_
   refine Za (yv (congrArg nv (show (ca.length:Int) / 2=((ca.length / 2:Nat):Int) by omega)) (yi_quo rfl rfl rfl (by omega) (by omega) (by omega))) ?_
   have cu5:=RwNd.cast (Ms:=(ca.take (ca.length / 2))) (hr.cut 0 (ca.length / 2) r.c (by have q1:=hr.len;have q2:=hr.cap;omega) (by have q1:=hr.len;have q2:=hr.cap;omega) (by have q1:=hr.len;have q2:=hr.cap;omega) (by have q1:=hr.len;have q2:=hr.cap;omega)) (by rw [List.drop_zero])
   refine Za (y_cutR_h (s:=r) (ca.length / 2) (hi:=((ca.length / 2:Nat):Int)) (by have q1:=hr.len;have q2:=hr.cap;omega) (by have q1:=hr.len;have q2:=hr.cap;omega) rfl rfl rfl) ?_
   refine ZA ?_
   refine Qk ?_
   refine Qi ?_
   obtain ⟨j,rfl,hj⟩:=trim_fuel hlen (by omega)
   have u:=Un u hw4
   exact fun a ha=>(show t<8∧_ from ⟨(by omega),(⟨cutR r.A 0 r.c,(ca.length / 2)-0,r.c-0⟩:SlV),_,j,ha.keep (fk rfl fn),cu5,u,(trIs_half hti (by omega)),(by omega),(by rw [List.length_take];omega),((trim_step j (by omega) ((noLeaf_half hti (by omega)).1 c3)).symm.trans hval)⟩)
  refine Zct 9 (leafless_any (ca.length / 2) (hr.more (B':=v.heap.size) (by omega)) (Nat.le_refl _)) rfl rfl ?_
  rintro u6 w6 ⟨e6,hw6⟩
  have zw6:=hw6.size
  obtain rfl:u6=.bool false:=e6.trans (congrArg Value.bool (decide_eq_false c3))
  refine Zan (y_pick true) [3,15] ?_
  refine cg_cf rfl ?_
  refine cg_exit ?_
  refine Qh ?_
  refine Qh ?_
  refine Ql ?_
  refine Nx [3] ?_
  refine Qd ?_
  refine ZrM ?_
  have hr:=hr.below (hw6.mono (by omega))
  refine Za (y_lenM (el:=50) hr.len) ?_
  by_cases c7:(ca.length:Int)=1
  ·omega
  refine Za (yb (dF c7) yi_eql) ?_
  refine ZM ?_
  refine Zf 24 ?_
  refine Zf 24 ?_
  refine Zf 24 ?_
  refine Zf 24 ?_
  refine Zf 24 ?_
  refine Zan (y_pick false) [3,30] ?_
  refine Zcf [3] ?_
  refine ZrM ?_
  refine ZAnr [2] ?_
  have u:=Un u hw6
  exact Qa rfl rfl ⟨_,rfl,_,rfl,hr.cast (trimL_mid hval (by omega) (fun q=>c3 ((noLeaf_half hti (by omega)).2 q))),u⟩
 refine Za (yb (dF c2) yi_gtr) ?_
 refine ZM ?_
 refine Zf 9 ?_
 refine Zf 9 ?_
 refine Zf 9 ?_
 refine Zf 9 ?_
 refine Zf 9 ?_
 refine Zan (y_pick false) [3,15] ?_
 refine cg_cf rfl ?_
 refine cg_exit ?_
 refine Qh ?_
 refine Qh ?_
 refine Ql ?_
 refine Nx [3] ?_
 refine Qd ?_
 refine ZrM ?_
 refine Za (y_lenM (el:=50) hr.len) ?_
 by_cases c8:(ca.length:Int)=1
 ·refine Za (yb (dT c8) yi_eql) ?_
  refine ZM ?_
  refine Zt 24 y_move ?_
  obtain ⟨eb9,eo9,el9,eL9,eA9,eB9,eg9,eh9,ec9⟩:=hr.at (0) (by have:=hr.len;omega)
  refine Zt 24 (y_ixR (s:=r) (el:=50) (k:=8) (i:=0) (iI:=0) eA9 (by kernel_rfl) (by kernel_rfl) (by omega) (by have:=hr.len;omega) rfl rfl rfl) ?_
  refine Zt 24 (y_fld (off:=0)) ?_
  refine Zt 24 (y_celld (ec9 0 _ rfl)) ?_
  by_cases c10:eL9.kind=0
  ·refine Zt 24 (yb (dT c10) yi_eql) ?_
   refine Zan (y_pick true) [3,30] ?_
   refine cg_ct rfl ?_
   refine ZrA ?_
   refine Znr [3,2] ?_
   refine Qc ?_
   exact Qa rfl rfl ⟨_,rfl,nilS,rfl,(RwNd.nil _ _).cast ((((end_one hti).trans (if_pos ⟨by omega,at_kind (p:=fun k=>k=0) eg9 c10⟩)).symm).trans (trimL_out hval (by omega))),u⟩
  refine Zt 24 (yb (dF c10) yi_eql) ?_
  refine Zan (y_pick true) [3,30] ?_
  refine Zcf [3] ?_
  refine ZrM ?_
  refine ZAnr [2] ?_
  exact Qa rfl rfl ⟨_,rfl,_,rfl,hr.cast ((((end_one hti).trans (if_neg (fun q=>at_kind (p:=fun k=>¬k=0) eg9 c10 q.2))).symm).trans (trimL_out hval (by omega))),u⟩
 refine Za (yb (dF c8) yi_eql) ?_
 refine ZM ?_
 refine Zf 24 ?_
 refine Zf 24 ?_
 refine Zf 24 ?_
 refine Zf 24 ?_
 refine Zf 24 ?_
 refine Zan (y_pick false) [3,30] ?_
 refine Zcf [3] ?_
 refine ZrM ?_
 refine ZAnr [2] ?_
 exact Qa rfl rfl ⟨_,rfl,_,rfl,hr.cast ((((end_one hti).trans (if_neg (fun q=>absurd q.1 (by omega)))).symm).trans (trimL_out hval (by omega))),u⟩
theorem rgrow_any {W:World} {B:Nat} {s:SlV} {Ls:List Nd} (h:RwNd W B s Ls) (hB:B≤W.heap.size):Calls Tryz.prog 42 #[s.v] W fun e W'=>∃ v,e=.returned v∧∃ s':SlV,v=.tuple #[s'.v,nv (growE Ls)]∧RwNd W' W'.heap.size s' (growL Ls)∧Below W.heap.size W W':=by
 refine Qf (n:=27) Tryz.func42 rfl Tryz.ntmps42 (by simp) ?_
 show CG _ _ _ [(0,s.v)] _ _
 have u:=Below.refl W.heap.size W
 have q0:=trAs_le Ls
 refine ZrA ?_
 refine ZAn [0,2,3] ?_
 refine ZrM ?_
 refine Zc (as_any h (by omega)) rfl rfl ?_
 rintro _ w1 ⟨s1,rfl,m1,hw1⟩
 have zw1:=hw1.size
 have tl1:=trAs_le Ls
 refine ZAn [2,3,4] ?_
 refine Qd ?_
 refine ZrM ?_
 refine Zc ((by have z:=rleavesT_any (m1.more (B':=w1.heap.size) (by omega)) (Nat.le_refl _);rwa [trAs_as] at z)) rfl rfl ?_
 rintro _ w2 ⟨rfl,hw2⟩
 have zw2:=hw2.size
 by_cases c3:((leavesA (trAs Ls):Nat):Int)=64
 ·refine Zan (yb (dT c3) yi_eql) [2,3,4,11] ?_
  refine cg_ct rfl ?_
  refine ZrA ?_
  refine ZAnr [4,2,3] ?_
  refine Qc ?_
  have u:=Un (Un u hw1) hw2
  exact eg_ret_tmp2 rfl rfl rfl ⟨_,rfl,nilS,congrArg (fun q=>Value.tuple #[nilS.v,nv q]) (growE_64 c3).symm,(RwNd.nil _ _).cast (growL_no (by rw [growE_64 c3];decide)).symm,u⟩
 have hc64:=c3
 refine Zan (yb (dF c3) yi_eql) [2,3,4,11] ?_
 refine Zcf [2,3,4] ?_
 refine Zr ?_
 obtain ⟨bs5,hbs5⟩:∃ q,q=w2.heap.size:=⟨_,rfl⟩
 refine lg_bs0R Wn rfl rfl (by decide) fun v4 w4 g4 l4=>?_
 rw [←hbs5] at g4
 have z4:=l4.size
 refine ZM ?_
 have m1:=(m1.below (hw2.mono (by omega))).below (l4.mono (by omega))
 refine lg_appR g4 (m1.src.more (B':=bs5) (by omega)) (Nat.le_refl _) (by first | omega | (simp only [List.length_nil];omega)) (by omega) Wn rfl rfl rfl rfl rfl (by decide) fun r6 w6 g6 m6 l6 z6=>?_
 rw [List.nil_append] at g6
 clear m6
 refine ZAn [2,3,4,5] ?_
 refine Qd ?_
 refine ZrA ?_
 refine Zn [2,3,4,5,6] ?_
 refine Qj ?_
 have m1:=m1.below (l6.mono (by omega))
 have u:=Un (Un (Un u hw1) hw2) l4
 have u:=u.trans (l6.mono (by omega))
 refine Qr (fun t a v=>∃ (r:SlV) (q:SlV),Holds 27 [(4,r.v),(5,q.v),(6,nv ((t:Nat):Int))] a∧RwNd v B r (trAs Ls)∧OwnNd v bs5 bs5 q.v (trAs Ls++List.replicate t Nd.zero)∧bs5≤v.heap.size∧t≤(trAs Ls).length+1∧Below W.heap.size W v) ((trAs Ls).length+2) (fun a ha=>⟨s1,r6,ha.keep (fk rfl (fk rfl (fk rfl fn))),m1,(g6.cast (by simp)),(by omega),(Nat.zero_le _),u⟩) ?_
 rintro t a v ht ⟨r,q,ha,hr,ho,hs,tle,u⟩
 refine cg_at ha ?_
 clear ha a
 have zv:=u.size
 have q1:=hr.len
 have q2:=hr.cap
 have q3:=trAs_le Ls
 refine Qd ?_
 refine ZrM ?_
 refine ZM ?_
 refine Za (y_lenM (el:=50) hr.len) ?_
 refine Za (yi_add rfl rfl rfl (by omega) (by omega)) ?_
 by_cases c7:((t:Nat):Int)<(((trAs Ls).length:Int)+1)
 ·refine Zan (yb (dT c7) yi_lss) [4,5,6,19] ?_
  refine cg_ct rfl ?_
  refine Zki [4,5,6] ?_
  refine Qd ?_
  refine Qj ?_
  refine Qe ?_
  refine ZM ?_
  refine Za (y_build (cs:=NdV.zero.cs Nd.zero)) ?_
  refine lg_bs1R (l:=NdV.zero) (L:=Nd.zero) Wn rfl rfl rfl (by decide) fun b8 w8 n8=>?_
  have m8:=new_row n8 ((IsNd.zero _ 0).more (B':=v.heap.size) (by omega)) (Nat.le_refl _)
  have k8:=n8.blk
  have z8:=n8.size
  have sc8:=new_src n8 (IsNd.zero _ bs5) (by omega)
  have ho:=ho.keep n8.below (by omega)
  refine lg_appR ho sc8 (Nat.le_refl _) (by first | omega | (simp only [List.length_append,List.length_cons,List.length_nil,List.length_replicate];omega)) (by omega) Wn rfl rfl rfl rfl rfl (by decide) fun r9 w9 g9 m9 l9 z9=>?_
  clear m9
  refine ZA ?_
  refine Qk ?_
  refine Qi ?_
  refine Nx [4,6,5] ?_
  refine Qe ?_
  refine ZM ?_
  refine Za (yv (congrArg nv (show ((t:Nat):Int)+1=((t+1:Nat):Int) by omega)) (yi_add rfl rfl rfl (by omega) (by omega))) ?_
  refine ZA ?_
  refine Qk ?_
  have hr:=(hr.below (n8.below.mono (by omega))).below (l9.mono (by omega))
  have hs:=(show bs5≤w8.heap.size by omega)
  have hs:=(show bs5≤w9.heap.size by omega)
  have u:=Un u n8.below
  have u:=u.trans (l9.mono (by omega))
  exact fun a ha=>(show t<((trAs Ls).length+2)∧_ from ⟨(by omega),r,r9,ha.keep (fk rfl (fk rfl (fk rfl fn))),hr,(g9.cast (by rw [List.append_assoc,List.replicate_succ'])),hs,(by omega),u⟩)
 refine Zan (yb (dF c7) yi_lss) [4,5,6,19] ?_
 refine cg_cf rfl ?_
 refine cg_exit ?_
 refine Qh ?_
 refine Qh ?_
 refine Ql ?_
 refine Nx [5] ?_
 refine ZrM ?_
 refine ZA ?_
 refine ZAnr [2,3] ?_
 obtain rfl:t=(trAs Ls).length+1:=by omega
 exact eg_ret_tmp2 rfl rfl rfl ⟨_,rfl,_,congrArg (fun er=>Value.tuple #[q.v,nv er]) (growE_0 hc64).symm,(ho.rowS (by omega)).cast (growL_ok (growE_0 hc64)).symm,u⟩
end Go.Proofs.YtfdmhdnlmndhdaaGreatDoor
