/-
  Trees: what the document answers.
-/
import Derived.Test.YtognnnjdoemgfaaDoorKitT
import Derived.Test.YtognnnjdoemgfaaDoorKitQ
namespace Go.Proofs.YtognnnjdoemgfaaDoor
open Go.ChangeShapes Go.WideShapes Go.ChangeAt Go.RowKit
set_option linter.unusedVariables false

theorem OwnNd.cast {w:World} {base B:Nat} {v:Value} {Ls Ms:List Nd} (h:OwnNd w base B v Ls) (e:Ls=Ms):OwnNd w base B v Ms:=e▸h
theorem sameR_any {W:World} {B:Nat} {s r:SlV} {Ls Ms:List Nd} (h:RwNd W B s Ls) (h2:RwNd W B r Ms) (hB:B≤W.heap.size):Calls Tryd.prog 15 #[s.v,r.v] W fun e W'=>∃ v,e=.returned v∧v=.bool (decide (trSame Ls Ms))∧Below W.heap.size W W':=by
 refine Qf (n:=27) Tryd.func15 rfl Tryd.ntmps15 (by simp) ?_
 show CG _ _ _ [(0,s.v),(1,r.v)] _ _
 have u:=Below.refl W.heap.size W
 have h:=h.more hB
 have h2:=h2.more hB
 have q1:=h.len
 have q2:=h.cap
 have q3:=h2.len
 refine ZrA ?_
 refine Zn [0,1,4] ?_
 refine Qd ?_
 refine ZrM ?_
 refine Za (y_lenM (el:=40) h.len) ?_
 refine ZM ?_
 refine Za (y_lenM (el:=40) h2.len) ?_
 by_cases c1:(Ls.length:Int)=(Ms.length:Int)
 ·refine Zan (yb (nd_f c1) yi_neq) [0,1,4,10] ?_
  refine Zcf [0,1,4] ?_
  refine Qd ?_
  refine ZrA ?_
  refine Zn [0,1,4,5] ?_
  refine Qj ?_
  refine Qr (fun t a v=>Holds 27 [(0,s.v),(1,r.v),(5,nv ((t:Nat):Int))] a∧RwNd v W.heap.size s Ls∧RwNd v W.heap.size r Ms∧Below W.heap.size W v∧(∀ i,i<t→NdSame (atN Ls i) (atN Ms i))) (Ls.length+1) (fun a ha=>⟨ha.keep (fk rfl (fk rfl (fk rfl fn))),h,h2,u,(fun i hi=>absurd hi (by omega))⟩) ?_
  rintro t a v ht ⟨ha,h,h2,u,hk⟩
  refine cg_at ha ?_
  clear ha a
  have zv:=u.size
  have q1:=h.len
  have q2:=h.cap
  have q3:=h2.len
  refine Qd ?_
  refine ZrM ?_
  refine ZM ?_
  refine Za (y_lenM (el:=40) h.len) ?_
  by_cases c2:((t:Nat):Int)<(Ls.length:Int)
  ·refine Zan (yb (dT c2) yi_lss) [0,1,5,14] ?_
   refine cg_ct rfl ?_
   refine Zki [0,1,5] ?_
   refine Qd ?_
   refine Qj ?_
   refine Qd ?_
   refine cg_held (by kernel_rfl) fun W3 eW3=>?_
   have dW3:=below_drew _ _ eW3
   have zW3:=size_drew _ _ eW3
   clear eW3
   refine Zh 0 (fun q hq=>y_move rfl rfl) ?_
   refine Zh 1 (fun q hq=>y_move rfl rfl) ?_
   have h:=h.below (dW3.mono (by omega))
   obtain ⟨eb4,eo4,el4,eL4,eA4,eB4,eg4,eh4,ec4⟩:=h.at (t) (by have:=h.len;omega)
   refine Zh 2 (fun q hq=>y_ixR (s:=s) (el:=40) (k:=8) (i:=t) (iI:=((t:Nat):Int)) eA4 (by kernel_rfl) (by kernel_rfl) (by omega) (by have:=h.len;omega) rfl rfl rfl) ?_
   refine Zh 3 (fun q hq=>y_loadC (cs:=el4.cs eL4) (fun k u e=>(hq.cell (p:=⟨eb4,_,none⟩) (show eb4<_ by omega)).trans (ec4 k u e)) (by kernel_rfl) (by kernel_rfl) rfl rfl) ?_
   refine Zh 4 (fun q hq=>y_move rfl rfl) ?_
   refine Zh 5 (fun q hq=>y_move rfl rfl) ?_
   have h2:=h2.below (dW3.mono (by omega))
   obtain ⟨eb5,eo5,el5,eL5,eA5,eB5,eg5,eh5,ec5⟩:=h2.at (t) (by have:=h2.len;omega)
   refine Zh 6 (fun q hq=>y_ixR (s:=r) (el:=40) (k:=8) (i:=t) (iI:=((t:Nat):Int)) eA5 (by kernel_rfl) (by kernel_rfl) (by omega) (by have:=h2.len;omega) rfl rfl rfl) ?_
   refine Zh 7 (fun q hq=>y_loadC (cs:=el5.cs eL5) (fun k u e=>(hq.cell (p:=⟨eb5,_,none⟩) (show eb5<_ by omega)).trans (ec5 k u e)) (by kernel_rfl) (by kernel_rfl) rfl rfl) ?_
   by_cases c6:NdSame eL4 eL5
   ·refine Zo 8 ?_
    refine Zc (rsameN_any (eh4.more (B':=W3.heap.size) (by omega)) (eh5.more (B':=W3.heap.size) (by omega)) (Nat.le_refl _)) rfl rfl ?_
    rintro u7 w7 ⟨e7,hw7⟩
    have zw7:=hw7.size
    obtain rfl:u7=.bool true:=e7.trans (congrArg Value.bool (decide_eq_true c6))
    refine hg_next hw7 ?_
    refine hg_up hw7 ?_
    refine Zh 9 (fun q hq=>y_bnot rfl rfl) ?_
    refine hg_done (by kernel_rfl) ?_
    refine Nx [0,1,5,26] ?_
    refine cg_cf rfl ?_
    refine cg_skip ?_
    refine Qi ?_
    refine Nx [0,1,5] ?_
    refine Qe ?_
    refine ZM ?_
    refine Za (yv (congrArg nv (show ((t:Nat):Int)+1=((t+1:Nat):Int) by omega)) (yi_add rfl rfl rfl (by omega) (by omega))) ?_
    refine ZA ?_
    refine Qk ?_
    have h:=h.below (hw7.mono (by omega))
    have h2:=h2.below (hw7.mono (by omega))
    have u:=Un (Un u dW3) hw7
    exact fun a ha=>(show t<(Ls.length+1)∧_ from ⟨(by omega),ha.keep (fk rfl (fk rfl (fk rfl fn))),h,h2,u,(fun i hi=>by by_cases q:i=t;subst q;rw [atN_some eg4,atN_some eg5];exact c6;exact hk i (by omega))⟩)
   refine Zo 8 ?_
   refine Zc (rsameN_any (eh4.more (B':=W3.heap.size) (by omega)) (eh5.more (B':=W3.heap.size) (by omega)) (Nat.le_refl _)) rfl rfl ?_
   rintro u8 w8 ⟨e8,hw8⟩
   have zw8:=hw8.size
   obtain rfl:u8=.bool false:=e8.trans (congrArg Value.bool (decide_eq_false c6))
   refine hg_next hw8 ?_
   refine hg_up hw8 ?_
   refine Zh 9 (fun q hq=>y_bnot rfl rfl) ?_
   refine hg_done (by kernel_rfl) ?_
   refine Nx [0,1,5,26] ?_
   refine cg_ct rfl ?_
   refine ZrA ?_
   refine Znr [0,1,5,4] ?_
   refine Qg ?_
   refine Qc ?_
   refine Qc ?_
   refine Qg ?_
   refine Qc ?_
   have u:=Un (Un u dW3) hw8
   exact Qa rfl rfl ⟨_,rfl,congrArg Value.bool (dF (fun q=>c6 (by have h3:=q.2 t (by omega);rwa [atN_some eg4,atN_some eg5] at h3))).symm,u⟩
  refine Zan (yb (dF c2) yi_lss) [0,1,5,14] ?_
  refine cg_cf rfl ?_
  refine cg_exit ?_
  refine Qh ?_
  refine Qh ?_
  refine Ql ?_
  refine nx (E':=[]) fn ?_
  refine ZrA ?_
  refine Znr [4] ?_
  exact Qa rfl rfl ⟨_,rfl,congrArg Value.bool (dT ⟨(by omega),fun i hi=>hk i (by omega)⟩).symm,u⟩
 refine Zan (yb (nd_t c1) yi_neq) [0,1,4,10] ?_
 refine cg_ct rfl ?_
 refine ZrA ?_
 refine Znr [0,1,4] ?_
 refine Qc ?_
 exact Qa rfl rfl ⟨_,rfl,congrArg Value.bool (dF (fun q=>by have:=q.1;omega)).symm,u⟩
theorem fewR_any {W:World} {B:Nat} {s:SlV} {Ls:List Nd} (h:RwNd W B s Ls) (hB:B≤W.heap.size):Calls Tryd.prog 13 #[s.v] W fun e W'=>∃ v,e=.returned v∧v=.bool (decide (trFew Ls))∧Below W.heap.size W W':=by
 refine Qf (n:=19) Tryd.func13 rfl Tryd.ntmps13 (by simp) ?_
 show CG _ _ _ [(0,s.v)] _ _
 have u:=Below.refl W.heap.size W
 have h:=h.more hB
 have q1:=h.len
 have q2:=h.cap
 refine ZrA ?_
 refine Zn [0,2] ?_
 refine Qd ?_
 refine ZrA ?_
 refine Zn [0,2,3] ?_
 refine Qj ?_
 refine Qr (fun t a v=>Holds 19 [(0,s.v),(3,nv ((t:Nat):Int))] a∧RwNd v W.heap.size s Ls∧Below W.heap.size W v∧(∀ i,i<t→ndFew (atN Ls i))) (Ls.length+1) (fun a ha=>⟨ha.keep (fk rfl (fk rfl fn)),h,u,(fun i hi=>absurd hi (by omega))⟩) ?_
 rintro t a v ht ⟨ha,h,u,hk⟩
 refine cg_at ha ?_
 clear ha a
 have zv:=u.size
 have q1:=h.len
 have q2:=h.cap
 refine Qd ?_
 refine ZrM ?_
 refine ZM ?_
 refine Za (y_lenM (el:=40) h.len) ?_
 by_cases c1:((t:Nat):Int)<(Ls.length:Int)
 ·refine Zan (yb (dT c1) yi_lss) [0,3,7] ?_
  refine cg_ct rfl ?_
  refine Zki [0,3] ?_
  refine Qd ?_
  refine Qj ?_
  refine ZrM ?_
  refine ZM ?_
  obtain ⟨eb2,eo2,el2,eL2,eA2,eB2,eg2,eh2,ec2⟩:=h.at (t) (by have:=h.len;omega)
  refine Za (y_ixR (s:=s) (el:=40) (k:=8) (i:=t) (iI:=((t:Nat):Int)) eA2 (by kernel_rfl) (by kernel_rfl) (by omega) (by have:=h.len;omega) rfl rfl rfl) ?_
  refine Za (y_loadC (cs:=el2.cs eL2) ec2) ?_
  by_cases c3:ndFew eL2
  ·refine Zc (fewN_any (eh2.more (B':=v.heap.size) (by omega)) (Nat.le_refl _)) rfl rfl ?_
   rintro u4 w4 ⟨e4,hw4⟩
   have zw4:=hw4.size
   obtain rfl:u4=.bool true:=e4.trans (congrArg Value.bool (decide_eq_true c3))
   refine Zan y_bnot [0,3,15] ?_
   refine cg_cf rfl ?_
   refine cg_skip ?_
   refine Qi ?_
   refine Nx [0,3] ?_
   refine Qe ?_
   refine ZM ?_
   refine Za (yv (congrArg nv (show ((t:Nat):Int)+1=((t+1:Nat):Int) by omega)) (yi_add rfl rfl rfl (by omega) (by omega))) ?_
   refine ZA ?_
   refine Qk ?_
   have h:=h.below (hw4.mono (by omega))
   have u:=Un u hw4
   exact fun a ha=>(show t<(Ls.length+1)∧_ from ⟨(by omega),ha.keep (fk rfl (fk rfl fn)),h,u,(ok_step (p:=fun _ L=>ndFew L) hk eg2 c3)⟩)
  refine Zc (fewN_any (eh2.more (B':=v.heap.size) (by omega)) (Nat.le_refl _)) rfl rfl ?_
  rintro u5 w5 ⟨e5,hw5⟩
  have zw5:=hw5.size
  obtain rfl:u5=.bool false:=e5.trans (congrArg Value.bool (decide_eq_false c3))
  refine Zan y_bnot [0,3,15] ?_
  refine cg_ct rfl ?_
  refine ZrA ?_
  refine Znr [0,3,2] ?_
  refine Qg ?_
  refine Qc ?_
  refine Qc ?_
  refine Qg ?_
  refine Qc ?_
  have u:=Un u hw5
  exact Qa rfl rfl ⟨_,rfl,congrArg Value.bool (dF (fun q=>c3 (by have h3:=q.1 t (by omega);rwa [atN_some eg2] at h3))).symm,u⟩
 refine Zan (yb (dF c1) yi_lss) [0,3,7] ?_
 refine cg_cf rfl ?_
 refine cg_exit ?_
 refine Qh ?_
 refine Qh ?_
 refine Ql ?_
 refine Nx [0] ?_
 refine ZrM ?_
 refine Za (y_lenM (el:=40) h.len) ?_
 by_cases c6:(Ls.length:Int)≤300
 ·refine Za (yb (dT c6) yi_leq) ?_
  refine ZAnr [2] ?_
  exact Qa rfl rfl ⟨_,rfl,congrArg Value.bool (dT ⟨fun i hi=>hk i (by omega),(by omega)⟩).symm,u⟩
 refine Za (yb (dF c6) yi_leq) ?_
 refine ZAnr [2] ?_
 exact Qa rfl rfl ⟨_,rfl,congrArg Value.bool (dF (fun q=>by have:=q.2;omega)).symm,u⟩
end Go.Proofs.YtognnnjdoemgfaaDoor
